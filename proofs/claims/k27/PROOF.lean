import PyProof.Rows.All
import Wide.All
import OpenK.AllK
import Wide.FinOn
import Lean
import PyProof.EqAt
import PyProof.EqKinds
import PyProof.TupleCall
import PyProof.NeData
import PyProof.WalksEnum
import PyProof.Rows.SortWalk
import PyProof.Rows.SetFrom
import PyProof.SetKind
import PyProof.SetRoads
import PyProof.Tail
import PyProof.FactsAll.set_2
import KE.KRevIter
import PyProof.Rows.StrWeight2
import PyProof.Rows.StrNews2
import PyProof.CallStr
import PyProof.FString
import PyProof.StrBlockH
import PyProof.SliceStr2
import KE.KIntText
import PySem.Challenge.RW_waxcloth_k27_whole_any_other_row
abbrev xa:=@Bool.and_eq_true
abbrev xb:=@List.getElem?_eq_getElem
abbrev xc:=@List.getElem?_eq_some_iff
abbrev xf:=@List.getElem?_append_left
abbrev xg:=@List.getElem?_map
abbrev xh:=@List.getElem?_append_right
abbrev xi:=@List.mem_cons_of_mem
abbrev xj:=@List.getElem?_eq_none
abbrev xk:=@List.length_map
abbrev xl:=@List.length_cons
abbrev xm:=@List.mem_cons
abbrev xn:=@Nat.le_refl
abbrev xo:=@List.mem_map
abbrev xp:=@List.mem_filter
abbrev xq:=@List.size_toArray
abbrev xr:=@List.mem_append_left
abbrev xt:=@List.getElem?_set_self
abbrev xu:=@Nat.ne_of_lt
abbrev xv:=@List.getElem?_set_ne
abbrev xw:=@List.length_append
abbrev xy:=@Nat.lt_of_lt_of_le
abbrev xz:=@List.mem_cons_self
abbrev xA:=@List.mem_append_right
abbrev xB:=@List.nodup_cons
abbrev xC:=@List.lookup_cons
abbrev xD:=@List.all_eq_true
abbrev xE:=@List.mem_range
abbrev xF:=@List.mem_of_getElem?
abbrev xG:=@List.filterMap_cons
abbrev xH:=@List.mem_append
abbrev xI:=@Bool.false_eq_true
abbrev xJ:=@List.flatten_cons
abbrev xK:=@List.map_cons
abbrev xL:=@Nat.le_trans
abbrev xM:=@Bool.or_eq_true
abbrev xN:=@Bool.eq_iff_iff
abbrev xO:=@List.length_range
abbrev xP:=@List.filter_append
abbrev xQ:=@List.length_filter_le
abbrev xR:=@List.contains_iff_mem
abbrev xS:=@List.getElem?_replicate
abbrev xT:=@List.range_succ
abbrev xU:=@List.ext_getElem?
abbrev xV:=@List.map_append
abbrev xW:=@List.length_take
abbrev xX:=@List.getElem?_take_of_lt
abbrev xY:=@List.getElem?_range
abbrev xZ:=@Array.getD_eq_getD_getElem?
abbrev ua:=@List.length_nil
abbrev uc:=@Nat.zero_add
abbrev ud:=@List.getElem_of_mem
abbrev ue:=@Nat.lt_irrefl
abbrev uf:=@List.append_nil
abbrev ug:=@List.getElem_mem
abbrev uh:=@List.replicate_succ
abbrev ui:=@Nat.zero_le
abbrev uj:=@List.nodup_append
abbrev uk:=@List.length_set
abbrev ul:=@List.map_congr_left
abbrev um:=@List.length_pos_iff
abbrev uo:=@Nat.le_of_lt
abbrev uq:=@List.pairwise_iff_getElem
abbrev ur:=@List.mem_of_find?_eq_some
abbrev ut:=@Option.map_some
abbrev uu:=@List.filter_map
abbrev uv:=@List.getElem?_of_mem
abbrev uw:=@List.pairwise_map
abbrev ux:=@List.getElem?_cons_succ
abbrev uy:=@Bool.false_ne_true
abbrev uz:=@List.mem_singleton
abbrev uA:=@Int.emod_lt_of_pos
abbrev uB:=@List.foldl_cons
abbrev uC:=@List.nil_append
abbrev uD:=@List.any_cons
abbrev uE:=@List.length_replicate
abbrev uF:=@List.take_length
abbrev uG:=@List.not_mem_nil
abbrev uH:=@List.all_cons
abbrev uI:=@Bool.not_true
abbrev uJ:=@List.find?_some
abbrev uK:=@Int.emod_nonneg
abbrev uL:=@List.length_eq_zero_iff
abbrev uM:=@Nat.lt_trichotomy
abbrev uN:=@Nat.lt_succ_of_lt
abbrev uO:=@List.any_map
abbrev uP:=@List.take_add_one
abbrev uQ:=@Nat.lt_or_ge
abbrev uR:=@List.cons_append
abbrev uS:=@Nat.lt_succ_self
abbrev uT:=@List.nodup_range
abbrev uU:=@List.filter_cons
abbrev uV:=@List.any_eq_true
abbrev uW:=@List.elem_iff
set_option Elab.async false
set_option linter.all false
set_option maxRecDepth 100000
namespace L2
open PySem PySem.Spec PyProof.Rows
noncomputable abbrev Key:=Sum Int Str
noncomputable def zeR:Key->Value->Bool
 |.inl k,v=>Value.isInt k v
 |.inr x,v=>Value.isStrOf x v
noncomputable def keyH(w:World):Key->Int
 |.inl k=>hashInt k
 |.inr x=>hashStr w x
theorem zV:∀ {k:Key}{v:Value},zeR k v=true->(∃ i t,k=Sum.inl i/\v=Value.int i t)∨(∃ x t,k=Sum.inr x/\v=Value.str x t)
 |.inl i,v,h=>by
  obtain⟨t,e⟩:=Value.isInt_shape (k:=i) (v:=v) h
  exact .inl ⟨i,t,rfl,e⟩
 |.inr x,v,h=>by
  obtain⟨t,e⟩:=Value.isStrOf_shape (x:=x) (v:=v) h
  exact .inr ⟨x,t,rfl,e⟩
theorem zgu(a b:Int):decide ((Sum.inl a:Key)=Sum.inl b)=(a==b):=by
 by_cases e:a=b
 ·subst e;simp
 ·have h:¬ (Sum.inl a:Key)=Sum.inl b:=fun q=>e (Sum.inl.inj q)
  rw[decide_eq_false h]
  exact (beq_eq_false_iff_ne.mpr e).symm
theorem zfC(a b:Str):decide ((Sum.inr a:Key)=Sum.inr b)=decide (a=b):=by
 by_cases e:a=b
 ·subst e;simp
 ·have h:¬ (Sum.inr a:Key)=Sum.inr b:=fun q=>e (Sum.inr.inj q)
  rw[decide_eq_false h,decide_eq_false e]
theorem zgt(a:Int)(b:Str):decide ((Sum.inl a:Key)=Sum.inr b)=false:=decide_eq_false (fun q=>nomatch q)
theorem zfs(a:Str)(b:Int):decide ((Sum.inr a:Key)=Sum.inl b)=false:=decide_eq_false (fun q=>nomatch q)
noncomputable def vN(prog:Program)(w:World):PySem.KeyKind prog w Key where
 is:=zeR
 hash:=keyH w
 inj:=fun v a b ha hb=>by
  rcases zV ha with ⟨i,t,rfl,rfl⟩ | ⟨x,t,rfl,rfl⟩
  ·rcases zV hb with ⟨j,u,rfl,e⟩ | ⟨y,u,rfl,e⟩
   ·injection e with e1 _;rw[e1]
   ·exact nomatch e
  ·rcases zV hb with ⟨j,u,rfl,e⟩ | ⟨y,u,rfl,e⟩
   ·exact nomatch e
   ·injection e with e1 _;rw[e1]
 byValue:=fun k v h=>by
  rcases zV h with ⟨i,t,rfl,rfl⟩ | ⟨x,t,rfl,rfl⟩<;>rfl
 pyHash:=fun hv h=>by
  rcases zV hv with ⟨i,t,rfl,rfl⟩ | ⟨x,t,rfl,rfl⟩
  ·exact wpAny_pyHash_int h
  ·exact wpAny_pyHash_str h
 eqBool:=fun hu hv h=>by
  rcases zV hu with ⟨i,t,rfl,rfl⟩ | ⟨x,t,rfl,rfl⟩
  ·rcases zV hv with ⟨j,u,rfl,rfl⟩ | ⟨y,u,rfl,rfl⟩
   ·rw[zgu]at h;exact wpAny_eqBool_int h
   ·rw[zgt]at h;exact SeqAt.EqAt.int_str i t y u _ _ _ _ h
  ·rcases zV hv with ⟨j,u,rfl,rfl⟩ | ⟨y,u,rfl,rfl⟩
   ·rw[zfs]at h;exact SeqAt.EqAt.str_int x t j u _ _ _ _ h
   ·rw[zfC]at h;exact wpAny_eqBool_str h
 «strs»:=fun k x t v h=>by
  rcases zV h with ⟨i,u,rfl,e⟩ | ⟨y,u,rfl,e⟩
  ·exact nomatch e
  ·injection e with e1 _
   subst e1
   cases v<;>rfl
end L2
namespace L2
open PySem PySem.Spec PyProof.Rows
inductive V where
 |non | bl (b:Bool) | int (i:Int) | str (x:Str) | byt (b:Array UInt8) | flt (b:UInt64) | ref (a:Addr) | ty (n:String)
 deriving DecidableEq
noncomputable def RelV:V->Value->Prop
 |.non,u=>u=Value.none
 |.bl b,u=>u=Value.bool b
 |.int i,u=>∃ t,u=Value.int i t
 |.str x,u=>∃ t,u=Value.str x t
 |.byt b,u=>∃ t,u=Value.bytes b t
 |.flt b,u=>∃ t,u=Value.float b t
 |.ref a,u=>u=Value.ref a
 |.ty n,u=>u=Value.type n
noncomputable abbrev Vals:List V->List Value->Prop:=Paired RelV
theorem Vals.length{xs:List V}{us:List Value}(r:Vals xs us):xs.length=us.length:=Paired.length r
theorem Vals.get:∀ {xs:List V}{us:List Value}{i:Nat}{x:V},Vals xs us->xs[i]?=some x->∃ u,us[i]?=some u/\RelV x u
 |_,_,_,_,.nil,e=>by simp at e
 |_,_,0,_,.cons r _,e=>by simp at e;subst e;exact⟨_,rfl,r⟩
 |_,_,i+1,x,.cons _ t,e=>by
  obtain⟨u,h1,h2⟩:=Vals.get (i:=i) (x:=x) t (by simpa using e)
  exact⟨u,by simpa using h1,h2⟩
theorem Vals.set{x:V}{u:Value}(r:RelV x u):∀ {xs:List V}{us:List Value}(i:Nat),Vals xs us->Vals (xs.set i x) (us.set i u)
 |_,_,_,.nil=>.nil
 |_,_,0,.cons _ t=>.cons r t
 |_,_,i+1,.cons q t=>.cons q (Vals.set r i t)
theorem Vals.append:∀ {xs ys:List V}{us ws:List Value},Vals xs us->Vals ys ws->Vals (xs++ys) (us++ws)
 |_,_,_,_,.nil,s=>s
 |_,_,_,_,.cons r t,s=>.cons r (Vals.append t s)
theorem Vals.take:∀ {xs:List V}{us:List Value}(n:Nat),Vals xs us->Vals (xs.take n) (us.take n)
 |_,_,0,_=>.nil
 |_,_,_+1,.nil=>.nil
 |_,_,n+1,.cons r t=>.cons r (Vals.take n t)
theorem Vals.drop:∀ {xs:List V}{us:List Value}(n:Nat),Vals xs us->Vals (xs.drop n) (us.drop n)
 |_,_,0,r=>r
 |_,_,_+1,.nil=>.nil
 |_,_,n+1,.cons _ t=>Vals.drop n t
noncomputable def zfp:Option V->Option Value->Prop
 |some v,some u=>RelV v u
 |none,none=>True
 |_,_=>False
noncomputable def KV{κ:Type}:List (κ×V)->List (κ×Value)->Prop:=Paired fun (p:κ×V) (q:κ×Value)=>p.1=q.1/\RelV p.2 q.2
noncomputable def kV:Key->V
 |.inl i=>.int i
 |.inr x=>.str x
inductive HO where
 /-- a list -/
 |lst (xs:List V)
 /-- a tuple (never changes) -/
 |tup (xs:List V)
 /-- a dict whose keys are ints and texts;one whose keys are tuples of ints and texts (the empty one is qE) -/
 |dK (kvs:List (Key×V)) | dT (kvs:List (List Key×V))
 /-- a set of ints: its members,its size -/
 |set (S:Int->Bool) (n:Nat)
 /-- an instance of the class at C,its dict at dx,its attributes -/
 |ins (C dx:Addr) (fs:List (Str×V))
 /-- the dict of the instance at x -/
 |own (x:Addr)
 /-- the dict of an exception -/
 |xd (fs:List (Str×V))
 /-- a bound method,f of x -/
 |met (f x:Addr)
 /-- a range object lo,lo+1,.. below hi -/
 |rng (lo hi:Int)
 /-- a thing that is known to the object (the script;a dict while a loop walks it): read,never written while it is so -/
 |frz (o:Obj) (u:HO)
 /-- a code object's table -/
 |tbl (ps:Array Value)
 /-- any other thing,by what is true of its one object (a def of one's own: SetO a S n:=HO.ext fun h=>..) -/
 |ext (φ:Heap->Prop)
noncomputable abbrev Hp:=Addr->Option HO
noncomputable def upd(H:Hp)(a:Addr)(o:HO):Hp:=fun b=>if b=a then some o else H b
theorem zx{H:Hp}{a:Addr}{o:HO}:upd H a o a=some o:=by unfold upd;rw[if_pos rfl]
theorem zn{H:Hp}{a b:Addr}{o:HO}(h:b≠a):upd H a o b=H b:=by unfold upd;rw[if_neg h]
theorem zhC{H:Hp}{a b:Addr}{o u:HO}(h:H a=some o)(h':H b=some u)(d:o≠u):a≠b:=by
 intro e;subst e;rw[h]at h';exact d (Option.some.inj h')
theorem zS{H:Hp}{a b:Addr}{o:HO}(h:H a=some o)(h':H b=none):a≠b:=by
 intro e;subst e;rw[h]at h';cases h'
section
variable (P:Program) (w:World)
noncomputable def ObjOk(H:Hp)(h:Heap)(a:Addr):HO->Prop
 |.lst xs=>xs.length<=sizeLine/\∃ (its:List Value) (n:Nat),Vals xs its/\h.get? a=some { cls:=.type "list",data:=.seq its.toArray n }
 |.tup xs=>xs.length<=sizeLine/\∃ its:List Value,Vals xs its/\IsTup h a its.toArray
 |.dK kvs=>kvs.length<=sizeLine/\(a==sysModules)=false/\∃ vs,KV kvs vs/\h.DictOf (vN P w) a vs
 |.dT kvs=>kvs.length<=sizeLine/\(a==sysModules)=false/\∃ xs:List (List Key×Addr×Value),
   Paired (fun (p:List Key×V) (q:List Key×Addr×Value)=>p.1=q.1/\H q.2.1=some (.tup (p.1.map kV))/\RelV p.2 q.2.2) kvs xs /\
   ∃ o es ep,h.get? a=some o/\o.ExactDict/\o.data=.dict es ep/\es.toList=xs.map (entryOfKey (tupleKind (vN P w)))/\(xs.map (·.1)).Nodup
 |.set S n=>h.SetOf (intKind P w) a S n
 |.ins C dx fs=>H dx=some (.own a)/\fs.length<=1000/\dx≠a/\h.get? a=some (PySem.W.instObj C dx) /\
   ∃ mA,h.Ns1 dx mA/\(∀ f,zfp (fs.lookup f) (mA f))/\PySem.Within mA (fs.map (·.1))
 |.own _=>∃ o,h.get? a=some o
 |.xd fs=>∃ mA,h.Ns1 a mA/\∀ f,zfp (fs.lookup f) (mA f)
 |.rng lo hi=>∃ t u v,h.get? a=some { cls:=.type "range",data:=.fields #[.int lo t,.int hi u,.int 1 v] }
 |.frz o u=>h.get? a=some o/\ObjOk H h a u
 |.tbl ps=>h.get? a=some { cls:=.none,data:=.fields ps }
 |.met f x=>h.get? a=some (PySem.W.methodObj (.ref f) (.ref x))
 |.ext φ=>φ h/\(∃ o,h.get? a=some o)/\∀ h1 h2:Heap,φ h1->(∀ o,h1.get? a=some o->h2.get? a=some o)->φ h2
noncomputable def HOk(H:Hp)(h:Heap):Prop:=∀ a o,H a=some o->ObjOk P w H h a o
end
section
variable {P:Program} {w:World} {H H':Hp} {h h':Heap} {a:Addr} {o:HO}
theorem ObjOk.lt(x:ObjOk P w H h a o):a<h.objs.size:=by
 cases o with
 |lst xs=>obtain⟨_,_,_,_,e⟩:=x;exact Heap.lt_size e
 |tup xs=>obtain⟨_,_,_,p⟩:=x;exact p.lt
 |dK kvs=>obtain⟨_,_,_,_,o,_,_,e,_⟩:=x;exact Heap.lt_size e
 |dT kvs=>obtain⟨_,_,_,_,o,_,_,e,_⟩:=x;exact Heap.lt_size e
 |set S n=>obtain⟨o,_,_,_,e,_⟩:=x;exact Heap.lt_size e
 |ins C dx fs=>obtain⟨_,_,_,e,_⟩:=x;exact Heap.lt_size e
 |own y=>obtain⟨_,e⟩:=x;exact Heap.lt_size e
 |xd fs=>obtain⟨_,⟨_,_,_,e,_⟩,_⟩:=x;exact Heap.lt_size e
 |rng lo hi=>obtain⟨_,_,_,e⟩:=x;exact Heap.lt_size e
 |frz ob u=>obtain⟨e,_⟩:=x;exact Heap.lt_size e
 |tbl ps=>exact Heap.lt_size (show h.get? a=some _ from x)
 |met f y=>exact Heap.lt_size (show h.get? a=some _ from x)
 |ext φ=>obtain⟨_,⟨_,e⟩,_⟩:=x;exact Heap.lt_size e
theorem Paired.mapP{α β:Type}{F G:α->β->Prop}:∀ {l₁:List α} {l₂:List β},Paired F l₁ l₂->(∀ a b,F a b->G a b)->Paired G l₁ l₂
 |_,_,.nil,_=>.nil
 |_,_,.cons r t,f=>.cons (f _ _ r) (Paired.mapP t f)
theorem ObjOk.stay(x:ObjOk P w H h a o)(k:∀ b u,(b=a∨H b=some (.own a))->h.get? b=some u->h'.get? b=some u)
  (ho:∀ b,H b=some (.own a)->H' b=some (.own a)) (ht:∀ b xs,H b=some (.tup xs)->H' b=some (.tup xs)):ObjOk P w H' h' a o:=by
 induction o with
 |lst xs=>obtain⟨z,its,n,r,e⟩:=x;exact⟨z,its,n,r,k _ _ (.inl rfl) e⟩
 |tup xs=>obtain⟨z,its,r,ob,e,c⟩:=x;exact⟨z,its,r,ob,k _ _ (.inl rfl) e,c⟩
 |dK kvs=>obtain⟨z,y,vs,r,ob,es,ep,e,c⟩:=x;exact⟨z,y,vs,r,ob,es,ep,k _ _ (.inl rfl) e,c⟩
 |dT kvs=>
  obtain⟨z,y,xs,r,ob,es,ep,e,c⟩:=x
  exact⟨z,y,xs,Paired.mapP r fun p q z=>⟨z.1,ht _ _ z.2.1,z.2.2⟩,ob,es,ep,k _ _ (.inl rfl) e,c⟩
 |set S n=>obtain⟨ob,es,ep,t,e,c⟩:=x;exact⟨ob,es,ep,t,k _ _ (.inl rfl) e,c⟩
 |ins C dx fs=>
  obtain⟨d,z,ne,e,mA,⟨od,es,ep,e2,c⟩,r⟩:=x
  exact⟨ho _ d,z,ne,k _ _ (.inl rfl) e,mA,⟨od,es,ep,k _ _ (.inr d) e2,c⟩,r⟩
 |own y=>obtain⟨ob,e⟩:=x;exact⟨ob,k _ _ (.inl rfl) e⟩
 |xd fs=>obtain⟨mA,⟨od,es,ep,e,c⟩,r⟩:=x;exact⟨mA,⟨od,es,ep,k _ _ (.inl rfl) e,c⟩,r⟩
 |rng lo hi=>obtain⟨t,u,v,e⟩:=x;exact⟨t,u,v,k _ _ (.inl rfl) e⟩
 |frz ob u ih=>obtain⟨e,q⟩:=x;exact⟨k _ _ (.inl rfl) e,ih q⟩
 |tbl ps=>
  have e:h.get? a=some { cls:=.none,data:=.fields ps }:=x
  show h'.get? a=some { cls:=.none,data:=.fields ps }
  exact k a _ (.inl rfl) e
 |met f y=>
  have e:h.get? a=some (PySem.W.methodObj (.ref f) (.ref y)):=x
  show h'.get? a=some (PySem.W.methodObj (.ref f) (.ref y))
  exact k a _ (.inl rfl) e
 |ext φ=>obtain⟨p,⟨o,e⟩,st⟩:=x;exact⟨st _ _ p fun o q=>k _ _ (.inl rfl) q,⟨o,k _ _ (.inl rfl) e⟩,st⟩
theorem HOk.lt(x:HOk P w H h)(e:H a=some o):a<h.objs.size:=(x a o e).lt
theorem HOk.fresh(x:HOk P w H h)(e:h.objs.size<=a):H a=none:=by
 cases q:H a with
 |none=>rfl
 |some u=>exact absurd (xy (x.lt q) e) (ue _)
theorem HOk.kept(x:HOk P w H h)(k:∀ b u,h.get? b=some u->h'.get? b=some u):HOk P w H h':=fun a o e=>
 (x a o e).stay (fun b u _ q=>k b u q) (fun _ q=>q) fun _ _ q=>q
theorem HOk.laid(x:HOk P w H h)(k:∀ b u,h.get? b=some u->h'.get? b=some u)(hp:h.objs.size<=a)(new:ObjOk P w (upd H a o) h' a o):HOk P w (upd H a o) h':=fun b u e=>by
 have hn:=x.fresh hp
 by_cases hb:b=a
 ·subst hb;rw[zx]at e;cases e;exact new
 ·rw[zn hb]at e
  exact (x b u e).stay (fun c v _ q=>k c v q) (fun c q=>by rw[zn (zS q hn)];exact q) fun c xs q=>by rw[zn (zS q hn)];exact q
end
noncomputable def Rd(H:Hp)(a:Addr)(u:HO):Prop:=H a=some u∨∃ o,H a=some (.frz o u)
theorem Rd.ok{P:Program}{w:World}{H:Hp}{h:Heap}{a:Addr}{u:HO}(r:Rd H a u)(x:HOk P w H h):ObjOk P w H h a u:=by
 rcases r with r | ⟨o,r⟩
 ·exact x a u r
 ·obtain⟨_,q⟩:=x a _ r
  exact q
noncomputable def Mut:Option HO->Prop
 |some (.lst _)=>True
 |some (.dK _)=>True
 |some (.dT _)=>True
 |some (.set _ _)=>True
 |some (.ins _ _ _)=>True
 |some (.ext _)=>True
 |_=>False
section
variable {P:Program} {w:World} {H:Hp} {h h':Heap} {x e:Addr} {o':HO}
theorem HOk.write(ok:HOk P w H h)(mu:Mut (H x))(he:e=x∨H e=some (.own x))(k:∀ b u,b≠e->h.get? b=some u->h'.get? b=some u)(heo:∃ u,h'.get? e=some u)
  (new:ObjOk P w (upd H x o') h' x o'):HOk P w (upd H x o') h':=fun b u q=>by
 have nown:∀ c y,H c=some (.own y)->c≠x:=fun c y r z=>by subst z;rw[r]at mu;exact mu
 have ntup:∀ c xs,H c=some (.tup xs)->c≠x:=fun c xs r z=>by subst z;rw[r]at mu;exact mu
 by_cases hb:b=x
 ·subst hb;rw[zx]at q;cases q;exact new
 ·rw[zn hb]at q
  by_cases hbe:b=e
  ·have q':H b=some (.own x):=by
    rcases he with z | z
    ·exact absurd (hbe.trans z) hb
    ·rw[hbe];exact z
   rw[q]at q';cases q'
   obtain⟨v,hv⟩:=heo
   exact⟨v,by rw[hbe];exact hv⟩
  ·refine (ok b u q).stay (fun c v hc r=>k c v ?_ r) (fun c r=>by rw[zn (nown c b r)];exact r) fun c xs r=>by rw[zn (ntup c xs r)];exact r
   rcases hc with rfl | hc
   ·exact hbe
   ·rintro rfl
    rcases he with z | z
    ·exact nown c b hc z
    ·rw[hc]at z;cases z;exact hb rfl
end
structure Un(fs ex:List Addr)(H H':Hp)(h h':Heap):Prop where
 keep:∀ b o,h.get? b=some o->H b=none->b∉fs->b∉ex->h'.get? b=some o
 slot:∀ b o,h.get? b=some o->H b=none->b∈fs->b∉ex->∃ sl,h'.get? b=some { o with slots:=sl }
 free:∀ b o,h.get? b=some o->H b=none->b∉ex->H' b=none
 there:∀ b o,h.get? b=some o->b∉ex->∃ o',h'.get? b=some o'
 tups:∀ b xs,H b=some (.tup xs)->H' b=some (.tup xs)
 frzs:∀ b o u,H b=some (.frz o u)->H' b=some (.frz o u)
 tbls:∀ b ps,H b=some (.tbl ps)->∃ more,H' b=some (.tbl (ps++more))
section
variable {fs fs' ex ex':List Addr} {H H1 H2:Hp} {h h1 h2 h':Heap} {a x e:Addr} {o:HO}
theorem Un.any(u:Un fs ex H H1 h h1){b:Addr}{ob:Obj}(q:h.get? b=some ob)(n:H b=none)(hx:b∉ex):∃ sl,h1.get? b=some { ob with slots:=sl }:=by
 by_cases hb:b∈fs
 ·exact u.slot b ob q n hb hx
 ·exact⟨ob.slots,u.keep b ob q n hb hx⟩
theorem Un.kept(k:∀ b u,h.get? b=some u->h'.get? b=some u):Un fs ex H H h h' :=
 ⟨fun b ob q _ _ _=>k b ob q,fun b ob q _ _ _=>⟨ob.slots,k b ob q⟩,fun _ _ _ n _=>n,fun b ob q _=>⟨ob,k b ob q⟩,fun _ _ q=>q,fun _ _ _ q=>q,fun _ ps q=>⟨#[],by rw[q];simp⟩⟩
theorem Un.refl:Un fs ex H H h h:=Un.kept fun _ _ q=>q
theorem Un.laid(k:∀ b u,h.get? b=some u->h'.get? b=some u)(hp:h.objs.size<=a)(hn:H a=none):Un fs ex H (upd H a o) h h' where
 keep:=fun b u q _ _ _=>k b u q
 slot:=fun b u q _ _ _=>⟨u.slots,k b u q⟩
 free:=fun b u q n _=>by rw[zn (xu (xy (Heap.lt_size q) hp))];exact n
 there:=fun b u q _=>⟨u,k b u q⟩
 tups:=fun b xs q=>by rw[zn (zS q hn)];exact q
 frzs:=fun b u xs q=>by rw[zn (zS q hn)];exact q
 tbls:=fun b ps q=>⟨#[],by rw[zn (zS q hn),q];simp⟩
theorem Un.write(mu:Mut (H x))(he:e=x∨H e=some (.own x))(k:∀ b u,b≠e->h.get? b=some u->h'.get? b=some u)(heo:∃ u,h'.get? e=some u):Un fs ex H (upd H x o) h h':=by
 have hx:∀ b,H b=none->b≠x:=fun b n z=>by subst z;rw[n]at mu;exact mu
 have hb:∀ b,H b=none->b≠e:=fun b n z=>by
  subst z
  rcases he with r | r
  ·exact hx b n r
  ·rw[n]at r;cases r
 have hm:∀ b u,H b=some u->¬ Mut (some u)->b≠x:=fun b u q nm z=>by subst z;rw[q]at mu;exact nm mu
 refine⟨fun b u q n _ _=>k b u (hb b n) q,fun b u q n _ _=>⟨u.slots,k b u (hb b n) q⟩,fun b u q n _=>by rw[zn (hx b n)];exact n,fun b u q _=>?_,
  fun b xs q=>by rw[zn (hm b _ q fun z=>z)];exact q,fun b u xs q=>by rw[zn (hm b _ q fun z=>z)];exact q,fun b ps q=>⟨#[],by rw[zn (hm b _ q fun z=>z),q];simp⟩⟩
 by_cases hbe:b=e
 ·subst hbe;exact heo
 ·exact⟨u,k b u hbe q⟩
end
noncomputable def trk(h:Heap)(H:Hp):List Addr:=(List.range h.objs.size).filter fun a=>(H a).isSome
noncomputable def W8(h:Heap)(H:Hp):Heap:=PySem.W.hideAll h (trk h H)
theorem zae(h:Heap)(H:Hp):(W8 h H).objs.size=h.objs.size:=PySem.W.hideAll_size _ _
theorem zbw{h:Heap}{H:Hp}{b:Addr}{o:Obj}(e:h.get? b=some o)(n:H b=none):(W8 h H).get? b=some o :=
 PySem.W.hideAll_get _ e fun hm=>by
  have q:(H b).isSome=true:=(xp.mp hm).2
  rw[n]at q;simp at q
theorem zdO{h:Heap}{H:Hp}{b:Addr}{o:Obj}(e:(W8 h H).get? b=some o):h.get? b=some o/\H b=none:=by
 have e':h.get? b=some o:=PySem.W.of_hideAll (trk h H) e
 refine⟨e',?_⟩
 cases q:H b with
 |none=>rfl
 |some x=>
  have hm:b∈trk h H:=xp.mpr ⟨xE.mpr (Heap.lt_size e'),by simp[q]⟩
  have z:(W8 h H).get? b=none:=PySem.W.hideAll_none (trk h H) hm
  rw[z]at e;cases e
end L2
namespace L2
open PySem PySem.Spec PyProof.Rows
structure Mod(K:PySem.W.Frag)(mg:Str->Option Value)(base:Heap):Prop where
 kin:K.In base
 glob:base.Ns mainGlobals mg
 blt:∃ mb,base.Ns builtinsNs mb/\∀ x:Str,x≠ "__name__" ->mb x=bootBuiltins x
 nolimit:base.NoLimit
structure Cx where
 prog:Program
 w:World
 K:PySem.W.Frag
 mg:Str->Option Value
 base:Heap
 A:Around
 N:List Str
 s₀:Shared
 H₀:Hp
 env:Env
 outer:List Env
 stack:List Env
 ex:List Addr
 fn:Str->Bool
 calm:Bool
 pn:List (Addr×Obj)
 xe:Value->Shared->Prop
noncomputable def frs(l:List Env):List Addr:=l.filterMap (·.frame)
noncomputable abbrev Cx.fs(X:Cx):List Addr:=frs X.outer
noncomputable def Vis(sc:Scope)(x:Str):Prop:=sc.names.lookup x=some .local∨sc.names.lookup x=some .cell∨sc.names.lookup x=some .free
noncomputable def Loc(sc:Scope)(x:Str):Prop:=sc.names.lookup x=some .local∨sc.names.lookup x=some .cell
noncomputable def Look(env:Env)(h:Heap)(m:Str->Option Value)(x:Str)(u:Value):Prop :=
 (env.kindOf x=some .local/\m x=some u)∨((env.kindOf x=some .cell∨env.kindOf x=some .free)/\∃ c,env.cells.lookup x=some c/\h.IsCell c (some u))
structure Cx.Ok(X:Cx):Prop where
 mod:Mod X.K X.mg X.base
 kind:X.env.scope.kind=.function
 glob:X.env.globals=mainGlobals
 blt:X.env.builtins=builtinsNs
 above:X.s₀.heap.objs.size<=X.env.locals
 inj:∀ x y c,X.env.cells.lookup x=some c->X.env.cells.lookup y=some c->x=y
 has:∀ x,(X.env.kindOf x=some .cell∨X.env.kindOf x=some .free)->∃ c,X.env.cells.lookup x=some c
 cab:∀ x c,X.fn x=true->X.env.cells.lookup x=some c->X.s₀.heap.objs.size<=c
 hd:X.calm=true->X.A.handled=none
 frames:X.A.frames=some X.stack
 stk:X.stack=X.outer∨(X.stack=X.env::X.outer/\X.env.frame=some X.env.locals)
 exf:∀ b∈X.ex,b≠X.env.locals/\∀ x c,X.env.cells.lookup x=some c->c≠b
 bs:∀ b o,X.base.get? b=some o->X.s₀.heap.get? b=some o/\X.H₀ b=none
 bsz:X.base.objs.size<=X.s₀.heap.objs.size
 noex:∀ b o,X.base.get? b=some o->b∉X.ex
 exfs:∀ b∈X.ex,b∉X.fs
 funs:X.s₀.heap.FunFrames X.base X.outer
 frf:∀ b∈X.fs,X.H₀ b=none
structure Inv(X:Cx)(pins:List (Addr×Obj))(σ:List (Option V))(H:Hp)(s:Shared):Prop where
 ok:X.Ok
 os:s.os=X.s₀.os
 bare:AllBare s.gens
 base:Un X.fs X.ex X.H₀ H X.s₀.heap s.heap
 loc:∃ m,s.heap.Ns X.env.locals m/\∀ (i:Nat) (x:Str) (v:V),X.N[i]?=some x->σ[i]?=some (some v)->Vis X.env.scope x->∃ u,RelV v u/\Look X.env s.heap m x u
 cell:∀ x c,X.env.cells.lookup x=some c->∃ v,s.heap.IsCell c v
 free:H X.env.locals=none
 freeC:∀ x c,X.env.cells.lookup x=some c->H c=none
 pin:∀ p∈X.pn++pins,s.heap.get? p.1=some p.2/\H p.1=none/\p.1≠X.env.locals/\p.1∉X.fs/\∀ v,p.2.data≠ .cell v
 hok:HOk X.prog X.w H s.heap
 len:σ.length=X.N.length
section
variable {X:Cx} {pins:List (Addr×Obj)} {σ:List (Option V)} {H H':Hp} {s:Shared} {h':Heap}
theorem Cx.Ok.nofr(ok:X.Ok){b:Addr}{o:Obj}(e:X.base.get? b=some o):b∉X.fs:=fun hb=>by
 have:=(ok.funs.mem hb).1
 rw[e]at this;cases this
theorem Inv.bs(I:Inv X pins σ H s):∀ b o,X.base.get? b=some o->s.heap.get? b=some o/\H b=none:=fun b o e=>
 ⟨I.base.keep b o (I.ok.bs b o e).1 (I.ok.bs b o e).2 (I.ok.nofr e) (I.ok.noex b o e),I.base.free b o (I.ok.bs b o e).1 (I.ok.bs b o e).2 (I.ok.noex b o e)⟩
theorem Inv.bk(I:Inv X pins σ H s):∀ b o,X.base.get? b=some o->s.heap.get? b=some o:=fun b o e=>(I.bs b o e).1
theorem Inv.mod(I:Inv X pins σ H s):Mod X.K X.mg X.base:=I.ok.mod
theorem Inv.kIn(I:Inv X pins σ H s):X.K.In s.heap:=I.ok.mod.kin.keeps I.bk
theorem Inv.fr(I:Inv X pins σ H s):∃ m,Fr X.base X.env.locals s.heap m :=
 let ⟨m,hn,_⟩:=I.loc
 ⟨m,hn,I.bk,xL I.ok.bsz I.ok.above⟩
theorem Inv.lt(I:Inv X pins σ H s):X.env.locals<s.heap.objs.size:=let ⟨_,hn,_⟩:=I.loc;hn.lt
theorem Inv.sz(I:Inv X pins σ H s):X.s₀.heap.objs.size<=s.heap.objs.size:=xL I.ok.above (uo I.lt)
theorem Inv.nofs(I:Inv X pins σ H s){a:Addr}(h:s.heap.objs.size<=a):a∉X.fs:=fun hb=>by
 obtain⟨_,o,ho,_⟩:=I.ok.funs.mem hb
 exact absurd (xy (Heap.lt_size ho) (xL I.sz h)) (ue _)
theorem Inv.cne(I:Inv X pins σ H s):∀ x c,X.env.cells.lookup x=some c->c≠X.env.locals:=fun x c e z=>by
 obtain⟨v,o,ho,hd⟩:=I.cell x c e
 obtain⟨m,⟨o',es,ep,ho',hd',_⟩,_⟩:=I.loc
 rw[z,ho']at ho;cases ho;rw[hd']at hd;cases hd
theorem Inv.funs(I:Inv X pins σ H s):s.heap.FunFrames X.base X.outer:=by
 have all:∀ (l:List Env),(∀ b∈frs l,b∈X.fs)->X.s₀.heap.FunFrames X.base l->s.heap.FunFrames X.base l:=by
  intro l
  induction l with
  |nil=>intro _ _;trivial
  |cons env r ih=>
   intro hs hl
   obtain⟨hk,⟨L,o,hf,hn,ho,hd⟩,hr⟩:=hl
   have hL:L∈X.fs:=hs L (by unfold frs;rw[xG,hf];exact xz)
   obtain⟨sl,e⟩:=I.base.slot L o ho (I.ok.frf L hL) hL fun z=>I.ok.exfs L z hL
   exact⟨hk,⟨L,_,hf,hn,e,hd⟩,ih (fun b hb=>hs b (by unfold frs;rw[xG,hf];exact xi _ hb)) hr⟩
 exact all X.outer (fun _ hb=>hb) I.ok.funs
theorem Inv.stack(I:Inv X pins σ H s):s.heap.FunFrames X.base X.stack:=by
 rcases I.ok.stk with e | ⟨e,hf⟩
 ·rw[e];exact I.funs
 ·rw[e]
  obtain⟨m,hn,_⟩:=I.loc
  refine .cons (by rw[I.ok.kind];decide) hf hn ?_ I.funs
  exact Heap.get?_none_of_le (xL I.ok.bsz I.ok.above)
theorem Inv.stkSub(I:Inv X pins σ H s):∀ b∈frs X.stack,b∈X.env.locals::X.fs:=fun b hb=>by
 rcases I.ok.stk with e | ⟨e,hf⟩
 ·rw[e]at hb;exact xi _ hb
 ·rw[e]at hb
  unfold frs at hb
  rw[xG,hf]at hb
  exact hb
theorem Inv.stkFree(I:Inv X pins σ H s):∀ b∈frs X.stack,H b=none:=fun b hb=>by
 rcases xm.mp (I.stkSub b hb)with e | hb
 ·rw[e];exact I.free
 ·obtain⟨_,o,ho,_⟩:=I.ok.funs.mem hb
  exact I.base.free b o ho (I.ok.frf b hb) fun z=>I.ok.exfs b z hb
theorem Inv.step{g':Array GenState}{t':Nat}{d':Drawn}{ch:List Addr}(I:Inv X pins σ H s)
  (hch:∀ b∈ch,(b∈X.ex∨X.s₀.heap.objs.size<=b)/\b≠X.env.locals/\(∀ x c,X.env.cells.lookup x=some c->c≠b)/\∀ p∈X.pn++pins,p.1≠b)
  (keep:∀ b o,b≠X.env.locals->b∉X.fs->b∉ch->s.heap.get? b=some o->H b=none->h'.get? b=some o)
  (slot:∀ b o,b≠X.env.locals->b∈X.fs->b∉ch->s.heap.get? b=some o->H b=none->∃ sl,h'.get? b=some { o with slots:=sl }) (free:∀ b o,b∉ch->s.heap.get? b=some o->H b=none->H' b=none)
  (there:∀ b o,b∉ch->s.heap.get? b=some o->∃ o',h'.get? b=some o')
  (tups:∀ b xs,H b=some (.tup xs)->H' b=some (.tup xs)) (frzs:∀ b o u,H b=some (.frz o u)->H' b=some (.frz o u)) (tbls:∀ b ps,H b=some (.tbl ps)->∃ more,H' b=some (.tbl (ps++more)))
  (ns:∀ m,s.heap.Ns X.env.locals m->h'.Ns X.env.locals m) (hok:HOk X.prog X.w H' h') (hg:AllBare g') :
  Inv X pins σ H' { s with heap:=h',gens:=g',drawn:=d',toks:=t' }:=by
 have neL:∀ b o,X.s₀.heap.get? b=some o->b≠X.env.locals:=fun b o e=>xu (xy (Heap.lt_size e) I.ok.above)
 have neC:∀ b o,X.s₀.heap.get? b=some o->b∉X.ex->b∉ch:=fun b o e hx hb=>by
  rcases (hch b hb).1 with z | z
  ·exact hx z
  ·exact absurd (xy (Heap.lt_size e) z) (ue _)
 have cellK:∀ x c,X.env.cells.lookup x=some c->∀ v,s.heap.IsCell c v->h'.IsCell c v:=fun x c e v ⟨o,ho,hd⟩=>by
  have nch:c∉ch:=fun z=>(hch c z).2.2.1 x c e rfl
  by_cases hc:c∈X.fs
  ·obtain⟨sl,q⟩:=slot c o (I.cne x c e) hc nch ho (I.freeC x c e)
   exact⟨_,q,hd⟩
  ·exact⟨o,keep c o (I.cne x c e) hc nch ho (I.freeC x c e),hd⟩
 refine⟨I.ok,I.os,hg,⟨fun b o e n hb hx=>?_,fun b o e n hb hx=>?_,fun b o e n hx=>?_,fun b o e hx=>?_,fun b xs e=>tups b xs (I.base.tups b xs e),fun b o xs e=>frzs b o xs (I.base.frzs b o xs e),fun b ps e=>?_⟩,?_,fun x c e=>?_,?_,fun x c e=>?_,fun p hp=>?_,hok,I.len⟩
 ·exact keep b o (neL b o e) hb (neC b o e hx) (I.base.keep b o e n hb hx) (I.base.free b o e n hx)
 ·obtain⟨sl,e1⟩:=I.base.slot b o e n hb hx
  obtain⟨sl',e2⟩:=slot b _ (neL b o e) hb (neC b o e hx) e1 (I.base.free b o e n hx)
  exact⟨sl',e2⟩
 ·obtain⟨o',e1⟩:=I.base.there b o e hx
  exact free b o' (neC b o e hx) e1 (I.base.free b o e n hx)
 ·obtain⟨o',e1⟩:=I.base.there b o e hx
  exact there b o' (neC b o e hx) e1
 ·obtain⟨m1,e1⟩:=I.base.tbls b ps e
  obtain⟨m2,e2⟩:=tbls b _ e1
  exact⟨m1++m2,by rw[e2,Array.append_assoc]⟩
 ·obtain⟨m,hn,hl⟩:=I.loc
  refine⟨m,ns m hn,fun i x v e1 e2 e3=>?_⟩
  obtain⟨u,r,l⟩:=hl i x v e1 e2 e3
  refine⟨u,r,?_⟩
  rcases l with l | ⟨k,c,e,z⟩
  ·exact .inl l
  ·exact .inr ⟨k,c,e,cellK x c e _ z⟩
 ·obtain⟨v,z⟩:=I.cell x c e
  exact⟨v,cellK x c e v z⟩
 ·obtain⟨m,⟨o,_,_,ho,_⟩,_⟩:=I.loc
  exact free _ o (fun z=>(hch _ z).2.1 rfl) ho I.free
 ·obtain⟨v,o,ho,hd⟩:=I.cell x c e
  exact free c o (fun z=>(hch c z).2.2.1 x c e rfl) ho (I.freeC x c e)
 ·obtain⟨e,n,ne,nf,d⟩:=I.pin p hp
  have nch:p.1∉ch:=fun z=>(hch p.1 z).2.2.2 p hp rfl
  exact⟨keep p.1 p.2 ne nf nch e n,free p.1 p.2 nch e n,ne,nf,d⟩
theorem Inv.un{t':Nat}(I:Inv X pins σ H s)(u:Un X.fs [] H H' s.heap h')(hok:HOk X.prog X.w H' h'):Inv X pins σ H' { s with heap:=h',toks:=t' }:=by
 obtain⟨m,⟨o,es,ep,ho,r⟩,_⟩:=id I.loc
 obtain⟨sl,hL⟩:=u.any ho I.free (by simp)
 exact I.step (g':=s.gens) (d':=s.drawn) (ch:= []) (fun _ z=>nomatch z) (fun b o _ hb _ e n=>u.keep b o e n hb (by simp)) (fun b o _ hb _ e n=>u.slot b o e n hb (by simp)) (fun b o _ e n=>u.free b o e n (by simp)) (fun b o _ e=>u.there b o e (by simp)) u.tups u.frzs u.tbls (fun m' hm=>by
  obtain⟨o',es',ep',ho',r'⟩:=hm
  rw[ho]at ho';cases ho'
  exact⟨_,es',ep',hL,r'⟩) hok I.bare
theorem Inv.call{g':Array GenState}{t':Nat}{d':Drawn}{ch:List Addr}(I:Inv X pins σ H s)(u:Un (frs X.stack) ch H H' s.heap h')(hok:HOk X.prog X.w H' h')(hg:AllBare g')
  (hch:∀ b∈ch,(b∈X.ex∨X.s₀.heap.objs.size<=b)/\b≠X.env.locals/\(∀ x c,X.env.cells.lookup x=some c->c≠b)/\∀ p∈X.pn++pins,p.1≠b) :
  Inv X pins σ H' { s with heap:=h',gens:=g',drawn:=d',toks:=t' }:=by
 obtain⟨m,⟨o,es,ep,ho,r⟩,_⟩:=id I.loc
 obtain⟨sl,hL⟩:=u.any ho I.free fun z=>(hch _ z).2.1 rfl
 exact I.step (ch:=ch) hch (fun b o hL hb hc e n=>u.keep b o e n (fun z=>(xm.mp (I.stkSub b z)).elim hL hb) hc) (fun b o _ _ hc e n=>u.any e n hc) (fun b o hc e n=>u.free b o e n hc) (fun b o hc e=>u.there b o e hc) u.tups u.frzs u.tbls (fun m' hm=>by
  obtain⟨o',es',ep',ho',r'⟩:=hm
  rw[ho]at ho';cases ho'
  exact⟨_,es',ep',hL,r'⟩) hok hg
theorem Inv.turned{t':Nat}{it:Addr}(I:Inv X pins σ H s)(k:∀ b o,b≠it->s.heap.get? b=some o->h'.get? b=some o)(hn:H it=none)(hL:it≠X.env.locals)
  (h1:it∈X.ex∨X.s₀.heap.objs.size<=it) (h2:∀ x c,X.env.cells.lookup x=some c->c≠it) (h3:∀ p∈X.pn++pins,p.1≠it):Inv X pins σ H { s with heap:=h',toks:=t' }:=by
 have nit:∀ b u,H b=some u->b≠it:=fun b u e z=>by rw[z,hn]at e;cases e
 refine I.step (g':=s.gens) (d':=s.drawn) (ch:= [it]) (fun b hb=>?_) (fun b o _ _ hc e _=>k b o (fun z=>hc (by simp[z])) e) (fun b o _ _ hc e _=>⟨o.slots,k b o (fun z=>hc (by simp[z])) e⟩) (fun _ _ _ _ n=>n)
  (fun b o hc e=>⟨o,k b o (fun z=>hc (by simp[z])) e⟩) (fun _ _ e=>e) (fun _ _ _ e=>e) (fun b ps e=>⟨#[],by rw[e];simp⟩) (fun m hm=>?_) (fun b u e=>?_) I.bare
 ·have e:b=it:=by simpa using hb
  subst e
  exact⟨h1,hL,h2,h3⟩
 ·obtain⟨o,es,ep,ho,r⟩:=hm
  exact⟨o,es,ep,k _ o (Ne.symm hL) ho,r⟩
 ·refine (I.hok b u e).stay (fun c v hc q=>k c v ?_ q) (fun _ q=>q) fun _ _ q=>q
  rcases hc with z | z
  ·rw[z];exact nit b u e
  ·exact nit c _ z
theorem Inv.tok(I:Inv X pins σ H s)(t:Nat):Inv X pins σ H { s with toks:=t }:=I.un (h':=s.heap) (t':=t) Un.refl I.hok
theorem Inv.kept{t':Nat}(I:Inv X pins σ H s)(k:∀ b u,s.heap.get? b=some u->h'.get? b=some u):Inv X pins σ H { s with heap:=h',toks:=t' }:=I.un (Un.kept k) (I.hok.kept k)
theorem Inv.laid{a:Addr}{o:HO}{t':Nat}(I:Inv X pins σ H s)(k:∀ b u,s.heap.get? b=some u->h'.get? b=some u)(hp:s.heap.objs.size<=a)(new:ObjOk X.prog X.w (upd H a o) h' a o) :
  Inv X pins σ (upd H a o) { s with heap:=h',toks:=t' }:=I.un (Un.laid k hp (I.hok.fresh hp)) (I.hok.laid k hp new)
theorem Inv.write{x e:Addr}{o:HO}{t':Nat}(I:Inv X pins σ H s)(mu:Mut (H x))(he:e=x∨H e=some (.own x))(k:∀ b u,b≠e->s.heap.get? b=some u->h'.get? b=some u)(heo:∃ u,h'.get? e=some u)
  (new:ObjOk X.prog X.w (upd H x o) h' x o):Inv X pins σ (upd H x o) { s with heap:=h',toks:=t' }:=I.un (Un.write mu he k heo) (I.hok.write mu he k heo new)
theorem Inv.weak{σ':List (Option V)}(I:Inv X pins σ H s)(hl:σ'.length=σ.length)(w:∀ (i:Nat) v,σ'[i]?=some (some v)->σ[i]?=some (some v)):Inv X pins σ' H s :=
 ⟨I.ok,I.os,I.bare,I.base,let ⟨m,hn,hl'⟩:=I.loc;⟨m,hn,fun i x v e1 e2 e3=>hl' i x v e1 (w i v e2) e3⟩,I.cell,I.free,I.freeC,I.pin,I.hok,hl.trans I.len⟩
theorem Inv.pins_of{pins':List (Addr×Obj)}(I:Inv X pins σ H s)(h:∀ p∈pins',s.heap.get? p.1=some p.2/\H p.1=none/\p.1≠X.env.locals/\p.1∉X.fs/\∀ v,p.2.data≠ .cell v):Inv X pins' σ H s :=
 ⟨I.ok,I.os,I.bare,I.base,I.loc,I.cell,I.free,I.freeC,fun p hp=>(xH.mp hp).elim (fun z=>I.pin p (xr _ z)) (h p),I.hok,I.len⟩
theorem V4{N:List Str}(hN:N.Nodup){i j:Nat}{x:Str}(a:N[i]?=some x)(b:N[j]?=some x):i=j:=by
 obtain⟨h1,e1⟩:=xc.mp a
 obtain⟨h2,e2⟩:=xc.mp b
 exact (List.getElem_inj hN).mp (e1.trans e2.symm)
theorem WD{M:Model}{A:Around}{E:Value->Shared->Prop}{i:Nat}{x:Str}{v:V}{u:Value}{Q:Unit->Shared->Prop}(I:Inv X pins σ H s)(hN:X.N.Nodup)(hi:X.N[i]?=some x)(hx:Loc X.env.scope x)(r:RelV v u)
  (h:∀ s',Inv X pins (σ.set i (some v)) H s'->(∃ a,Heap.SameBut a s.heap s'.heap/\(a=X.env.locals∨X.env.cells.lookup x=some a))->Q () s') (hf:X.fn x=true∨X.env.scope.names.lookup x=some .local:=by first | exact .inl rfl | exact .inr rfl | assumption):wpAny M A (storeName X.env x u) Q E s:=by
 obtain⟨m,hn,hl⟩:=id I.loc
 have hcls:(X.env.scope.kind==.class||(X.env.scope.kind==.module&&X.env.locals !=X.env.globals))=false:=by rw[I.ok.kind];rfl
 have hiσ:i<σ.length:=by rw[I.len];exact (xc.mp hi).1
 have cne:=I.cne
 have tracked:∀ {a:Addr} {h':Heap},(∃ o,s.heap.get? a=some o/\H a=none)->Heap.SameBut a s.heap h'->HOk X.prog X.w H h':=fun {a h'} ha hs b ob e=>by
  obtain⟨_,_,hfree⟩:=ha
  refine (I.hok b ob e).stay (fun c w' hc q=>(hs.2 c ?_).trans q) (fun _ q=>q) fun _ _ q=>q
  rintro rfl
  rcases hc with rfl | hc
  ·rw[hfree]at e;cases e
  ·rw[hfree]at hc;cases hc
 rcases hx with hk | hk
 ·refine wpAny_storeName_local hk hn (fun h' hn' hs=>?_) hcls
  obtain⟨oL,_,_,hoL,_⟩:=id hn
  refine h _ ⟨I.ok,I.os,I.bare,⟨fun b o e n hb hx=>?_,fun b o e n hb hx=>?_,I.base.free,fun b o e hx=>?_,I.base.tups,I.base.frzs,I.base.tbls⟩,⟨_,hn',fun j y v' e1 e2 e3=>?_⟩,fun y c e=>?_,I.free,I.freeC,fun p hp=>?_,tracked ⟨oL,hoL,I.free⟩ hs,by simpa using I.len⟩ ⟨_,hs,.inl rfl⟩
  ·exact (hs.2 b (xu (xy (Heap.lt_size e) I.ok.above))).trans (I.base.keep b o e n hb hx)
  ·obtain⟨sl,e1⟩:=I.base.slot b o e n hb hx
   exact⟨sl,(hs.2 b (xu (xy (Heap.lt_size e) I.ok.above))).trans e1⟩
  ·obtain⟨o',e1⟩:=I.base.there b o e hx
   exact⟨o',(hs.2 b (xu (xy (Heap.lt_size e) I.ok.above))).trans e1⟩
  ·by_cases hj:j=i
   ·subst hj
    rw[hi]at e1;cases e1
    rw[xt hiσ]at e2
    cases e2
    exact⟨u,r,.inl ⟨hk,by simp⟩⟩
   ·rw[xv (Ne.symm hj)]at e2
    obtain⟨u',r',q⟩:=hl j y v' e1 e2 e3
    refine⟨u',r',?_⟩
    rcases q with ⟨k,e⟩ | ⟨k,c,e,z⟩
    ·refine .inl ⟨k,?_⟩
     have:y≠x:=fun e=>hj (V4 hN e1 (e ▸ hi))
     simp[this,e]
    ·exact .inr ⟨k,c,e,z.sameBut hs (cne y c e)⟩
  ·obtain⟨w',z⟩:=I.cell y c e
   exact⟨w',z.sameBut hs (cne y c e)⟩
  ·obtain⟨e,n,ne,nf,d⟩:=I.pin p hp
   exact⟨(hs.2 p.1 ne).trans e,n,ne,nf,d⟩
 ·have hfn:X.fn x=true:=by
   rcases hf with z | z
   ·exact z
   ·rw[z]at hk;cases hk
  obtain⟨c,hc⟩:=I.ok.has x (.inl hk)
  obtain⟨w',z⟩:=I.cell x c hc
  refine wpAny_storeName_cell I.ok.kind hk hc z (fun h' hc' hs=>?_)
  obtain⟨oc,hoc,hocd⟩:=id z
  refine h { s with heap:=h' } ⟨I.ok,I.os,I.bare,⟨fun b o e n hb hx=>?_,fun b o e n hb hx=>?_,I.base.free,fun b o e hx=>?_,I.base.tups,I.base.frzs,I.base.tbls⟩,⟨m,hn.sameBut hs (Ne.symm (cne x c hc)),fun j y v' e1 e2 e3=>?_⟩,fun y c' e=>?_,I.free,I.freeC,fun p hp=>?_,tracked ⟨oc,hoc,I.freeC x c hc⟩ hs,by simpa using I.len⟩ ⟨c,hs,.inr hc⟩
  ·exact (hs.2 b (xu (xy (Heap.lt_size e) (I.ok.cab x c hfn hc)))).trans (I.base.keep b o e n hb hx)
  ·obtain⟨sl,e1⟩:=I.base.slot b o e n hb hx
   exact⟨sl,(hs.2 b (xu (xy (Heap.lt_size e) (I.ok.cab x c hfn hc)))).trans e1⟩
  ·obtain⟨o',e1⟩:=I.base.there b o e hx
   exact⟨o',(hs.2 b (xu (xy (Heap.lt_size e) (I.ok.cab x c hfn hc)))).trans e1⟩
  ·by_cases hj:j=i
   ·subst hj
    rw[hi]at e1;cases e1
    rw[xt hiσ]at e2
    cases e2
    exact⟨u,r,.inr ⟨.inl hk,c,hc,hc'⟩⟩
   ·rw[xv (Ne.symm hj)]at e2
    obtain⟨u',r',q⟩:=hl j y v' e1 e2 e3
    refine⟨u',r',?_⟩
    rcases q with q | ⟨k,c',e,z'⟩
    ·exact .inl q
    ·refine .inr ⟨k,c',e,z'.sameBut hs ?_⟩
     rintro rfl
     exact hj (V4 hN e1 (I.ok.inj _ _ _ e hc ▸ hi))
  ·by_cases hcc:c'=c
   ·subst hcc;exact⟨_,hc'⟩
   ·obtain⟨w2,z2⟩:=I.cell y c' e
    exact⟨w2,z2.sameBut hs hcc⟩
  ·obtain⟨e,n,ne,nf,d⟩:=I.pin p hp
   refine⟨(hs.2 p.1 ?_).trans e,n,ne,nf,d⟩
   intro q
   rw[q,hoc]at e
   have q':oc=p.2:=Option.some.inj e
   exact d w' (by rw[<- q'];exact hocd)
theorem j8{M:Model}{A:Around}{E:Value->Shared->Prop}{i:Nat}{x:Str}{v:V}{u:Value}{Q:Unit->Shared->Prop}(I:Inv X pins σ H s)(hN:X.N.Nodup)(hi:X.N[i]?=some x)(hx:Loc X.env.scope x)(r:RelV v u)
  (h:∀ s',Inv X pins (σ.set i (some v)) H s'->Q () s') (hf:X.fn x=true∨X.env.scope.names.lookup x=some .local:=by first | exact .inl rfl | exact .inr rfl | assumption):wpAny M A (storeName X.env x u) Q E s :=
 WD I hN hi hx r (fun s' I' _=>h s' I') hf
theorem Inv.call'{s':Shared}{ch:List Addr}(I:Inv X pins σ H s)(ho:s'.os=s.os)(u:Un (frs X.stack) ch H H' s.heap s'.heap)(hok:HOk X.prog X.w H' s'.heap)(hg:AllBare s'.gens)
  (hch:∀ b∈ch,(b∈X.ex∨X.s₀.heap.objs.size<=b)/\b≠X.env.locals/\(∀ x c,X.env.cells.lookup x=some c->c≠b)/\∀ p∈X.pn++pins,p.1≠b):Inv X pins σ H' s':=by
 obtain⟨h',g',d',t',o'⟩:=s'
 have e:o'=s.os:=ho
 subst e
 exact I.call (g':=g') (t':=t') (d':=d') u hok hg hch
end
noncomputable abbrev XK:=Value->Option Addr->Hp->Prop
noncomputable abbrev St:=List (Option V)
noncomputable abbrev VK:=V->Hp->Prop
noncomputable abbrev TE:=St->Hp->VK->Prop
noncomputable abbrev TT:=St->Hp->(Bool->Hp->Prop)->Prop
noncomputable abbrev TA:=St->Hp->(List V->Hp->Prop)->Prop
structure jg where
 nx:St->Hp->Prop
 rt:VK
 bk:St->Hp->Prop:=fun _ _=>False
 ct:St->Hp->Prop:=fun _ _=>False
noncomputable abbrev TS:=jg->St->Hp->Prop
noncomputable def EP(X:Cx)(pins:List (Addr×Obj))(σ:St)(Q:VK)(u:Value)(s':Shared):Prop:=∃ v H',Inv X pins σ H' s'/\RelV v u/\Q v H'
noncomputable def TP(X:Cx)(pins:List (Addr×Obj))(σ:St)(Q:Bool->Hp->Prop)(b:Bool)(s':Shared):Prop:=∃ H',Inv X pins σ H' s'/\Q b H'
noncomputable def AP(X:Cx)(pins:List (Addr×Obj))(σ:St)(Q:List V->Hp->Prop)(us:List Value)(s':Shared):Prop:=∃ vs H',Inv X pins σ H' s'/\Vals vs us/\Q vs H'
noncomputable def SP(X:Cx)(pins:List (Addr×Obj))(D:jg)(f:Flow)(s':Shared):Prop :=
 match f with
 |.next=>∃ σ' H',Inv X pins σ' H' s'/\D.nx σ' H'
 |.brk=>∃ σ' H',Inv X pins σ' H' s'/\D.bk σ' H'
 |.cont=>∃ σ' H',Inv X pins σ' H' s'/\D.ct σ' H'
 |.ret u=>∃ v σ' H',Inv X pins σ' H' s'/\RelV v u/\D.rt v H'
noncomputable def PE(X:Cx)(e:Expr)(t:TE):Prop :=
 ∀ (pins:List (Addr×Obj)) (s:Shared) (σ:St) (H:Hp) (Q:VK),Inv X pins σ H s->t σ H Q->wpAny (model X.prog X.w) X.A (eval e X.env) (EP X pins σ Q) X.xe s
noncomputable def PT(X:Cx)(e:Expr)(t:TT):Prop :=
 ∀ (pins:List (Addr×Obj)) (s:Shared) (σ:St) (H:Hp) (Q:Bool->Hp->Prop),Inv X pins σ H s->t σ H Q->wpAny (model X.prog X.w) X.A (isTrue e X.env (eval e X.env)) (TP X pins σ Q) X.xe s
noncomputable def PW(X:Cx)(e:Expr)(t:TT):Prop :=
 ∀ (whole:Sem Value) (pins:List (Addr×Obj)) (s:Shared) (σ:St) (H:Hp) (Q:Bool->Hp->Prop),Inv X pins σ H s->t σ H Q->wpAny (model X.prog X.w) X.A (isTrue e X.env whole) (TP X pins σ Q) X.xe s
noncomputable def PA(X:Cx)(es:List Expr)(t:TA):Prop :=
 ∀ (pos:Pos) (pins:List (Addr×Obj)) (s:Shared) (σ:St) (H:Hp) (Q:List V->Hp->Prop),Inv X pins σ H s->t σ H Q->wpAny (model X.prog X.w) X.A (spliced (backTo pos (starEach es X.env))) (AP X pins σ Q) X.xe s
noncomputable def PS(X:Cx)(st:Stmt)(t:TS):Prop :=
 ∀ (pins:List (Addr×Obj)) (s:Shared) (σ:St) (H:Hp) (D:jg),Inv X pins σ H s->t D σ H->wpAny (model X.prog X.w) X.A (exec st X.env) (SP X pins D) X.xe s
noncomputable def PSs(X:Cx)(st:List Stmt)(t:TS):Prop :=
 ∀ (pins:List (Addr×Obj)) (s:Shared) (σ:St) (H:Hp) (D:jg),Inv X pins σ H s->t D σ H->wpAny (model X.prog X.w) X.A (execs st X.env) (SP X pins D) X.xe s
theorem thn{α:Type}{t:Sem α}{Q Q':α->Shared->Prop}{M:Model}{A:Around}{E:Value->Shared->Prop}{s:Shared}(h:wpAny M A t Q E s)(hQ:∀ a s,Q a s->Q' a s):wpAny M A t Q' E s:=wpAny_mono h hQ fun _ _ x=>x
end L2
namespace L2
open PySem PySem.Spec PyProof.Rows
section
variable {X:Cx}
theorem bin{a b:Expr}{ta tb:TE}(ha:PE X a ta)(hb:PE X b tb){pins:List (Addr×Obj)}{s:Shared}{σ:St}{H:Hp}{R:V->V->Hp->Prop}(I:Inv X pins σ H s)(h:ta σ H fun x H1=>tb σ H1 fun y H2=>R x y H2)
  {α:Type} {Q:α->Shared->Prop} {f:Value->Value->Sem α}
  (hf:∀ v u s2 x y H2,Inv X pins σ H2 s2->RelV x v->RelV y u->R x y H2->wpAny (model X.prog X.w) X.A (f v u) Q X.xe s2) :
  wpAny (model X.prog X.w) X.A (eval a X.env) (fun v s₁=>wpAny (model X.prog X.w) X.A (eval b X.env) (fun u s₂=>wpAny (model X.prog X.w) X.A (f v u) Q X.xe s₂) X.xe s₁) X.xe s:=by
 refine thn (ha pins s σ H _ I h) fun v s1 ⟨x,H1,I1,r1,q1⟩=>?_
 refine thn (hb pins s1 σ H1 _ I1 q1) fun u s2 ⟨y,H2,I2,r2,q2⟩=>?_
 exact hf v u s2 x y H2 I2 r1 r2 q2
noncomputable def zhj(i:Nat):TE:=fun σ H Q=>∃ v,σ[i]?=some (some v)/\Q v H
noncomputable def tC(v:V):TE:=fun _ H Q=>Q v H
theorem jT {i:Nat}{x:Str}{pos:Pos}(hN:X.N[i]?=some x) (hv:Vis X.env.scope x) (hd:(x==("__debug__" :Str))=false:=by decide) (hcd:(x==("__classdict__" :Str))=false:=by decide):PE X (.Name x pos) (zhj i):=by
 intro pins s σ H Q I h
 obtain⟨v,e,h⟩:=h
 obtain⟨m,hn,hl⟩:=I.loc
 obtain⟨u,r,l⟩:=hl i x v hN e hv
 have fin:EP X pins σ Q u s:=⟨v,H,I,r,h⟩
 rcases l with ⟨hk,hm⟩ | ⟨hk,c,hc,hcell⟩
 ·exact wpAny_Name (wpAny_loadName_local I.ok.kind hk hn hm fin) hd
 ·rcases hk with hk | hk
  ·exact wpAny_Name (wpAny_loadName_cell I.ok.kind hk hc hcell fin) hd
  ·exact wpAny_Name (wpAny_loadName_free I.ok.kind hk hc hcell fin hcd) hd
theorem pe_int{i j pos}:PE X (.Constant (.int i) j pos) (tC (.int i)):=fun _ _ _ H _ I h=>wpAny_Constant_int ⟨.int i,H,I.tok _,⟨_,rfl⟩,h⟩
theorem pe_bl{b j pos}:PE X (.Constant (.bool b) j pos) (tC (.bl b)):=fun _ _ _ H _ I h=>Constant_bool ⟨.bl b,H,I,rfl,h⟩
theorem pe_non{j pos}:PE X (.Constant .none j pos) (tC .non):=fun _ _ _ H _ I h=>Constant_none ⟨.non,H,I,rfl,h⟩
theorem pe_str{x j pos}:PE X (.Constant (.str x) j pos) (tC (.str x)):=fun _ _ _ H _ I h=>Calls.Constant_str ⟨.str x,H,I.tok _,⟨_,rfl⟩,h⟩
noncomputable def Gl(X:Cx)(x:Str):Prop:=X.env.kindOf x=some .globalImplicit
theorem vf{E:Value->Shared->Prop}{pins:List (Addr×Obj)}{s:Shared}{σ:St}{H:Hp}{x:Str}{u:Value}{pos:Pos}{Q:Value->Shared->Prop}(I:Inv X pins σ H s)(hg:Gl X x)(hm:X.mg x=some u)(h:Q u s)
  (hd:(x==("__debug__" :Str))=false:=by decide):wpAny (model X.prog X.w) X.A (eval (.Name x pos) X.env) Q E s :=
 Calls.Name_function_global I.ok.kind hg (Calls.loadGlobal_global (by rw[I.ok.glob];exact I.mod.glob.keeps I.bk) hm h) hd
theorem jp{E:Value->Shared->Prop}{pins:List (Addr×Obj)}{s:Shared}{σ:St}{H:Hp}{x:Str}{u:Value}{pos:Pos}{Q:Value->Shared->Prop}(I:Inv X pins σ H s)(hg:Gl X x)(hm:X.mg x=none)(hv:bootBuiltins x=some u)(h:Q u s)
  (hn:x≠ "__name__" :=by decide) (hd:(x==("__debug__" :Str))=false:=by decide):wpAny (model X.prog X.w) X.A (eval (.Name x pos) X.env) Q E s:=by
 obtain⟨mb,h1,h2⟩:=I.mod.blt
 exact Calls.Name_function_global I.ok.kind hg (Calls.loadGlobal_builtin (by rw[I.ok.glob];exact I.mod.glob.keeps I.bk) hm (by rw[I.ok.blt];exact h1.keeps I.bk) ((h2 x hn).trans hv) h) hd
theorem zdb {x:Str}{v:V}{u:Value}{pos:Pos}(hg:Gl X x) (hm:X.mg x=none) (hv:bootBuiltins x=some u) (r:RelV v u) (hn:x≠ "__name__" :=by decide) (hd:(x==("__debug__" :Str))=false:=by decide):PE X (.Name x pos) (tC v) :=
 fun _ _ _ H _ I h=>jp I hg hm hv ⟨v,H,I,r,h⟩ hn hd
variable {a b:Expr} {ta tb:TE} {pos:Pos}
variable {tA tB':TT} {rest:List Expr}
noncomputable def tAnd(t u:TT):TT:=fun σ H Q=>t σ H fun c H1=>if c=true then u σ H1 Q else Q false H1
noncomputable def tOr(t u:TT):TT:=fun σ H Q=>t σ H fun c H1=>if c=true then Q true H1 else u σ H1 Q
noncomputable def tNot(t:TT):TT:=fun σ H Q=>t σ H fun c H1=>Q (!c) H1
theorem zdZ(ha:PT X a tA):PW X (.BoolOp .And [a] pos) tA:=by
 intro wh pins s σ H Q I h
 refine isTrue_and (thn (ha pins s σ H Q I h) fun c s1 e=>?_)
 cases c with
 |true=>exact isTrue_and_nil e
 |false=>exact e
theorem zfr(ha:PT X a tA):PW X (.BoolOp .Or [a] pos) tA:=by
 intro wh pins s σ H Q I h
 refine isTrue_or (thn (ha pins s σ H Q I h) fun c s1 e=>?_)
 cases c with
 |false=>exact isTrue_or_nil e
 |true=>exact e
theorem zgo(ha:PT X a tA)(hb:PW X (.BoolOp .And (b::rest) pos) tB'):PW X (.BoolOp .And (a::b::rest) pos) (tAnd tA tB'):=by
 intro wh pins s σ H Q I h
 refine isTrue_and (thn (ha pins s σ H _ I h) fun c s1 ⟨H1,I1,q1⟩=>?_)
 cases c with
 |true=>exact hb wh pins s1 σ H1 Q I1 q1
 |false=>exact⟨H1,I1,q1⟩
theorem zg7(ha:PT X a tA)(hb:PW X (.BoolOp .Or (b::rest) pos) tB'):PW X (.BoolOp .Or (a::b::rest) pos) (tOr tA tB'):=by
 intro wh pins s σ H Q I h
 refine isTrue_or (thn (ha pins s σ H _ I h) fun c s1 ⟨H1,I1,q1⟩=>?_)
 cases c with
 |true=>exact⟨H1,I1,q1⟩
 |false=>exact hb wh pins s1 σ H1 Q I1 q1
theorem zfm(ha:PT X a tA):PT X (.UnaryOp .Not a pos) (tNot tA):=by
 intro pins s σ H Q I h
 exact isTrue_not (ha pins s σ H (fun c H1=>Q (!c) H1) I h)
noncomputable def zhN(ta tb:TE):TE:=fun σ H Q=>ta σ H fun x H1=>∃ c,x=.bl c/\if c=true then tb σ H1 Q else Q (.bl false) H1
noncomputable def tOrV(ta tb:TE):TE:=fun σ H Q=>ta σ H fun x H1=>∃ c,x=.bl c/\if c=true then Q (.bl true) H1 else tb σ H1 Q
theorem zfS{op}{t:TE}(h:PE X a t):PE X (.BoolOp op [a] pos) t:=fun pins s σ H Q I hw=>BoolOp_one (h pins s σ H Q I hw)
theorem zge(ha:PE X a ta)(hb:PE X (.BoolOp .And (b::rest) pos) tb):PE X (.BoolOp .And (a::b::rest) pos) (zhN ta tb):=by
 intro pins s σ H Q I h
 refine BoolOp_and (thn (ha pins s σ H _ I h) fun v s1 ⟨x,H1,I1,r1,q1⟩=>?_)
 obtain⟨c,rfl,q1⟩:=q1
 cases r1
 refine wpAny_truthy_bool ?_
 cases c with
 |true=>exact hb pins s1 σ H1 Q I1 q1
 |false=>exact⟨.bl false,H1,I1,rfl,q1⟩
theorem zhr(ha:PE X a ta)(hb:PE X (.BoolOp .Or (b::rest) pos) tb):PE X (.BoolOp .Or (a::b::rest) pos) (tOrV ta tb):=by
 intro pins s σ H Q I h
 refine BoolOp_or (thn (ha pins s σ H _ I h) fun v s1 ⟨x,H1,I1,r1,q1⟩=>?_)
 obtain⟨c,rfl,q1⟩:=q1
 cases r1
 refine wpAny_truthy_bool ?_
 cases c with
 |false=>exact hb pins s1 σ H1 Q I1 q1
 |true=>exact⟨.bl true,H1,I1,rfl,q1⟩
noncomputable def tIf(t:TT)(ta tb:TE):TE:=fun σ H Q=>t σ H fun c H1=>if c=true then ta σ H1 Q else tb σ H1 Q
theorem zcb{c:Expr}(hc:PT X c tA)(ha:PE X a ta)(hb:PE X b tb):PE X (.IfExp c a b pos) (tIf tA ta tb):=by
 intro pins s σ H Q I h
 refine wpAny_IfExp (thn (hc pins s σ H _ I h) fun d s1 ⟨H1,I1,q1⟩=>?_)
 cases d with
 |true=>exact ha pins s1 σ H1 Q I1 q1
 |false=>exact hb pins s1 σ H1 Q I1 q1
end
end L2
namespace L2
open PySem PySem.Spec PyProof.Rows
noncomputable def SqL(K:PySem.W.Frag)(H:Hp)(a:Addr)(xs:List V):Prop :=
 Rd H a (.lst xs) ∨
  ∃ (o:Obj) (its:Array Value) (n:Nat),K.lookup a=some o/\o.cls=.type "list" /\o.dict=none/\o.data=.seq its n/\its.size<=sizeLine/\Vals xs its.toList
noncomputable def SqT(K:PySem.W.Frag)(H:Hp)(a:Addr)(xs:List V):Prop :=
 Rd H a (.tup xs) ∨
  ∃ (o:Obj) (its:Array Value) (n:Nat),K.lookup a=some o/\o.cls=.type "tuple" /\o.data=.seq its n/\its.size<=sizeLine/\Vals xs its.toList
noncomputable def absV:Value->Option V
 |.none=>some .non
 |.bool b=>some (.bl b)
 |.int i _=>some (.int i)
 |.str x _=>some (.str x)
 |.bytes b _=>some (.byt b)
 |.float b _=>some (.flt b)
 |.ref a=>some (.ref a)
 |.type n=>some (.ty n)
 |_=>none
theorem RelV.abs{x:V}{u:Value}(r:RelV x u):absV u=some x:=by
 cases x with
 |non=>cases r;rfl
 |bl _=>cases r;rfl
 |int _=>obtain⟨t,rfl⟩:=r;rfl
 |str _=>obtain⟨t,rfl⟩:=r;rfl
 |byt _=>obtain⟨t,rfl⟩:=r;rfl
 |flt _=>obtain⟨t,rfl⟩:=r;rfl
 |ref _=>cases r;rfl
 |ty _=>cases r;rfl
theorem RelV.inj{x y:V}{u:Value}(r:RelV x u)(q:RelV y u):x=y:=Option.some.inj (r.abs.symm.trans q.abs)
theorem Vals.inj:∀ {xs ys:List V}{us:List Value},Vals xs us->Vals ys us->xs=ys
 |_,_,_,.nil,.nil=>rfl
 |_,_,_,.cons r t,.cons r' t'=>by rw[r.inj r',Vals.inj t t']
section
variable {X:Cx} {pins:List (Addr×Obj)} {σ:St} {H:Hp} {s:Shared} {a:Addr} {xs ys:List V}
theorem SqL.of{K:PySem.W.Frag}(h:H a=some (.lst xs)):SqL K H a xs:=.inl (.inl h)
theorem SqT.of{K:PySem.W.Frag}(h:H a=some (.tup xs)):SqT K H a xs:=.inl (.inl h)
theorem Inv.list(I:Inv X pins σ H s)(h:SqL X.K H a xs):∃ its:List Value,Vals xs its/\PlainL s.heap a its.toArray/\xs.length<=sizeLine:=by
 rcases h with h | ⟨o,its,n,hk,hc,hd,hs,hz,r⟩
 ·obtain⟨z,its,n,r,e⟩:=h.ok I.hok
  exact⟨its,r,⟨_,n,e,rfl,rfl,rfl⟩,z⟩
 ·refine⟨its.toList,r,⟨o,n,I.kIn a o hk,hc,hd,by simpa using hs⟩,?_⟩
  have e:=r.length
  simp only[Array.length_toList]at e
  omega
theorem Inv.tuple(I:Inv X pins σ H s)(h:SqT X.K H a xs):∃ its:List Value,Vals xs its/\IsTup s.heap a its.toArray/\xs.length<=sizeLine:=by
 rcases h with h | ⟨o,its,n,hk,hc,hs,hz,r⟩
 ·obtain⟨z,its,r,p⟩:=h.ok I.hok
  exact⟨its,r,p,z⟩
 ·refine⟨its.toList,r,⟨o,I.kIn a o hk,hc,n,by simpa using hs⟩,?_⟩
  have e:=r.length
  simp only[Array.length_toList]at e
  omega
theorem Inv.list_inj(I:Inv X pins σ H s)(h:SqL X.K H a xs)(h':SqL X.K H a ys):xs=ys:=by
 obtain⟨its,r,⟨o,n,e,_,_,d⟩,_⟩:=I.list h
 obtain⟨its',r',⟨o',n',e',_,_,d'⟩,_⟩:=I.list h'
 rw[e]at e';cases e'
 rw[d]at d'
 injection d' with d1 _
 have:its=its':=by simpa using congrArg Array.toList d1
 subst this
 exact r.inj r'
theorem Inv.tuple_inj(I:Inv X pins σ H s)(h:SqT X.K H a xs)(h':SqT X.K H a ys):xs=ys:=by
 obtain⟨its,r,⟨o,e,_,n,d⟩,_⟩:=I.tuple h
 obtain⟨its',r',⟨o',e',_,n',d'⟩,_⟩:=I.tuple h'
 rw[e]at e';cases e'
 rw[d]at d'
 injection d' with d1 _
 have:its=its':=by simpa using congrArg Array.toList d1
 subst this
 exact r.inj r'
end
noncomputable abbrev Cx.wish(X:Cx)(E:Value->Shared->Prop):Cx:={ X with xe:=E }
noncomputable abbrev Cx.nox(X:Cx):Cx:=X.wish fun _ _=>False
theorem Cx.Ok.wish{X:Cx}(ok:X.Ok)(E:Value->Shared->Prop):(X.wish E).Ok :=
 ⟨ok.mod,ok.kind,ok.glob,ok.blt,ok.above,ok.inj,ok.has,ok.cab,ok.hd,ok.frames,ok.stk,ok.exf,ok.bs,ok.bsz,ok.noex,ok.exfs,ok.funs,ok.frf⟩
theorem Cx.Ok.unwish{X:Cx}{E:Value->Shared->Prop}(ok:(X.wish E).Ok):X.Ok :=
 ⟨ok.mod,ok.kind,ok.glob,ok.blt,ok.above,ok.inj,ok.has,ok.cab,ok.hd,ok.frames,ok.stk,ok.exf,ok.bs,ok.bsz,ok.noex,ok.exfs,ok.funs,ok.frf⟩
section
variable {X:Cx} {pins:List (Addr×Obj)} {σ:St} {H:Hp} {s:Shared} {E:Value->Shared->Prop}
theorem Inv.wish(I:Inv X pins σ H s)(E:Value->Shared->Prop):Inv (X.wish E) pins σ H s:=⟨I.ok.wish E,I.os,I.bare,I.base,I.loc,I.cell,I.free,I.freeC,I.pin,I.hok,I.len⟩
theorem Inv.unwish(I:Inv (X.wish E) pins σ H s):Inv X pins σ H s:=⟨I.ok.unwish,I.os,I.bare,I.base,I.loc,I.cell,I.free,I.freeC,I.pin,I.hok,I.len⟩
theorem SP.unwish{D:jg}{f:Flow}{s':Shared}(h:SP (X.wish E) pins D f s'):SP X pins D f s':=by
 cases f with
 |next=>obtain⟨σ',H',I,q⟩:=h;exact⟨σ',H',I.unwish,q⟩
 |brk=>obtain⟨σ',H',I,q⟩:=h;exact⟨σ',H',I.unwish,q⟩
 |cont=>obtain⟨σ',H',I,q⟩:=h;exact⟨σ',H',I.unwish,q⟩
 |ret u=>obtain⟨v,σ',H',I,r,q⟩:=h;exact⟨v,σ',H',I.unwish,r,q⟩
theorem PSs.nox{st:List Stmt}{t:TS}(h:PSs X.nox st t):PSs X st t:=fun pins s σ H D I hw=>
 wpAny_mono (h pins s σ H D (I.wish _) hw) (fun _ _ q=>q.unwish) fun _ _ z=>False.elim z
end
section
variable {X:Cx} {st:Stmt} {rest:List Stmt} {t u:TS} {e:Expr} {te:TE} {pos:Pos}
noncomputable def zeZ:TS:=fun D σ H=>D.nx σ H
noncomputable def tSeq(t u:TS):TS:=fun D σ H=>t { D with nx:=u D } σ H
theorem pss_nil:PSs X [] zeZ:=fun _ _ σ H _ I h=>wpAny_execs_nil ⟨σ,H,I,h⟩
theorem Z5(h1:PS X st t)(h2:PSs X rest u):PSs X (st::rest) (tSeq t u):=by
 intro pins s σ H D I h
 refine wpAny_execs_cons (thn (h1 pins s σ H { D with nx:=u D } I h) fun f s1 q=>?_)
 cases f with
 |next=>
  obtain⟨σ',H',I',q⟩:=q
  exact h2 pins s1 σ' H' D I' q
 |ret v=>exact q
 |brk=>exact q
 |cont=>exact q
theorem vF(h1:PS X st t):PSs X [st] t:=by
 intro pins s σ H D I h
 refine wpAny_execs_cons (thn (h1 pins s σ H D I h) fun f s1 q=>?_)
 cases f with
 |next=>exact wpAny_execs_nil q
 |ret v=>exact q
 |brk=>exact q
 |cont=>exact q
theorem ps_pass:PS X (.Pass pos) zeZ:=fun _ _ σ H _ I h=>wpAny_Pass ⟨σ,H,I,h⟩
theorem Inv.quiet{pins:List (Addr×Obj)}{σ:St}{H:Hp}{s:Shared}(I:Inv X pins σ H s):interactive X.env=false:=by simp[interactive,I.ok.kind]
noncomputable def zhL(te:TE):TS:=fun D σ H=>te σ H fun _ H1=>D.nx σ H1
theorem Y5(he:PE X e te)(hs:swapsWith e none pos.line X.env=pure false:=by rfl):PS X (.Expr e pos) (zhL te):=by
 intro pins s σ H D I h
 exact wpAny_Expr_any (thn (he pins s σ H _ I h) fun v s1 ⟨x,H1,I1,r1,q1⟩=>⟨σ,H1,I1,q1⟩) I.quiet hs
noncomputable def tRet(te:TE):TS:=fun D σ H=>te σ H D.rt
theorem zbs(he:PE X e te):PS X (.Return (some e) pos) (tRet te):=by
 intro pins s σ H D I h
 exact wpAny_Return_some (thn (he pins s σ H _ I h) fun v s1 ⟨x,H1,I1,r1,q1⟩=>⟨x,σ,H1,I1,r1,q1⟩)
noncomputable def tIfS(c:TT)(t u:TS):TS:=fun D σ H=>c σ H fun b H1=>if b=true then t D σ H1 else u D σ H1
theorem zg4{c:Expr}{a b:List Stmt}{tc:TT}(hc:PT X c tc)(ha:PSs X a t)(hb:PSs X b u):PS X (.If c a b pos) (tIfS tc t u):=by
 intro pins s σ H D I h
 refine wpAny_If (thn (hc pins s σ H _ I h) fun d s1 ⟨H1,I1,q1⟩=>?_)
 cases d with
 |true=>exact ha pins s1 σ H1 D I1 q1
 |false=>exact hb pins s1 σ H1 D I1 q1
end
noncomputable abbrev TG:=V->St->Hp->(St->Hp->Prop)->Prop
noncomputable abbrev TGs:=List V->St->Hp->(St->Hp->Prop)->Prop
noncomputable def PG(X:Cx)(target:Expr)(t:TG):Prop :=
 ∀ (pins:List (Addr×Obj)) (s:Shared) (σ:St) (H:Hp) (v:V) (u:Value) (Q:St->Hp->Prop),Inv X pins σ H s->RelV v u->t v σ H Q ->
  wpAny (model X.prog X.w) X.A (assign target X.env u) (fun _ s'=>∃ σ' H',Inv X pins σ' H' s'/\Q σ' H') X.xe s
noncomputable def PGs(X:Cx)(ts:List Expr)(t:TGs):Prop :=
 ∀ (pins:List (Addr×Obj)) (s:Shared) (σ:St) (H:Hp) (vs:List V) (us:List Value) (Q:St->Hp->Prop),Inv X pins σ H s->Vals vs us->t vs σ H Q ->
  wpAny (model X.prog X.w) X.A (assignInOrder ((assignEach ts X.env).map (·.2)) us) (fun _ s'=>∃ σ' H',Inv X pins σ' H' s'/\Q σ' H') X.xe s
noncomputable abbrev zeg:=V->V->V->Hp->(Hp->Prop)->Prop
noncomputable def zf3(X:Cx)(t:zeg):Prop :=
 ∀ (pins:List (Addr×Obj)) (s:Shared) (σ:St) (H:Hp) (o i v:V) (ov iv u:Value) (Q:Hp->Prop),Inv X pins σ H s->RelV o ov->RelV i iv->RelV v u->t o i v H Q ->
  wpAny (model X.prog X.w) X.A (setItem ov iv u) (fun _ s'=>∃ H',Inv X pins σ H' s'/\Q H') X.xe s
noncomputable abbrev TIp:=V->V->Hp->VK->Prop
noncomputable def PIp(X:Cx)(op:Operator)(t:TIp):Prop :=
 ∀ (pins:List (Addr×Obj)) (s:Shared) (σ:St) (H:Hp) (x y:V) (v u:Value) (Q:VK),Inv X pins σ H s->RelV x v->RelV y u->t x y H Q ->
  wpAny (model X.prog X.w) X.A (inplaceOp op v u) (EP X pins σ Q) X.xe s
section
variable {X:Cx} {pos:Pos}
noncomputable def yb(i:Nat):TG:=fun v σ H Q=>Q (σ.set i (some v)) H
theorem kM{i:Nat}{x:Str}(hN:X.N.Nodup)(hi:X.N[i]?=some x)(hx:Loc X.env.scope x)(hf:X.fn x=true∨X.env.scope.names.lookup x=some .local:=by first | exact .inl rfl | exact .inr rfl | assumption):PG X (.Name x pos) (yb i):=by
 intro pins s σ H v u Q I r h
 exact wpAny_assign_Name (j8 I hN hi hx r (fun s' I'=>⟨_,H,I',h⟩) hf)
noncomputable def gNil:TGs:=fun vs σ H Q=>vs= []/\Q σ H
noncomputable def zgT(t:TG)(u:TGs):TGs:=fun vs σ H Q=>∃ v r,vs=v::r/\t v σ H fun σ' H'=>u r σ' H' Q
theorem pgs_nil:PGs X [] gNil:=by
 intro pins s σ H vs us Q I r h
 obtain⟨e,h⟩:=h
 subst e
 cases r
 exact assignInOrder_nil ⟨σ,H,I,h⟩
theorem zaU{e:Expr}{es:List Expr}{t:TG}{u:TGs}(h1:PG X e t)(h2:PGs X es u)
  (hs:(assignEach (e::es) X.env).map (·.2)=assign e X.env::(assignEach es X.env).map (·.2):=by rfl):PGs X (e::es) (zgT t u):=by
 intro pins s σ H vs us Q I r h
 obtain⟨v,vr,e1,h⟩:=h
 subst e1
 cases r with
 |cons r rr=>
  rw[hs]
  refine assignInOrder_cons (thn (h1 pins s σ H _ _ _ I r h) fun _ s1 ⟨σ1,H1,I1,q1⟩=>?_)
  exact h2 pins s1 σ1 H1 _ _ Q I1 rr q1
noncomputable def gTup(K:PySem.W.Frag)(n:Nat)(t:TGs):TG:=fun v σ H Q=>∃ a xs,v=.ref a/\SqT K H a xs/\xs.length=n/\t xs σ H Q
theorem zgz{es:List Expr}{k:Nat}{t:TGs}{n:Nat}(hc:X.calm=true)(h:PGs X es t)
  (hn:(assignEach es X.env).length=n:=by rfl) (hst:(assignEach es X.env).findIdx? (·.1)=none:=by rfl):PG X (.Tuple es k pos) (gTup X.K n t):=by
 intro pins s σ H v u Q I r hw
 obtain⟨a,xs,e1,hq,hl,hw⟩:=hw
 subst e1
 cases r
 obtain⟨its,rv,ht,hz⟩:=I.tuple hq
 refine assign_Tuple_tuple (I.ok.hd hc) ht (by simp[hn,<- hl,rv.length]) hst fun h' hx=>?_
 have I1:Inv X pins σ H { s with heap:=h' }:=I.kept (t':=s.toks) fun b o e=>hx b o (xu (Heap.lt_size e)) e
 exact h pins _ σ H xs _ Q I1 (by simpa using rv) hw
noncomputable def zgR(to ti:TE)(t:zeg):TG:=fun v σ H Q=>to σ H fun o H1=>ti σ H1 fun i H2=>t o i v H2 fun H3=>Q σ H3
theorem zfh{o i:Expr}{to ti:TE}{t:zeg}(ho:PE X o to)(hi:PE X i ti)(hs:zf3 X t)
  (ha:∀ v,assign (.Subscript o i pos) X.env v=(do
   let ov<-holding [v] (eval o X.env)
   let iv<-holding [v,ov] (eval i X.env)
   standAt pos
   holding [v,ov,iv] (setItem ov iv v)
   release [v,ov,iv] []):=by intro _;rfl):PG X (.Subscript o i pos) (zgR to ti t):=by
 intro pins s σ H v u Q I r h
 rw[ha]
 refine wpAny_bind (wpAny_holding (thn (ho pins s σ H _ I h) fun ov s1 ⟨x,H1,I1,r1,q1⟩=>?_))
 refine wpAny_bind (wpAny_holding (thn (hi pins s1 σ H1 _ I1 q1) fun iv s2 ⟨y,H2,I2,r2,q2⟩=>?_))
 refine wpAny_bind (wpAny_standAt (wpAny_bind (wpAny_holding (thn (hs pins s2 σ H2 x y v ov iv u _ I2 r1 r2 r q2) fun _ s3 ⟨H3,I3,q3⟩=>?_))))
 exact wpAny_release ⟨σ,H3,I3,q3⟩
noncomputable def YN(te:TE)(g:TG):TS:=fun D σ H=>te σ H fun x H1=>g x σ H1 D.nx
theorem yW{tg e:Expr}{te:TE}{g:TG}(he:PE X e te)(hg:PG X tg g)(hs:swapsWithSole [tg] e pos.line X.env=pure false:=by rfl)(hw:swappedStores [tg] e X.env=pure none:=by rfl)
    (h1:(assignEach [tg] X.env).map (·.2)= [assign tg X.env]:=by rfl):PS X (.Assign [tg] e pos) (YN te g):=by
  intro pins s σ H D I h
  refine wpAny_Assign_stores (thn (he pins s σ H _ I h) fun v s1 ⟨x,H1,I1,r1,q1⟩=>?_) hs hw
  rw[h1]
  exact thn (hg pins s1 σ H1 x v _ I1 r1 q1) fun _ s2 q=>q
theorem vZ{i:Nat}{x:Str}{e:Expr}{te:TE}{pos':Pos}(hN:X.N.Nodup)(hi:X.N[i]?=some x)(hx:Loc X.env.scope x)(he:PE X e te)(hs:swapsWith e (some (.Name x pos')) pos.line X.env=pure false:=by rfl)(hf:X.fn x=true∨X.env.scope.names.lookup x=some .local:=by first | exact .inl rfl | exact .inr rfl | assumption) :
    PS X (.Assign [.Name x pos'] e pos) (YN te (yb i)):=by
  intro pins s σ H D I h
  refine wpAny_Assign_Name (thn (he pins s σ H _ I h) fun v s1 ⟨y,H1,I1,r1,q1⟩=>?_) hs
  exact j8 I1 hN hi hx r1 (fun s2 I2=>⟨_,H1,I2,q1⟩) hf
noncomputable def tAug(i:Nat)(te:TE)(ti:TIp):TS:=fun D σ H=>∃ x,σ[i]?=some (some x)/\te σ H fun y H1=>ti x y H1 fun z H2=>D.nx (σ.set i (some z)) H2
theorem zgi{i:Nat}{x:Str}{e:Expr}{te:TE}{op:Operator}{ti:TIp}{pos':Pos}(hN:X.N.Nodup)(hi:X.N[i]?=some x)(hx:Loc X.env.scope x)(he:PE X e te)(ho:PIp X op ti)(hf:X.fn x=true∨X.env.scope.names.lookup x=some .local:=by first | exact .inl rfl | exact .inr rfl | assumption) :
    PS X (.AugAssign (.Name x pos') op e pos) (tAug i te ti):=by
  intro pins s σ H D I h
  obtain⟨v,e1,h⟩:=h
  obtain⟨m,hn,hl⟩:=I.loc
  have vis:Vis X.env.scope x:=by rcases hx with k | k;exact .inl k;exact .inr (.inl k)
  obtain⟨u,r,l⟩:=hl i x v hi e1 vis
  refine wpAny_AugAssign_Name ?_
  have go:wpAny (model X.prog X.w) X.A (eval e X.env) (fun w s₂=>wpAny (model X.prog X.w) X.A (inplaceOp op u w) (fun r s₃=>wpAny (model X.prog X.w) X.A (storeName X.env x r) (fun _=>SP X pins D .next) X.xe s₃) X.xe s₂) X.xe s:=by
    refine thn (he pins s σ H _ I h) fun w s1 ⟨y,H1,I1,r1,q1⟩=>?_
    refine thn (ho pins s1 σ H1 v y u w _ I1 r r1 q1) fun z s2 ⟨zv,H2,I2,r2,q2⟩=>?_
    exact j8 I2 hN hi hx r2 (fun s3 I3=>⟨_,H2,I3,q2⟩) hf
  rcases l with ⟨hk,hm⟩ | ⟨hk,c,hc,hcell⟩
  · exact wpAny_loadName_local I.ok.kind hk hn hm go
  · rcases hk with hk | hk
    · exact wpAny_loadName_cell I.ok.kind hk hc hcell go
    · rcases hx with k | k
      · have : X.env.scope.names.lookup x = some .free := hk
        rw[k]at this;cases this
      · have : X.env.scope.names.lookup x = some .free := hk
        rw[k]at this;cases this
end
section
variable {X:Cx} {pos:Pos}
noncomputable def zgp(c:TT)(tb:TS):TS:=fun D σ H=>∃ W:Nat->St->Hp->Prop,(∃ m,W m σ H)/\∀ m σ H,W m σ H ->
 c σ H fun b H1=>if b=true then ∃ N:St->Hp->Prop,(∀ σ' H',N σ' H'->∃ m',m'<m/\W m' σ' H')/\tb { D with nx:=N,ct:=N,bk:=D.nx } σ H1 else D.nx σ H1
theorem zaG{c:Expr}{body:List Stmt}{tc:TT}{tb:TS}(hp:PassesOwn (model X.prog X.w) X.A X.env X.xe)(hc:PT X c tc)(hb:PSs X body tb):PS X (.While c body [] pos) (zgp tc tb):=by
 intro pins s σ H D I h
 obtain⟨W,⟨m0,w0⟩,turn⟩:=h
 refine wpAny_While (codeAny_whileLoop (fun n s'=>∃ σ' H',Inv X pins σ' H' s'/\W n σ' H') ?_ m0 ⟨σ,H,I,w0⟩)
 rintro n s1 ⟨σ1,H1,I1,w1⟩
 refine wpAny_passesOwn hp (thn (hc pins s1 σ1 H1 _ I1 (turn n σ1 H1 w1)) fun b s2 ⟨H2,I2,q2⟩=>?_)
 cases b with
 |true=>
  obtain⟨N,hN,q2⟩:=q2
  rw[if_pos rfl]
  refine wpAny_passesOwn hp (thn (hb pins s2 σ1 H2 _ I2 q2) fun f s3 q3=>?_)
  cases f with
  |next=>
   obtain⟨σ3,H3,I3,n3⟩:=q3
   obtain⟨m',hm,w3⟩:=hN σ3 H3 n3
   exact⟨m',hm,σ3,H3,I3,w3⟩
  |cont=>
   obtain⟨σ3,H3,I3,n3⟩:=q3
   obtain⟨m',hm,w3⟩:=hN σ3 H3 n3
   exact⟨m',hm,σ3,H3,I3,w3⟩
  |brk=>exact q3
  |ret v=>exact q3
 |false=>
  rw[if_neg uy]
  exact wpAny_execs_nil ⟨σ1,H2,I2,q2⟩
end
structure It where
 go:Nat->Hp->Prop
 yld:Nat->Hp->V->Hp->Prop
 stop:Nat->Hp->Prop
noncomputable def Q0(X:Cx)(pins:List (Addr×Obj))(H:Hp)(b:Addr):Prop :=
 H b=none/\b≠X.env.locals/\b∉X.fs/\(b∈X.ex∨X.s₀.heap.objs.size<=b)/\(∀ x c,X.env.cells.lookup x=some c->c≠b)/\∀ p∈X.pn++pins,p.1≠b
theorem Inv.fpOk{X:Cx}{pins:List (Addr×Obj)}{σ:St}{H H':Hp}{s:Shared}{b:Addr}(I:Inv X pins σ H s)(hb:s.heap.objs.size<=b)(hn:H' b=none):Q0 X pins H' b:=by
 refine⟨hn,Nat.ne_of_gt (xy I.lt hb),I.nofs hb,.inr (xL I.sz hb),fun x c e z=>?_,fun p hp z=>?_⟩
 ·obtain⟨v,q⟩:=I.cell x c e
  exact absurd (xy q.lt (by rw[z];exact hb)) (ue _)
 ·exact absurd (xy (Heap.lt_size (I.pin p hp).1) (by rw[z];exact hb)) (ue _)
structure zaf(P:Program)(w:World)(K:PySem.W.Frag)(tg:Expr)(J:It)(fp:List Addr)(it:Addr)(tn:Nat->Heap->Prop):Prop where
 mem:it∈fp
 obj:∀ i h,tn i h->∀ b∈fp,∃ o,h.get? b=some o/\∀ v,o.data≠ .cell v
 keep:∀ i h h',tn i h->(∀ b∈fp,∀ o,h.get? b=some o->h'.get? b=some o)->tn i h'
 item:∀ (X:Cx),X.prog=P->X.w=w->X.K=K->X.calm=true->∀ (i:Nat) (pins:List (Addr×Obj)) (s:Shared) (σ:St) (H:Hp) (E:Value->Shared->Prop),Inv X pins σ H s->(∀ b∈fp,Q0 X pins H b)->tn i s.heap->J.go i H ->
  wpAny (model P w) X.A (pyNext (.ref it)) (fun r s1=>∃ u,r=some u /\
   wpAny (model P w) X.A (letOwnedTupleGo tg (.ref it) u) (fun _ s2=>∃ x H',Inv X pins σ H' s2/\RelV x u/\J.yld i H x H'/\tn (i+1) s2.heap/\∀ b∈fp,H' b=none) E s1) E s
 done:∀ (X:Cx),X.prog=P->X.w=w->X.K=K->X.calm=true->∀ (i:Nat) (pins:List (Addr×Obj)) (s:Shared) (σ:St) (H:Hp) (E:Value->Shared->Prop),Inv X pins σ H s->(∀ b∈fp,Q0 X pins H b)->tn i s.heap->J.stop i H ->
  wpAny (model P w) X.A (pyNext (.ref it)) (fun r s1=>r=none/\Inv X pins σ H s1) E s
 self:∀ (A:Around) (i:Nat) (s:Shared) (Q:Value->Shared->Prop) (E:Value->Shared->Prop),tn i s.heap->Q (.ref it) s->wpAny (model P w) A (pyIter (.ref it)) Q E s
noncomputable abbrev TI:=St->Hp->(It->Hp->Prop)->Prop
noncomputable def PIE(X:Cx)(pins:List (Addr×Obj))(σ:St)(tg:Expr)(R:It->Hp->Prop)(itv:Value)(s2:Shared):Prop :=
 ∃ (it:Addr) (fp:List Addr) (tn:Nat->Heap->Prop) (J:It) (H':Hp),itv=.ref it/\Inv X pins σ H' s2/\zaf X.prog X.w X.K tg J fp it tn/\tn 0 s2.heap/\(∀ b∈fp,Q0 X pins H' b)/\R J H'
noncomputable def PI(X:Cx)(tg iter:Expr)(wi:TI):Prop :=
 ∀ (pins:List (Addr×Obj)) (s:Shared) (σ:St) (H:Hp) (R:It->Hp->Prop),Inv X pins σ H s->wi σ H R ->
  wpAny (model X.prog X.w) X.A (eval iter X.env) (fun v s1=>wpAny (model X.prog X.w) X.A (pyIter v) (PIE X pins σ tg R) X.xe s1) X.xe s
theorem zaH{M:Model}{A:Around}{E:Value->Shared->Prop}{s:Shared}{tg:Expr}{it:Addr}{u:Value}{o:Obj}{n:String}{vs:Array Value}{Q:Unit->Shared->Prop}(ho:s.heap.get? it=some o)(hc:o.cls=.type n)(hd:o.data=.fields vs)
    (hn: ["enumerate","zip","dict_itemiterator","dict_reverseitemiterator","odict_iterator","itertools.zip_longest","itertools.pairwise"].contains n=false) (hQ:Q () s):wpAny M A (letOwnedTupleGo tg (.ref it) u) Q E s:=by
  unfold letOwnedTupleGo
  cases tg<;>first
    |exact wpAny_pure hQ
    | (cases u<;>first
        |exact wpAny_pure hQ
        | (refine wpAny_bind (wpAny_load ho ?_)
           rw[hc,hd]
           show wpAny M A (if (["enumerate","zip","dict_itemiterator","dict_reverseitemiterator","odict_iterator","itertools.zip_longest","itertools.pairwise"].contains n&&vs[0]?==some (rawInt _))=true then _ else _) Q E s
           rw[if_neg (by intro h;rw[hn,Bool.false_and]at h;cases h)]
           exact wpAny_pure hQ))
noncomputable def Itl(K:PySem.W.Frag)(a:Addr):It :=
 ⟨fun i H=>∃ xs x,SqL K H a xs/\xs[i]?=some x,fun i H x H'=>H'=H/\∀ xs,SqL K H a xs->xs[i]?=some x,fun i H=>∃ xs,SqL K H a xs/\xs.length<=i⟩
noncomputable def Itt(K:PySem.W.Frag)(a:Addr):It :=
 ⟨fun i H=>∃ xs x,SqT K H a xs/\xs[i]?=some x,fun i H x H'=>H'=H/\∀ xs,SqT K H a xs->xs[i]?=some x,fun i H=>∃ xs,SqT K H a xs/\xs.length<=i⟩
noncomputable def Itr(lo:Int)(n:Nat):It:=⟨fun i _=>i<n,fun i H x H'=>H'=H/\x=.int (lo+i),fun i _=>n<=i⟩
theorem zac{P:Program}{w:World}{K:PySem.W.Frag}{tg:Expr}(a it:Addr):zaf P w K tg (Itl K a) [it] it (fun i h=>h.IsListIter it a i) where
 mem:=by simp
 obj:=fun i h st b hb=>by
  have e:b=it:=by simpa using hb
  subst e
  obtain⟨o,e,c,d⟩:=st
  exact⟨o,e,fun v z=>by rw[d]at z;cases z⟩
 keep:=fun i h h' st k=>st.at fun o e=>k it (by simp) o e
 item:=by
  intro X hP hw hK hc i pins s σ H E I hf st hg
  subst hP hw hK
  obtain⟨xs,x,hq,hx⟩:=hg
  obtain⟨its,rv,p,hz⟩:=I.list hq
  obtain⟨u,hu,ru⟩:=rv.get hx
  obtain⟨f0,f1,f2,f3,f4,f5⟩:=hf it (by simp)
  refine wpAny_pyNext_list_item st p.isList (x:=u) (by simpa using hu) fun h' st' sb=>?_
  have I1:Inv X pins σ H { s with heap:=h' }:=I.turned (t':=s.toks) (fun b o hb e=>(sb.2 b hb).trans e) f0 f1 f3 f4 f5
  obtain⟨o,e,c,d⟩:=id st'
  exact⟨u,rfl,zaH (s:={ s with heap:=h' }) e c d (by decide) ⟨x,H,I1,ru,⟨rfl,fun ys hy=>by rw[I.list_inj hy hq];exact hx⟩,st',fun b hb=>(hf b hb).1⟩⟩
 done:=by
  intro X hP hw hK hc i pins s σ H E I hf st hg
  subst hP hw hK
  obtain⟨xs,hq,hx⟩:=hg
  obtain⟨its,rv,p,hz⟩:=I.list hq
  obtain⟨f0,f1,f2,f3,f4,f5⟩:=hf it (by simp)
  have hl:=rv.length
  exact wpAny_pyNext_list_end (I.ok.hd hc) st p.isList (by simp;omega) fun h' eb=>⟨rfl,I.turned (t':=s.toks) (fun b o hb e=>eb b o hb e) f0 f1 f3 f4 f5⟩
 self:=fun _ _ _ _ _ st h=>wpAny_pyIter_listiter st h
theorem Yt{P:Program}{w:World}{K:PySem.W.Frag}{tg:Expr}(a it:Addr):zaf P w K tg (Itt K a) [it] it (fun i h=>h.IsTupleIter it a i) where
 mem:=by simp
 obj:=fun i h st b hb=>by
  have e:b=it:=by simpa using hb
  subst e
  obtain⟨o,e,c,d⟩:=st
  exact⟨o,e,fun v z=>by rw[d]at z;cases z⟩
 keep:=fun i h h' st k=>st.at fun o e=>k it (by simp) o e
 item:=by
  intro X hP hw hK hc i pins s σ H E I hf st hg
  subst hP hw hK
  obtain⟨xs,x,hq,hx⟩:=hg
  obtain⟨its,rv,p,hz⟩:=I.tuple hq
  obtain⟨u,hu,ru⟩:=rv.get hx
  obtain⟨f0,f1,f2,f3,f4,f5⟩:=hf it (by simp)
  refine wpAny_pyNext_tuple_item st (show s.heap.IsTuple a its.toArray from p) (x:=u) (by simpa using hu) fun h' st' sb=>?_
  have I1:Inv X pins σ H { s with heap:=h' }:=I.turned (t':=s.toks) (fun b o hb e=>(sb.2 b hb).trans e) f0 f1 f3 f4 f5
  obtain⟨o,e,c,d⟩:=id st'
  exact⟨u,rfl,zaH (s:={ s with heap:=h' }) e c d (by decide) ⟨x,H,I1,ru,⟨rfl,fun ys hy=>by rw[I.tuple_inj hy hq];exact hx⟩,st',fun b hb=>(hf b hb).1⟩⟩
 done:=by
  intro X hP hw hK hc i pins s σ H E I hf st hg
  subst hP hw hK
  obtain⟨xs,hq,hx⟩:=hg
  obtain⟨its,rv,p,hz⟩:=I.tuple hq
  obtain⟨f0,f1,f2,f3,f4,f5⟩:=hf it (by simp)
  have hl:=rv.length
  exact wpAny_pyNext_tuple_end (I.ok.hd hc) st (show s.heap.IsTuple a its.toArray from p) (by simp;omega) fun h' eb=>⟨rfl,I.turned (t':=s.toks) (fun b o hb e=>eb b o hb e) f0 f1 f3 f4 f5⟩
 self:=fun _ _ _ _ _ st h=>wpAny_pyIter_tupleiter st h
theorem YE{P:Program}{w:World}{K:PySem.W.Frag}{tg:Expr}(it:Addr)(lo:Int)(n:Nat):zaf P w K tg (Itr lo n) [it] it (fun i h=>IsRangeIter h it (lo+(i:Nat)*1) ((n:Int)-(i:Nat)) 1) where
 mem:=by simp
 obj:=fun i h st b hb=>by
  have e:b=it:=by simpa using hb
  subst e
  exact⟨_,st,fun v z=>by
   have z':Data.fields _=Data.cell v:=z
   cases z'⟩
 keep:=fun i h h' st k=>k it (by simp) _ st
 item:=by
  intro X hP hw hK hc i pins s σ H E I hf st hg
  subst hP hw hK
  obtain⟨f0,f1,f2,f3,f4,f5⟩:=hf it (by simp)
  have W:=Walks.range (prog:=X.prog) (w:=X.w) (I.ok.hd hc) it lo 1 n
  refine W.item i s _ _ hg st fun v h' tk hv st' kk=>?_
  obtain⟨t,rfl⟩:=hv
  have I1:Inv X pins σ H { s with heap:=h',toks:=tk }:=I.turned (fun b o hb e=>kk b o (by simpa using hb) e) f0 f1 f3 f4 f5
  refine⟨_,rfl,zaH (s:={ s with heap:=h',toks:=tk }) (n:= "range_iterator") st' rfl rfl (by decide) ⟨.int (lo+i),H,I1,⟨t,?_⟩,⟨rfl,rfl⟩,st',fun b hb=>(hf b hb).1⟩⟩
  rw[Int.mul_one]
 done:=by
  intro X hP hw hK hc i pins s σ H E I hf st hg
  subst hP hw hK
  obtain⟨f0,f1,f2,f3,f4,f5⟩:=hf it (by simp)
  exact wpAny_pyNext_range_end (I.ok.hd hc) st (by have:n<=i:=hg;omega) fun h' eb=>⟨rfl,I.turned (t':=s.toks) (fun b o hb e=>eb b o hb e) f0 f1 f3 f4 f5⟩
 self:=fun _ _ _ _ _ st h=>wpAny_pyIter_rangeiter st h
end L2
namespace L2
open PySem PySem.Spec PyProof.Rows
section
variable {X:Cx} {tg:Expr}
noncomputable def zhm(K:PySem.W.Frag)(tl:TE):TI:=fun σ H R=>tl σ H fun x H1=>∃ a,x=.ref a/\(∃ xs,SqL K H1 a xs)/\R (Itl K a) H1
noncomputable def iTup(K:PySem.W.Frag)(tl:TE):TI:=fun σ H R=>tl σ H fun x H1=>∃ a,x=.ref a/\(∃ xs,SqT K H1 a xs)/\R (Itt K a) H1
theorem YY{l:Expr}{tl:TE}(hl:PE X l tl):PI X tg l (zhm X.K tl):=by
 intro pins s σ H R I h
 refine thn (hl pins s σ H _ I h) fun v s1 ⟨x,H1,I1,r1,q1⟩=>?_
 obtain⟨a,e,⟨xs,hq⟩,q⟩:=q1
 subst e
 cases r1
 obtain⟨its,rv,p,hz⟩:=I1.list hq
 refine wpAny_pyIter_list p.isList ?_
 refine⟨s1.heap.objs.size,[s1.heap.objs.size],_,_,H1,rfl,I1.kept (t':=s1.toks) fun b o e=>Heap.get?_push_of_some _ e,zac a _,⟨_,Heap.get?_push_size _ rfl,rfl,rfl⟩,fun b hb=>?_,q⟩
 have e:b=s1.heap.objs.size:=by simpa using hb
 subst e
 exact I1.fpOk (xn _) (I1.hok.fresh (xn _))
theorem zfE{l:Expr}{tl:TE}(hl:PE X l tl):PI X tg l (iTup X.K tl):=by
 intro pins s σ H R I h
 refine thn (hl pins s σ H _ I h) fun v s1 ⟨x,H1,I1,r1,q1⟩=>?_
 obtain⟨a,e,⟨xs,hq⟩,q⟩:=q1
 subst e
 cases r1
 obtain⟨its,rv,p,hz⟩:=I1.tuple hq
 refine wpAny_pyIter_tuple (show s1.heap.IsTuple a its.toArray from p) ?_
 refine⟨s1.heap.objs.size,[s1.heap.objs.size],_,_,H1,rfl,I1.kept (t':=s1.toks) fun b o e=>Heap.get?_push_of_some _ e,Yt a _,⟨_,Heap.get?_push_size _ rfl,rfl,rfl⟩,fun b hb=>?_,q⟩
 have e:b=s1.heap.objs.size:=by simpa using hb
 subst e
 exact I1.fpOk (xn _) (I1.hok.fresh (xn _))
theorem zbt{pins:List (Addr×Obj)}{σ:St}{H:Hp}{s:Shared}{R:It->Hp->Prop}{E:Value->Shared->Prop}{lo hi:Int}{t u v:Tok}{tk:Nat}(I:Inv X pins σ H s)(h1: -(2 ^ 62)<=lo)(h2:lo<2 ^ 62)(h3: -(2 ^ 62)<=hi)(h4:hi<2 ^ 62)
  (q:R (Itr lo (hi-lo).toNat) H):wpAny (model X.prog X.w) X.A (pyIter (.ref s.heap.objs.size)) (PIE X pins σ tg R) E { s with heap:=s.heap.push { cls:=.type "range",data:=.fields #[.int lo t,.int hi u,.int 1 v] },toks:=tk }:=by
 refine wpAny_pyIter_range (IsRange.new ..) (small_one h1 h2 h3 h4) ?_
 have I1:Inv X pins σ H { s with heap:=s.heap.push { cls:=.type "range",data:=.fields #[.int lo t,.int hi u,.int 1 v] },toks:=tk }:=I.kept fun b o e=>Heap.get?_push_of_some _ e
 refine⟨(s.heap.push { cls:=.type "range",data:=.fields #[.int lo t,.int hi u,.int 1 v] }).objs.size,[(s.heap.push { cls:=.type "range",data:=.fields #[.int lo t,.int hi u,.int 1 v] }).objs.size],_,_,H,rfl,
  I1.kept (t':=tk) fun b o e=>Heap.get?_push_of_some _ e,YE _ lo (hi-lo).toNat,?_,fun b hb=>?_,q⟩
 ·have e1:lo+((0:Nat):Int)*1=lo:=by simp
  have e2:(((hi-lo).toNat:Nat):Int)-((0:Nat):Int)=Builtin.Range.rangeSize lo hi 1:=by rw[rangeSize_one];split<;>omega
  show IsRangeIter _ _ (lo+((0:Nat):Int)*1) ((((hi-lo).toNat:Nat):Int)-((0:Nat):Int)) 1
  rw[e1,e2]
  exact Heap.get?_push_size _ rfl
 ·have e:b=(s.heap.push { cls:=.type "range",data:=.fields #[.int lo t,.int hi u,.int 1 v] }).objs.size:=by simpa using hb
  subst e
  exact I1.fpOk (xn _) (I1.hok.fresh (xn _))
noncomputable def zhy(ta:TA):TI:=fun σ H R=>ta σ H fun vs H1=>∃ j:Int,vs= [.int j]/\ -(2 ^ 62)<=j/\j<2 ^ 62/\R (Itr 0 j.toNat) H1
theorem zah {a:Expr}{ta:TA}{p pos:Pos}(hg:Gl X "range") (hm:X.mg "range" =none) (ha:PA X [a] ta) (hs:starEach [a] X.env= [(false,eval a X.env)]:=by rfl):PI X tg (.Call (.Name "range" p) [a] [] pos) (zhy ta):=by
 intro pins s σ H R I h
 refine Call_ (jp I hg hm boot_range (PyProof.Rows.callWith_type1 (thn (ha pos pins s σ H _ I h) fun us s1 ⟨vs,H1,I1,r1,q1⟩=>?_) hs rfl))
 obtain⟨j,e,q1,q2,q⟩:=q1
 subst e
 cases r1 with
 |cons r rr=>
  cases rr
  obtain⟨t,rfl⟩:=r
  exact call_range_1 (zbt I1 (by omega) (by omega) q1 q2 (by simpa using q))
noncomputable def tFor(wi:TI)(g:TG)(tb:TS):TS:=fun D σ H=>wi σ H fun J H1=>∃ W:Nat->Nat->St->Hp->Prop,(∃ m,W 0 m σ H1)/\∀ i m σ H,W i m σ H ->
 (J.stop i H/\D.nx σ H)∨(J.go i H/\∃ N:St->Hp->Prop,(∀ σ' H',N σ' H'->∃ m',m'<m/\W (i+1) m' σ' H')/\∀ x H',J.yld i H x H'->g x σ H' fun σ2 H2=>tb { D with nx:=N,ct:=N,bk:=D.nx } σ2 H2)
noncomputable def Jc(fp:List Addr)(h:Heap):List (Addr×Obj):=fp.filterMap fun b=>(h.get? b).map fun o=>(b,o)
theorem jM{fp:List Addr}{h:Heap}{b:Addr}{o:Obj}(hb:b∈fp)(e:h.get? b=some o):(b,o)∈Jc fp h:=List.mem_filterMap.mpr ⟨b,hb,by rw[e];rfl⟩
theorem KD{fp:List Addr}{h:Heap}{p:Addr×Obj}(hp:p∈Jc fp h):p.1∈fp/\h.get? p.1=some p.2:=by
 obtain⟨b,hb,e⟩:=List.mem_filterMap.mp hp
 cases q:h.get? b with
 |none=>rw[q]at e;cases e
 |some o=>
  rw[q]at e
  have e':(b,o)=p:=Option.some.inj e
  subst e'
  exact⟨hb,q⟩
theorem Inv.pinned{pins:List (Addr×Obj)}{σ:St}{H:Hp}{s:Shared}{fp:List Addr}(I:Inv X pins σ H s)(hf:∀ b∈fp,Q0 X pins H b)(ho:∀ b∈fp,∃ o,s.heap.get? b=some o/\∀ v,o.data≠ .cell v):Inv X (pins++Jc fp s.heap) σ H s :=
 I.pins_of fun p hp=>(xH.mp hp).elim (fun z=>I.pin p (xA _ z)) fun z=>by
  obtain⟨hb,e⟩:=KD z
  obtain⟨f0,f1,f2,_⟩:=hf p.1 hb
  obtain⟨o,e',d⟩:=ho p.1 hb
  rw[e]at e';cases e'
  exact⟨e,f0,f1,f2,d⟩
theorem Inv.unpinned{pins pl:List (Addr×Obj)}{σ:St}{H:Hp}{s:Shared}(I:Inv X (pins++pl) σ H s):Inv X pins σ H s:=I.pins_of fun p hp=>I.pin p (xA _ (xr _ hp))
theorem zbv{iter:Expr}{body:List Stmt}{wi:TI}{g:TG}{tb:TS}{pos:Pos}(hp:PassesOwn (model X.prog X.w) X.A X.env X.xe)(hc:X.calm=true)(hi:PI X tg iter wi)(hg:PG X tg g)(hb:PSs X body tb)
  (hs:∀ x,foldedSetIterable iter X.env x=pure x:=by intro _;rfl):PS X (.For tg iter body [] pos) (tFor wi g tb):=by
 intro pins s σ H D I h
 refine wpAny_For (thn (hi pins s σ H _ I h) fun v s1 h1=>thn h1 fun itv s2 h2=>?_) hs
 obtain⟨it,fp,tn,J,H2,e,I2,T,st2,f2,W,⟨m0,w0⟩,turn⟩:=h2
 subst e
 -- what stays true of the iterator's objects through the loop
 have stat:∀ {H':Hp},(∀ b∈fp,H' b=none)->∀ b∈fp,Q0 X pins H' b:=fun hn b hb=>⟨hn b hb,(f2 b hb).2⟩
 refine codeAny_forLoop_any (fun n s'=>∃ i σ' H',Inv X pins σ' H' s'/\tn i s'.heap/\(∀ b∈fp,H' b=none)/\W i n σ' H') ?_ m0 ⟨0,σ,H2,I2,st2,fun b hb=>(f2 b hb).1,w0⟩
 rintro n s3 ⟨i,σ3,H3,I3,st3,fr3,w3⟩
 rcases turn i n σ3 H3 w3 with ⟨stop,qn⟩ | ⟨go,N,hN,step⟩
 ·refine wpAny_passesOwn hp (thn (T.done X rfl rfl rfl hc i pins s3 σ3 H3 X.xe I3 (stat fr3) st3 stop) fun r s4 ⟨hr,I4⟩=>?_)
  subst hr
  exact wpAny_execs_nil ⟨σ3,H3,I4,qn⟩
 ·refine wpAny_passesOwn hp (thn (T.item X rfl rfl rfl hc i pins s3 σ3 H3 X.xe I3 (stat fr3) st3 go) fun r s4 ⟨u,hr,h4⟩=>?_)
  subst hr
  refine wpAny_passesOwn hp (thn h4 fun _ s5 ⟨x,H5,I5,r5,y5,st5,fr5⟩=>?_)
  have I5':=I5.pinned (stat fr5) (T.obj _ _ st5)
  refine wpAny_passesOwn hp (thn (hg _ s5 σ3 H5 x u _ I5' r5 (step x H5 y5)) fun _ s6 ⟨σ6,H6,I6,q6⟩=>?_)
  refine wpAny_passesOwn hp (thn (hb _ s6 σ6 H6 _ I6 q6) fun f s7 q7=>?_)
  have again:∀ {σ7:St} {H7:Hp},Inv X (pins++Jc fp s5.heap) σ7 H7 s7->N σ7 H7->∃ m,m<n/\∃ i σ' H',Inv X pins σ' H' s7/\tn i s7.heap/\(∀ b∈fp,H' b=none)/\W i m σ' H':=fun {σ7 H7} I7 n7=>by
   obtain⟨m',hm,w7⟩:=hN σ7 H7 n7
   refine⟨m',hm,i+1,σ7,H7,I7.unpinned,T.keep _ _ _ st5 fun b hb o e=>(I7.pin (b,o) (xA _ (xA _ (jM hb e)))).1,fun b hb=>?_,w7⟩
   obtain⟨o,e,d⟩:=T.obj _ _ st5 b hb
   exact (I7.pin (b,o) (xA _ (xA _ (jM hb e)))).2.1
  cases f with
  |next=>obtain⟨σ7,H7,I7,n7⟩:=q7;exact again I7 n7
  |cont=>obtain⟨σ7,H7,I7,n7⟩:=q7;exact again I7 n7
  |brk=>obtain⟨σ7,H7,I7,q7⟩:=q7;exact⟨σ7,H7,I7.unpinned,q7⟩
  |ret v=>obtain⟨x7,σ7,H7,I7,r7,q7⟩:=q7;exact⟨x7,σ7,H7,I7.unpinned,r7,q7⟩
end
theorem zca{K:PySem.W.Frag}{a:Addr}{xs:List V}{g:TG}{tb:TS}{D:jg}{σ:St}{H:Hp}(Pv:Nat->St->Hp->Prop)(h0:Pv 0 σ H)(hl:∀ i σ H,i<=xs.length->Pv i σ H->SqL K H a xs)
  (hs:∀ i x σ H,xs[i]?=some x->Pv i σ H->g x σ H fun σ2 H2=>tb { D with nx:=Pv (i+1),ct:=Pv (i+1),bk:=D.nx } σ2 H2) (hd:∀ σ H,Pv xs.length σ H->D.nx σ H) :
  ∃ W:Nat->Nat->St->Hp->Prop,(∃ m,W 0 m σ H)/\∀ i m σ H,W i m σ H ->
   ((Itl K a).stop i H/\D.nx σ H)∨((Itl K a).go i H/\∃ N:St->Hp->Prop,(∀ σ' H',N σ' H'->∃ m',m'<m/\W (i+1) m' σ' H')/\∀ x H',(Itl K a).yld i H x H'->g x σ H' fun σ2 H2=>tb { D with nx:=N,ct:=N,bk:=D.nx } σ2 H2):=by
 refine⟨fun i m σ H=>m=xs.length-i/\i<=xs.length/\Pv i σ H,⟨xs.length,by simp,ui _,h0⟩,?_⟩
 rintro i m σ H ⟨rfl,hi,p⟩
 have q:=hl i σ H hi p
 by_cases hlt:i<xs.length
 ·refine .inr ⟨⟨xs,xs[i],q,by simp[hlt]⟩,Pv (i+1),fun σ' H' p'=>⟨xs.length-(i+1),by omega,rfl,hlt,p'⟩,fun x H' y=>?_⟩
  obtain⟨e,y⟩:=y
  subst e
  exact hs i x σ _ (y xs q) p
 ·have e:i=xs.length:=by omega
  subst e
  exact .inl ⟨⟨xs,q,xn _⟩,hd σ H p⟩
end L2
namespace L2
open PySem PySem.Spec PyProof.Rows
noncomputable abbrev R2:=V->V->Hp->VK->Prop
noncomputable def OpR(X:Cx)(f:Value->Value->Sem Value)(r:R2):Prop :=
 ∀ (pins:List (Addr×Obj)) (s:Shared) (σ:St) (H:Hp) (x y:V) (v u:Value) (Q:VK),Inv X pins σ H s->RelV x v->RelV y u->r x y H Q ->
  wpAny (model X.prog X.w) X.A (f v u) (EP X pins σ Q) X.xe s
noncomputable def UnR(X:Cx)(f:Value->Sem Value)(r:V->Hp->VK->Prop):Prop :=
 ∀ (pins:List (Addr×Obj)) (s:Shared) (σ:St) (H:Hp) (x:V) (v:Value) (Q:VK),Inv X pins σ H s->RelV x v->r x H Q ->
  wpAny (model X.prog X.w) X.A (f v) (EP X pins σ Q) X.xe s
noncomputable def jm(X:Cx)(f:Value)(r:List V->Hp->VK->Prop):Prop :=
 ∀ (pins:List (Addr×Obj)) (s:Shared) (σ:St) (H:Hp) (xs:List V) (us:List Value) (Q:VK),Inv X pins σ H s->Vals xs us->r xs H Q ->
  wpAny (model X.prog X.w) X.A (call f us) (EP X pins σ Q) X.xe s
noncomputable def TruR(X:Cx)(r:V->Hp->(Bool->Hp->Prop)->Prop):Prop :=
 ∀ (pins:List (Addr×Obj)) (s:Shared) (σ:St) (H:Hp) (x:V) (v:Value) (Q:Bool->Hp->Prop),Inv X pins σ H s->RelV x v->r x H Q ->
  wpAny (model X.prog X.w) X.A (truthy v) (TP X pins σ Q) X.xe s
noncomputable def tOp(r:R2)(ta tb:TE):TE:=fun σ H Q=>ta σ H fun x H1=>tb σ H1 fun y H2=>r x y H2 Q
noncomputable def tUn(r:V->Hp->VK->Prop)(ta:TE):TE:=fun σ H Q=>ta σ H fun x H1=>r x H1 Q
noncomputable def rI(C:Int->Int->Prop)(g:Int->Int->V):R2:=fun x y H Q=>∃ i j,x=.int i/\y=.int j/\C i j/\Q (g i j) H
noncomputable def rI0(g:Int->Int->V):R2:=fun x y H Q=>∃ i j,x=.int i/\y=.int j/\Q (g i j) H
noncomputable def rU(g:Int->V):V->Hp->VK->Prop:=fun x H Q=>∃ i,x=.int i/\Q (g i) H
section
variable {X:Cx} {a b c:Expr} {ta tb tc:TE} {pos:Pos}
theorem zfV(ha:PE X a ta)(hb:PE X b tb){pins:List (Addr×Obj)}{s:Shared}{σ:St}{H:Hp}{R:V->V->Hp->Prop}(I:Inv X pins σ H s)
  (h:ta σ H fun x H1=>tb σ H1 fun y H2=>R x y H2) {Q:Value->Shared->Prop} {f:Value->Value->Sem Value}
  (hf:∀ v u s2 x y H2,Inv X pins σ H2 s2->RelV x v->RelV y u->R x y H2->wpAny (model X.prog X.w) X.A (f v u) Q X.xe s2) :
  wpAny (model X.prog X.w) X.A (eval a X.env) (fun v s₁=>wpAny (model X.prog X.w) X.A (eval b X.env) (fun u s₂=>wpAny (model X.prog X.w) X.A (f v u) Q X.xe s₂) X.xe s₁) X.xe s:=by
 refine thn (ha pins s σ H _ I h) fun v s1 ⟨x,H1,I1,r1,q1⟩=>?_
 refine thn (hb pins s1 σ H1 _ I1 q1) fun u s2 ⟨y,H2,I2,r2,q2⟩=>?_
 exact hf v u s2 x y H2 I2 r1 r2 q2
theorem WI{op:Operator}{r:R2}(ho:OpR X (binaryOp op) r)(ha:PE X a ta)(hb:PE X b tb):PE X (.BinOp a op b pos) (tOp r ta tb):=by
 intro pins s σ H Q I h
 exact wpAny_BinOp (zfV ha hb I h fun v u s2 x y H2 I2 rx ry q=>ho pins s2 σ H2 x y v u Q I2 rx ry q)
theorem zeT{op:UnaryOp}{r:V->Hp->VK->Prop}(ho:UnR X (unaryOp op) r)(ha:PE X a ta):PE X (.UnaryOp op a pos) (tUn r ta):=by
 intro pins s σ H Q I h
 exact UnaryOp_ (thn (ha pins s σ H _ I h) fun v s1 ⟨x,H1,I1,r1,q1⟩=>ho pins s1 σ H1 x v Q I1 r1 q1)
theorem opI{f:Value->Value->Sem Value}{C:Int->Int->Prop}{g:Int->Int->Int}
  (rule:∀ (i j:Int) (t u:Tok) (s:Shared) (Q:Value->Shared->Prop) (E:Value->Shared->Prop),C i j->Q (.int (g i j) s.toks) { s with toks:=s.toks+1 }->wpAny (model X.prog X.w) X.A (f (.int i t) (.int j u)) Q E s) :
  OpR X f (rI C fun i j=>.int (g i j)):=by
 intro pins s σ H x y v u Q I rx ry h
 obtain⟨i,j,rfl,rfl,hc,q⟩:=h
 obtain⟨t,rfl⟩:=rx
 obtain⟨t',rfl⟩:=ry
 exact rule i j t t' s _ _ hc ⟨.int (g i j),H,I.tok _,⟨_,rfl⟩,q⟩
theorem zfL{f:Value->Value->Sem Value}{g:Int->Int->Int}
  (rule:∀ (i j:Int) (t u:Tok) (s:Shared) (Q:Value->Shared->Prop) (E:Value->Shared->Prop),Q (.int (g i j) s.toks) { s with toks:=s.toks+1 }->wpAny (model X.prog X.w) X.A (f (.int i t) (.int j u)) Q E s) :
  OpR X f (rI0 fun i j=>.int (g i j)):=by
 intro pins s σ H x y v u Q I rx ry h
 obtain⟨i,j,rfl,rfl,q⟩:=h
 obtain⟨t,rfl⟩:=rx
 obtain⟨t',rfl⟩:=ry
 exact rule i j t t' s _ _ ⟨.int (g i j),H,I.tok _,⟨_,rfl⟩,q⟩
theorem zdQ{f:Value->Value->Sem Value}{g:Int->Int->Bool}
  (rule:∀ (i j:Int) (t u:Tok) (s:Shared) (Q:Value->Shared->Prop) (E:Value->Shared->Prop),Q (.bool (g i j)) s->wpAny (model X.prog X.w) X.A (f (.int i t) (.int j u)) Q E s) :
  OpR X f (rI0 fun i j=>.bl (g i j)):=by
 intro pins s σ H x y v u Q I rx ry h
 obtain⟨i,j,rfl,rfl,q⟩:=h
 obtain⟨t,rfl⟩:=rx
 obtain⟨t',rfl⟩:=ry
 exact rule i j t t' s _ _ ⟨.bl (g i j),H,I,rfl,q⟩
noncomputable def CDiv(i j:Int):Prop:=0<j/\j<1073741824
noncomputable def zg8(i j:Int):Prop:=0<=j/\j<=1000000/\i.natAbs<2 ^ 64
noncomputable def CMul(i j:Int):Prop:=(-(2 ^ 64)<i/\i<2 ^ 64)∨(-(2 ^ 64)<j/\j<2 ^ 64)
theorem CMul.ok{i j:Int}(h:CMul i j):IntMulOk i j:=by
 rcases h with ⟨h1,h2⟩ | ⟨h1,h2⟩
 ·exact .of_left (intBits_le_64 h1 h2)
 ·exact .of_right (intBits_le_64 h1 h2)
theorem YM(k:Nat):(0:Int)<=2 ^ k:=by
 rw[two_pow_cast]
 exact Int.natCast_nonneg _
theorem yY:OpR X (binaryOp .Add) (rI0 fun i j=>.int (i+j)):=zfL fun _ _ _ _ _ _ _ q=>add_int q
theorem zf5:OpR X (binaryOp .Sub) (rI0 fun i j=>.int (i-j)):=zfL fun _ _ _ _ _ _ _ q=>sub_int q
theorem zcE:OpR X (binaryOp .Mult) (rI CMul fun i j=>.int (i*j)):=opI fun _ _ _ _ _ _ _ hc q=>mul_int q hc.ok
theorem zdI:OpR X (binaryOp .FloorDiv) (rI CDiv fun i j=>.int (i / j)):=opI fun i j _ _ _ _ _ hc q=>by
 have h1:(0:Int)<j:=hc.1
 have h2:j<1073741824:=hc.2
 exact floordiv_int (by omega) (by rw[Int.fdiv_eq_ediv_of_nonneg i (by omega)];exact q) (.inl (PyProof.noPylong_small (by omega)))
theorem za0:OpR X (binaryOp .Mod) (rI (fun _ j=>0<j) fun i j=>.int (i % j)):=opI fun i j _ _ _ _ _ hc q=>by
 have h1:(0:Int)<j:=hc
 exact mod_int' (by omega) (by rw[Int.fmod_eq_emod_of_nonneg i (by omega)];exact q)
theorem zgd:OpR X (binaryOp .Pow) (rI zg8 fun i j=>.int (i ^ j.toNat)):=opI fun _ _ _ _ _ _ _ hc q=>pow_int_small hc.1 hc.2.1 hc.2.2 q
theorem zfG:OpR X (binaryOp .LShift) (rI zg8 fun i j=>.int (i*2 ^ j.toNat)):=opI fun _ _ _ _ _ _ _ hc q=>lshift_int_small hc.1 hc.2.1 hc.2.2 q
theorem zf9:OpR X (binaryOp .RShift) (rI (fun _ j=>0<=j) fun i j=>.int (i / 2 ^ j.toNat)):=opI fun i j _ _ _ _ _ hc q=>
 rshift_int hc (by rw[Int.fdiv_eq_ediv_of_nonneg i (YM _)];exact q)
theorem zfX:OpR X (binaryOp .BitAnd) (rI0 fun i j=>.int (Builtin.bitAnd i j)):=zfL fun _ _ _ _ _ _ _ q=>and_int q
theorem unI{f:Value->Sem Value}{g:Int->Int}
  (rule:∀ (i:Int) (t:Tok) (s:Shared) (Q:Value->Shared->Prop) (E:Value->Shared->Prop),Q (.int (g i) s.toks) { s with toks:=s.toks+1 }->wpAny (model X.prog X.w) X.A (f (.int i t)) Q E s) :
  UnR X f (rU fun i=>.int (g i)):=by
 intro pins s σ H x v Q I rx h
 obtain⟨i,rfl,q⟩:=h
 obtain⟨t,rfl⟩:=rx
 exact rule i t s _ _ ⟨.int (g i),H,I.tok _,⟨_,rfl⟩,q⟩
theorem zfY:UnR X (unaryOp .USub) (rU fun i=>.int (-i)):=unI fun _ _ _ _ _ q=>neg_int q
end
section
variable {X:Cx} {a b c:Expr} {ta tb tc:TE} {pos:Pos}
theorem za5{pins:List (Addr×Obj)}{σ:St}{H:Hp}{s:Shared}{Q:VK}{k k':Bool}(I:Inv X pins σ H s)(q:Q (.bl k) H)(e:k=k'):EP X pins σ Q (.bool k') s:=by
 subst e
 exact⟨.bl k,H,I,rfl,q⟩
theorem zhH:OpR X (compareOp .Lt) (rI0 fun i j=>.bl (decide (i<j))):=zdQ fun _ _ _ _ _ _ _ q=>lt_int q
theorem zgX:OpR X (compareOp .LtE) (rI0 fun i j=>.bl (decide (i<=j))):=zdQ fun _ _ _ _ _ _ _ q=>le_int q
theorem zgZ:OpR X (compareOp .Gt) (rI0 fun i j=>.bl (decide (j<i))):=zdQ fun _ _ _ _ _ _ _ q=>gt_int q
theorem zgV:OpR X (compareOp .GtE) (rI0 fun i j=>.bl (decide (j<=i))):=zdQ fun _ _ _ _ _ _ _ q=>ge_int q
theorem zf8:OpR X (compareOp .Is) (fun x y H Q=>y=.non/\Q (.bl (decide (x=.non))) H):=by
 intro pins s σ H x y v u Q I rx ry h
 obtain⟨rfl,q⟩:=h
 cases ry
 refine is_none_gen (za5 I q ?_)
 cases x<;>first
  | (cases rx;rfl)
  | (obtain⟨t,rfl⟩:=rx;rfl)
theorem zep:OpR X (compareOp .IsNot) (fun x y H Q=>y=.non/\Q (.bl (!decide (x=.non))) H):=by
 intro pins s σ H x y v u Q I rx ry h
 obtain⟨rfl,q⟩:=h
 cases ry
 refine isnot_none_gen (za5 I q ?_)
 cases x<;>first
  | (cases rx;rfl)
  | (obtain⟨t,rfl⟩:=rx;rfl)
theorem zcX{op:CmpOp}{r:R2}(ho:OpR X (compareOp op) r)(ha:PE X a ta)(hb:PE X b tb)(hm:behindInMarks op b=false):PE X (.Compare a [op] [b] pos) (tOp r ta tb):=by
 intro pins s σ H Q I h
 exact wpAny_Compare1 (zfV ha hb I h fun v u s2 x y H2 I2 rx ry q=>ho pins s2 σ H2 x y v u Q I2 rx ry q) hm
noncomputable def zeD(t:TE):TT:=fun σ H Q=>t σ H fun x H'=>∃ k,x=.bl k/\Q k H'
theorem zd9{op:CmpOp}{r:R2}(ho:OpR X (compareOp op) r)(ha:PE X a ta)(hb:PE X b tb)(hm:behindInMarks op b=false):PT X (.Compare a [op] [b] pos) (zeD (tOp r ta tb)):=by
 intro pins s σ H Q I h
 refine wpAny_isTrue_Compare1 (thn (ha pins s σ H _ I h) fun v s1 ⟨x,H1,I1,r1,q1⟩=>thn (hb pins s1 σ H1 _ I1 q1) fun u s2 ⟨y,H2,I2,r2,q2⟩=>
  thn (ho pins s2 σ H2 x y v u _ I2 r1 r2 q2) fun c s3 ⟨z,H3,I3,r3,k,e,q3⟩=>?_) hm
 subst e
 cases r3
 exact wpAny_truthy_bool ⟨H3,I3,q3⟩
noncomputable def yO(r r':R2)(ta tb tc:TE):TE:=fun σ H Q=>ta σ H fun x H1=>tb σ H1 fun y H2=>r x y H2 fun z H3=>∃ k,z=.bl k /\
 (if k=true then tc σ H3 fun w' H4=>r' y w' H4 Q else Q (.bl false) H3)
theorem zau{op op':CmpOp}{r r':R2}(ho:OpR X (compareOp op) r)(ho':OpR X (compareOp op') r')(ha:PE X a ta)(hb:PE X b tb)(hc:PE X c tc)
  (hm:lastMarks [op,op'] [b,c]=false:=by with_unfolding_all rfl):PE X (.Compare a [op,op'] [b,c] pos) (yO r r' ta tb tc):=by
 intro pins s σ H Q I h
 refine Compare_chain (thn (ha pins s σ H _ I h) fun v s1 ⟨x,H1,I1,r1,q1⟩=>chain_link (thn (hb pins s1 σ H1 _ I1 q1) fun u s2 ⟨y,H2,I2,r2,q2⟩=>
  thn (ho pins s2 σ H2 x y v u _ I2 r1 r2 q2) fun d s3 ⟨z,H3,I3,r3,k,e,q3⟩=>?_)) hm
 subst e
 cases r3
 refine wpAny_truthy_bool ?_
 cases k with
 |false=>exact ite_ff ⟨.bl false,H3,I3,rfl,q3⟩
 |true=>exact ite_tt (chain_last (thn (hc pins s3 σ H3 _ I3 q3) fun w' s4 ⟨z',H4,I4,r4,q4⟩=>ho' pins s4 σ H4 y z' u w' Q I4 r2 r4 q4))
theorem za4{op op':CmpOp}{r r':R2}(ho:OpR X (compareOp op) r)(ho':OpR X (compareOp op') r')(ha:PE X a ta)(hb:PE X b tb)(hc:PE X c tc)
  (hm:lastMarks [op,op'] [b,c]=false:=by with_unfolding_all rfl):PT X (.Compare a [op,op'] [b,c] pos) (zeD (yO r r' ta tb tc)):=by
 intro pins s σ H Q I h
 refine isTrue_chain (thn (ha pins s σ H _ I h) fun v s1 ⟨x,H1,I1,r1,q1⟩=>test_link (thn (hb pins s1 σ H1 _ I1 q1) fun u s2 ⟨y,H2,I2,r2,q2⟩=>
  thn (ho pins s2 σ H2 x y v u _ I2 r1 r2 q2) fun d s3 ⟨z,H3,I3,r3,k,e,q3⟩=>?_)) hm
 subst e
 cases r3
 refine wpAny_truthy_bool ?_
 cases k with
 |false=>
  obtain⟨k',e',q'⟩:=q3
  cases e'
  exact ite_ff ⟨H3,I3,q'⟩
 |true=>
  refine ite_tt (test_last (thn (hc pins s3 σ H3 _ I3 q3) fun w' s4 ⟨z',H4,I4,r4,q4⟩=>thn (ho' pins s4 σ H4 y z' u w' _ I4 r2 r4 q4) fun d' s5 ⟨z2,H5,I5,r5,k2,e2,q5⟩=>?_))
  subst e2
  cases r5
  exact wpAny_truthy_bool ⟨H5,I5,q5⟩
noncomputable def zes(K:PySem.W.Frag)(x:V)(H:Hp)(k:Bool):Prop :=
 match x with
 |.non=>k=false
 |.bl b=>k=b
 |.int i=>k=(i !=0)
 |.str y=>y.length<=sizeLine/\k=((y.length:Int) !=0)
 |.byt y=>y.size<=sizeLine/\k=((y.size:Int) !=0)
 |.ref p=>(∃ xs,SqL K H p xs/\k= !xs.isEmpty)∨(∃ xs,SqT K H p xs/\k= !xs.isEmpty)∨∃ kvs,H p=some (.dK kvs)/\k= !kvs.isEmpty
 |_=>False
theorem Yh{κ:Type}{kvs:List (κ×V)}{vs:List (κ×Value)}(r:KV kvs vs):(!vs.isEmpty)= !kvs.isEmpty:=by
 cases r<;>rfl
theorem J8{xs:List V}{its:List Value}(r:Vals xs its):(!its.toArray.isEmpty)= !xs.isEmpty:=by
 cases r<;>simp
theorem wj:(sizeLine:Nat)<2 ^ 63:=by rw[sizeLine_eq];decide
theorem zcW:TruR X (fun x H Q=>∃ k,zes X.K x H k/\Q k H):=by
 intro pins s σ H x v Q I rx h
 obtain⟨k,e,q⟩:=h
 have hl:=wj
 have hs:sizeLine=16777216:=sizeLine_eq
 cases x with
 |non=>
  cases rx
  have e':k=false:=e
  subst e'
  exact truthy_none ⟨H,I,q⟩
 |bl b=>
  cases rx
  have e':k=b:=e
  subst e'
  exact wpAny_truthy_bool ⟨H,I,q⟩
 |int i=>
  obtain⟨t,rfl⟩:=rx
  have e':k=(i !=0):=e
  subst e'
  exact PySem.P.truthy_int ⟨H,I,q⟩
 |str y=>
  obtain⟨t,rfl⟩:=rx
  obtain⟨hy,e'⟩:y.length<=sizeLine/\k=((y.length:Int) !=0):=e
  subst e'
  exact PySem.P.truthy_str (by omega) ⟨H,I.tok _,q⟩
 |byt y=>
  obtain⟨t,rfl⟩:=rx
  obtain⟨hy,e'⟩:y.size<=sizeLine/\k=((y.size:Int) !=0):=e
  subst e'
  exact PySem.W.truthy_bytes (by omega) ⟨H,I.tok _,q⟩
 |ref p=>
  cases rx
  have e':(∃ xs,SqL X.K H p xs/\k= !xs.isEmpty)∨(∃ xs,SqT X.K H p xs/\k= !xs.isEmpty)∨∃ kvs,H p=some (.dK kvs)/\k= !kvs.isEmpty:=e
  rcases e' with ⟨xs,hx,e'⟩ | ⟨xs,hx,e'⟩ | ⟨kvs,hx,e'⟩
  ·subst e'
   obtain⟨its,r,pl,hz⟩:=I.list hx
   have hlen:=r.length
   exact wpAny_truthy_list pl.isList (by simp only[xq];omega) ⟨H,I.tok _,by rw[J8 r];exact q⟩
  ·subst e'
   obtain⟨its,r,pl,hz⟩:=I.tuple hx
   have hlen:=r.length
   exact truthy_tuple pl (by simp only[xq];omega) ⟨H,I.tok _,by rw[J8 r];exact q⟩
  ·subst e'
   obtain⟨hz,hS,vs,r,m⟩:kvs.length<=sizeLine/\(p==sysModules)=false/\∃ vs,KV kvs vs/\s.heap.DictOf (vN X.prog X.w) p vs:=I.hok p _ hx
   have hlen:kvs.length=vs.length:=Paired.length r
   exact wpAny_truthy_dict hS m (by omega) ⟨H,I.tok _,by rw[Yh r];exact q⟩
 |_=>exact (show False from e).elim
theorem zaV(ha:PE X a ta)(he:∀ whole,isTrue a X.env whole=(do let v<-whole;standAt a.pos;holding [v] (truthy v))) :
  PT X a (fun σ H Q=>ta σ H fun x H'=>∃ k,zes X.K x H' k/\Q k H'):=by
 intro pins s σ H Q I h
 exact isTrue_plain (thn (ha pins s σ H _ I h) fun v s1 ⟨x,H1,I1,r1,q1⟩=>zcW pins s1 σ H1 x v Q I1 r1 q1) (he _)
theorem Zj{x:V}{us:List Value}(r:Vals [x] us):∃ u,us= [u]/\RelV x u:=by
 cases r with
 |cons r1 r2=>cases r2;exact⟨_,rfl,r1⟩
theorem zcR{x y:V}{us:List Value}(r:Vals [x,y] us):∃ u w',us= [u,w']/\RelV x u/\RelV y w':=by
 cases r with
 |cons r1 r2=>
  cases r2 with
  |cons r3 r4=>cases r4;exact⟨_,_,rfl,r1,r3⟩
theorem zai (hc:X.calm=true):jm X (.builtin "max") (fun xs H Q=>∃ i j,xs= [.int i,.int j]/\Q (.int (if j>i then j else i)) H):=by
 intro pins s σ H xs us Q I r h
 obtain⟨i,j,rfl,q⟩:=h
 obtain⟨u,w',rfl,⟨t,rfl⟩,⟨t',rfl⟩⟩:=zcR r
 refine max_two_ints (I.ok.hd hc) fun h' tk k=>⟨_,H,I.kept k,?_,q⟩
 by_cases hj:j>i
 ·rw[if_pos hj,if_pos hj];exact⟨_,rfl⟩
 ·rw[if_neg hj,if_neg hj];exact⟨_,rfl⟩
theorem K5 (hc:X.calm=true):jm X (.builtin "min") (fun xs H Q=>∃ i j,xs= [.int i,.int j]/\Q (.int (if j<i then j else i)) H):=by
 intro pins s σ H xs us Q I r h
 obtain⟨i,j,rfl,q⟩:=h
 obtain⟨u,w',rfl,⟨t,rfl⟩,⟨t',rfl⟩⟩:=zcR r
 refine min_two_ints (I.ok.hd hc) fun h' tk k=>⟨_,H,I.kept k,?_,q⟩
 by_cases hj:j<i
 ·rw[if_pos hj,if_pos hj];exact⟨_,rfl⟩
 ·rw[if_neg hj,if_neg hj];exact⟨_,rfl⟩
theorem w5:jm X (.type "int") (fun xs H Q=>(∃ i,xs= [.int i]/\Q (.int i) H)∨∃ k,xs= [.bl k]/\Q (.int (if k then 1 else 0)) H):=by
 intro pins s σ H xs us Q I r h
 rcases h with ⟨i,rfl,q⟩ | ⟨k,rfl,q⟩
 ·obtain⟨u,rfl,t,rfl⟩:=Zj r
  exact call_int_int ⟨.int i,H,I,⟨_,rfl⟩,q⟩
 ·obtain⟨u,rfl,r1⟩:=Zj r
  cases r1
  exact call_int_bool ⟨.int (if k then 1 else 0),H,I.tok _,⟨_,rfl⟩,q⟩
end
end L2
namespace L2
open PySem PySem.Spec PyProof.Rows
structure ObjM(h:Heap)(x dx C:Addr)(mA:Str->Option Value):Prop where
 obj:h.get? x=some (PySem.W.instObj C dx)
 ns:h.Ns1 dx mA
 ne:dx≠x
theorem zan{h:Heap}{dx:Addr}{mA:Str->Option Value}(n:h.Ns1 dx mA):∃ od,h.get? dx=some od/\∀ name,PySem.W.lookIn name od=some (mA name):=by
 obtain⟨o,es,ep,ho,hd,hk,_,hm⟩:=n
 refine⟨o,ho,fun name=>?_⟩
 have e:=hm name
 unfold nsFind findBy at e
 rw[<- Array.find?_toList]at e
 unfold PySem.W.lookIn
 rw[hd]
 dsimp only
 split
 ·rename_i y q
  rw[q]at e
  exact congrArg some e
 ·rename_i q
  rw[q]at e
  have a:es.toList.any (·.refKey)=false:=by
   rw[List.any_eq_false]
   intro y hy
   obtain⟨z,t,hkey⟩:=hk y (Array.mem_toList_iff.mp hy)
   simp[DictEntry.refKey,hkey]
  have a':¬ es.toList.any (·.refKey)=true:=by rw[a];exact uy
  rw[if_neg a']
  exact congrArg some e
theorem ObjM.look{h:Heap}{x dx C:Addr}{mA:Str->Option Value}(I:ObjM h x dx C mA):∃ od,PySem.W.InstAt h x (PySem.W.instObj C dx) C (some od)/\∀ name,PySem.W.lookIn name od=some (mA name) :=
 let ⟨od,ho,hl⟩:=zan I.ns
 ⟨od,⟨I.obj,rfl,rfl,ho⟩,hl⟩
section
variable {prog:Program} {w:World} {A:Around} {E:Value->Shared->Prop} {s:Shared} {K:PySem.W.Frag} {x dx C f:Addr} {mA:Str->Option Value} {name:Str} {v:Value}
end
section
variable {P:Program} {w:World} {H H':Hp} {h h':Heap} {a C dx:Addr} {fs fs':List (Str×V)}
theorem zdP(hok:HOk P w H h)(e:H a=some (.ins C dx fs)):∃ mA,ObjM h a dx C mA/\(∀ f,zfp (fs.lookup f) (mA f))/\PySem.Within mA (fs.map (·.1))/\fs.length<=1000/\H dx=some (.own a):=by
 obtain⟨d,z,ne,ob,mA,n,r,q⟩:=(show ObjOk P w H h a (.ins C dx fs) from hok a _ e)
 exact⟨mA,⟨ob,n,ne⟩,r,q,z,d⟩
end
structure Cls(K:PySem.W.Frag)(C:Addr):Prop where
 pg:PySem.W.plainGet K C Str.empty=true
 hd:PySem.W.hasDictIn K C=true
 po:PySem.W.plainOver K C=true
 sa:PySem.W.findIn K (.ref C) "__setattr__" =some (some (.builtin "object.__setattr__"))
theorem Cls.get{K:PySem.W.Frag}{C:Addr}(c:Cls K C)(f:Str):PySem.W.plainGet K C f=true:=c.pg
section
variable {X:Cx} {pins:List (Addr×Obj)} {σ:St} {H:Hp} {s:Shared} {a C dx:Addr} {fs:List (Str×V)} {f:Str} {v:V} {A:Around} {E:Value->Shared->Prop}
end
section
variable {X:Cx} {o e value:Expr} {f:Str} {pos pos' tpos:Pos} {ta tv:TE}
end
section
variable {X:Cx} {pins:List (Addr×Obj)} {σ:St} {H:Hp} {s:Shared} {A:Around} {E:Value->Shared->Prop} {Q:Value->Shared->Prop} {c:Value} {b:Bool}
inductive Qk(K:PySem.W.Frag)(H:Hp):V->Value->Prop where
 |non:Qk K H .non (.type "NoneType")
 |bl (x:Bool):Qk K H (.bl x) (.type "bool")
 |int (i:Int):Qk K H (.int i) (.type "int")
 |str (x:Str):Qk K H (.str x) (.type "str")
 |flt (x:UInt64):Qk K H (.flt x) (.type "float")
 |lst {a:Addr} {xs:List V} (e:H a=some (.lst xs)):Qk K H (.ref a) (.type "list")
 |frz {a:Addr} {o:Obj} {xs:List V} (e:H a=some (.frz o (.lst xs))):Qk K H (.ref a) (.type "list")
 |tup {a:Addr} {xs:List V} (e:H a=some (.tup xs)):Qk K H (.ref a) (.type "tuple")
 |dK {a:Addr} {kvs:List (Key×V)} (e:H a=some (.dK kvs)):Qk K H (.ref a) (.type "dict")
 |dT {a:Addr} {kvs:List (List Key×V)} (e:H a=some (.dT kvs)):Qk K H (.ref a) (.type "dict")
 |ins {a C dx:Addr} {fs:List (Str×V)} (e:H a=some (.ins C dx fs)) (cl:Cls K C) (ha:PySem.W.findIn K (.ref C) "__class__" =some (some (.builtin "object.__class__")))
   (hn:PySem.W.specialIn K (.builtin "object.__class__") "__get__" =some (some (.builtin "getset_descriptor.__get__"))) (htk:PySem.W.takesIn K (.builtin "object.__class__")=some true)
   (hm:PySem.W.mroIn K C (.type "object")=some true):Qk K H (.ref a) (.ref C)
theorem K4{x:V}{u t:Value}(I:Inv X pins σ H s)(rx:RelV x u)(ty:Qk X.K H x t)(e:PySem.W.kitOne X.K t c=some b)(h:∀ tk,Q (.bool b) { s with toks:=tk }) :
  wpAny (model X.prog X.w) A (call (.builtin "isinstance") [u,c]) Q E s:=by
 cases ty with
 |non=>cases (show u=Value.none from rx);exact PySem.W.kia_one PySem.W.kitx_none I.kIn True.intro e (fun z=>nomatch z) h
 |bl y=>cases (show u=Value.bool y from rx);exact PySem.W.kia_one PySem.W.kitx_bool I.kIn True.intro e (fun z=>nomatch z) h
 |int i=>obtain⟨t,q⟩:=(show ∃ t,u=Value.int i t from rx);cases q;exact PySem.W.kia_one PySem.W.kitx_int I.kIn True.intro e (fun z=>nomatch z) h
 |str y=>obtain⟨t,q⟩:=(show ∃ t,u=Value.str y t from rx);cases q;exact PySem.W.kia_one PySem.W.kitx_str I.kIn True.intro e (fun z=>nomatch z) h
 |flt y=>obtain⟨t,q⟩:=(show ∃ t,u=Value.float y t from rx);cases q;exact PySem.W.kia_one PySem.W.kitx_float I.kIn True.intro e (fun z=>nomatch z) h
 | @lst a xs ea=>
  cases (show u=Value.ref a from rx)
  obtain⟨_,_,n,_,h1⟩:=(show ObjOk X.prog X.w H s.heap a (.lst xs) from I.hok a _ ea)
  exact PySem.W.kia_one PySem.W.kitx_list I.kIn ⟨_,h1,rfl⟩ e (fun z=>nomatch z) h
 | @frz a ob xs ea=>
  cases (show u=Value.ref a from rx)
  obtain⟨_,_,_,n,_,h1⟩:=(show ObjOk X.prog X.w H s.heap a (.frz ob (.lst xs)) from I.hok a _ ea)
  exact PySem.W.kia_one PySem.W.kitx_list I.kIn ⟨_,h1,rfl⟩ e (fun z=>nomatch z) h
 | @tup a xs ea=>
  cases (show u=Value.ref a from rx)
  obtain⟨_,_,_,p⟩:=(show ObjOk X.prog X.w H s.heap a (.tup xs) from I.hok a _ ea)
  obtain⟨o,h1,h2,_⟩:=p
  exact PySem.W.kia_one PySem.W.kitx_tuple I.kIn ⟨o,h1,h2⟩ e (fun z=>nomatch z) h
 | @dK a kvs ea=>
  cases (show u=Value.ref a from rx)
  obtain⟨_,_,vs,_,p⟩:=(show ObjOk X.prog X.w H s.heap a (.dK kvs) from I.hok a _ ea)
  obtain⟨o,es,ep,h1,h2,_⟩:=p
  exact PySem.W.kia_one PySem.W.kitx_dict I.kIn ⟨o,h1,h2.1⟩ e (fun z=>nomatch z) h
 | @dT a kvs ea=>
  cases (show u=Value.ref a from rx)
  obtain⟨_,_,xs,_,o,es,ep,h1,h2,_⟩:=(show ObjOk X.prog X.w H s.heap a (.dT kvs) from I.hok a _ ea)
  exact PySem.W.kia_one PySem.W.kitx_dict I.kIn ⟨o,h1,h2.1⟩ e (fun z=>nomatch z) h
 | @ins a C dx fs ea cl ha hn htk hm=>
  cases (show u=Value.ref a from rx)
  obtain⟨mA,O,_⟩:=zdP I.hok ea
  obtain⟨od,J,_⟩:=O.look
  exact PySem.W.kia_one (PySem.W.kitx_own (cl.get _) cl.hd ha hn htk hm) I.kIn J e (fun z=>nomatch z) h
end
end L2
namespace L2
open PySem PySem.Spec PyProof.Rows
structure Room(k:Nat)(A:Around):Prop where
 hd:A.handled=none
 dp:A.depth+3*k+5<recursionLimit
 un:A.units+16*k+200<cLine
theorem Room.mono{j k:Nat}{A:Around}(r:Room k A)(h:j<=k):Room j A:=⟨r.hd,by have:=r.dp;omega,by have:=r.un;omega⟩
theorem Room.deeper{k:Nat}{A:Around}(r:Room (k+1) A)(env:Env):Room k (A.deeper env) :=
 ⟨r.hd,by have:=r.dp;show A.depth+1+3*k+5<_;omega,by have:=r.un;show A.units+3+16*k+200<_;omega⟩
theorem Room.in1{k:Nat}{A:Around}(r:Room (k+1) A):Room k A.in1 :=
 ⟨r.hd,by have:=r.dp;show A.depth+3*k+5<_;omega,by have:=r.un;show A.units+1+16*k+200<_;omega⟩
theorem Room.depth{k:Nat}{A:Around}(r:Room k A):A.depth<recursionLimit:=by have:=r.dp;omega
theorem Room.units{k:Nat}{A:Around}(r:Room k A):A.units+64<cLine:=by have:=r.un;omega
noncomputable def zbn:TA:=fun _ H Q=>Q [] H
noncomputable def YU(ta:TE)(tr:TA):TA:=fun σ H Q=>ta σ H fun x H1=>tr σ H1 fun xs H2=>Q (x::xs) H2
section
variable {X:Cx} {e:Expr} {es:List Expr} {te:TE} {t:TA} {pos:Pos}
theorem pa_nil:PA X [] zbn:=fun _ _ _ _ H Q I h=>Calls.spliced_nil ⟨[],H,I,.nil,h⟩
theorem zy(ha:PE X e te)(hr:PA X es t)(hs:starEach (e::es) X.env=(false,eval e X.env)::starEach es X.env:=by rfl):PA X (e::es) (YU te t):=by
 intro pos pins s σ H Q I h
 rw[hs]
 show wpAny _ _ (spliced ((false,eval e X.env)::backTo pos (starEach es X.env))) _ _ s
 refine Calls.spliced_cons (thn (ha pins s σ H _ I h) fun u s1 ⟨x,H1,I1,r1,q1⟩=>?_)
 exact thn (hr pos pins s1 σ H1 _ I1 q1) fun us s2 ⟨xs,H2,I2,r2,q2⟩=>⟨x::xs,H2,I2,.cons r1 r2,q2⟩
noncomputable def tTup(t:TA):TE:=fun σ H Q=>t σ H fun xs H1=>xs.length<=sizeLine/\∀ p,H1 p=none->Q (.ref p) (upd H1 p (.tup xs))
noncomputable def tLst(t:TA):TE:=fun σ H Q=>t σ H fun xs H1=>xs.length<=sizeLine/\∀ p,H1 p=none->Q (.ref p) (upd H1 p (.lst xs))
theorem zgq{x1}(h:PA X es t):PE X (.Tuple es x1 pos) (tTup t):=by
 intro pins s σ H Q I hq
 refine wpAny_Tuple_spliced (thn (h pos pins s σ H _ I hq) fun us s1 ⟨xs,H1,I1,r,z,q⟩=>⟨by rw[<- r.length];exact z,?_⟩)
 have hf:H1 s1.heap.objs.size=none:=I1.hok.fresh (xn _)
 refine⟨.ref s1.heap.objs.size,upd H1 s1.heap.objs.size (.tup xs),I1.laid (t':=s1.toks) (fun b u e=>Heap.get?_push_of_some _ e) (xn _) ?_,rfl,q _ hf⟩
 exact⟨z,us,r,⟨_,Heap.get?_push_size _ rfl,rfl,_,rfl⟩⟩
theorem zcu(h:PA X es t):PE X (.List es pos) (tLst t):=by
 intro pins s σ H Q I hq
 refine wpAny_List_spliced (thn (h pos pins s σ H _ I hq) fun us s1 ⟨xs,H1,I1,r,z,q⟩=>⟨by rw[<- r.length];exact z,?_⟩)
 have hf:H1 s1.heap.objs.size=none:=I1.hok.fresh (xn _)
 refine⟨.ref s1.heap.objs.size,upd H1 s1.heap.objs.size (.lst xs),I1.laid (t':=s1.toks) (fun b u e=>Heap.get?_push_of_some _ e) (xn _) ?_,rfl,q _ hf⟩
 exact⟨z,us,0,r,Heap.get?_push_size _ rfl⟩
end
noncomputable abbrev Sp:=List V->Hp->VK->XK->Prop
noncomputable abbrev CXT:=List Env->Hp->Shared->XK->Value->Shared->Prop
structure zc7(P:Program)(w:World)(K:PySem.W.Frag)(mg:Str->Option Value)(base:Heap)(A:Around)(outer:List Env)(s:Shared)(H:Hp):Prop where
 frames:A.frames=some outer
 mod:Mod K mg base
 bs:∀ b o,base.get? b=some o->s.heap.get? b=some o/\H b=none
 bsz:base.objs.size<=s.heap.objs.size
 funs:s.heap.FunFrames base outer
 frf:∀ b∈frs outer,H b=none
 hok:HOk P w H s.heap
 bare:AllBare s.gens
noncomputable def CE(outer:List Env)(P:Program)(w:World)(H:Hp)(s:Shared)(Q:VK)(u:Value)(s':Shared):Prop :=
 ∃ v H',s'.os=s.os/\AllBare s'.gens/\Un (frs outer) [] H H' s.heap s'.heap/\HOk P w H' s'.heap/\RelV v u/\Q v H'
noncomputable def CR(CX:CXT)(outer:List Env)(P:Program)(w:World)(H:Hp)(s:Shared)(Q:VK)(E:XK)(r:Result)(s':Shared):Prop :=
 match r with
 |.ok (.ret u)=>CE outer P w H s Q u s'
 |.ok _=>False
 |.error e=>CX outer H s E e s'
structure we(P:Program)(w:World)(K:PySem.W.Frag)(mg:Str->Option Value)(base:Heap)(CX:CXT)(k:Nat)(f:Addr)(fd:FuncData)(ps:List Str)(sp:Sp):Prop where
 len:∀ vs H Q E,sp vs H Q E->vs.length=ps.length
 run:∀ (A:Around) (outer:List Env) (s:Shared) (H:Hp) (args:Args) (us:List Value) (vs:List V) (Q:VK) (E:XK),Room k A->zc7 P w K mg base A outer s H->BindsTo s fd args (ps.zip us)->Vals vs us->sp vs H Q E ->
  codeAny (model P w) A (.call (.ref f) args) (CR CX outer P w H s Q E) s
section
variable {X:Cx} {pins:List (Addr×Obj)} {σ:St} {H:Hp} {s s':Shared}
theorem Inv.env0(I:Inv X pins σ H s):zc7 X.prog X.w X.K X.mg X.base X.A X.stack s H :=
 ⟨I.ok.frames,I.ok.mod,I.bs,xL I.ok.bsz I.sz,I.stack,I.stkFree,I.hok,I.bare⟩
theorem Inv.after{Q:VK}{u:Value}(I:Inv X pins σ H s)(h:CE X.stack X.prog X.w H s Q u s'):EP X pins σ Q u s':=by
 obtain⟨v,H',os,bare,un,hok,r,q⟩:=h
 obtain⟨hh,g,d,t,os'⟩:=s'
 obtain rfl:os'=s.os:=os
 exact⟨v,H',I.call (h':=hh) (g':=g) (d':=d) (t':=t) (ch:= []) un hok bare (fun b z=>absurd z (by simp)),r,q⟩
end
noncomputable def zeF(sp:Sp)(dvs:List V)(E:XK)(t:TA):TE:=fun σ H Q=>t σ H fun vs H1=>sp (vs++dvs) H1 Q E
noncomputable def Binds(K:PySem.W.Frag)(fd:FuncData)(ps:List Str)(ds:List Value):Prop :=
 ∀ (s:Shared) (us:List Value),K.In s.heap->(us++ds).length=ps.length->BindsTo s fd ⟨us,[]⟩ (ps.zip (us++ds))
theorem Binds.all{K:PySem.W.Frag}{fd:FuncData}{ps:List Str}(h:∀ us:List Value,us.length=ps.length->bindArgs fd ⟨us,[]⟩=pure (ps.zip us)):Binds K fd ps []:=fun s us _ hl=>by
 rw[uf]at hl |-
 exact .of_eq (h us hl)
noncomputable def wH(CX:CXT)(X:Cx)(E:XK):Prop:=∀ (pins:List (Addr×Obj)) (σ:St) (H:Hp) (s:Shared) (e:Value) (s':Shared),Inv X pins σ H s->CX X.stack H s E e s'->X.xe e s'
section
variable {X:Cx} {CX:CXT} {k:Nat} {f C:Addr} {fd:FuncData} {ps:List Str} {sp:Sp} {dvs:List V} {ds:List Value} {E:XK} {x m:Str} {p pos apos:Pos} {e o:Expr} {es:List Expr} {ta:TE} {t:TA}
theorem zcg{pins:List (Addr×Obj)}{σ:St}{H:Hp}{s:Shared}{Q:VK}{us:List Value}{vs:List V}(F:we X.prog X.w X.K X.mg X.base CX k f fd ps sp)(hr:Room k X.A)(hb:Binds X.K fd ps ds)(hd:Vals dvs ds)(hx:wH CX X E)
  (I:Inv X pins σ H s) (r:Vals vs us) (h:sp (vs++dvs) H Q E):wpAny (model X.prog X.w) X.A (call (.ref f) us) (EP X pins σ Q) X.xe s:=by
 have r2:Vals (vs++dvs) (us++ds):=r.append hd
 have hl:(us++ds).length=ps.length:=by rw[<- r2.length];exact F.len _ _ _ _ h
 refine wpAny_call (codeAny_mono (F.run X.A X.stack s H ⟨us,[]⟩ (us++ds) (vs++dvs) Q E hr I.env0 (hb s us I.kIn hl) r2 h) fun r s' hq=>?_)
 cases r with
 |error e=>exact hx pins σ H s e s' I hq
 |ok fl=>
  cases fl with
  |ret u=>exact I.after hq
  |next=>exact False.elim hq
  |brk=>exact False.elim hq
  |cont=>exact False.elim hq
theorem zel(F:we X.prog X.w X.K X.mg X.base CX k f fd ps sp)(hr:Room k X.A)(hg:Gl X x)(hm:X.mg x=some (.ref f))(hk:PySem.W.keepIn X.K (.ref f)=true)(hb:Binds X.K fd ps ds)(hd:Vals dvs ds)(hx:wH CX X E)
  (ha:PA X (e::es) t) (hdb:(x==("__debug__" :Str))=false:=by decide) (he:starEach (e::es) X.env=(false,eval e X.env)::starEach es X.env:=by rfl) (hpl:(backTo pos (starEach es X.env)).any (·.1)=false:=by rfl) :
  PE X (.Call (.Name x p) (e::es) [] pos) (zeF sp dvs E t):=by
 intro pins s σ H Q I h
 refine wpAny_Call_Name_kw (vf I hg hm ?_ hdb)
 refine PySem.W.callWith_K (h₀:=X.base) I.ok.mod.kin hk (thn (ha pos pins s σ H _ I h) fun us s1 ⟨vs,H1,I1,r,q⟩=>⟨I1.kIn,?_⟩) he hpl
 exact zcg F hr hb hd hx I1 r q
theorem zaD(F:we X.prog X.w X.K X.mg X.base CX k f fd ps sp)(hr:Room k X.A)(hg:Gl X x)(hm:X.mg x=some (.ref f))(hk:PySem.W.keepIn X.K (.ref f)=true)(hb:Binds X.K fd ps ds)(hd:Vals dvs ds)(hx:wH CX X E)
  (hdb:(x==("__debug__" :Str))=false:=by decide):PE X (.Call (.Name x p) [] [] pos) (zeF sp dvs E zbn):=by
 intro pins s σ H Q I h
 refine wpAny_Call_Name_kw (vf I hg hm ?_ hdb)
 exact PySem.W.callWith_K0 I.kIn hk (zcg (us:= []) F hr hb hd hx I .nil h)
end
section
variable {X:Cx} {CX:CXT} {k:Nat} {f C:Addr} {fd:FuncData} {ps ks:List Str} {sp:Sp} {E:XK} {x m:Str} {p pos apos kpos:Pos} {e o:Expr} {es:List Expr} {kws:List Keyword} {te ta:TE} {t tk:TA} {nm:Option Str}
variable {g:List Value->List Value->List Value} {gV:List V->List V->List V}
end
structure qN(N P:List Str)(sc:Scope):Prop where
 kind:sc.kind=.function
 co:sc.isCoroutine=false
 gen:sc.isGenerator=false
 nd:N.Nodup
 pre:N.take P.length=P
 par:∀ x∈P,sc.names.lookup x=some .local∨sc.names.lookup x=some .cell
 nofree:∀ y∈sc.names,y.2≠ .free
theorem Wj{kindOf:Str->Option NameKind}{x:Str}:∀ {binds:List (Str×Value)}{m:Str->Option Value},(∀ v,(x,v)∉binds)->bindL kindOf binds m x=m x
 |[],_,_=>rfl
 | (n,v)::r,m,h=>by
  unfold bindL
  rw[Wj fun w hw=>h w (xi _ hw)]
  split
  ·have:x≠n:=by rintro rfl;exact h v xz
   simp[this]
  ·rfl
theorem Wr{kindOf:Str->Option NameKind}{x:Str}:∀ {binds:List (Str×Value)}{m:Str->Option Value},(∀ v,(x,v)∉binds)->bindC kindOf binds m x=m x
 |[],_,_=>rfl
 | (n,v)::r,m,h=>by
  unfold bindC
  rw[Wr fun w hw=>h w (xi _ hw)]
  split
  ·rfl
  ·have:x≠n:=by rintro rfl;exact h v xz
   simp[this]
theorem Wf{kindOf:Str->Option NameKind}{x:Str}{v:Value}:∀ {P:List Str}{vs:List Value}{i:Nat}{m:Str->Option Value},P.Nodup->P[i]?=some x->vs[i]?=some v->kindOf x=some .local ->
  bindL kindOf (P.zip vs) m x=some v
 |[],_,_,_,_,h,_,_=>by simp at h
 |_::_,[],_,_,_,_,h,_=>by simp at h
 |p::P,w::vs,0,m,nd,h1,h2,hk=>by
  simp at h1 h2;subst h1;subst h2
  show bindL kindOf ((p,w)::P.zip vs) m p=_
  unfold bindL
  rw[Wj fun v hv=>(xB.mp nd).1 (List.of_mem_zip hv).1,if_pos hk]
  simp
 |p::P,w::vs,i+1,m,nd,h1,h2,hk=>by
  show bindL kindOf ((p,w)::P.zip vs) m x=_
  unfold bindL
  exact Wf (i:=i) (xB.mp nd).2 (by simpa using h1) (by simpa using h2) hk
theorem WN{kindOf:Str->Option NameKind}{x:Str}{v:Value}:∀ {P:List Str}{vs:List Value}{i:Nat}{m:Str->Option Value},P.Nodup->P[i]?=some x->vs[i]?=some v->kindOf x≠some .local ->
  bindC kindOf (P.zip vs) m x=some v
 |[],_,_,_,_,h,_,_=>by simp at h
 |_::_,[],_,_,_,_,h,_=>by simp at h
 |p::P,w::vs,0,m,nd,h1,h2,hk=>by
  simp at h1 h2;subst h1;subst h2
  show bindC kindOf ((p,w)::P.zip vs) m p=_
  unfold bindC
  rw[Wr fun v hv=>(xB.mp nd).1 (List.of_mem_zip hv).1,if_neg hk]
  simp
 |p::P,w::vs,i+1,m,nd,h1,h2,hk=>by
  show bindC kindOf ((p,w)::P.zip vs) m x=_
  unfold bindC
  exact WN (i:=i) (xB.mp nd).2 (by simpa using h1) (by simpa using h2) hk
noncomputable def start(N:List Str)(vs:List V):St:=vs.map some++List.replicate (N.length-vs.length) none
noncomputable def ZN(CX:CXT)(P:Program)(w:World)(K:PySem.W.Frag)(mg:Str->Option Value)(base:Heap)(N:List Str)(qual:Str)(scope:Scope)(f:Addr)(cd:Value)(A:Around)(outer:List Env)(s:Shared)(H:Hp)(E:XK):Cx where
 prog:=P
 w:=w
 K:=K
 mg:=mg
 base:=base
 A:=A.deeper (envOfC qual scope s.heap.objs.size f cd)
 N:=N
 s₀:=s
 H₀:=H
 env:=envOfC qual scope s.heap.objs.size f cd
 outer:=outer
 stack:=envOfC qual scope s.heap.objs.size f cd::outer
 ex:= []
 calm:=true
 fn:=fun _=>true
 pn:= []
 xe:=fun e s'=>wpAny (model P w) (A.deeper (envOfC qual scope s.heap.objs.size f cd)) (leaving (envOfC qual scope s.heap.objs.size f cd) e) (fun _ s''=>CX outer H s E e s'') (fun e' s''=>CX outer H s E e' s'') s'
theorem Z7{sc:Scope}{n:Nat}{x:Str}(h:sc.names.lookup x=some .cell):∃ c,(cellsFrom n sc.names []).lookup x=some c:=by
 have q:=PySem.W.cellsFrom_some sc.names n [] (.inl h)
 exact Option.isSome_iff_exists.mp q
theorem KM{CX:CXT}{P:Program}{w:World}{K:PySem.W.Frag}{mg:Str->Option Value}{base:Heap}{N ps:List Str}{qual:Str}{scope:Scope}{f:Addr}{cd:Value}{A:Around}{outer:List Env}{s s1:Shared}{H:Hp}{E:XK}{us:List Value}{vs:List V}
  (S:qN N ps scope) (hd:A.handled=none) (e0:zc7 P w K mg base A outer s H) (hl:vs.length=ps.length) (r:Vals vs us)
  (x:InCallC s s.heap.objs.size (bindL (envOfC qual scope s.heap.objs.size f cd).kindOf (ps.zip us) fun _=>none) (cellsFrom (s.heap.objs.size+1) scope.names []) (bindC (envOfC qual scope s.heap.objs.size f cd).kindOf (ps.zip us) fun _=>none) s1) :
  Inv (ZN CX P w K mg base N qual scope f cd A outer s H E) [] (start N vs) H s1:=by
 have hpl:ps.length<=N.length:=by have:=congrArg List.length S.pre;rw[xW]at this;omega
 obtain⟨h1,tk,rfl,hk⟩:=x.done
 have noA:∀ b:Addr,b∉(ZN CX P w K mg base N qual scope f cd A outer s H E).ex:=fun b z=>absurd (show b∈([]:List Addr) from z) (by simp)
 refine⟨⟨e0.mod,S.kind,rfl,rfl,xn _,fun y z c h1 h2=>?_,fun y hy=>?_,fun y c _ h=>?_,fun _=>hd,Around.frames_deeper e0.frames,.inr ⟨rfl,rfl⟩,fun b z=>absurd z (noA b),e0.bs,e0.bsz,fun b _ _=>noA b,fun b z=>absurd z (noA b),e0.funs,e0.frf⟩,
  rfl,e0.bare,Un.kept hk,⟨_,x.toInCall.ns,fun i y v h1 h2 h3=>?_⟩,fun y c h=>⟨_,x.cell y c h⟩,e0.hok.fresh (xn _),fun y c h=>?_,fun p hp=>absurd (show p∈([]:List (Addr×Obj)) from hp) (by simp),e0.hok.kept hk,?_⟩
 ·exact name_of_addr x.apart (PySem.mem_of_lookup h1) (PySem.mem_of_lookup h2)
 ·have hy:scope.names.lookup y=some .cell∨scope.names.lookup y=some .free:=hy
  rcases hy with hy | hy
  ·exact Z7 hy
  ·exact absurd rfl (S.nofree _ (PySem.mem_of_lookup hy))
 ·exact uo (x.above y c (PySem.mem_of_lookup h))
 ·have hi:i<vs.length:=by
   unfold start at h2
   by_cases hi:i<vs.length
   ·exact hi
   ·rw[xh (by simpa using hi)]at h2
    rw[xS]at h2
    split at h2<;>cases h2
  have ha:vs[i]?=some v:=by
   unfold start at h2
   rw[xf (by simpa using hi),xg]at h2
   cases e:vs[i]? with
   |none=>rw[e]at h2;cases h2
   |some a=>rw[e]at h2;cases h2;rfl
  obtain⟨u,hu,rv⟩:=r.get ha
  have hp:ps[i]?=some y:=by
   rw[<- S.pre,xX (by omega)];exact h1
  have ndP:ps.Nodup:=by rw[<- S.pre];exact S.nd.sublist (List.take_sublist _ _)
  refine⟨u,rv,?_⟩
  rcases S.par y (xF hp)with k | k
  ·exact .inl ⟨k,Wf ndP hp hu k⟩
  ·obtain⟨c,e⟩:=Z7 (n:=s.heap.objs.size+1) k
   refine .inr ⟨.inl k,c,e,?_⟩
   have q:=x.cell y c e
   rw[WN ndP hp hu (by show scope.names.lookup y≠_;rw[k];decide)]at q
   exact q
 ·exact e0.hok.fresh (uo (x.above y c (PySem.mem_of_lookup h)))
 ·unfold start
  show _=N.length
  rw[xw,xk,uE]
  omega
theorem zeG{CX:CXT}{P:Program}{w:World}{K:PySem.W.Frag}{mg:Str->Option Value}{base:Heap}{k:Nat}{f:Addr}{name qual:Str}{params:Arguments}{body:List Stmt}{scope:Scope}{dV kV doc pm cdv ct oc:Value}{an od:Option Addr}
  {osl:Array (Option Value)} {N ps:List Str} {sp:Sp} (lk:K.lookup f=some ⟨oc,od,.func (PySem.W.fnOf name qual params body scope dV kV doc pm an cdv ct),osl⟩) (hcd:PySem.W.codeIn K cdv qual=true) (S:qN N ps scope)
  (len:∀ vs H Q E,sp vs H Q E->vs.length=ps.length)
  (hbody:∀ (A:Around) (outer:List Env) (s:Shared) (H:Hp) (vs:List V) (Q:VK) (E:XK),Room k (A.deeper (envOfC qual scope s.heap.objs.size f cdv))->sp vs H Q E ->
   ∃ t,PSs (ZN CX P w K mg base N qual scope f cdv A outer s H E) body t/\t { nx:=fun _ H'=>Q .non H',rt:=Q } (start N vs) H) :
  we P w K mg base CX (k+1) f (PySem.W.fnOf name qual params body scope dV kV doc pm an cdv ct) ps sp:=by
 refine⟨len,fun A outer s H args us vs Q E hr e0 hb r hsp=>?_⟩
 have hl:=len _ _ _ _ hsp
 have KX:K.In s.heap:=e0.mod.kin.keeps fun b o e=>(e0.bs b o e).1
 have lim:s.heap.NoLimit:=e0.mod.nolimit.keeps fun b o e=>(e0.bs b o e).1
 have hkind:∀ y∈ps.zip us,scope.names.lookup y.1=some .local∨(scope.names.lookup y.1=some .cell/\((cellsFrom (s.heap.objs.size+1) scope.names []).lookup y.1).isSome=true):=fun ⟨n,v⟩ hy=>by
  rcases S.par n (List.of_mem_zip hy).1 with q | q
  ·exact .inl q
  ·exact .inr ⟨q,PySem.W.cellsFrom_some _ _ _ (.inl q)⟩
 refine codeAny_call_function hr.depth (KX _ _ lk) rfl S.co S.gen rfl (PySem.W.codeRec_of KX hcd) (hb _ _ _ _ ?_)
 refine wpAny_newFunctionEnv_cells S.kind hkind fun env he s1 x=>?_
 subst he
 refine⟨lim.keeps x.toInCall.keep,codeAny_func ?_⟩
 obtain⟨t,ht,hq⟩:=hbody A outer s H vs Q E (hr.deeper _) hsp
 have I:Inv (ZN CX P w K mg base N qual scope f cdv A outer s H E) [] (start N vs) H s1:=KM S hr.hd e0 hl r x
 refine wpAny_mono (ht [] s1 (start N vs) H _ I hq) (fun fl s' hs=>?_) fun e s' hs=>hs
 have fin:∀ {σ':St} {H':Hp} {v:V} {u:Value},Inv (ZN CX P w K mg base N qual scope f cdv A outer s H E) [] σ' H' s'->RelV v u->Q v H'->CE outer P w H s Q u s' :=
  fun {σ' H' v u} J rv q=>⟨v,H',J.os,J.bare,J.base,J.hok,rv,q⟩
 cases fl with
 |ret u=>
  obtain⟨v,σ',H',J,rv,q⟩:=hs
  exact fin J rv q
 |next=>
  obtain⟨σ',H',J,q⟩:=hs
  exact fin (v:=V.non) (u:=Value.none) J rfl q
 |brk=>
  obtain⟨_,_,_,q⟩:=hs
  exact False.elim q
 |cont=>
  obtain⟨_,_,_,q⟩:=hs
  exact False.elim q
end L2
namespace L2
open PySem PySem.Spec PyProof.Rows
section
variable {X:Cx} {x:Str} {p pos:Pos} {e:Expr} {es:List Expr} {t:TA} {id T:String} {r:List V->Hp->VK->Prop}
noncomputable def tCB(r:List V->Hp->VK->Prop)(t:TA):TE:=fun σ H Q=>t σ H fun vs H1=>r vs H1 Q
theorem Zc (hc:jm X (.builtin id) r) (hg:Gl X x) (hm:X.mg x=none) (hv:bootBuiltins x=some (.builtin id)) (ha:PA X (e::es) t) (hn:x≠ "__name__" :=by decide) (hdb:(x==("__debug__" :Str))=false:=by decide)
    (he:starEach (e::es) X.env=(false,eval e X.env)::starEach es X.env:=by rfl) (hpl:(backTo pos (starEach es X.env)).any (·.1)=false:=by rfl):PE X (.Call (.Name x p) (e::es) [] pos) (tCB r t):=by
  intro pins s σ H Q I h
  refine wpAny_Call_Name_kw (jp I hg hm hv ?_ hn hdb)
  exact PyProof.Rows.callWith_builtin1 (thn (ha pos pins s σ H _ I h) fun us s1 ⟨vs,H1,I1,r1,q1⟩=>hc pins s1 σ H1 vs us Q I1 r1 q1) he hpl
theorem Zr (hc:jm X (.type T) r) (hg:Gl X x) (hm:X.mg x=none) (hv:bootBuiltins x=some (.type T)) (ha:PA X (e::es) t) (hn:x≠ "__name__" :=by decide) (hdb:(x==("__debug__" :Str))=false:=by decide)
    (he:starEach (e::es) X.env=(false,eval e X.env)::starEach es X.env:=by rfl) (hpl:(backTo pos (starEach es X.env)).any (·.1)=false:=by rfl):PE X (.Call (.Name x p) (e::es) [] pos) (tCB r t):=by
  intro pins s σ H Q I h
  refine wpAny_Call_Name_kw (jp I hg hm hv ?_ hn hdb)
  exact PyProof.Rows.callWith_type1 (thn (ha pos pins s σ H _ I h) fun us s1 ⟨vs,H1,I1,r1,q1⟩=>hc pins s1 σ H1 vs us Q I1 r1 q1) he hpl
end
end L2
namespace HT
open PySem PyProof.Rows
section
open PySem.SeqAt
open PySem.AutoSeq1 (wpAny_loadPart')
open PySem.MeetsSeq PySem.MeetsSeq2 PySem.MeetsSeq3
end
section
variable {prog:Program} {w:World} {A:Around} {E:Value->Shared->Prop} {s:Shared}
theorem cat_tup{t b:Addr}{vs ws:List Value}{Q:Value->Shared->Prop}(ht:IsTup s.heap t vs.toArray)(hb:IsTup s.heap b ws.toArray)(hv:vs≠ [])
  (h1:ws= []->Q (.ref t) s) (h2:ws≠ []->Q (.ref s.heap.objs.size) { s with heap:=s.heap.push { cls:=.type "tuple",data:=.seq (vs++ws).toArray } })
  (hsz:vs.length+ws.length<=sizeLine):wpAny (model prog w) A (binaryOp .Add (.ref t) (.ref b)) Q E s:=by
 obtain⟨⟨cls,dd,data,sl⟩,ho,hc,n,hd⟩:=id ht
 obtain⟨⟨cls2,dd2,data2,sl2⟩,ho2,hc2,n2,hd2⟩:=id hb
 simp only at hc hd hc2 hd2
 subst hc hd hc2 hd2
 have e:vs.toArray++ws.toArray=(vs++ws).toArray:=by simp
 by_cases hw:ws= []
 ·exact concat_meets ⟨_,ho,rfl⟩ ⟨_,ho2,rfl⟩ noFill_tuple_add seq_tuple_add PySem.F.slot_tuple_add PySem.F.entry_tuple_add (PySem.F.args_tuple_add_2 _ _)
   (tuple_addW1 t b vs.toArray ws.toArray n n2 dd dd2 sl sl2 (by simpa using hv) (by simp[hw])) ⟨ho,ho2,h1 hw⟩
 ·refine concat_meets ⟨_,ho,rfl⟩ ⟨_,ho2,rfl⟩ noFill_tuple_add seq_tuple_add PySem.F.slot_tuple_add PySem.F.entry_tuple_add (PySem.F.args_tuple_add_2 _ _)
   (tuple_addW2 t b vs.toArray ws.toArray n n2 dd dd2 sl sl2 (by simpa using hv) (by simpa using hw) (by rw[xq,xq];exact hsz)) ⟨ho,ho2,?_⟩
  rw[e]
  exact h2 hw
noncomputable def sIx(n d:Nat):Option Int->Nat
 |none=>d
 |some v=>if v<0 then (v+(n:Int)).toNat else min v.toNat n
end
end HT
namespace L2
open PySem PySem.Spec PyProof.Rows
noncomputable abbrev TO:=St->Hp->(Option Int->Hp->Prop)->Prop
noncomputable def PO(X:Cx)(e:Option Expr)(t:TO):Prop :=
 ∀ (pins:List (Addr×Obj)) (s:Shared) (σ:St) (H:Hp) (Q:Option Int->Hp->Prop),Inv X pins σ H s->t σ H Q ->
  wpAny (model X.prog X.w) X.A (evalPart e X.env) (fun u s'=>∃ o H',Inv X pins σ H' s'/\IsPart u o/\Q o H') X.xe s
noncomputable def zc3:TO:=fun _ H Q=>Q none H
noncomputable def zhM(t:TE):TO:=fun σ H Q=>t σ H fun x H1=>∃ i,x=.int i/\Q (some i) H1
section
variable {X:Cx} {e:Expr} {te:TE} {lo hi:Option Expr} {tl th:TO} {pos p2:Pos}
theorem v9:PO X none zc3:=by
 intro pins s σ H Q I h
 rw[evalPart_none]
 exact wpAny_pure ⟨none,H,I,.none,h⟩
theorem Vd(h:PE X e te):PO X (some e) (zhM te):=by
 intro pins s σ H Q I hw
 rw[evalPart_some]
 refine thn (h pins s σ H _ I hw) fun u s1 ⟨x,H1,I1,r1,q1⟩=>?_
 obtain⟨i,rfl,q⟩:=q1
 obtain⟨t,rfl⟩:=r1
 exact⟨some i,H1,I1,.int i t,q⟩
noncomputable def SlR(X:Cx)(r:V->Option Int->Option Int->Hp->VK->Prop):Prop :=
 ∀ (pins:List (Addr×Obj)) (s:Shared) (σ:St) (H:Hp) (x:V) (v vl vu:Value) (lo hi:Option Int) (sl:Addr) (Q:VK),Inv X pins σ H s->RelV x v->s.heap.IsSliceOf sl vl vu .none->IsPart vl lo->IsPart vu hi->r x lo hi H Q ->
  ∃ T id,typeLookup (.type T) "__getitem__" =pure (some (.builtin id))/\s.TypeIs v T/\wpAny (model X.prog X.w) X.A (getItem v (.ref sl)) (EP X pins σ Q) X.xe s
noncomputable def tSl(r:V->Option Int->Option Int->Hp->VK->Prop)(te:TE)(tl th:TO):TE:=fun σ H Q=>te σ H fun x H1=>tl σ H1 fun l H2=>th σ H2 fun u H3=>r x l u H3 Q
theorem ym{r:V->Option Int->Option Int->Hp->VK->Prop}(hr:SlR X r)(he:PE X e te)(hl:PO X lo tl)(hu:PO X hi th):PE X (.Subscript e (.Slice lo hi none p2) pos) (tSl r te tl th):=by
 intro pins s σ H Q I h
 refine Subscript_ (thn (he pins s σ H _ I h) fun v s1 ⟨x,H1,I1,r1,q1⟩=>?_)
 refine wpAny_Slice (thn (hl pins s1 σ H1 _ I1 q1) fun vl s2 ⟨l,H2,I2,pl,q2⟩=>thn (hu pins s2 σ H2 _ I2 q2) fun vu s3 ⟨u,H3,I3,pu,q3⟩=>?_)
 rw[evalPart_none]
 refine wpAny_pure ?_
 have I4:Inv X pins σ H3 { s3 with heap:=s3.heap.push { cls:=.type "slice",data:=.fields #[vl,vu,.none] } }:=I3.kept (t':=s3.toks) fun b ob q=>Heap.get?_push_of_some _ q
 obtain⟨T,id,hT,ht,hg⟩:=hr pins { s3 with heap:=s3.heap.push { cls:=.type "slice",data:=.fields #[vl,vu,.none] } } σ H3 x v vl vu l u s3.heap.objs.size Q I4 r1 (Heap.IsSliceOf.new ..) pl pu q3
 show wpAny (model X.prog X.w) X.A (subscriptTail e (.Slice lo hi none p2) v (.ref s3.heap.objs.size)) (EP X pins σ Q) X.xe { s3 with heap:=s3.heap.push { cls:=.type "slice",data:=.fields #[vl,vu,.none] } }
 exact tail_any (ops:= [.ref s3.heap.objs.size,v]) ht hT hg (by with_unfolding_all rfl)
noncomputable def wJ(xs:List V)(lo hi:Option Int):List V:=(xs.drop (HT.sIx xs.length 0 lo)).take (HT.sIx xs.length xs.length hi-HT.sIx xs.length 0 lo)
theorem yu(xs:List V)(lo hi:Option Int):(wJ xs lo hi).length<=xs.length:=by
 unfold wJ
 rw[xW,List.length_drop]
 omega
theorem Vals.nil_iff{xs:List V}{us:List Value}(r:Vals xs us):us= []↔xs= []:=by
 cases r with
 |nil=>simp
 |cons _ _=>simp
end
end L2
namespace L2
open PySem PySem.Spec PyProof.Rows
noncomputable def ixN(n:Nat)(i:Int):Option Nat:=if 0<=i then (if i<n then some i.toNat else none) else if -(n:Int)<=i then some (i+n).toNat else none
noncomputable def atI{α:Type}(xs:List α)(i:Int):Option α:=(ixN xs.length i).bind fun j=>xs[j]?
theorem km{n:Nat}{i:Int}{j:Nat}(h:ixN n i=some j):seqIndex? i n=some j/\j<n/\ -(n:Int)<=i/\i<n:=by
 unfold ixN at h
 by_cases h0:0<=i
 ·rw[if_pos h0]at h
  by_cases h1:i<n
  ·rw[if_pos h1]at h
   have e:i.toNat=j:=Option.some.inj h
   exact⟨by rw[seqIndex_of h0 h1,e],by omega,by omega,h1⟩
  ·rw[if_neg h1]at h;cases h
 ·rw[if_neg h0]at h
  by_cases h1: -(n:Int)<=i
  ·rw[if_pos h1]at h
   have e:(i+n).toNat=j:=Option.some.inj h
   exact⟨by rw[seqIndex_neg (by omega) h1,e],by omega,h1,by omega⟩
  ·rw[if_neg h1]at h;cases h
theorem Y0{α:Type}{xs:List α}{i:Int}{v:α}(h:atI xs i=some v):∃ j,seqIndex? i xs.length=some j/\xs[j]?=some v/\j<xs.length/\ -(xs.length:Int)<=i/\i<xs.length:=by
 unfold atI at h
 cases e:ixN xs.length i with
 |none=>rw[e]at h;cases h
 |some j=>
  rw[e]at h
  obtain⟨h1,h2,h3,h4⟩:=km e
  exact⟨j,h1,h,h2,h3,h4⟩
theorem qz{α:Type}{xs:List α}{j:Nat}{v:α}(h:xs[j]?=some v):atI xs (j:Int)=some v:=by
 have hj:j<xs.length:=(xc.mp h).1
 have e:ixN xs.length (j:Int)=some j:=by
  unfold ixN
  rw[if_pos (by omega),if_pos (by omega)];simp
 unfold atI;rw[e];exact h
noncomputable def vj(b:Expr):Prop:=∀ o i,subscripted b false o i=operate [o,i] (getItem o i)
noncomputable def IxR(X:Cx)(r:R2):Prop :=
 ∀ (value slice:Expr) (pins:List (Addr×Obj)) (s:Shared) (σ:St) (H:Hp) (x y:V) (v u:Value) (Q:VK),Inv X pins σ H s->RelV x v->RelV y u->r x y H Q ->
  subscripted slice false v u=operate [v,u] (getItem v u)->wpAny (model X.prog X.w) X.A (subscriptTail value slice v u) (EP X pins σ Q) X.xe s
noncomputable def MtR(X:Cx)(id:String)(r:V->List V->Hp->VK->Prop):Prop :=
 ∀ (pins:List (Addr×Obj)) (s:Shared) (σ:St) (H:Hp) (x:V) (xs:List V) (v:Value) (us:List Value) (Q:VK),Inv X pins σ H s->RelV x v->Vals xs us->r x xs H Q ->
  wpAny (model X.prog X.w) X.A (call (.builtin id) (v::us)) (EP X pins σ Q) X.xe s
section
variable {X:Cx} {a b:Expr} {ta tb:TE} {pos:Pos}
theorem IxR.or{r r':R2}(h:IxR X r)(h':IxR X r'):IxR X (fun x y H Q=>r x y H Q∨r' x y H Q):=by
 intro value slice pins s σ H x y v u Q I rx ry q hs
 rcases q with q | q
 ·exact h value slice pins s σ H x y v u Q I rx ry q hs
 ·exact h' value slice pins s σ H x y v u Q I rx ry q hs
theorem zhc{r:R2}(hr:IxR X r)(ha:PE X a ta)(hb:PE X b tb)(hs:vj b):PE X (.Subscript a b pos) (tOp r ta tb):=by
 intro pins s σ H Q I h
 exact Subscript_ (zfV ha hb I h fun v u s2 x y H2 I2 rx ry q=>hr a b pins s2 σ H2 x y v u Q I2 rx ry q (hs _ _))
noncomputable def rIxL(K:PySem.W.Frag):R2:=fun x y H Q=>∃ p xs i v,x=.ref p/\y=.int i/\SqL K H p xs/\atI xs i=some v/\Q v H
noncomputable def rIxT(K:PySem.W.Frag):R2:=fun x y H Q=>∃ p xs i v,x=.ref p/\y=.int i/\SqT K H p xs/\atI xs i=some v/\Q v H
theorem ix_list:IxR X (rIxL X.K):=by
 intro value slice pins s σ H x y v u Q I rx ry h hs
 obtain⟨p,xs,i,z,rfl,rfl,hq,he,q⟩:=h
 cases rx
 obtain⟨t,rfl⟩:=ry
 obtain⟨its,r,pl,hz⟩:=I.list hq
 obtain⟨j,h1,h2,h3,h4,h5⟩:=Y0 he
 obtain⟨w,ew,rw'⟩:=r.get h2
 have hl:=r.length
 have hn:=wj
 have fin:EP X pins σ Q w s:=⟨z,H,I,rw',q⟩
 by_cases h0:0<=i
 ·have hj:i.toNat=j:=by
   rw[seqIndex_of h0 h5]at h1
   exact Option.some.inj h1
  exact item_listR pl.isList h0 (by omega) (by rw[hj];simpa using ew) fin hs
 ·have hj:(i+(its.toArray.size:Int)).toNat=j:=by
   rw[seqIndex_neg (by omega) h4]at h1
   rw[xq,<- hl]
   exact Option.some.inj h1
  exact subscriptTail_builtinR (x:=w) pl.isList.typeIs slot_list_getitem.lookup
   (wpAny_getItem_list_neg (Q:=fun r s'=>r=w/\EP X pins σ Q r s') pl.isList (by omega) (by rw[xq]<;>omega) (by omega) (by rw[hj];simpa using ew) ⟨rfl,fin⟩) hs
theorem zgs:IxR X (rIxT X.K):=by
 intro value slice pins s σ H x y v u Q I rx ry h hs
 obtain⟨p,xs,i,z,rfl,rfl,hq,he,q⟩:=h
 cases rx
 obtain⟨t,rfl⟩:=ry
 obtain⟨its,r,pl,hz⟩:=I.tuple hq
 obtain⟨j,h1,h2,h3,h4,h5⟩:=Y0 he
 obtain⟨w,ew,rw'⟩:=r.get h2
 have hl:=r.length
 have hn:=wj
 have fin:EP X pins σ Q w s:=⟨z,H,I,rw',q⟩
 exact subscriptTail_builtinR (x:=w) pl.typeIs slot_tuple_getitem.lookup
  (getItem_tuple (j:=j) (Q:=fun r s'=>r=w/\EP X pins σ Q r s') pl (by omega) (by omega) (by rw[xq,<- hl];exact h1) (by simpa using ew) ⟨rfl,fin⟩) hs
theorem Yl (its:List Value) (n j:Nat) (u:Value):Obj.mapSeq (·.setIfInBounds j u) { cls:=.type "list",data:=.seq its.toArray n }={ cls:=.type "list",data:=.seq (its.set j u).toArray n }:=by
 simp[Obj.mapSeq]
theorem Inv.lst{pins:List (Addr×Obj)}{σ:St}{H:Hp}{s:Shared}{p:Addr}{xs:List V}(I:Inv X pins σ H s)(h:H p=some (.lst xs)) :
  ∃ (its:List Value) (n:Nat),Vals xs its/\s.heap.get? p=some { cls:=.type "list",data:=.seq its.toArray n }/\xs.length<=sizeLine:=by
 obtain⟨z,its,n,r,e⟩:=I.hok p _ h
 exact⟨its,n,r,e,z⟩
theorem Inv.lstUpd{pins:List (Addr×Obj)}{σ:St}{H:Hp}{s:Shared}{p:Addr}{xs ys:List V}{its its':List Value}{n n':Nat}{f:Obj->Obj}(I:Inv X pins σ H s)(h:H p=some (.lst xs))
  (ho:s.heap.get? p=some { cls:=.type "list",data:=.seq its.toArray n }) (hf:f { cls:=.type "list",data:=.seq its.toArray n }={ cls:=.type "list",data:=.seq its'.toArray n' }) (r:Vals ys its') (hz:ys.length<=sizeLine) (t:Nat) :
  Inv X pins σ (upd H p (.lst ys)) { s with heap:=s.heap.update p f,toks:=t }:=by
 have e:(s.heap.update p f).get? p=some { cls:=.type "list",data:=.seq its'.toArray n' }:=by
  rw[Heap.get?_update_self f ho (by rw[hf]<;>rfl),hf]
 refine I.write (x:=p) (e:=p) (by rw[h];trivial) (.inl rfl) (fun b u hb q=>(Heap.get?_update_other _ _ (Ne.symm hb)).trans q) ⟨_,e⟩ ?_
 exact⟨hz,its',n',r,e⟩
noncomputable def zgU:V->V->V->Hp->(Hp->Prop)->Prop:=fun o i v H Q=>∃ p xs k j,o=.ref p/\i=.int k/\H p=some (.lst xs)/\ixN xs.length k=some j/\Q (upd H p (.lst (xs.set j v)))
theorem zbA:zf3 X zgU:=by
 intro pins s σ H o i v ov iv u Q I ro ri rv h
 obtain⟨p,xs,k,j,rfl,rfl,hp,hj,q⟩:=h
 cases ro
 obtain⟨t,rfl⟩:=ri
 obtain⟨its,n,r,ho,hz⟩:=I.lst hp
 obtain⟨h1,h2,h3,h4⟩:=km hj
 have hl:=r.length
 have hn:=wj
 have I':Inv X pins σ (upd H p (.lst (xs.set j v))) { s with heap:=s.heap.update p (Obj.mapSeq (·.setIfInBounds j u)) } :=
  I.lstUpd hp ho (Yl its n j u) (r.set rv j) (by rw[uk];exact hz) s.toks
 by_cases h0:0<=k
 ·have hk:k.toNat=j:=by
   rw[seqIndex_of h0 h4]at h1
   exact Option.some.inj h1
  exact PySem.W.ki_setAt ho h0 (by omega) (by rw[xq,<- hl];exact h4) (by rw[hk];exact⟨_,I',q⟩)
 ·have hk:(k+(its.toArray.size:Int)).toNat=j:=by
   rw[seqIndex_neg (by omega) h3]at h1
   rw[xq,<- hl]
   exact Option.some.inj h1
  exact PySem.W.ki_setBack ho (by omega) (by rw[xq,<- hl];exact h3) (by omega) (by rw[hk];exact⟨_,I',q⟩)
theorem vK(lo hi:Option Int)(n:Nat):(sliceBounds lo hi none n).1=((HT.sIx n 0 lo:Nat):Int)/\(sliceBounds lo hi none n).2.1=((HT.sIx n n hi:Nat):Int)/\(sliceBounds lo hi none n).2.2=1:=by
 refine⟨?_,?_,rfl⟩
 ·cases lo with
  |none=>simp[sliceBounds,HT.sIx]
  |some i=>
   simp only[sliceBounds,HT.sIx,Option.getD_none,show (1:Int)>0 by decide,if_true]
   by_cases h:i<0
   ·simp only[h,if_true]<;>omega
   ·simp only[h,if_false]<;>omega
 ·cases hi with
  |none=>simp[sliceBounds,HT.sIx]
  |some i=>
   simp only[sliceBounds,HT.sIx,Option.getD_none,show (1:Int)>0 by decide,if_true]
   by_cases h:i<0
   ·simp only[h,if_true]<;>omega
   ·simp only[h,if_false]<;>omega
theorem wR(its:List Value)(lo hi:Option Int):slicePick its.toArray lo hi none=((its.drop (HT.sIx its.length 0 lo)).take (HT.sIx its.length its.length hi-HT.sIx its.length 0 lo)).toArray:=by
 obtain⟨h1,h2,h3⟩:=vK lo hi its.toArray.size
 unfold slicePick
 rw[h1,h2,h3]
 simp only[sliceRange_one,pick_run,xq]<;>rfl
noncomputable def rSlL(K:PySem.W.Frag):V->Option Int->Option Int->Hp->VK->Prop:=fun x lo hi H Q=>∃ a xs,x=.ref a/\SqL K H a xs/\∀ p,H p=none->Q (.ref p) (upd H p (.lst (wJ xs lo hi)))
theorem kG:SlR X (rSlL X.K):=by
 intro pins s σ H x v vl vu lo hi sl Q I rx hs pl pu h
 obtain⟨a,xs,rfl,hx,q⟩:=h
 cases rx
 obtain⟨its,r,ht,hz⟩:=I.list hx
 have hlen:=r.length
 refine⟨"list",_,slot_list_getitem.lookup,ht.isList.typeIs,?_⟩
 refine wpAny_getItem_list_slice ht.isList hs pl pu .none (by simp) ?_ (by rw[xq]<;>omega)
 rw[wR,<- hlen]
 refine⟨.ref s.heap.objs.size,_,I.laid (t':=s.toks) (o:=.lst (wJ xs lo hi)) (fun b ob q=>Heap.get?_push_of_some _ q) (xn _) ?_,rfl,q _ (I.hok.fresh (xn _))⟩
 exact⟨xL (yu xs lo hi) hz,_,0,(r.drop (HT.sIx xs.length 0 lo)).take (HT.sIx xs.length xs.length hi-HT.sIx xs.length 0 lo),Heap.get?_push_size _ rfl⟩
theorem Z9:jm X (.builtin "len") (fun xs H Q=>∃ p ys,xs= [.ref p]/\(SqL X.K H p ys∨SqT X.K H p ys)/\Q (.int ys.length) H):=by
 intro pins s σ H xs us Q I r h
 obtain⟨p,ys,rfl,hq,q⟩:=h
 obtain⟨u,rfl,rx⟩:=Zj r
 cases rx
 have hn:=wj
 rcases hq with hq | hq
 ·obtain⟨its,r',pl,hz⟩:=I.list hq
  have hlen:=r'.length
  exact Calls.call_len_list pl.isList (by simp only[xq]<;>omega) ⟨.int ys.length,H,I.tok _,⟨s.toks+1,by rw[xq,hlen]⟩,q⟩
 ·obtain⟨its,r',pl,hz⟩:=I.tuple hq
  have hlen:=r'.length
  exact len_tuple pl (by simp only[xq]<;>omega) ⟨.int ys.length,H,I.tok _,⟨s.toks+1,by rw[xq,hlen]⟩,q⟩
theorem Qp:jm X (.type "list") (fun xs H Q=>∃ p ys,xs= [.ref p]/\(SqL X.K H p ys∨SqT X.K H p ys)/\∀ l,H l=none->Q (.ref l) (upd H l (.lst ys))):=by
 intro pins s σ H xs us Q I r h
 obtain⟨p,ys,rfl,hq,q⟩:=h
 obtain⟨u,rfl,rx⟩:=Zj r
 cases rx
 have fin:∀ (its:List Value),Vals ys its->ys.length<=sizeLine->∀ (h':Heap) (c':Nat),(∀ b o',s.heap.get? b=some o'->h'.get? b=some o') ->
   h'.get? s.heap.objs.size=some { cls:=.type "list",dict:=none,data:=.seq its.toArray c',slots:=#[] }->EP X pins σ Q (.ref s.heap.objs.size) { s with heap:=h' }:=fun its r' hz h' c' kp e=>
  ⟨.ref s.heap.objs.size,_,I.laid (t':=s.toks) kp (xn _) (show ObjOk X.prog X.w _ h' _ (.lst ys) from ⟨hz,its,c',r',e⟩),rfl,q _ (I.hok.fresh (xn _))⟩
 rcases hq with hq | hq
 ·obtain⟨its,r',pl,hz⟩:=I.list hq
  have hlen:=r'.length
  obtain⟨o,ho,hc,n,hd⟩:=pl.isList
  exact call_list_seq p (.inl rfl) ho hc hd (fun h' c' kp e=>fin its r' hz h' c' kp e) (by simp only[xq]<;>omega)
 ·obtain⟨its,r',pl,hz⟩:=I.tuple hq
  have hlen:=r'.length
  obtain⟨o,ho,hc,n,hd⟩:=pl
  exact call_list_seq p (.inr rfl) ho hc hd (fun h' c' kp e=>fin its r' hz h' c' kp e) (by simp only[xq]<;>omega)
theorem wS:jm X (.type "tuple") (fun xs H Q=>∃ p ys,xs= [.ref p]/\((SqL X.K H p ys/\∀ l,H l=none->Q (.ref l) (upd H l (.tup ys)))∨(SqT X.K H p ys/\Q (.ref p) H))):=by
 intro pins s σ H xs us Q I r h
 obtain⟨p,ys,rfl,h⟩:=h
 obtain⟨u,rfl,rx⟩:=Zj r
 cases rx
 rcases h with ⟨hq,q⟩ | ⟨hq,q⟩
 ·obtain⟨its,r',pl,hz⟩:=I.list hq
  have hlen:=r'.length
  refine call_tuple_list pl.isList (fun h' kp=>?_) (by simp only[xq]<;>omega)
  have I1:Inv X pins σ H { s with heap:=h' }:=I.kept (t':=s.toks) kp
  have I2:Inv X pins σ (upd H h'.objs.size (.tup ys)) { s with heap:=h'.push { cls:=.type "tuple",data:=.seq its.toArray } } :=
   I1.laid (t':=s.toks) (fun b o e=>Heap.get?_push_of_some _ e) (xn _) (show ObjOk X.prog X.w _ _ _ (.tup ys) from ⟨hz,its,r',IsTup.new _ _⟩)
  exact⟨.ref h'.objs.size,_,I2,rfl,q _ (I1.hok.fresh (xn _))⟩
 ·obtain⟨its,r',pl,hz⟩:=I.tuple hq
  exact call_tuple_same pl ⟨.ref p,H,I,rfl,q⟩
noncomputable def tyV(K:PySem.W.Frag)(T:String)(x:V)(H:Hp):Prop:=match x with
 |.str _=>T= "str"
 |.int _=>T= "int"
 |.ref p=>(T= "list" /\∃ xs,SqL K H p xs)∨(T= "tuple" /\∃ o,K.lookup p=some o/\o.cls=.type "tuple" /\o.dict=none) ∨
   (T= "dict" /\((∃ kvs,H p=some (.dK kvs))∨∃ kvs,H p=some (.dT kvs)))∨(T= "set" /\∃ S n,H p=some (.set S n))
 |_=>False
theorem zfl{pins:List (Addr×Obj)}{σ:St}{H:Hp}{s:Shared}{T:String}{x:V}{v:Value}(I:Inv X pins σ H s)(r:RelV x v)(ty:tyV X.K T x H) :
  s.TypeIs v T/\∀ a,v=.ref a->∃ ob,s.heap.get? a=some ob/\ob.dict=none:=by
 cases x with
 |str z=>
  obtain⟨t,rfl⟩:=r
  cases (show T= "str" from ty)
  exact⟨typeIs_str s z t,fun _ e=>nomatch e⟩
 |int i=>
  obtain⟨t,rfl⟩:=r
  cases (show T= "int" from ty)
  exact⟨typeIs_int s i t,fun _ e=>nomatch e⟩
 |ref p=>
  cases r
  rcases ty with ⟨rfl,xs,hq⟩ | ⟨rfl,o,hk,hc,hd⟩ | ⟨rfl,hk⟩ | ⟨rfl,S,n,hk⟩
  ·obtain⟨its,_,pl,_⟩:=I.list hq
   refine⟨pl.isList.typeIs,fun a e=>?_⟩
   cases e
   obtain⟨o,n,e,c,hd,_⟩:=pl
   exact⟨o,e,hd⟩
  ·refine⟨⟨o,I.kIn p o hk,hc⟩,fun a e=>?_⟩
   cases e
   exact⟨o,I.kIn _ o hk,hd⟩
  ·have z:∃ o,s.heap.get? p=some o/\o.ExactDict:=by
    rcases hk with ⟨kvs,hk⟩ | ⟨kvs,hk⟩
    ·obtain⟨_,_,_,_,o,_,_,e,ex,_⟩:=I.hok p _ hk
     exact⟨o,e,ex⟩
    ·obtain⟨_,_,_,_,o,_,_,e,ex,_⟩:=I.hok p _ hk
     exact⟨o,e,ex⟩
   obtain⟨o,e,ex⟩:=z
   refine⟨⟨o,e,ex.1⟩,fun a e2=>?_⟩
   cases e2
   exact⟨o,e,ex.2.1⟩
  ·obtain⟨o,_,_,_,e,ex,_⟩:=I.hok p _ hk
   refine⟨⟨o,e,ex.1⟩,fun a e2=>?_⟩
   cases e2
   exact⟨o,e,ex.2.1⟩
 |_=>exact False.elim ty
noncomputable def tBM(K:PySem.W.Frag)(T:String)(r:V->List V->Hp->VK->Prop)(to:TE)(t:TA):TE:=fun σ H Q=>to σ H fun x H1=>tyV K T x H1/\t σ H1 fun xs H2=>r x xs H2 Q
variable {o e:Expr} {es:List Expr} {to:TE} {t:TA} {name:Str} {apos cpos:Pos} {T id:String} {r:V->List V->Hp->VK->Prop}
theorem zhE (pa:PlainAttrs T) (slot:Slot T name id) (hty:typeOf (.builtin id)=pure (.type "method_descriptor")) (hm:MtR X id r) (ho:PE X o to) (ha:PA X (e::es) t)
  (hbase:attributeBase o name X.env (eval o X.env)=eval o X.env:=by rfl)
  (hfew:((backTo cpos (starEach (e::es) X.env)).all (fun x=> !x.1)&&(backToKw cpos (keywordEach [] X.env)).all (fun x=>x.1.isSome)
   && decide ((e::es).length+([]:List Keyword).length+(if ([]:List Keyword).isEmpty then 0 else 1)<30))=true:=by rfl)
  (hline:(apos.endLine==cpos.line)=true:=by rfl) (hs:starEach (e::es) X.env=(false,eval e X.env)::starEach es X.env:=by rfl) (hplain:(backTo cpos (starEach es X.env)).any (·.1)=false:=by rfl) :
  PE X (.Call (.Attribute o name apos) (e::es) [] cpos) (tBM X.K T r to t):=by
 intro pins s σ H Q I h
 refine wpAny_Call_method_late hbase hfew hline rfl (thn (ho pins s σ H _ I h) fun v s1 ⟨x,H1,I1,r1,ty,q1⟩=>?_)
 obtain⟨h1,h2⟩:=zfl I1 r1 ty
 refine⟨T,id,pa,slot,hty,h1,h2,?_⟩
 have hA:=ha cpos pins s1 σ H1 _ I1 q1
 rw[hs]at hA |-
 refine Calls.callWith_builtin (by show (false||(backTo cpos (starEach es X.env)).any (·.1))=false;rw[hplain]<;>rfl) (Calls.evalArgs_plain ?_)
 exact thn hA fun us s2 ⟨vs,H2,I2,r2,q2⟩=>hm pins s2 σ H2 x vs v us Q I2 r1 r2 q2
end
end L2
namespace L2
open PySem PySem.Spec PyProof.Rows
noncomputable def MtM(X:Cx)(id:String)(r:V->List V->Hp->VK->Prop):Prop :=
 ∀ (pins:List (Addr×Obj)) (s:Shared) (σ:St) (H:Hp) (x:V) (xs:List V) (v:Value) (us:List Value) (Q:VK),Inv X pins σ H s->RelV x v->Vals xs us->r x xs H Q ->
  wpAny (model X.prog X.w) X.A (call (.builtin id) (v::us)) (EP X pins σ Q) X.xe s
theorem Vals.one:∀ {x:V}{us:List Value},Vals [x] us->∃ u,us= [u]/\RelV x u
 |_,_,.cons r .nil=>⟨_,rfl,r⟩
theorem Vals.rep{xs:List V}{us:List Value}(h:Vals xs us):∀ k:Nat,Vals (List.replicate k xs).flatten (List.replicate k us).flatten
 |0=>.nil
 |k+1=>by
  rw[uh,uh,xJ,xJ]
  exact Vals.append h (Vals.rep h k)
theorem Wb(its:List Value):∀ (k:Nat) (acc:List Value),
  List.foldl (fun x1 x2=>x1++x2) acc.toArray (List.replicate k its.toArray)=(acc++(List.replicate k its).flatten).toArray
 |0,acc=>by simp
 |k+1,acc=>by
  have e:acc.toArray++its.toArray=(acc++its).toArray:=by simp
  have e2:(acc++its)++(List.replicate k its).flatten=acc++(List.replicate (k+1) its).flatten:=by
   rw[uh,xJ,List.append_assoc]
  rw[<- e2,<- Wb its k (acc++its),<- e,uh,uB]
section
variable {X:Cx} {pins:List (Addr×Obj)} {σ:St} {H:Hp} {s:Shared} {l b:Addr} {xs ys zs:List V}
theorem Inv.lset{its its':List Value}{n:Nat}{f:Array Value->Array Value}{t':Nat}(I:Inv X pins σ H s)(hH:H l=some (.lst xs))
  (e:s.heap.get? l=some { cls:=.type "list",data:=.seq its.toArray n }) (hf:f its.toArray=its'.toArray) (hv:Vals ys its') (hz:ys.length<=sizeLine) :
  Inv X pins σ (upd H l (.lst ys)) { s with heap:=s.heap.update l (Obj.mapSeq f),toks:=t' }:=by
 have q:=PySem.IsL.update e f
 rw[hf]at q
 refine I.write (x:=l) (e:=l) (by rw[hH];exact trivial) (.inl rfl) (fun b' u hb hu=>(Heap.get?_update_other s.heap (Obj.mapSeq f) (Ne.symm hb)).trans hu) ⟨_,q⟩ ?_
 exact⟨hz,its',_,hv,q⟩
theorem Inv.lnew{its:List Value}{t':Nat}(I:Inv X pins σ H s)(hv:Vals ys its)(hz:ys.length<=sizeLine) :
  Inv X pins σ (upd H s.heap.objs.size (.lst ys)) { s with heap:=s.heap.push { cls:=.type "list",data:=.seq its.toArray },toks:=t' } :=
 I.laid (fun _ _ q=>Heap.get?_push_of_some _ q) (xn _) ⟨hz,its,0,hv,Heap.get?_push_size _ rfl⟩
theorem Inv.fresh(I:Inv X pins σ H s):H s.heap.objs.size=none:=I.hok.fresh (xn _)
theorem Inv.lstM (I:Inv X pins σ H s) (hH:H l=some (.lst xs)):xs.length<=sizeLine/\∃ (its:List Value) (n:Nat),Vals xs its/\xs.length=its.length/\s.heap.get? l=some { cls:=.type "list",data:=.seq its.toArray n }:=by
 obtain⟨z,its,n,r,e⟩:=I.hok l _ hH
 exact⟨z,its,n,r,r.length,e⟩
theorem zbx{n:Nat}(h:n<=sizeLine):Builtin.List.listTooLong n=false:=by
 unfold Builtin.List.listTooLong
 exact decide_eq_false (by omega)
end
section
variable {X:Cx}
noncomputable def zdk:V->List V->Hp->VK->Prop:=fun x vs H Q=>∃ l xs y,x=.ref l/\vs= [y]/\H l=some (.lst xs)/\xs.length<sizeLine/\Q .non (upd H l (.lst (xs++ [y])))
theorem KJ:MtM X "list.append" zdk:=by
 intro pins s σ H x vs v us Q I rx rv h
 obtain⟨l,xs,y,rfl,rfl,hH,hz,q⟩:=h
 cases rx
 obtain⟨u,rfl,ru⟩:=rv.one
 obtain⟨z,its,n,r,hl,e⟩:=I.lstM hH
 refine call_meets F.slot_list_append ⟨_,e,rfl⟩ F.entry_list_append (F.args_list_append_2 _ _) (PySem.list_append l its.toArray n u (by rw[xq];omega)) ⟨e,?_⟩
 refine⟨.non,_,I.lset (its':=its++ [u]) hH e (by simp) (r.append (.cons ru .nil)) ?_,rfl,q⟩
 rw[xw,List.length_singleton]
 omega
noncomputable def rCat:R2:=fun x y H Q=>∃ l b xs zs,x=.ref l/\y=.ref b/\H l=some (.lst xs)/\H b=some (.lst zs)/\xs.length+zs.length<=sizeLine/\∀ p,H p=none->Q (.ref p) (upd H p (.lst (xs++zs)))
theorem zgP:OpR X (binaryOp .Add) rCat:=by
 intro pins s σ H x y v u Q I rx ry h
 obtain⟨l,b,xs,zs,rfl,rfl,hH,hB,hz,q⟩:=h
 cases rx
 cases ry
 obtain⟨z,its,n,r,hl,e⟩:=I.lstM hH
 obtain⟨z2,its2,n2,r2,hl2,e2⟩:=I.lstM hB
 refine PySem.P.add_list e e2 ?_ (by rw[xq,xq];omega)
 have ea:its.toArray++its2.toArray=(its++its2).toArray:=by simp
 rw[ea]
 exact⟨.ref _,_,I.lnew (t':=s.toks) (r.append r2) (by rw[xw];omega),rfl,q _ I.fresh⟩
theorem ky{α:Type}(xs:List α)(k:Nat):(List.replicate k xs).flatten.length=k*xs.length:=by
 induction k with
 |zero=>simp
 |succ k ih=>rw[uh,xJ,xw,ih,Nat.succ_mul,Nat.add_comm]
end
section
variable {prog:Program} {w:World} {A:Around} {E:Value->Shared->Prop} {s:Shared}
end
section
variable {X:Cx}
end
end L2
namespace Att
open PySem PySem.W PySem.Calls PyProof.Rows
theorem Jq{P:Params}{h:Heap}:∀ (ns:List Int) (vs:List Value),WellAll P h vs (ns.map WData.int)->IntsAre vs ns:=by
 intro ns
 induction ns with
 |nil=>
  intro vs w
  rw[List.map_nil]at w
  cases w
  exact .nil
 |cons n ns ih=>
  intro vs w
  rw[xK]at w
  cases w with
  |cons a b=>
   cases a
   exact .cons _ _ (ih _ b)
theorem KT{l:OpenLaw}{n:Nat}(hn:l.most=some n){P:Params}{h:Heap}{args:List WData}{vals:List Value}
  (hpre:l.row.toRowW.claim.pre args=true) (hwl:WellAll P h vals args) :
  ∃ a vs ns,vals= [Value.ref a]/\args= [WData.list (ns.map WData.int)]/\h.get? a=some { cls:=.type "list",data:=.seq vs.toArray }/\IntsAre vs ns/\ns.length<=n:=by
 have hsh:WShape.hasAll [] args [.list .int]=true:=(pre_splitW hpre).1
 have hc:l.pre.holds [] { args:=args }=true:=(pre_splitW hpre).2
 obtain⟨d,r,rfl,h1,h2⟩:=hasAllW_cons hsh
 obtain rfl:=hasAllW_nil h2
 obtain⟨xs,rfl,h3⟩:=hasW_list h1
 obtain⟨ns,rfl⟩:=items_int h3
 have hlen:ns.length<=n:=by
  unfold OpenLaw.pre at hc
  have h4:(WTm.not (.lt (.lit (.int (n:Int))) (.len (.arg 0)))).holds [] { args:= [.list (ns.map .int)] }=true:=by
   have h4:=(holds_andW hc).1
   rw[hn]at h4
   exact h4
  have h5:=condW_of h4 (w_not (w_lt w_lit (w_len_list (w_arg rfl))))
  rw[xk]at h5
  refine Nat.le_of_not_lt fun q=>?_
  have q':(n:Int)<((ns.length:Nat):Int):=by omega
  first
   | (rw[decide_eq_true q']at h5;exact absurd h5 (by decide))
   | (simp at h5;omega)
 cases hwl with
 |cons w1 w2=>
  cases w2
  cases w1 with
  |list ho hall=>exact⟨_,_,ns,rfl,rfl,ho,Jq ns _ hall,hlen⟩
theorem Kx(l:OpenLaw)(args:List WData):l.row.toRowW.claim.post args (.bool true) args=true :=
 postW_of (r:=l.row.toRowW) (X:=(true==true))
  (show WShape.has [] (.bool true) .bool=true by first | rfl | decide | simp[WShape.has,WShape.arms,WShape.armsAll])
  (show (WTm.eq .res (.lit (.bool true))).value [] { args:=args,res:=some (.bool true),after:=args }=some (.bool (true==true)) from w_eq_bool (w_res rfl) w_lit) rfl
theorem attach_call{l:OpenLaw}{n:Nat}{q:Program}{loose:List Str}{XP:(Str->Option Value)->Heap->Prop}{YP:World->Heap->Prop}{d:DefRec}
  (hn:l.most=some n) (hdf:d.params.defaults= [])
  (call:∀ (w:World) (s₀ s₁:Shared) (mg mb:Str->Option Value) (fa:Addr) (o:Obj) (pm cd doc:Value) (a:Addr) (vs:List Value) (ns:List Int),
   Ground q loose [] XP w s₀ mg mb s₁.heap->YP w s₁.heap ->
   s₁.heap.get? fa=some o->o.data=.func (docDef d.name d.params d.body d.scope pm cd doc)->s₁.heap.CodeRec cd d.name->mg d.name=some (.ref fa) ->
   s₁.heap.get? a=some { cls:=.type "list",data:=.seq vs.toArray }->IntsAre vs ns->ns.length<=n->s₁.gens=#[] ->
   codeAny (model l.prog w) callerA (.call (.ref fa) ⟨[.ref a],[]⟩) (fun r s'=>r=.ok (.ret (.bool true))/\OldK s₁.heap s'.heap/\s'.os=s₁.os/\AllBare s'.gens) s₁) :
  WalkO q loose XP YP l.row.toRowW d [] (fun f vs=>PySem.call f vs):=by
 intro w s₀ s₁ mg mb G Y fa o pm cd doc dV kV ho hd hcd hD hmg hg args vals as hpre hlay hrd hwl hlo
 obtain rfl:dV=.none:=Dflts.none hD hdf
 obtain rfl:kV=.none:=Dflts.noKw hD
 obtain⟨a,vs,ns,rfl,rfl,hobj,hints,hlen⟩:=KT hn hpre hwl
 refine enter_call (codeAny_mono (call w s₀ s₁ mg mb fa o pm cd doc a vs ns G Y ho (fd_plain hd) hcd hmg hobj hints hlen hg) fun r s' hq=>?_)
 obtain⟨rfl,h2,h3,h4⟩:=hq
 exact⟨.inl ⟨.bool true,.bool true,[],rfl,fun _=>rfl,.bool true,Kx l _,fun _=>⟨List.Pairwise.nil,fun _ hm=>(nomatch hm)⟩⟩,h2,h3,h4⟩
section
variable {prog:Program} {w:World} {A:Around} {E:Value->Shared->Prop} {s:Shared} {K:Frag}
end
end Att
namespace L2
open PySem PySem.Spec PyProof.Rows
theorem jD:∀ {vs:List Value}{ns:List Int},IntsAre vs ns->Vals (ns.map V.int) vs
 |_,_,.nil=>.nil
 |_,_,.cons n t h=>.cons ⟨t,rfl⟩ (jD h)
noncomputable def zfd(H:Hp):Prop:=∀ b,H b=none∨∃ o xs,H b=some (.frz o (.lst xs))
theorem zci{P:Program}{w:World}{K:PySem.W.Frag}{mg mb:Str->Option Value}{CX:CXT}{k:Nat}{fa a:Addr}{fd:FuncData}{x:Str}{sp:Sp}{s₁:Shared}{vs:List Value}{ns:List Int}
  (KX:K.In s₁.heap) (hns:s₁.heap.Ns mainGlobals mg) (hb:s₁.heap.Ns builtinsNs mb) (hbb:∀ x:Str,x≠ "__name__" ->mb x=bootBuiltins x) (hlim:s₁.heap.NoLimit) (hg:s₁.gens=#[])
  (ha:s₁.heap.get? a=some { cls:=.type "list",data:=.seq vs.toArray }) (hi:IntsAre vs ns) (hl:ns.length<=sizeLine) (hr:Room k callerA)
  (F:∀ base:Heap,K.In base->base.Ns mainGlobals mg->we P w K mg base CX k fa fd [x] sp) (hbind:∀ (s:Shared) (u:Value),BindsTo s fd ⟨[u],[]⟩ [(x,u)])
  (hsp:∀ H:Hp,zfd H->SqL K H a (ns.map V.int)->sp [.ref a] H (fun v _=>v=.bl true) fun _ _ _=>False)
  (hCX:∀ H e s',CX [] H s₁ (fun _ _ _=>False) e s'->False) :
  codeAny (model P w) callerA (.call (.ref fa) ⟨[.ref a],[]⟩) (fun r s'=>r=.ok (.ret (.bool true))/\OldK s₁.heap s'.heap/\s'.os=s₁.os/\AllBare s'.gens) s₁:=by
 have rv:=jD hi
 have lenV:=hi.length
 -- from an abstract heap in which nothing but the script may be tracked
 have core:∀ H:Hp,zfd H->SqL K H a (ns.map V.int)->HOk P w H s₁.heap->(∀ b,H b≠none->b=a)->(H a≠none->K.lookup a=none) ->
   codeAny (model P w) callerA (.call (.ref fa) ⟨[.ref a],[]⟩) (fun r s'=>r=.ok (.ret (.bool true))/\OldK s₁.heap s'.heap/\s'.os=s₁.os/\AllBare s'.gens) s₁:=by
  intro H hO hS hok hA hK
  have base_of:∀ {b:Addr} {o:Obj},s₁.heap.get? b=some o->H b=none->(W8 s₁.heap H).get? b=some o:=fun e n=>zbw e n
  have noA:∀ {b:Addr} {o:Obj} {es:Array DictEntry} {ep:Nat},s₁.heap.get? b=some o->o.data=.dict es ep->H b=none:=fun {b o es ep} e d=>by
   cases q:H b with
   |none=>rfl
   |some u=>
    have e':b=a:=hA b (by rw[q];simp)
    subst e'
    rw[ha]at e;cases e
    have d':Data.seq vs.toArray _=Data.dict es ep:=d
    cases d'
  have nsK:∀ {b:Addr} {m:Str->Option Value},s₁.heap.Ns b m->(W8 s₁.heap H).Ns b m:=fun {b m} ⟨o,es,ep,e,d,r⟩=>⟨o,es,ep,base_of e (noA e d),d,r⟩
  have hKb:K.In (W8 s₁.heap H):=fun b o e=>base_of (KX b o e) (by
   cases q:H b with
   |none=>rfl
   |some u=>
    have e':b=a:=hA b (by rw[q];simp)
    subst e'
    rw[hK (by rw[q];simp)]at e;cases e)
  have hM:Mod K mg (W8 s₁.heap H):=⟨hKb,nsK hns,⟨mb,nsK hb,hbb⟩,let ⟨mc,h1,h2⟩:=hlim;⟨mc,nsK h1,h2⟩⟩
  have e0:zc7 P w K mg (W8 s₁.heap H) callerA [] s₁ H:=⟨rfl,hM,fun b o e=>zdO e,Nat.le_of_eq (zae _ _),trivial,fun b hb=>absurd (show b∈([]:List Addr) from hb) (by simp),hok,.of_eq hg⟩
  refine codeAny_mono ((F _ hKb (nsK hns)).run callerA [] s₁ H ⟨[.ref a],[]⟩ [.ref a] [.ref a] _ _ hr e0 (hbind s₁ (.ref a)) (.cons rfl .nil) (hsp H hO hS)) fun r s' h=>?_
  cases r with
  |error e=>exact (hCX H e s' h).elim
  |ok fl=>
   cases fl with
   |next=>exact False.elim h
   |brk=>exact False.elim h
   |cont=>exact False.elim h
   |ret u=>
    obtain⟨v,H',os,bare,un,hok',r',q⟩:=h
    have q':v=.bl true:=q
    subst q'
    obtain rfl:u=Value.bool true:=r'
    refine⟨rfl,OldK.of_keep fun b o e=>?_,os,bare⟩
    cases q:H b with
    |none=>exact un.keep b o e q (by intro z;exact absurd (show b∈([]:List Addr) from z) (by simp)) (by simp)
    |some u=>
     rcases hO b with z | ⟨ob,xs,z⟩
     ·rw[q]at z;cases z
     ·have z2:=un.frzs b ob _ z
      obtain⟨e1,_⟩:=hok b _ z
      obtain⟨e2,_⟩:=hok' b _ z2
      rw[e]at e1;cases e1
      exact e2
 cases hk:K.lookup a with
 |some o=>
  -- the script is one of the module's own objects
  have e:=KX a o hk
  rw[ha]at e
  cases e
  refine core (fun _=>none) (fun _=>.inl rfl) (.inr ⟨_,vs.toArray,_,hk,rfl,rfl,rfl,by rw[xq,lenV];exact hl,by simpa using rv⟩) (fun b u z=>by have z':(none:Option HO)=some u:=z;cases z') (fun b z=>absurd rfl z) fun z=>absurd rfl z
 |none=>
  refine core (fun b=>if b=a then some (.frz { cls:=.type "list",data:=.seq vs.toArray } (.lst (ns.map V.int))) else none) (fun b=>?_) (.inl (.inr ⟨{ cls:=.type "list",data:=.seq vs.toArray },if_pos rfl⟩)) (fun b u z=>?_) (fun b z=>?_) fun _=>hk
  ·by_cases hb:b=a
   ·exact .inr ⟨_,_,if_pos hb⟩
   ·exact .inl (if_neg hb)
  ·by_cases hb:b=a
   ·have z':=(if_pos hb).symm.trans z
    cases z'
    subst hb
    exact⟨ha,by rw[xk];exact hl,vs,_,rv,ha⟩
   ·have z':=(if_neg hb).symm.trans z
    cases z'
  ·by_cases hb:b=a
   ·exact hb
   ·exact absurd (if_neg hb) z
end L2
namespace L2
open PySem PySem.Spec PyProof.Rows
noncomputable abbrev KOf{K:PySem.W.Frag}{h:Heap}(_:K.In h):PySem.W.Frag:=K
theorem walk_of{l:PySem.W.OpenLaw}{n k:Nat}{q:Program}{loose:List Str}{XP:(Str->Option Value)->Heap->Prop}{YP:World->Heap->Prop}{d:DefRec}{K:Params->PySem.W.Frag}{CX:World->CXT}{sp:World->Sp}{x:Str}
  (hn:l.most=some n) (hn2:n<=sizeLine) (hdf:d.params.defaults= []) (hr:Room k callerA)
  (hY:∀ (w:World) (h:Heap),YP w h->(K w.params).In h)
  (F:∀ (w:World) (mg:Str->Option Value) (fa:Addr) (h:Heap),(K w.params).In h->h.Ns mainGlobals mg->mg d.name=some (.ref fa) ->
   ∃ fd:FuncData,(∀ (s:Shared) (u:Value),BindsTo s fd ⟨[u],[]⟩ [(x,u)]) /\
    ∀ base:Heap,(K w.params).In base->base.Ns mainGlobals mg->we l.prog w (K w.params) mg base (CX w) k fa fd [x] (sp w))
  (hsp:∀ (w:World) (H:Hp) (a:Addr) (ns:List Int),ns.length<=n->zfd H->SqL (K w.params) H a (ns.map V.int)->sp w [.ref a] H (fun v _=>v=.bl true) fun _ _ _=>False)
  (hCX:∀ (w:World) (H:Hp) (s:Shared) (e:Value) (s':Shared),CX w [] H s (fun _ _ _=>False) e s'->False) :
  PySem.W.WalkO q loose XP YP l.row.toRowW d [] (fun f vs=>PySem.call f vs):=by
 refine Att.attach_call hn hdf fun w s₀ s₁ mg mb fa o pm cd doc a vs ns G Y ho hd hcd hmg hobj hints hlen hg=>?_
 have KX:=hY w _ Y
 obtain⟨fd,hb,hF⟩:=F w mg fa _ KX G.T.g hmg
 exact zci KX G.T.g G.T.b G.T.builtins G.T.nolimit hg hobj hints (xL hlen hn2) hr hF hb (fun H hO hS=>hsp w H a ns hlen hO hS) fun H e s'=>hCX w H s₁ e s'
end L2
namespace L2
open PySem PySem.Spec PyProof.Rows
noncomputable def jj(s:Stmt):Arguments:=match s with
 |.FunctionDef _ a _ _ _ _ _ _ _ _=>a
 |_=>{ posonlyargs:= [],args:= [],vararg:=none,kwonlyargs:= [],kw_defaults:= [],kwarg:=none,defaults:= [] }
noncomputable def defBody(s:Stmt):List Stmt:=match s with
 |.FunctionDef _ _ b _ _ _ _ _ _ _=>b
 |_=> []
noncomputable def defScope(s:Stmt):Scope:=match s with
 |.FunctionDef _ _ _ _ _ _ sc _ _ _=>sc
 |_=>{ kind:=.function,names:= [],isGenerator:=false,isCoroutine:=false }
noncomputable abbrev CX0:CXT:=fun _ _ _ _ _ _=>False
noncomputable abbrev E0:XK:=fun _ _ _=>False
theorem kB{X:Cx}:wH CX0 X E0:=fun _ _ _ _ _ _ _ h=>h.elim
structure Fun(K:PySem.W.Frag)(x qual:Str)(st:Stmt)(f:Addr)(fd:FuncData):Prop where
 ex:∃ (oc:Value) (od:Option Addr) (kV doc pm:Value) (an:Option Addr) (cdv ct:Value) (osl:Array (Option Value)),
  fd=PySem.W.fnOf x qual (jj st) (defBody st) (defScope st) .none kV doc pm an cdv ct/\K.lookup f=some ⟨oc,od,.func fd,osl⟩/\PySem.W.codeIn K cdv qual=true
 kp:PySem.W.keepIn K (.ref f)=true
section
variable {P:Program} {w:World} {K:PySem.W.Frag} {mg:Str->Option Value} {base:Heap}
theorem Fun.ok{x qual:Str}{st:Stmt}{f:Addr}{fd:FuncData}{N ps:List Str}{k:Nat}{sp:Sp}(F:Fun K x qual st f fd)(S:qN N ps (defScope st))(len:∀ vs H Q E,sp vs H Q E->vs.length=ps.length)
  (hbody:∀ (cdv:Value) (A:Around) (outer:List Env) (s:Shared) (H:Hp) (vs:List V) (Q:VK) (E:XK),Room k (A.deeper (envOfC qual (defScope st) s.heap.objs.size f cdv))->sp vs H Q E ->
   ∃ t,PSs (ZN CX0 P w K mg base N qual (defScope st) f cdv A outer s H E).nox (defBody st) t/\t { nx:=fun _ H'=>Q .non H',rt:=Q } (start N vs) H):we P w K mg base CX0 (k+1) f fd ps sp:=by
 obtain⟨oc,od,kV,doc,pm,an,cdv,ct,osl,rfl,lk,hcd⟩:=F.ex
 refine zeG lk hcd S len fun A outer s H vs Q E hr hsp=>?_
 obtain⟨t,h,q⟩:=hbody cdv A outer s H vs Q E hr hsp
 exact⟨t,h.nox,q⟩
theorem Fun.binds{x qual:Str}{st:Stmt}{f:Addr}{fd:FuncData}{ps:List Str}(F:Fun K x qual st f fd)
  (h:∀ (kV doc pm:Value) (an:Option Addr) (cdv ct:Value) (us:List Value),us.length=ps.length->bindArgs (PySem.W.fnOf x qual (jj st) (defBody st) (defScope st) .none kV doc pm an cdv ct) ⟨us,[]⟩=pure (ps.zip us)):Binds K fd ps []:=by
 obtain⟨oc,od,kV,doc,pm,an,cdv,ct,osl,rfl,lk,hcd⟩:=F.ex
 exact .all (h kV doc pm an cdv ct)
theorem Yx{x qual:Str}{st:Stmt}{f:Addr}{oc:Value}{od an:Option Addr}{osl:Array (Option Value)}{kV doc pm cdv ct:Value}(l:K.lookup f=some ⟨oc,od,.func (PySem.W.fnOf x qual (jj st) (defBody st) (defScope st) .none kV doc pm an cdv ct),osl⟩)
  (c:PySem.W.codeIn K cdv qual=true) (k:PySem.W.keepIn K (.ref f)=true):Fun K x qual st f (PySem.W.fnOf x qual (jj st) (defBody st) (defScope st) .none kV doc pm an cdv ct):=⟨⟨oc,od,kV,doc,pm,an,cdv,ct,osl,rfl,l,c⟩,k⟩
end
section
variable {X:Cx}
theorem pv (i:Nat){x:Str}{pos:Pos}(hN:X.N[i]?=some x:=by rfl) (hv:Vis X.env.scope x:=by first | exact Or.inl rfl | exact Or.inr (Or.inl rfl) | exact Or.inr (Or.inr rfl)) (hd:(x==("__debug__" :Str))=false:=by decide)
    (hcd:(x==("__classdict__" :Str))=false:=by decide):PE X (.Name x pos) (zhj i):=jT hN hv hd hcd
end
theorem Vr{A B:Prop}(h:B):if false=true then A else B:=by
 rw[if_neg uy]
 exact h
theorem vc{A B:Prop}(h:A):if true=true then A else B:=by
 rw[if_pos rfl]
 exact h
noncomputable def Same(H H':Hp):Prop:=∀ b o,H b=some o->H' b=some o
theorem Same.refl(H:Hp):Same H H:=fun _ _ h=>h
theorem Same.trans{H H1 H2:Hp}(a:Same H H1)(b:Same H1 H2):Same H H2:=fun c o h=>b c o (a c o h)
theorem Same.free{H H':Hp}(e:Same H H'){l:Addr}(h:H' l=Option.none):H l=Option.none:=by
 cases q:H l with
 |none=>rfl
 |some o=>
  rw[e l o q]at h
  cases h
theorem Same.seq{K:PySem.W.Frag}{H H':Hp}{a:Addr}{xs:List V}(e:Same H H')(h:SqL K H a xs):SqL K H' a xs:=by
 rcases h with (h | ⟨o,h⟩) | h
 ·exact .inl (.inl (e _ _ h))
 ·exact .inl (.inr ⟨o,e _ _ h⟩)
 ·exact .inr h
end L2
namespace L2
open PySem PySem.Spec PyProof.Rows
theorem qI{α β:Type}[BEq α][LawfulBEq α]:∀ {l:List (α×β)}{x:α}{v:β},l.lookup x=some v->(x,v)∈l
 |[],_,_,h=>by simp at h
 | (a,b)::r,x,v,h=>by
  rw[xC]at h
  cases e:x==a with
  |true=>rw[e]at h;have e':=eq_of_beq e;subst e';cases h;exact xz
  |false=>rw[e]at h;exact xi _ (qI h)
theorem ZF{env:Env}:∀ (names:List (Str×NameKind)) (cs:List (Str×Addr)),
    (∀ y∈names,y.2=.free->∃ c,env.cells.lookup y.1=some c)->(∀ x c,cs.lookup x=some c->env.cells.lookup x=some c) ->
    ∃ cl,(forIn names cs fun x r=>if (x.snd==NameKind.free)=true then do
                let z<-cellOf env x.fst
                pure (ForInStep.yield ((x.fst,z)::r))
              else pure (ForInStep.yield r):Sem (List (Str×Addr)))=pure cl/\(∀ x c,cl.lookup x=some c->env.cells.lookup x=some c) /\
      (∀ x,(∃ c,cs.lookup x=some c)∨(x,NameKind.free)∈names->∃ c,cl.lookup x=some c)
  |[],cs,_,h2=>⟨cs,by simp,h2,fun x hx=>by
      rcases hx with h | h
      · exact h
      · cases h⟩
  | (n,k)::r,cs,h1,h2=>by
    rw[List.forIn_cons]
    by_cases hk:k=.free
    · subst hk
      obtain⟨c,hc⟩:=h1 (n,.free) xz rfl
      have e:cellOf env n=pure c:=by unfold cellOf;rw[hc]
      obtain⟨cl,e1,h3,h4⟩:=ZF r ((n,c)::cs) (fun y hy=>h1 y (xi _ hy)) (fun x c' hx=>by
        rw[xC]at hx
        cases q:x==n with
        |true=>rw[q]at hx;cases hx;rw[eq_of_beq q];exact hc
        |false=>rw[q]at hx;exact h2 x c' hx)
      refine⟨cl,?_,h3,fun x hx=>h4 x ?_⟩
      · simp only [beq_self_eq_true, if_true, e, pure_bind]
        exact e1
      · by_cases q : x = n
        · subst q;exact .inl ⟨c,by simp⟩
        · rcases hx with ⟨c', hx⟩ | hx
          · exact .inl ⟨c',by rw[xC,beq_eq_false_iff_ne.mpr q];exact hx⟩
          · rcases List.mem_cons.mp hx with z | z
            · exact absurd (congrArg Prod.fst z) q
            · exact .inr z
    · have hb : (k == NameKind.free) = false := by simpa using hk
      obtain⟨cl,e1,h3,h4⟩:=ZF r cs (fun y hy=>h1 y (xi _ hy)) h2
      refine⟨cl,?_,h3,fun x hx=>h4 x ?_⟩
      · simp only [hb, Bool.false_eq_true, if_false, pure_bind]
        exact e1
      · rcases hx with hx | hx
        · exact .inl hx
        · rcases List.mem_cons.mp hx with z | z
          · exact absurd (congrArg Prod.snd z).symm hk
          · exact .inr z
theorem YL{sc:Scope}{env:Env}(h:∀ y∈sc.names,y.2=.free->∃ c,env.cells.lookup y.1=some c) :
  ∃ cl,closureFor sc env=pure cl/\(∀ x c,cl.lookup x=some c->env.cells.lookup x=some c)/\(∀ x,(x,NameKind.free)∈sc.names->∃ c,cl.lookup x=some c):=by
 obtain⟨cl,e,h1,h2⟩:=ZF (env:=env) sc.names [] h (fun x c z=>by simp at z)
 refine⟨cl,?_,h1,fun x hx=>h2 x (.inr hx)⟩
 simp only[closureFor]
 rw[bind_pure]
 exact e
noncomputable abbrev Cx.comp(X:Cx)(N':List Str)(scope:Scope)(cl:List (Str×Addr))(C:Addr)(s2:Shared)(H2:Hp)(fp:List Addr):Cx :=
 { X with N:=N',env:=compEnvC scope cl C X.env,s₀:=s2,H₀:=H2,outer:=X.stack,stack:=X.stack,ex:=fp,fn:=fun x=>decide (scope.names.lookup x=some .cell),pn:= [],xe:=fun _ _=>False }
structure CSc(psc:Scope)(N:List Str)(sc:Scope)(N':List Str)(k:Nat)(ix:List Nat):Prop where
 kind:sc.kind=.function
 cel:∀ y∈sc.names,y.2=.cell->sc.names.lookup y.1=some .cell
 loc:∀ y∈sc.names,y.2=.local->sc.names.lookup y.1=some .local
 fre:∀ y∈sc.names,y.2=.free->psc.names.lookup y.1=some .cell∨psc.names.lookup y.1=some .free
 len:N'.length=k+ix.length
 nd:N'.Nodup
 cap:∀ (j i:Nat),ix[j]?=some i->∃ y,N'[k+j]?=some y/\N[i]?=some y/\sc.names.lookup y=some .free
noncomputable def zcC(psc:Scope)(N:List Str)(sc:Scope)(N':List Str)(k:Nat)(ix:List Nat):Bool :=
 decide (sc.kind=.function)&&sc.names.all (fun y=>(decide (y.2≠ .cell)||decide (sc.names.lookup y.1=some .cell))&&(decide (y.2≠ .local)||decide (sc.names.lookup y.1=some .local))&&(decide (y.2≠ .free)||decide (psc.names.lookup y.1=some .cell)||decide (psc.names.lookup y.1=some .free))) &&
 decide (N'.length=k+ix.length)&&decide N'.Nodup&&(List.range ix.length).all (fun j=>match N'[k+j]?,N[ix.getD j 0]? with
  |some y,some z=>decide (y=z)&&decide (sc.names.lookup y=some .free)
  |_,_=>false)
theorem CSc.of{psc:Scope}{N:List Str}{sc:Scope}{N':List Str}{k:Nat}{ix:List Nat}(h:zcC psc N sc N' k ix=true):CSc psc N sc N' k ix:=by
 unfold zcC at h
 simp only[xa,decide_eq_true_eq,xD,xM]at h
 obtain⟨⟨⟨⟨h1,h2⟩,h3⟩,h4⟩,h5⟩:=h
 refine⟨h1,fun y hy e=>?_,fun y hy e=>?_,fun y hy e=>?_,h3,h4,fun j i e=>?_⟩
 ·rcases (h2 y hy).1.1 with z | z
  ·exact absurd e z
  ·exact z
 ·rcases (h2 y hy).1.2 with z | z
  ·exact absurd e z
  ·exact z
 ·rcases (h2 y hy).2 with (z | z) | z
  ·exact absurd e z
  ·exact .inl z
  ·exact .inr z
 ·obtain⟨hj,ei⟩:=xc.mp e
  have:=h5 j (xE.mpr hj)
  have e2:ix.getD j 0=i:=by rw[List.getD_eq_getElem?_getD,e];rfl
  rw[e2]at this
  split at this
  ·rename_i y z ey ez
   simp only[xa,decide_eq_true_eq]at this
   obtain⟨rfl,hl⟩:=this
   exact⟨y,ey,ez,hl⟩
  ·cases this
noncomputable def cS(k:Nat)(ix:List Nat)(σ:St):St:=List.replicate k none++ix.map fun i=>(σ[i]?).join
theorem Qu{env:Env}:∀ {names:List (Str×NameKind)}{x:Str},
    ((names.map fun (n,k)=>if (k==NameKind.free&&env.scope.kind==.function&&env.kindOf n==some .cell) then (n,NameKind.cell) else (n,k)).lookup x=some .cell ∨
     (names.map fun (n,k)=>if (k==NameKind.free&&env.scope.kind==.function&&env.kindOf n==some .cell) then (n,NameKind.cell) else (n,k)).lookup x=some .free)->names.lookup x=some .free∨names.lookup x=some .cell
  |[],_,h=>by simp at h
  | (n,k)::r,x,h=>by
    have ih:=@Qu env r x
    rw[xK]at h
    dsimp only at h
    by_cases hcd:(k==NameKind.free&&env.scope.kind==.function&&env.kindOf n==some .cell)=true
    · have hkf : k = .free := by
        simp only[xa]at hcd
        exact eq_of_beq hcd.1.1
      rw[if_pos hcd]at h
      cases hx:x==n with
      |true=>rw[xC,hx,hkf];exact .inl rfl
      |false=>simp only[xC,hx]at h;simp only[xC,hx];exact ih h
    · rw [if_neg hcd] at h
      cases hx:x==n with
      |true=>
        simp only[xC,hx]at h
        rw[xC,hx]
        rcases h with h | h
        · exact .inr h
        · exact .inl h
      |false=>simp only[xC,hx]at h;simp only[xC,hx];exact ih h
theorem Jg{env:Env}:∀ {names:List (Str×NameKind)}{x:Str},names.lookup x=some .free ->
    ((names.map fun (n,k)=>if (k==NameKind.free&&env.scope.kind==.function&&env.kindOf n==some .cell) then (n,NameKind.cell) else (n,k)).lookup x=some .cell ∨
     (names.map fun (n,k)=>if (k==NameKind.free&&env.scope.kind==.function&&env.kindOf n==some .cell) then (n,NameKind.cell) else (n,k)).lookup x=some .free)
  |[],_,h=>by simp at h
  | (n,k)::r,x,h=>by
    have ih:=@Jg env r x
    rw[xK]
    dsimp only
    cases hx:x==n with
    |true=>
      rw[xC,hx]at h
      cases h
      by_cases hcd:(NameKind.free==NameKind.free&&env.scope.kind==.function&&env.kindOf n==some .cell)=true
      · rw[if_pos hcd];simp[xC,hx]
      · rw[if_neg hcd];simp[xC,hx]
    |false=>
      rw[xC,hx]at h
      by_cases hcd:(k==NameKind.free&&env.scope.kind==.function&&env.kindOf n==some .cell)=true
      · rw[if_pos hcd];simp only[xC,hx];exact ih h
      · rw[if_neg hcd];simp only[xC,hx];exact ih h
structure ClOk(X:Cx)(sc:Scope)(cl:List (Str×Addr))(C:Addr)(h4:Heap):Prop where
 src:∀ x c,cl.lookup x=some c->X.env.cells.lookup x=some c∨(C<c/\h4.IsCell c none)
 inj:∀ x y c,cl.lookup x=some c->cl.lookup y=some c->x=y
 has:∀ x,(sc.names.lookup x=some .free∨sc.names.lookup x=some .cell)->∃ c,cl.lookup x=some c
 own:∀ x c,sc.names.lookup x=some .cell->cl.lookup x=some c->C<c
 old:∀ x c,sc.names.lookup x=some .free->cl.lookup x=some c->X.env.cells.lookup x=some c
theorem qw:∀ (names:List (Str×NameKind)) (n:Nat) (acc:List (Str×Addr)),cellsFrom n names acc=cellsFrom n names []++acc
 |[],n,acc=>rfl
 | (x,k)::r,n,acc=>by
  unfold cellsFrom
  split
  ·rw[qw r (n+1) ((x,n)::acc),qw r (n+1) [(x,n)],List.append_assoc];rfl
  ·exact qw r n acc
theorem jP:∀ (names:List (Str×NameKind)) (n:Nat) (y:Str×Addr),y∈cellsFrom n names []->(y.1,NameKind.cell)∈names
 |[],n,y,h=>by cases h
 | (x,k)::r,n,y,h=>by
  unfold cellsFrom at h
  split at h
  ·rename_i hk
   rw[qw]at h
   rcases xH.mp h with h | h
   ·exact xi _ (jP r _ y h)
   ·have e:y=(x,n):=by simpa using h
    subst e
    have hk':k=.cell:=eq_of_beq hk
    subst hk'
    exact xz
  ·exact xi _ (jP r _ y h)
theorem ZY{β:Type}:∀ (l1 l2:List (Str×β)) (x:Str),(l1++l2).lookup x=(match l1.lookup x with | some v=>some v | none=>l2.lookup x)
 |[],l2,x=>rfl
 | (a,b)::l1,l2,x=>by
  rw[uR,xC,xC]
  cases x==a with
  |true=>rfl
  |false=>exact ZY l1 l2 x
theorem wQ{M:Model}{A:Around}{E:Value->Shared->Prop}{s:Shared}{scope:Scope}{globals:Addr}{cl:List (Str×Addr)}{qual:Str}{env:Env}{builtins:Addr}{Q:Env->Shared->Prop}
  (hQ:Q (newEnv scope s.heap.objs.size globals (cellsFrom (s.heap.objs.size+1) scope.names cl) qual none .none (some env) builtins) { s with heap:=pushCells (s.heap.push { cls:=.type "dict",data:=.dict #[] }) scope.names }) :
  wpAny M A (newFunctionEnv scope globals cl [] qual none .none (some env) builtins) Q E s:=by
 simp only[newFunctionEnv,Option.isSome_some,if_true]
 refine wpAny_bind (wpAny_alloc ?_)
 refine wpAny_bind (wpAny_layCells _ (fun name kind cells=>by cases hkc:kind==NameKind.cell<;>simp[hkc]) _ _ _ _ ?_)
 rw[show ({ s with heap:=s.heap.push { cls:=.type "dict",data:=.dict #[] } }:Shared).heap.objs.size=s.heap.objs.size+1 from Heap.size_push ..]
 simp only[List.forIn_nil]
 exact wpAny_bind (wpAny_pure (wpAny_pure hQ))
section
variable {X:Cx} {pins:List (Addr×Obj)} {σ:St} {H:Hp} {s2:Shared}
theorem ClOk.of{sc:Scope}{N':List Str}{ix:List Nat}{k:Nat}(I:Inv X pins σ H s2)(S:CSc X.env.scope X.N sc N' k ix){cl:List (Str×Addr)}(hcl1:∀ x c,cl.lookup x=some c->X.env.cells.lookup x=some c)(hcl2:∀ x,(x,NameKind.free)∈sc.names->∃ c,cl.lookup x=some c)
  {g:Heap} {o:Obj} (hg:s2.heap.objs.size<=g.objs.size):ClOk X sc (cellsFrom (g.objs.size+1) sc.names cl) g.objs.size (pushCells (g.push o) sc.names):=by
 have ok:=cellsFrom_ok sc.names (g.push o) (g.objs.size+1) [] ⟨(fun _ _ hm=>nomatch hm),List.Pairwise.nil⟩ (by rw[Heap.size_push];exact xn _)
 rw[Heap.size_push]at ok
 rw[qw]
 have hnew:∀ x c,(cellsFrom (g.objs.size+1) sc.names []).lookup x=some c->g.objs.size<c/\(pushCells (g.push o) sc.names).IsCell c none/\(x,NameKind.cell)∈sc.names:=fun x c e=>by
  have hm:=qI e
  have:=ok.empty x c hm
  exact⟨Nat.lt_of_succ_le this.2,this.1,jP _ _ _ hm⟩
 have hold:∀ x c,cl.lookup x=some c->c<g.objs.size:=fun x c e=>by
  obtain⟨v,ob,hob,_⟩:=I.cell x c (hcl1 x c e)
  exact xy (Heap.lt_size hob) hg
 have hget:∀ x c,(cellsFrom (g.objs.size+1) sc.names []++cl).lookup x=some c->((cellsFrom (g.objs.size+1) sc.names []).lookup x=some c)∨((cellsFrom (g.objs.size+1) sc.names []).lookup x=none/\cl.lookup x=some c):=fun x c e=>by
  rw[ZY]at e
  cases q:(cellsFrom (g.objs.size+1) sc.names []).lookup x with
  |some v=>rw[q]at e;exact .inl e
  |none=>rw[q]at e;exact .inr ⟨rfl,e⟩
 have hnone:∀ x,sc.names.lookup x=some .free->(cellsFrom (g.objs.size+1) sc.names []).lookup x=none:=fun x hx=>by
  cases q:(cellsFrom (g.objs.size+1) sc.names []).lookup x with
  |none=>rfl
  |some c=>
   have:=S.cel (x,.cell) (hnew x c q).2.2 rfl
   rw[hx]at this;cases this
 refine⟨fun x c e=>?_,fun x y c e1 e2=>?_,fun x hx=>?_,fun x c hx e=>?_,fun x c hx e=>?_⟩
 ·rcases hget x c e with q | ⟨_,q⟩
  ·exact .inr ⟨(hnew x c q).1,(hnew x c q).2.1⟩
  ·exact .inl (hcl1 x c q)
 ·rcases hget x c e1 with q1 | ⟨_,q1⟩
  ·rcases hget y c e2 with q2 | ⟨_,q2⟩
   ·have m1:=qI q1
    have m2:=qI q2
    by_cases hxy:x=y
    ·exact hxy
    ·exfalso
     have:=ok.apart
     obtain⟨i,hi,ei⟩:=ud m1
     obtain⟨j,hj,ej⟩:=ud m2
     have pw:=uq.mp this
     rcases uM i j with h | h | h
     ·have:=pw i j hi hj h
      rw[ei,ej]at this;exact this rfl
     ·subst h
      rw[ei]at ej
      exact hxy (congrArg Prod.fst ej)
     ·have:=pw j i hj hi h
      rw[ei,ej]at this;exact this rfl
   ·exact absurd (hold y c q2) (Nat.not_lt.mpr (uo (hnew x c q1).1))
  ·rcases hget y c e2 with q2 | ⟨_,q2⟩
   ·exact absurd (hold x c q1) (Nat.not_lt.mpr (uo (hnew y c q2).1))
   ·exact I.ok.inj x y c (hcl1 x c q1) (hcl1 y c q2)
 ·rw[ZY]
  rcases hx with hx | hx
  ·rw[hnone x hx]
   exact hcl2 x (qI hx)
  ·obtain⟨c,hc⟩:=Z7 (n:=g.objs.size+1) hx
   rw[hc];exact⟨c,rfl⟩
 ·rcases hget x c e with q | ⟨q,_⟩
  ·exact (hnew x c q).1
  ·obtain⟨c',hc⟩:=Z7 (n:=g.objs.size+1) hx
   rw[hc]at q;cases q
 ·rcases hget x c e with q | ⟨_,q⟩
  ·rw[hnone x hx]at q;cases q
  ·exact hcl1 x c q
theorem Inv.child{fp:List Addr}{sc:Scope}{N':List Str}{ix:List Nat}{k:Nat}(I:Inv X pins σ H s2)(S:CSc X.env.scope X.N sc N' k ix)(hf:∀ b∈fp,Q0 X pins H b)
  (hfo:∀ b∈fp,∃ o,s2.heap.get? b=some o) {cl:List (Str×Addr)}
  {C:Addr} {s4:Shared} (L:ClOk X sc cl C s4.heap) (hC:s2.heap.objs.size<=C) (keep:∀ b o,s2.heap.get? b=some o->s4.heap.get? b=some o) {m0:Str->Option Value} (hns:s4.heap.Ns C m0) (ho:s4.os=s2.os) (hg:AllBare s4.gens) :
  Inv (X.comp N' sc cl C s2 H fp) [] (cS k ix σ) H s4 where
 ok:={
  mod:=I.ok.mod
  kind:=S.kind
  glob:=I.ok.glob
  blt:=I.ok.blt
  above:=hC
  inj:=L.inj
  has:=fun x hx=>L.has x (Qu (env:=X.env) hx)
  cab:=fun x c h e=>xL hC (uo (L.own x c (of_decide_eq_true h) e))
  hd:=I.ok.hd
  frames:=I.ok.frames
  stk:=.inl rfl
  exf:=fun b hb=>by
   obtain⟨f0,f1,f2,f3,f4,f5⟩:=hf b hb
   obtain⟨o,e⟩:=hfo b hb
   refine⟨xu (xy (Heap.lt_size e) hC),fun x c z=>?_⟩
   rcases L.src x c z with z | z
   ·exact f4 x c z
   ·exact Ne.symm (xu (Nat.lt_trans (xy (Heap.lt_size e) hC) z.1))
  bs:=fun b o e=>I.bs b o e
  bsz:=xL I.ok.bsz I.sz
  noex:=fun b o e hb=>by
   obtain⟨f0,f1,f2,f3,f4,f5⟩:=hf b hb
   rcases f3 with z | z
   ·exact I.ok.noex b o e z
   ·exact absurd (xy (Heap.lt_size (I.ok.bs b o e).1) z) (ue _)
  exfs:=fun b hb hz=>by
   obtain⟨f0,f1,f2,f3,f4,f5⟩:=hf b hb
   rcases xm.mp (I.stkSub b hz)with z | z
   ·exact f1 z
   ·exact f2 z
  funs:=I.stack
  frf:=I.stkFree }
 os:=ho
 bare:=hg
 base:=Un.kept keep
 loc:=⟨m0,hns,fun i x v e1 e2 e3=>by
  unfold cS at e2
  by_cases hi:i<k
  ·rw[xf (by simpa using hi),xS,if_pos hi]at e2
   cases e2
  ·obtain⟨j,rfl⟩:∃ j,i=k+j:=⟨i-k,by omega⟩
   rw[xh (by simp),uE,Nat.add_sub_cancel_left,xg]at e2
   cases q:ix[j]? with
   |none=>rw[q]at e2;cases e2
   |some i0=>
    rw[q]at e2
    obtain⟨y,hy1,hy2,hy3⟩:=S.cap j i0 q
    have ey:y=x:=by
     have:(X.comp N' sc cl C s2 H fp).N[k+j]?=some y:=hy1
     rw[this]at e1;exact Option.some.inj e1
    subst ey
    have ev:σ[i0]?=some (some v):=by
     simp only[ut,Option.some.injEq]at e2
     cases r:σ[i0]? with
     |none=>rw[r]at e2;cases e2
     |some z=>rw[r]at e2;exact congrArg some e2
    obtain⟨m,hn,hl⟩:=I.loc
    have hfr:=S.fre (y,.free) (qI hy3) rfl
    have hv:Vis X.env.scope y:=.inr hfr
    obtain⟨u,r1,l1⟩:=hl i0 y v hy2 ev hv
    refine⟨u,r1,.inr ⟨Jg (env:=X.env) hy3,?_⟩⟩
    obtain⟨c,hc⟩:=L.has y (.inl hy3)
    refine⟨c,hc,?_⟩
    have hc':=L.old y c hy3 hc
    rcases l1 with ⟨hk,_⟩ | ⟨_,c',hc2,z⟩
    ·have hk':X.env.scope.names.lookup y=some .local:=hk
     rcases hfr with w | w
     ·rw[hk']at w;cases w
     ·rw[hk']at w;cases w
    ·rw[hc']at hc2;cases hc2
     obtain⟨ob,hob,hd⟩:=z
     exact⟨ob,keep _ _ hob,hd⟩⟩
 cell:=fun x c e=>by
  rcases L.src x c e with e | e
  ·obtain⟨v,ob,hob,hd⟩:=I.cell x c e
   exact⟨v,ob,keep _ _ hob,hd⟩
  ·exact⟨none,e.2⟩
 free:=I.hok.fresh hC
 freeC:=fun x c e=>by
  rcases L.src x c e with e | e
  ·exact I.freeC x c e
  ·exact I.hok.fresh (xL hC (uo e.1))
 pin:=fun p hp=>by cases hp
 hok:=I.hok.kept keep
 len:=by
  show (cS k ix σ).length=N'.length
  rw[S.len];unfold cS;simp
theorem Inv.back{fp:List Addr}{sc:Scope}{N':List Str}{cl:List (Str×Addr)}{C:Addr}{pl:List (Addr×Obj)}{σc:St}{H5:Hp}{s5:Shared}(I:Inv X pins σ H s2)(hf:∀ b∈fp,Q0 X pins H b)(J:Inv (X.comp N' sc cl C s2 H fp) pl σc H5 s5):Inv X pins σ H5 s5 :=
 I.call' (ch:=fp) J.os J.base J.hok J.bare fun b hb=>by
  obtain⟨f0,f1,f2,f3,f4,f5⟩:=hf b hb
  exact⟨f3,f1,f4,f5⟩
end
section
variable {X:Cx} {pins:List (Addr×Obj)} {σ:St} {H:Hp} {s:Shared}
theorem Inv.track{a:Addr}{o:HO}(I:Inv X pins σ H s)(ha:X.s₀.heap.objs.size<=a)(hn:H a=none)(hL:a≠X.env.locals)(hc:∀ x c,X.env.cells.lookup x=some c->c≠a)(hp:∀ p∈X.pn++pins,p.1≠a)
  (new:ObjOk X.prog X.w (upd H a o) s.heap a o):Inv X pins σ (upd H a o) s where
 ok:=I.ok
 os:=I.os
 bare:=I.bare
 base:={
  keep:=I.base.keep
  slot:=I.base.slot
  free:=fun b ob e n hx=>by
   rw[zn (xu (xy (Heap.lt_size e) ha))]
   exact I.base.free b ob e n hx
  there:=I.base.there
  tups:=fun b xs e=>by
   have:=I.base.tups b xs e
   rw[zn (zS this hn)];exact this
  frzs:=fun b ob u e=>by
   have:=I.base.frzs b ob u e
   rw[zn (zS this hn)];exact this
  tbls:=fun b ps e=>by
   obtain⟨mo,this⟩:=I.base.tbls b ps e
   exact⟨mo,by rw[zn (zS this hn)];exact this⟩ }
 loc:=I.loc
 cell:=I.cell
 free:=by rw[zn (Ne.symm hL)];exact I.free
 freeC:=fun x c e=>by rw[zn (hc x c e)];exact I.freeC x c e
 pin:=fun p h=>by
  obtain⟨e,n,r⟩:=I.pin p h
  exact⟨e,by rw[zn (hp p h)];exact n,r⟩
 hok:=fun b u q=>by
  by_cases hb:b=a
  ·subst hb;rw[zx]at q;cases q;exact new
  ·rw[zn hb]at q
   exact (I.hok b u q).stay (fun c v _ r=>r) (fun c r=>by rw[zn (zS r hn)];exact r) fun c xs r=>by rw[zn (zS r hn)];exact r
 len:=I.len
end
noncomputable def PF(X:Cx)(ifs:List Expr)(t:TT):Prop :=
 ∀ (pins:List (Addr×Obj)) (s:Shared) (σ:St) (H:Hp) (Q:Bool->Hp->Prop),Inv X pins σ H s->t σ H Q ->
  wpAny (model X.prog X.w) X.A (forIn ifs true fun c r=>if r=true then do let ok<-isTrue c X.env (eval c X.env);pure (ForInStep.yield ok) else pure (ForInStep.yield r)) (TP X pins σ Q) X.xe s
noncomputable def zhi:TT:=fun _ H Q=>Q true H
theorem pf_nil{X:Cx}:PF X [] zhi:=fun _ _ _ H _ I h=>wpAny_tests_nil ⟨H,I,h⟩
theorem zgm{X:Cx}{c:Expr}{t:TT}(h:PT X c t):PF X [c] t:=fun pins s σ H Q I hw=>wpAny_tests_one (h pins s σ H Q I hw)
theorem V5{prog:Program}{w:World}{A:Around}{R:Result->Shared->Prop}{s:Shared}{elt target iter:Expr}{ifs:List Expr}{scope:Scope}{pos:Pos}{it acc:Value}{env:Env}(I:Nat->Shared->Prop)
  (turn:∀ n s,I n s->wpAny (model prog w) A (pyNext it) (fun r s₁=>match r with
   |none=>R (.ok .next) s₁
   |some v=>wpAny (model prog w) A (letOwnedTupleGo target it v) (fun _ s₁=>wpAny (model prog w) A (assign target env v) (fun _ s₂=>
     wpAny (model prog w) A (forIn ifs true fun c r=>if r=true then do let ok<-isTrue c env (eval c env);pure (ForInStep.yield ok) else pure (ForInStep.yield r)) (fun ok s₃=>
      if ok=true then wpAny (model prog w) A (eval elt env) (fun x s₄=>
       wpAny (model prog w) A (call (.builtin "list.append") [acc,x]) (fun _ s₅=>∃ m,m<n/\I m s₅) (fun _ _=>False) s₄) (fun _ _=>False) s₃
      else ∃ m,m<n/\I m s₃) (fun _ _=>False) s₂) (fun _ _=>False) s₁) (fun _ _=>False) s₁) (fun _ _=>False) s)
  (n:Nat) (h:I n s) :
  codeAny (model prog w) A (.compLoop (.ListComp elt [⟨target,iter,ifs,0⟩] scope pos) 0 it acc env) R s:=by
 refine codeAny_loop rfl I (fun n s hI=>?_) n h
 show wpAny _ A ((compTurn (.ListComp elt [⟨target,iter,ifs,0⟩] scope pos) 0 it acc env).onRaise (fun x=>do noteFrame x env;theTreesLotGoes x)) _ _ s
 refine wpAny_noted ?_
 rw[compTurn_list]
 refine wpAny_bind (wpAny_standAt (wpAny_bind (wpAny_mono (turn n s hI) (fun r s₁ h₁=>?_) fun _ _ f=>f.elim)))
 cases r with
 |none=>exact wpAny_pure h₁
 |some v=>
  refine wpAny_bind (wpAny_mono h₁ (fun _ s₂ h₂=>?_) fun _ _ f=>f.elim)
  refine wpAny_bind (wpAny_mono h₂ (fun _ s₂ h₂=>wpAny_bind (wpAny_mono h₂ (fun ok s₃ h₃=>?_) fun _ _ f=>f.elim)) fun _ _ f=>f.elim)
  cases ok with
  |false=>exact wpAny_pure ⟨rfl,h₃⟩
  |true=>
   exact wpAny_bind (wpAny_bind (wpAny_mono h₃ (fun x s₄ h₄=>wpAny_bind (wpAny_mono h₄ (fun _ s₅ h₅=>wpAny_pure (wpAny_pure ⟨rfl,h₅⟩)) fun _ _ f=>f.elim)) fun _ _ f=>f.elim))
noncomputable def zgh(k:Nat)(ix:List Nat)(g:TG)(tt:TT)(te:TE)(σ:St)(J:It)(H1:Hp)(Q:List V->Hp->Prop):Prop :=
 ∃ W:Nat->Nat->List V->Hp->Prop,(∃ m,W 0 m [] H1)/\∀ i m ys H,W i m ys H->ys.length<sizeLine /\
  ((J.stop i H/\Q ys H)∨(J.go i H/\∃ N:List V->Hp->Prop,(∀ ys' H',N ys' H'->∃ m',m'<m/\W (i+1) m' ys' H')/\∀ x H',J.yld i H x H'->g x (cS k ix σ) H' fun σ2 H2=>σ2.drop k=(cS k ix σ).drop k/\tt σ2 H2 fun b H3=>
   if b=true then te σ2 H3 fun y H4=>N (ys++ [y]) H4 else N ys H3))
noncomputable def Ww(k:Nat)(ix:List Nat)(wi:TI)(g:TG)(tt:TT)(te:TE):TE:=fun σ H Q=>
 wi σ H fun J H1=>zgh k ix g tt te σ J H1 fun ys H2=>∀ p,H2 p=none->Q (.ref p) (upd H2 p (.lst ys))
noncomputable abbrev j1 (ys:List Value) (n:Nat):Obj:={ cls:=.type "list",data:=.seq ys.toArray n }
section
variable {X:Cx} {pins:List (Addr×Obj)} {σ:St} {H:Hp} {s2:Shared}
theorem WC{elt tg iter:Expr}{ifs:List Expr}{scope:Scope}{pos:Pos}{N':List Str}{k:Nat}{ix:List Nat}{g:TG}{tt:TT}{te:TE}{cl:List (Str×Addr)}{it:Addr}{fp:List Addr}{tn:Nat->Heap->Prop}{J:It}
  {Q:List V->Hp->Prop} {RR:Value->Addr->Result->Shared->Prop} {E:Value->Shared->Prop} (hcalm:X.calm=true)
  (S:CSc X.env.scope X.N scope N' k ix)
  (hg:∀ cl C s2 H2 fp,PG (X.comp N' scope cl C s2 H2 fp) tg g) (ht:∀ cl C s2 H2 fp,PF (X.comp N' scope cl C s2 H2 fp) ifs tt) (he:∀ cl C s2 H2 fp,PE (X.comp N' scope cl C s2 H2 fp) elt te)
  (I2:Inv X pins σ H s2) (T:zaf X.prog X.w X.K tg J fp it tn) (st2:tn 0 s2.heap) (f2:∀ b∈fp,Q0 X pins H b) (hR:zgh k ix g tt te σ J H Q)
  (hcl1:∀ x c,cl.lookup x=some c->X.env.cells.lookup x=some c) (hcl2:∀ x,(x,NameKind.free)∈scope.names->∃ c,cl.lookup x=some c)
  (fin:∀ (D C:Addr) (ys:List V) (H5:Hp) (s5:Shared) (m:Str->Option Value),Inv X pins σ (upd H5 D (.lst ys)) s5->Q ys H5->H5 D=none->s5.heap.Ns C m->C≠D->s2.heap.objs.size<=C->upd H5 D (.lst ys) C=none ->
   RR (.ref D) C (.ok .next) s5) :
  wpAny (model X.prog X.w) X.A (newList []) (fun acc s₃=>wpAny (model X.prog X.w) X.A (newFunctionEnv scope X.env.globals cl [] X.env.qual none .none (some X.env)) (fun cenv s₄=>
   codeAny (model X.prog X.w) X.A (.compStart (.ListComp elt [⟨tg,iter,ifs,0⟩] scope pos) 0 (.ref it) acc { cenv with scope:=relabel scope X.env }) (RR acc cenv.locals) s₄) E s₃) E s2:=by
 refine wpAny_newObj_type (wQ ?_)
 dsimp only
 generalize hH2:s2.heap.push { cls:=.type "list",dict:=none,data:=.seq ([]:List Value).toArray }=G2
 have hC:G2.objs.size=s2.heap.objs.size+1:=by rw[<- hH2,Heap.size_push]
 have hDC:s2.heap.objs.size≠G2.objs.size:=by rw[hC];exact xu (uS _)
 have hCle:s2.heap.objs.size<=G2.objs.size:=by rw[hC];exact Nat.le_succ _
 have L:=ClOk.of I2 S hcl1 hcl2 (g:=G2) (o:={ cls:=.type "dict",data:=.dict #[] }) hCle
 have below:∀ b,b<s2.heap.objs.size->b≠G2.objs.size/\b≠s2.heap.objs.size:=fun b hb=>⟨by rw[hC];exact xu (uN hb),xu hb⟩
 have old:∀ b o,s2.heap.get? b=some o->(pushCells (G2.push { cls:=.type "dict",data:=.dict #[] }) scope.names).get? b=some o:=fun b o e=>pushCells_keeps _ _ b o (Heap.get?_push_of_some _ (hH2 ▸ Heap.get?_push_of_some _ e))
 have hacc:(pushCells (G2.push { cls:=.type "dict",data:=.dict #[] }) scope.names).get? s2.heap.objs.size=some (j1 [] 0):=pushCells_keeps _ _ _ _ (Heap.get?_push_of_some _ (hH2 ▸ Heap.get?_push_size _ rfl))
 have hns₁:(pushCells (G2.push { cls:=.type "dict",data:=.dict #[] }) scope.names).Ns G2.objs.size _:=(Heap.Ns.new G2 (.type "dict")).keeps (pushCells_keeps _ _)
 generalize pushCells (G2.push { cls:=.type "dict",data:=.dict #[] }) scope.names=h₁ at L old hacc hns₁ |-
 generalize cellsFrom (G2.objs.size+1) scope.names cl=cl2 at L |-
 have st1:tn 0 h₁:=T.keep _ _ _ st2 fun b _ o e=>old b o e
 have hfo:∀ b∈fp,∃ o,s2.heap.get? b=some o:=fun b hb=>let ⟨o,e,_⟩:=T.obj _ _ st2 b hb;⟨o,e⟩
 have Ic:Inv (X.comp N' scope cl2 G2.objs.size s2 H fp) [] (cS k ix σ) H { s2 with heap:=h₁ } :=
  I2.child S f2 hfo L hCle old hns₁ rfl I2.bare
 -- the accumulator D,as a pin
 have dfs:s2.heap.objs.size∉(X.comp N' scope cl2 G2.objs.size s2 H fp).fs:=fun hz=>by
  rcases xm.mp (I2.stkSub _ hz)with z | z
  ·exact absurd I2.lt (by rw[<- z];exact ue _)
  ·exact I2.nofs (xn _) z
 have dcell:∀ x c,cl2.lookup x=some c->c≠s2.heap.objs.size:=fun x c e=>by
  rcases L.src x c e with e | e
  ·obtain⟨v,ob,hob,_⟩:=I2.cell x c e
   exact xu (Heap.lt_size hob)
  ·exact Ne.symm (xu (Nat.lt_of_le_of_lt hCle e.1))
 have dpin:∀ (ys:List Value) (n:Nat) (σ':St) (H':Hp) (s':Shared),Inv (X.comp N' scope cl2 G2.objs.size s2 H fp) [] σ' H' s'->s'.heap.get? s2.heap.objs.size=some (j1 ys n)->H' s2.heap.objs.size=none ->
   Inv (X.comp N' scope cl2 G2.objs.size s2 H fp) [(s2.heap.objs.size,j1 ys n)] σ' H' s':=fun ys n σ' H' s' I' e hn=>I'.pins_of fun p hp=>by
  have e':p=(s2.heap.objs.size,j1 ys n):=by simpa using hp
  subst e'
  exact⟨e,hn,hDC,dfs,fun v z=>by cases z⟩
 have fpc:∀ (ys:List Value) (n:Nat) (H':Hp),(∀ b∈fp,H' b=none)->∀ b∈fp,Q0 (X.comp N' scope cl2 G2.objs.size s2 H fp) [(s2.heap.objs.size,j1 ys n)] H' b:=fun ys n H' hn b hb=>by
  obtain⟨f0,f1,f2',f3,f4,f5⟩:=f2 b hb
  obtain⟨o,e⟩:=hfo b hb
  have hb2:=below b (Heap.lt_size e)
  refine⟨hn b hb,hb2.1,fun hz=>?_,.inl hb,fun x c z=>?_,fun p hp=>?_⟩
  ·rcases xm.mp (I2.stkSub b hz)with z | z
   ·exact f1 z
   ·exact f2' z
  ·rcases L.src x c z with z | z
   ·exact f4 x c z
   ·exact Ne.symm (xu (Nat.lt_trans (xy (Heap.lt_size e) hCle) z.1))
  ·have e':p=(s2.heap.objs.size,j1 ys n):=by simpa using hp
   subst e'
   exact Ne.symm hb2.2
 obtain⟨W,⟨m0,w0⟩,turn⟩:=hR
 have loop:codeAny (model X.prog X.w) X.A (.compLoop (.ListComp elt [⟨tg,iter,ifs,0⟩] scope pos) 0 (.ref it) (.ref s2.heap.objs.size) (compEnvC scope cl2 G2.objs.size X.env)) (RR (.ref s2.heap.objs.size) G2.objs.size)
   { s2 with heap:=h₁ }:=by
  refine V5 (fun n s'=>∃ i ys its c H',Inv (X.comp N' scope cl2 G2.objs.size s2 H fp) [(s2.heap.objs.size,j1 its c)] (cS k ix σ) H' s'/\Vals ys its/\tn i s'.heap/\(∀ b∈fp,H' b=none)/\W i n ys H') ?_ m0
   ⟨0,[],[],0,H,dpin _ _ _ _ _ Ic hacc (I2.hok.fresh (xn _)),.nil,st1,fun b hb=>(f2 b hb).1,w0⟩
  rintro n s3 ⟨i,ys,its,c,H3,I3,rv,st3,fr3,w3⟩
  obtain⟨hlen,hw⟩:=turn i n ys H3 w3
  have hDn:H3 s2.heap.objs.size=none:=(I3.pin (s2.heap.objs.size,j1 its c) (by simp)).2.1
  have hDe:s3.heap.get? s2.heap.objs.size=some (j1 its c):=(I3.pin (s2.heap.objs.size,j1 its c) (by simp)).1
  rcases hw with ⟨stop,q⟩ | ⟨go,N,hN,step⟩
  ·refine thn (T.done (X.comp N' scope cl2 G2.objs.size s2 H fp) rfl rfl rfl hcalm i _ s3 _ H3 _ I3 (fpc _ _ _ fr3) st3 stop) fun r s4 ⟨hr,I4⟩=>?_
   subst hr
   have hDe4:s4.heap.get? s2.heap.objs.size=some (j1 its c):=(I4.pin (s2.heap.objs.size,j1 its c) (by simp)).1
   have Ib:Inv X pins σ H3 s4:=I2.back f2 I4
   have hz:ys.length<=sizeLine:=uo hlen
   obtain⟨m',hn',_⟩:=I4.loc
   have It:Inv X pins σ (upd H3 s2.heap.objs.size (.lst ys)) s4:=Ib.track I2.sz hDn (Ne.symm (xu I2.lt)) (fun x c e=>by
    obtain⟨v,ob,hob,_⟩:=I2.cell x c e
    exact xu (Heap.lt_size hob)) (fun p hp=>xu (Heap.lt_size (I2.pin p hp).1)) ⟨hz,its,c,rv,hDe4⟩
   exact fin _ _ ys H3 s4 m' It q hDn hn' (Ne.symm hDC) hCle (by rw[zn (Ne.symm hDC)];exact I4.free)
  ·refine thn (T.item (X.comp N' scope cl2 G2.objs.size s2 H fp) rfl rfl rfl hcalm i _ s3 _ H3 _ I3 (fpc _ _ _ fr3) st3 go) fun r s4 ⟨u,hr,h4⟩=>?_
   subst hr
   refine thn h4 fun _ s5 ⟨x,H5,I5,r5,y5,st5,fr5⟩=>?_
   have I5':=I5.pinned (fpc its c H5 fr5) (T.obj _ _ st5)
   refine thn (hg _ _ _ _ _ _ s5 _ H5 x u _ I5' r5 (step x H5 y5)) fun _ s6 ⟨σ6,H6,I6,hσ,q6⟩=>?_
   refine thn (ht _ _ _ _ _ _ s6 σ6 H6 _ I6 q6) fun ok s7 ⟨H7,I7,q7⟩=>?_
   have wk:∀ {pl:List (Addr×Obj)} {H':Hp} {s':Shared},Inv (X.comp N' scope cl2 G2.objs.size s2 H fp) pl σ6 H' s'->Inv (X.comp N' scope cl2 G2.objs.size s2 H fp) pl (cS k ix σ) H' s':=fun {pl H' s'} I'=>
    I'.weak (by rw[Ic.len,I'.len]) fun j v ev=>by
     by_cases hj:j<k
     ·unfold cS at ev
      rw[xf (by simpa using hj),xS,if_pos hj]at ev
      cases ev
     ·obtain⟨j',rfl⟩:∃ j',j=k+j':=⟨j-k,by omega⟩
      rw[<- List.getElem?_drop,hσ,List.getElem?_drop]
      exact ev
   have itk:∀ {σ':St} {H':Hp} {s':Shared},Inv (X.comp N' scope cl2 G2.objs.size s2 H fp) ([(s2.heap.objs.size,j1 its c)]++Jc fp s5.heap) σ' H' s'->tn (i+1) s'.heap/\∀ b∈fp,H' b=none:=fun {σ' H' s'} I'=>
    ⟨T.keep _ _ _ st5 fun b hb o e=>(I'.pin (b,o) (xA _ (xA _ (jM hb e)))).1,fun b hb=>by
     obtain⟨o,e,_⟩:=T.obj _ _ st5 b hb
     exact (I'.pin (b,o) (xA _ (xA _ (jM hb e)))).2.1⟩
   cases ok with
   |false=>
    rw[if_neg (by decide)]at q7 |-
    obtain⟨m',hm,w7⟩:=hN _ _ q7
    obtain⟨t7,f7⟩:=itk I7
    exact⟨m',hm,i+1,ys,its,c,H7,wk I7.unpinned,rv,t7,f7,w7⟩
   |true=>
    rw[if_pos rfl]at q7 |-
    refine thn (he _ _ _ _ _ _ s7 σ6 H7 _ I7 q7) fun yv s8 ⟨y,H8,I8,r8,n8q⟩=>?_
    obtain⟨m',hm,w8⟩:=hN _ _ n8q
    obtain⟨t8,f8⟩:=itk I8
    have I8':Inv (X.comp N' scope cl2 G2.objs.size s2 H fp) [(s2.heap.objs.size,j1 its c)] σ6 H8 s8:=I8.unpinned
    have e8:s8.heap.get? s2.heap.objs.size=some (j1 its c):=(I8'.pin (s2.heap.objs.size,j1 its c) (by simp)).1
    have n8:H8 s2.heap.objs.size=none:=(I8'.pin (s2.heap.objs.size,j1 its c) (by simp)).2.1
    refine call_meets F.slot_list_append ⟨_,e8,rfl⟩ F.entry_list_append (F.args_list_append_2 _ _) (PySem.list_append s2.heap.objs.size its.toArray c yv (by
     have:=rv.length
     rw[xq];omega)) ⟨e8,?_⟩
    have q9:=PySem.IsL.update e8 (·.push yv)
    rw[show its.toArray.push yv=(its++ [yv]).toArray by simp]at q9
    have I8n:Inv (X.comp N' scope cl2 G2.objs.size s2 H fp) [] σ6 H8 s8:=I8'.pins_of fun p hp=>by cases hp
    have I9:Inv (X.comp N' scope cl2 G2.objs.size s2 H fp) [] σ6 H8 { s8 with heap:=s8.heap.update s2.heap.objs.size (Obj.mapSeq (·.push yv)) } :=
     I8n.turned (t':=s8.toks) (fun b o hb e=>(Heap.get?_update_other s8.heap _ (Ne.symm hb)).trans e) n8 hDC (.inr (xn _)) (fun x c e=>dcell x c e) (fun p hp=>by cases hp)
    refine⟨m',hm,i+1,ys++ [y],its++ [yv],_,H8,wk (dpin _ _ _ _ _ I9 q9 n8),rv.append (.cons r8 .nil),?_,f8,w8⟩
    exact T.keep _ _ _ t8 fun b hb o e=>(Heap.get?_update_other s8.heap _ (by
     obtain⟨o',e'⟩:=hfo b hb
     exact Ne.symm (below b (Heap.lt_size e')).2)).trans e
 exact codeAny_compStart_list loop (T.self X.A 0 _ _ _ st1 loop)
theorem wE{X:Cx}{pins:List (Addr×Obj)}{σ:St}{H:Hp}{s:Shared}{scope:Scope}{N':List Str}{k:Nat}{ix:List Nat}(I:Inv X pins σ H s)(S:CSc X.env.scope X.N scope N' k ix) :
  ∃ cl,closureFor scope X.env=pure cl/\(∀ x c,cl.lookup x=some c->X.env.cells.lookup x=some c)/\(∀ x,(x,NameKind.free)∈scope.names->∃ c,cl.lookup x=some c) :=
 YL fun y hy e=>by
  rcases S.fre y hy e with z | z
  ·exact I.ok.has _ (.inl z)
  ·exact I.ok.has _ (.inr z)
theorem Inv.letgo{H5:Hp}{s5:Shared}{σ5:St}{C:Addr}{h':Heap}(I2:Inv X pins σ H s2)(I5:Inv X pins σ5 H5 s5)(hCs:s2.heap.objs.size<=C)(hCn:H5 C=none)(hs:Heap.SameBut C s5.heap h'):Inv X pins σ5 H5 { s5 with heap:=h' } :=
 I5.turned (t':=s5.toks) (it:=C) (fun b o hb e=>(hs.2 b hb).trans e) hCn (Ne.symm (xu (xy I2.lt hCs))) (.inr (xL I2.sz hCs))
  (fun x c e=>by
   obtain⟨v,ob,hob,_⟩:=I2.cell x c e
   exact xu (xy (Heap.lt_size hob) hCs))
  (fun p hp=>xu (xy (Heap.lt_size (I2.pin p hp).1) hCs))
end
section
variable {X:Cx} {elt tg iter:Expr} {ifs:List Expr} {scope:Scope} {pos:Pos} {N':List Str} {k:Nat} {ix:List Nat} {g:TG} {tt:TT} {te:TE} {wi:TI}
theorem zdB(hcalm:X.calm=true)(S:CSc X.env.scope X.N scope N' k ix)(hi:PI X tg iter wi)
  (hg:∀ cl C s2 H2 fp,PG (X.comp N' scope cl C s2 H2 fp) tg g) (ht:∀ cl C s2 H2 fp,PF (X.comp N' scope cl C s2 H2 fp) ifs tt) (he:∀ cl C s2 H2 fp,PE (X.comp N' scope cl C s2 H2 fp) elt te)
  (hs:∀ x,foldedSetIterable iter X.env x=pure x:=by intro _;rfl):PE X (.ListComp elt [⟨tg,iter,ifs,0⟩] scope pos) (Ww k ix wi g tt te):=by
 intro pins s σ H Q I h
 obtain⟨cl,ecl,hcl1,hcl2⟩:=wE I S
 rw[eval_ListComp]
 refine wpAny_comprehension_free (use:=none) rfl hs ecl S.kind S.loc (thn (hi pins s σ H _ I h) fun v s1 h1=>thn h1 fun itv s2 h2=>?_)
 obtain⟨it,fp,tn,J,H2,e,I2,T,st2,f2,hR⟩:=h2
 subst e
 refine WC (RR:=fun acc C=>compPost (model X.prog X.w) X.A X.xe none (EP X pins σ Q) acc C) hcalm S hg ht he I2 T st2 f2 hR hcl1 hcl2 ?_
 intro D C ys H5 s5 m I5 q hD hn hCD hCs hCn
 exact⟨m,hn,fun h' hs'=>⟨.ref D,upd H5 D (.lst ys),I2.letgo I5 hCs hCn hs',rfl,q D hD⟩⟩
theorem zdG{i:Nat}{x:Str}{pos' spos:Pos}(hN:X.N.Nodup)(hi':X.N[i]?=some x)(hx:Loc X.env.scope x)(hcalm:X.calm=true)(S:CSc X.env.scope X.N scope N' k ix)(hi:PI X tg iter wi)
  (hg:∀ cl C s2 H2 fp,PG (X.comp N' scope cl C s2 H2 fp) tg g) (ht:∀ cl C s2 H2 fp,PF (X.comp N' scope cl C s2 H2 fp) ifs tt) (he:∀ cl C s2 H2 fp,PE (X.comp N' scope cl C s2 H2 fp) elt te)
  (hsw:swapsWith (.ListComp elt [⟨tg,iter,ifs,0⟩] scope pos) (some (.Name x pos')) spos.line X.env=pure true)
  (hs:∀ x,foldedSetIterable iter X.env x=pure x:=by intro _;rfl) (hf:X.fn x=true∨X.env.scope.names.lookup x=some .local:=by first | exact .inl rfl | exact .inr rfl | assumption) :
  PS X (.Assign [.Name x pos'] (.ListComp elt [⟨tg,iter,ifs,0⟩] scope pos) spos) (YN (Ww k ix wi g tt te) (yb i)):=by
 intro pins s σ H D' I h
 obtain⟨cl,ecl,hcl1,hcl2⟩:=wE I S
 rw[exec_Assign_Name_used _ _ _ _ hsw]
 refine wpAny_bind (wpAny_standAt (wpAny_bind ?_))
 show wpAny _ X.A (do let _<-comprehension (.ListComp elt [⟨tg,iter,ifs,0⟩] scope pos) scope X.env _ (newList []) false (eval iter X.env) (some (assign (.Name x pos') X.env))) _ _ s
 refine wpAny_bind (wpAny_mono (wpAny_comprehension_free (use:=some (assign (.Name x pos') X.env)) (Q:=fun _ s'=>SP X pins D' .next s') rfl hs ecl S.kind S.loc
  (thn (hi pins s σ H _ I h) fun v s1 h1=>thn h1 fun itv s2 h2=>?_)) (fun _ s' hq=>wpAny_pure (wpAny_pure hq)) fun _ _ e=>e)
 obtain⟨it,fp,tn,J,H2,e,I2,T,st2,f2,hR⟩:=h2
 subst e
 refine WC (RR:=fun acc C=>compPost (model X.prog X.w) X.A X.xe (some (assign (.Name x pos') X.env)) (fun _ s'=>SP X pins D' .next s') acc C) hcalm S hg ht he I2 T st2 f2 hR hcl1 hcl2 ?_
 intro D C ys H5 s5 m I5 q hD hn hCD hCs hCn
 show wpAny _ X.A (assign (.Name x pos') X.env (.ref D)) _ _ s5
 refine wpAny_assign_Name (WD (v:=.ref D) I5 hN hi' hx rfl (fun s' I' ⟨a,sb,ha⟩=>?_) hf)
 have hCa:C≠a:=by
  rcases ha with rfl | ha
  ·exact Ne.symm (xu (xy I2.lt hCs))
  ·obtain⟨v,ob,hob,_⟩:=I2.cell x a ha
   exact Ne.symm (xu (xy (Heap.lt_size hob) hCs))
 exact⟨m,hn.sameBut sb hCa,fun h' hs'=>⟨_,_,I2.letgo I' hCs hCn hs',q D hD⟩⟩
end
end L2
namespace L2
open PySem PySem.Spec PyProof.Rows
mutual
/-- the value v stands for the data d;no list of it lies in M -/
inductive Rep(M:Addr->Prop)(H:Hp):V->PyData->Prop
 |none:Rep M H .non .none
 |bool (b:Bool):Rep M H (.bl b) (.bool b)
 |int (i:Int):Rep M H (.int i) (.int i)
 |str (x:Str):Rep M H (.str x) (.str x)
 |list {a:Addr} {vs:List V} {ds:List PyData}:H a=some (.lst vs)->¬ M a->RepL M H vs ds->Rep M H (.ref a) (.list ds)
 |tuple {a:Addr} {vs:List V} {ds:List PyData}:H a=some (.tup vs)->RepL M H vs ds->Rep M H (.ref a) (.tuple ds)
inductive RepL(M:Addr->Prop)(H:Hp):List V->List PyData->Prop
 |nil:RepL M H [] []
 |cons {v:V} {vs:List V} {d:PyData} {ds:List PyData}:Rep M H v d->RepL M H vs ds->RepL M H (v::vs) (d::ds)
end
noncomputable def zhp(M:Addr->Prop)(H H':Hp):Prop:=∀ b o,¬ M b->H b=some o->H' b=some o
noncomputable def TupM(H H':Hp):Prop:=∀ b xs,H b=some (.tup xs)->H' b=some (.tup xs)
structure zf4(M:Addr->Prop)(H H':Hp):Prop where
 same:zhp M H H'
 tups:TupM H H'
 stay:∀ b,H b≠none->H' b≠none
theorem Same.grow{M:Addr->Prop}{H H':Hp}(s:Same H H'):zf4 M H H' :=
 ⟨fun b o _ e=>s b o e,fun b xs e=>s b _ e,fun b h=>by
  cases q:H b with
  |none=>exact absurd q h
  |some o=>rw[s b o q];exact fun z=>nomatch z⟩
mutual
theorem Rep.grow{M:Addr->Prop}{H H':Hp}(g:zf4 M H H'):∀ {v:V}{d:PyData},Rep M H v d->Rep M H' v d
 |_,_,.none=>.none
 |_,_,.bool b=>.bool b
 |_,_,.int i=>.int i
 |_,_,.str x=>.str x
 |_,_,.list e n r=>.list (g.same _ _ n e) n (RepL.grow g r)
 |_,_,.tuple e r=>.tuple (g.tups _ _ e) (RepL.grow g r)
theorem RepL.grow{M:Addr->Prop}{H H':Hp}(g:zf4 M H H'):∀ {vs:List V}{ds:List PyData},RepL M H vs ds->RepL M H' vs ds
 |_,_,.nil=>.nil
 |_,_,.cons r t=>.cons (Rep.grow g r) (RepL.grow g t)
end
mutual
/-- fewer addresses may change;or one more that is not there -/
theorem Rep.less{M M':Addr->Prop}{H:Hp}(g:∀ b,M' b->H b≠none->M b):∀ {v:V}{d:PyData},Rep M H v d->Rep M' H v d
 |_,_,.none=>.none
 |_,_,.bool b=>.bool b
 |_,_,.int i=>.int i
 |_,_,.str x=>.str x
 |_,_,.list e n r=>.list e (fun z=>n (g _ z (by rw[e];exact fun z=>nomatch z))) (RepL.less g r)
 |_,_,.tuple e r=>.tuple e (RepL.less g r)
theorem RepL.less{M M':Addr->Prop}{H:Hp}(g:∀ b,M' b->H b≠none->M b):∀ {vs:List V}{ds:List PyData},RepL M H vs ds->RepL M' H vs ds
 |_,_,.nil=>.nil
 |_,_,.cons r t=>.cons (Rep.less g r) (RepL.less g t)
end
theorem RepL.length{M:Addr->Prop}{H:Hp}:∀ {vs:List V}{ds:List PyData},RepL M H vs ds->vs.length=ds.length
 |_,_,.nil=>rfl
 |_,_,.cons _ t=>by rw[xl,xl,RepL.length t]
theorem RepL.append{M:Addr->Prop}{H:Hp}:∀ {vs ws:List V}{ds es:List PyData},RepL M H vs ds->RepL M H ws es->RepL M H (vs++ws) (ds++es)
 |_,_,_,_,.nil,s=>s
 |_,_,_,_,.cons r t,s=>.cons r (RepL.append t s)
theorem RepL.get{M:Addr->Prop}{H:Hp}:∀ {vs:List V}{ds:List PyData}{i:Nat}{v:V},RepL M H vs ds->vs[i]?=some v->∃ d,ds[i]?=some d/\Rep M H v d
 |_,_,_,_,.nil,e=>by simp at e
 |_,_,0,_,.cons r _,e=>by simp at e;subst e;exact⟨_,rfl,r⟩
 |_,_,i+1,v,.cons _ t,e=>by
  obtain⟨u,h1,h2⟩:=RepL.get (i:=i) (v:=v) t (by simpa using e)
  exact⟨u,by simpa using h1,h2⟩
theorem RepL.get'{M:Addr->Prop}{H:Hp}{vs:List V}{ds:List PyData}{i:Nat}{d:PyData}(r:RepL M H vs ds)(e:ds[i]?=some d):∃ v,vs[i]?=some v/\Rep M H v d:=by
 have hl:=r.length
 have hi:i<vs.length:=by rw[hl];exact (xc.mp e).1
 obtain⟨d',e',r'⟩:=r.get (i:=i) (v:=vs[i]) (by simp[hi])
 rw[e]at e';cases e'
 exact⟨vs[i],by simp[hi],r'⟩
theorem RepL.take{M:Addr->Prop}{H:Hp}:∀ {vs:List V}{ds:List PyData}(n:Nat),RepL M H vs ds->RepL M H (vs.take n) (ds.take n)
 |_,_,0,_=>.nil
 |_,_,_+1,.nil=>.nil
 |_,_,n+1,.cons r t=>.cons r (RepL.take n t)
theorem RepL.drop{M:Addr->Prop}{H:Hp}:∀ {vs:List V}{ds:List PyData}(n:Nat),RepL M H vs ds->RepL M H (vs.drop n) (ds.drop n)
 |_,_,0,r=>r
 |_,_,_+1,.nil=>.nil
 |_,_,n+1,.cons _ t=>RepL.drop n t
theorem RepL.ints{M:Addr->Prop}{H:Hp}:∀ (ns:List Int),RepL M H (ns.map V.int) (ns.map PyData.int)
 |[]=>.nil
 |n::ns=>.cons (.int n) (RepL.ints ns)
mutual
theorem Rep.reads{P:Program}{w:World}{M:Addr->Prop}{H:Hp}{h:Heap}(ok:HOk P w H h):∀ {v:V}{d:PyData}{u:Value},Rep M H v d->RelV v u->∃ as,Reads h u d as
 |_,_,_,.none,r=>by cases (show _=Value.none from r);exact⟨_,.none⟩
 |_,_,_,.bool b,r=>by cases (show _=Value.bool b from r);exact⟨_,.bool b⟩
 |_,_,_,.int i,r=>by obtain⟨t,e⟩:=(show ∃ t,_=Value.int i t from r);cases e;exact⟨_,.int i t⟩
 |_,_,_,.str x,r=>by obtain⟨t,e⟩:=(show ∃ t,_=Value.str x t from r);cases e;exact⟨_,.str x t⟩
 |_,_,_,.list (a:=a) (vs:=vs) e n q,r=>by
  cases (show _=Value.ref a from r)
  obtain⟨_,its,c,rv,ho⟩:=(show ObjOk P w H h a (.lst vs) from ok a _ e)
  obtain⟨as,z⟩:=RepL.reads ok q rv
  exact⟨_,.list ho rfl rfl (by simpa using z)⟩
 |_,_,_,.tuple (a:=a) (vs:=vs) e q,r=>by
  cases (show _=Value.ref a from r)
  obtain⟨_,its,rv,o,ho,hc,c,hd⟩:=(show ObjOk P w H h a (.tup vs) from ok a _ e)
  obtain⟨as,z⟩:=RepL.reads ok q rv
  exact⟨_,.tuple ho hc hd (by simpa using z)⟩
theorem RepL.reads{P:Program}{w:World}{M:Addr->Prop}{H:Hp}{h:Heap}(ok:HOk P w H h):∀ {vs:List V}{ds:List PyData}{us:List Value},RepL M H vs ds->Vals vs us->∃ as,ReadsAll h us ds as
 |_,_,_,.nil,r=>by cases r;exact⟨_,.nil⟩
 |_,_,_,.cons q t,r=>by
  cases r with
  |cons r rs=>
   obtain⟨as,z⟩:=Rep.reads ok q r
   obtain⟨bs,y⟩:=RepL.reads ok t rs
   exact⟨_,.cons z y⟩
end
section
variable (X:Cx)
noncomputable def wpE(e:Expr):TE:=fun σ H Q=>∀ (pins:List (Addr×Obj)) (s:Shared),Inv X pins σ H s->wpAny (model X.prog X.w) X.A (eval e X.env) (EP X pins σ Q) X.xe s
noncomputable def wpT(e:Expr):TT:=fun σ H Q=>∀ (pins:List (Addr×Obj)) (s:Shared),Inv X pins σ H s->wpAny (model X.prog X.w) X.A (isTrue e X.env (eval e X.env)) (TP X pins σ Q) X.xe s
noncomputable def wpW(e:Expr):TT:=fun σ H Q=>∀ (whole:Sem Value) (pins:List (Addr×Obj)) (s:Shared),Inv X pins σ H s->wpAny (model X.prog X.w) X.A (isTrue e X.env whole) (TP X pins σ Q) X.xe s
noncomputable def wpA(es:List Expr):TA:=fun σ H Q=>∀ (pos:Pos) (pins:List (Addr×Obj)) (s:Shared),Inv X pins σ H s->wpAny (model X.prog X.w) X.A (spliced (backTo pos (starEach es X.env))) (AP X pins σ Q) X.xe s
noncomputable def wpS(st:Stmt):TS:=fun D σ H=>∀ (pins:List (Addr×Obj)) (s:Shared),Inv X pins σ H s->wpAny (model X.prog X.w) X.A (exec st X.env) (SP X pins D) X.xe s
noncomputable def wpB(st:List Stmt):TS:=fun D σ H=>∀ (pins:List (Addr×Obj)) (s:Shared),Inv X pins σ H s->wpAny (model X.prog X.w) X.A (execs st X.env) (SP X pins D) X.xe s
noncomputable def wpG(tg:Expr):TG:=fun v σ H Q=>∀ (pins:List (Addr×Obj)) (s:Shared) (u:Value),Inv X pins σ H s->RelV v u->wpAny (model X.prog X.w) X.A (assign tg X.env u) (fun _ s'=>∃ σ' H',Inv X pins σ' H' s'/\Q σ' H') X.xe s
noncomputable def wpF(ifs:List Expr):TT:=fun σ H Q=>∀ (pins:List (Addr×Obj)) (s:Shared),Inv X pins σ H s ->
 wpAny (model X.prog X.w) X.A (forIn ifs true fun c r=>if r=true then do let ok<-isTrue c X.env (eval c X.env);pure (ForInStep.yield ok) else pure (ForInStep.yield r)) (TP X pins σ Q) X.xe s
noncomputable def wpI(tg iter:Expr):TI:=fun σ H R=>∀ (pins:List (Addr×Obj)) (s:Shared),Inv X pins σ H s ->
  wpAny (model X.prog X.w) X.A (eval iter X.env) (fun v s1=>wpAny (model X.prog X.w) X.A (pyIter v) (PIE X pins σ tg R) X.xe s1) X.xe s
end
section
variable {X:Cx} {e:Expr} {es:List Expr} {st:Stmt} {sts:List Stmt} {tg iter:Expr} {σ:St} {H:Hp}
theorem zg:PE X e (wpE X e):=fun pins s σ H Q I h=>h pins s I
theorem qR:PT X e (wpT X e):=fun pins s σ H Q I h=>h pins s I
theorem YT:PW X e (wpW X e):=fun wh pins s σ H Q I h=>h wh pins s I
theorem jh:PA X es (wpA X es):=fun pos pins s σ H Q I h=>h pos pins s I
theorem kF:PS X st (wpS X st):=fun pins s σ H D I h=>h pins s I
theorem qH:PSs X sts (wpB X sts):=fun pins s σ H D I h=>h pins s I
theorem vS:PG X tg (wpG X tg):=fun pins s σ H v u Q I r h=>h pins s u I r
theorem WY:PI X tg iter (wpI X tg iter):=fun pins s σ H R I h=>h pins s I
theorem PE.wp{t:TE}{Q:VK}(h:PE X e t)(q:t σ H Q):wpE X e σ H Q:=fun pins s I=>h pins s σ H Q I q
theorem PT.wp{t:TT}{Q:Bool->Hp->Prop}(h:PT X e t)(q:t σ H Q):wpT X e σ H Q:=fun pins s I=>h pins s σ H Q I q
theorem PW.wp{t:TT}{Q:Bool->Hp->Prop}(h:PW X e t)(q:t σ H Q):wpW X e σ H Q:=fun wh pins s I=>h wh pins s σ H Q I q
theorem PA.wp{t:TA}{Q:List V->Hp->Prop}(h:PA X es t)(q:t σ H Q):wpA X es σ H Q:=fun pos pins s I=>h pos pins s σ H Q I q
theorem PS.wp{t:TS}{D:jg}(h:PS X st t)(q:t D σ H):wpS X st D σ H:=fun pins s I=>h pins s σ H D I q
theorem PSs.wp{t:TS}{D:jg}(h:PSs X sts t)(q:t D σ H):wpB X sts D σ H:=fun pins s I=>h pins s σ H D I q
theorem PG.wp{t:TG}{v:V}{Q:St->Hp->Prop}(h:PG X tg t)(q:t v σ H Q):wpG X tg v σ H Q:=fun pins s u I r=>h pins s σ H v u Q I r q
theorem PF.wp{ifs:List Expr}{t:TT}{Q:Bool->Hp->Prop}(h:PF X ifs t)(q:t σ H Q):wpF X ifs σ H Q:=fun pins s I=>h pins s σ H Q I q
theorem PI.wp{t:TI}{R:It->Hp->Prop}(h:PI X tg iter t)(q:t σ H R):wpI X tg iter σ H R:=fun pins s I=>h pins s σ H R I q
theorem wpE.mono{Q Q':VK}(h:wpE X e σ H Q)(k:∀ v H',Q v H'->Q' v H'):wpE X e σ H Q':=fun pins s I=>thn (h pins s I) fun u s' ⟨v,H',a,b,c⟩=>⟨v,H',a,b,k v H' c⟩
theorem wpA.mono{Q Q':List V->Hp->Prop}(h:wpA X es σ H Q)(k:∀ v H',Q v H'->Q' v H'):wpA X es σ H Q':=fun pos pins s I=>thn (h pos pins s I) fun u s' ⟨v,H',a,b,c⟩=>⟨v,H',a,b,k v H' c⟩
end
noncomputable def Al(M:Addr->Prop)(H:Hp):Prop:=∀ a,M a->H a≠none
inductive Ent where
 |d (x:PyData)
 |v (x:V)
noncomputable abbrev Ge:=List (Option Ent)
structure RS(M:Addr->Prop)(Γ:Ge)(σ:St)(H:Hp):Prop where
 al:Al M H
 at':∀ (i:Nat) (d:PyData),Γ[i]?=some (some (.d d))->∃ v,σ[i]?=some (some v)/\Rep M H v d
 av:∀ (i:Nat) (v:V),Γ[i]?=some (some (.v v))->σ[i]?=some (some v)
noncomputable def zhe(M:Addr->Prop)(H:Hp)(v:V):Ent->Prop
 |.d d=>Rep M H v d
 |.v u=>v=u
theorem RS.setE{M:Addr->Prop}{Γ:Ge}{σ:St}{H:Hp}{v:V}{z:Ent}{i:Nat}(h:RS M Γ σ H)(r:zhe M H v z)(hi:i<σ.length):RS M (Γ.set i (some z)) (σ.set i (some v)) H:=⟨h.al,fun j d' e=>by
 by_cases hj:j=i
 ·subst hj
  by_cases hl:j<Γ.length
  ·rw[xt hl]at e
   cases e
   exact⟨v,by rw[xt hi],r⟩
  ·rw[xj (by simpa using hl)]at e;cases e
 ·rw[xv (Ne.symm hj)]at e |-
  exact h.at' j d' e,fun j d' e=>by
 by_cases hj:j=i
 ·subst hj
  by_cases hl:j<Γ.length
  ·rw[xt hl]at e
   cases e
   rw[xt hi];exact congrArg (fun x=>some (some x)) r
  ·rw[xj (by simpa using hl)]at e;cases e
 ·rw[xv (Ne.symm hj)]at e |-
  exact h.av j d' e⟩
theorem RS.setV{M:Addr->Prop}{Γ:Ge}{σ:St}{H:Hp}{v:V}{i:Nat}(h:RS M Γ σ H)(hi:i<σ.length):RS M (Γ.set i (some (.v v))) (σ.set i (some v)) H:=h.setE rfl hi
section
variable {X:Cx} {Γ:Ge} {pos p:Pos} {a b c:Expr} {es:List Expr} {d d1 d2:PyData} {ds:List PyData}
theorem zM{H:Hp}{p:Addr}{o:HO}(n:H p=none):Same H (upd H p o):=fun b u e=>by rw[zn (zS e n)];exact e
theorem K7(hu:∀ n,n<=60->X.A.units+n<cLine):OpR X (compareOp .Eq) (fun x y H Q=>∃ M M' d1 d2,Rep M H x d1/\Rep M' H y d2/\d1.canLay0=true/\d2.canLay0=true/\min d1.depth d2.depth<=60/\Q (.bl (PyData.eqv d1 d2)) H):=by
 intro pins s σ H x y v u Q I rx ry h
 obtain⟨M,M',d1,d2,r1,r2,c1,c2,hd,q⟩:=h
 obtain⟨as,z1⟩:=r1.reads I.hok rx
 obtain⟨bs,z2⟩:=r2.reads I.hok ry
 exact SeqAt.compareEq_reads z1 z2 c1 c2 (hu _ hd) ⟨.bl _,H,I,rfl,q⟩
theorem Ks(hu:∀ n,n<=60->X.A.units+n<cLine):OpR X (compareOp .NotEq) (fun x y H Q=>∃ M M' d1 d2,Rep M H x d1/\Rep M' H y d2/\d1.canLay0=true/\d2.canLay0=true/\min d1.depth d2.depth<=60/\Q (.bl (!PyData.eqv d1 d2)) H):=by
 intro pins s σ H x y v u Q I rx ry h
 obtain⟨M,M',d1,d2,r1,r2,c1,c2,hd,q⟩:=h
 obtain⟨as,z1⟩:=r1.reads I.hok rx
 obtain⟨bs,z2⟩:=r2.reads I.hok ry
 exact SeqAt.compareNe_reads z1 z2 c1 c2 (hu _ hd) ⟨.bl _,H,I,rfl,q⟩
theorem Room.u60{k:Nat}{A:Around}(r:Room k A):∀ n,n<=60->A.units+n<cLine:=fun n h=>by have:=r.units;omega
end
end L2
namespace PySem
open PySem.AutoSeq1 (wpAny_loadPart')
theorem Vz(l:Addr)(items:Array Value)(n:Nat)(dd:Option Addr)(sl:Array (Option Value))(x:Int)(u:Tok)(hb1:¬ (decide (x< -(2 ^ 63))||decide (x≥2 ^ 63))=true)(hc0:¬ (items.isEmpty||x==1)=true)(hc1:¬ (decide (x<=0)||items.isEmpty)=true)(hc2:¬ (items.size:Int)*x>(2 ^ 63-1) / 8)(hc3:¬ Builtin.Tuple.tupleTooMany ((items.size:Int)*x)=true)(hsz:((List.replicate x.toNat items).foldl (·++·) #[]).size<=sizeLine) :
  Meets (Builtin.«tuple.__mul__» ⟨[.ref l,.int x u],[]⟩) (fun _ R s=>s.heap.get? l=some { cls:=.type "tuple",dict:=dd,data:=.seq items n,slots:=sl }/\R (.ok (.ret (Value.ref s.heap.objs.size))) { s with heap:=s.heap.push { cls:=Value.type "tuple",data:=Data.seq ((List.replicate x.toNat items).foldl (·++·) #[]) },toks:=s.toks }) :=
 .of_wp fun prog w A R s h=>by
  obtain⟨hp,g,d,tk,os⟩:=s;obtain⟨hl,h⟩:=h
  have f1:=AutoSeq1.idx_int
  wp_walk using wpAny_loadPart' hl
  refine wpAny_ite_false (decide_eq_false hb1) ?_
  wp_walk using wpAny_loadPart' hl
  first | (refine wpAny_ite_false (decide_eq_false hc2) ?_;wp_walk using wpAny_loadPart' hl) | skip
  first | (refine wpAny_ite_false (decide_eq_false (Nat.not_lt.mpr hsz)) ?_;wp_walk using wpAny_loadPart' hl) | skip
  exact⟨_,rfl,h⟩
theorem VS(l:Addr)(items:Array Value)(n:Nat)(dd:Option Addr)(sl:Array (Option Value))(x:Int)(u:Tok)(hb1:¬ (decide (x< -(2 ^ 63))||decide (x≥2 ^ 63))=true)(hc0:(items.isEmpty||x==1)=true) :
  Meets (Builtin.«tuple.__mul__» ⟨[.ref l,.int x u],[]⟩) (fun _ R s=>s.heap.get? l=some { cls:=.type "tuple",dict:=dd,data:=.seq items n,slots:=sl }/\R (.ok (.ret (Value.ref l))) { s with heap:=s.heap,toks:=s.toks }) :=
 .of_wp fun prog w A R s h=>by
  obtain⟨hp,g,d,tk,os⟩:=s;obtain⟨hl,h⟩:=h
  have f1:=AutoSeq1.idx_int
  wp_walk using wpAny_loadPart' hl
  refine wpAny_ite_false (decide_eq_false hb1) ?_
  wp_walk using wpAny_loadPart' hl
  exact⟨_,rfl,h⟩
theorem yG(l:Addr)(items:Array Value)(n:Nat)(dd:Option Addr)(sl:Array (Option Value))(x:Int)(u:Tok)(hb1:¬ (decide (x< -(2 ^ 63))||decide (x≥2 ^ 63))=true)(hc0:¬ (items.isEmpty||x==1)=true)(hc1:(decide (x<=0)||items.isEmpty)=true) :
  Meets (Builtin.«tuple.__mul__» ⟨[.ref l,.int x u],[]⟩) (fun _ R s=>s.heap.get? l=some { cls:=.type "tuple",dict:=dd,data:=.seq items n,slots:=sl }/\R (.ok (.ret (Value.ref s.heap.objs.size))) { s with heap:=s.heap.push { cls:=Value.type "tuple",data:=Data.seq #[] },toks:=s.toks }) :=
 .of_wp fun prog w A R s h=>by
  obtain⟨hp,g,d,tk,os⟩:=s;obtain⟨hl,h⟩:=h
  have f1:=AutoSeq1.idx_int
  wp_walk using wpAny_loadPart' hl
  refine wpAny_ite_false (decide_eq_false hb1) ?_
  wp_walk using wpAny_loadPart' hl
  exact⟨_,rfl,h⟩
theorem Qa:fillsNumberSlot (.type "tuple") "mul" =pure false :=
 fillsNumberSlot_seq (id:= "tuple.__mul__") (r:=some (.builtin "tuple.__rmul__")) F.slot_tuple_mul.lookup (by decide +kernel) F.slot_tuple_rmul.lookup (by decide +kernel)
theorem wP:seqRepeat? (.type "tuple")=pure (some (.builtin "tuple.__mul__")):=by
 unfold seqRepeat?
 rw[seqSlot_of (T:= "tuple") (name:= "__mul__") (id:= "tuple.__mul__") F.slot_tuple_mul.lookup (by decide +kernel),seqSlot_of (T:= "tuple") (name:= "__rmul__") (id:= "tuple.__rmul__") F.slot_tuple_rmul.lookup (by decide +kernel)]
 rfl
theorem Jp(a:Int)(t:Tok)(l:Addr)(items:Array Value)(n:Nat)(dd:Option Addr)(sl:Array (Option Value)) :
  Meets (Builtin.«int.__rmul__» ⟨[.int a t,.ref l],[]⟩) (fun _ R s=>s.heap.get? l=some { cls:=.type "tuple",dict:=dd,data:=.seq items n,slots:=sl }/\R (.ok (.ret Value.notImplemented)) s) :=
 .of_wp fun prog w A R s h=>by obtain⟨hp,g,d,tk,os⟩:=s;obtain⟨hl,h⟩:=h;wp_walk using wpAny_loadPart' hl;exact⟨_,rfl,h⟩
end PySem
namespace L2
open PySem PySem.Spec PyProof.Rows
section
variable {X:Cx}
noncomputable def zhO(K:PySem.W.Frag):R2:=fun x y H Q=>∃ l k xs,x=.ref l/\y=.int k/\SqT K H l xs/\ -(2 ^ 63)<=k/\k<2 ^ 63/\xs.length*k.toNat<=sizeLine /\
 ((xs= []∨k=1)->Q (.ref l) H)/\∀ p,H p=none->Q (.ref p) (upd H p (.tup (List.replicate k.toNat xs).flatten))
theorem zdw:OpR X (binaryOp .Mult) (zhO X.K):=by
 intro pins s σ H x y v u Q I rx ry h
 obtain⟨l,k,xs,rfl,rfl,hH,h1,h2,hz,qs,q⟩:=h
 cases rx
 obtain⟨t,rfl⟩:=ry
 obtain⟨its,r,hit,hzz⟩:=I.tuple hH
 have hl:=r.length
 obtain⟨⟨cls,dd,data,sl⟩,ho,hc,n,hd⟩:=id hit
 simp only at hc hd
 subst hc hd
 have hb1:¬ (decide (k< -(2 ^ 63))||decide (k≥2 ^ 63))=true:=by
  simp only[xM,decide_eq_true_eq];omega
 have hnew:List.foldl (fun x1 x2=>x1++x2) #[] (List.replicate k.toNat its.toArray)=(List.replicate k.toNat its).flatten.toArray:=by
  have:=Wb its k.toNat []
  rw[uC]at this
  exact this
 refine wpAny_binaryOp_repeat_ref (T:= "tuple") (U:= "int") (by decide) ⟨_,ho,rfl⟩ (fun s'=>typeIs_int s' k t) Qa F.fills_int_mul F.slot_int_rmul wP F.slot_int_index.lookup
  (call_meets F.slot_int_rmul (typeIs_int s k t) F.entry_int_rmul (F.args_int_rmul_2 _ _) (Jp k t l its.toArray n dd sl) ⟨ho,rfl,⟨_,ho,rfl⟩,?_⟩)
 by_cases hc0:(its.toArray.isEmpty||k==1)=true
 ·refine call_meets F.slot_tuple_mul ⟨_,ho,rfl⟩ F.entry_tuple_mul (F.args_tuple_mul_2 _ _) (VS l its.toArray n dd sl k t hb1 hc0) ⟨ho,?_⟩
  refine⟨.ref l,H,I,rfl,qs ?_⟩
  simp only[xM,beq_iff_eq]at hc0
  rcases hc0 with z | z
  ·left
   have:its= []:=by simpa using z
   subst this
   exact List.eq_nil_of_length_eq_zero hl
  ·exact .inr z
 ·by_cases hc1:(decide (k<=0)||its.toArray.isEmpty)=true
  ·refine call_meets F.slot_tuple_mul ⟨_,ho,rfl⟩ F.entry_tuple_mul (F.args_tuple_mul_2 _ _) (yG l its.toArray n dd sl k t hb1 hc0 hc1) ⟨ho,?_⟩
   have e0:(List.replicate k.toNat xs).flatten= []:=by
    simp only[xM,decide_eq_true_eq]at hc1
    rcases hc1 with z | z
    ·rw[show k.toNat=0 by omega];rfl
    ·exact absurd (by simp[z]) hc0
   refine⟨.ref s.heap.objs.size,_,I.laid (t':=s.toks) (o:=.tup []) (fun b u e=>Heap.get?_push_of_some _ e) (xn _) ?_,rfl,by have:=q _ (I.hok.fresh (xn _));rw[e0]at this;exact this⟩
   exact⟨ui _,[],.nil,⟨_,Heap.get?_push_size _ rfl,rfl,_,rfl⟩⟩
  ·have hlen:its.length*k.toNat<=sizeLine:=by rw[<- hl];exact hz
   have hk0:0<k:=by
    simp only[xM,decide_eq_true_eq]at hc1;omega
   have hm:((its.toArray.size:Int)*k)=((its.length*k.toNat:Nat):Int):=by
    rw[xq]
    have:k=(k.toNat:Int):=by omega
    rw[Int.natCast_mul,<- this]
   have hsl:(sizeLine:Nat)<=(2 ^ 63-1) / 8:=by decide
   have hc2:¬ (its.toArray.size:Int)*k>(2 ^ 63-1) / 8:=by
    rw[hm]
    have h63:((2 ^ 63-1) / 8:Int)=(((2 ^ 63-1) / 8:Nat):Int):=by decide
    rw[h63]
    intro z
    have:=Int.ofNat_lt.mp z
    omega
   have hc3:¬ Builtin.Tuple.tupleTooMany ((its.toArray.size:Int)*k)=true:=by
    unfold Builtin.Tuple.tupleTooMany
    rw[hm,decide_eq_true_eq]
    intro z
    have:=Int.ofNat_lt.mp z
    omega
   refine call_meets F.slot_tuple_mul ⟨_,ho,rfl⟩ F.entry_tuple_mul (F.args_tuple_mul_2 _ _) (Vz l its.toArray n dd sl k t hb1 hc0 hc1 hc2 hc3 (by rw[hnew,xq,ky,Nat.mul_comm];exact hlen)) ⟨ho,?_⟩
   rw[hnew]
   refine⟨.ref s.heap.objs.size,_,I.laid (t':=s.toks) (o:=.tup (List.replicate k.toNat xs).flatten) (fun b u e=>Heap.get?_push_of_some _ e) (xn _) ?_,rfl,q _ (I.hok.fresh (xn _))⟩
   exact⟨by rw[ky,Nat.mul_comm];exact hz,_,r.rep k.toNat,⟨_,Heap.get?_push_size _ rfl,rfl,_,rfl⟩⟩
theorem RepL.rep{M:Addr->Prop}{H:Hp}{vs:List V}{ds:List PyData}(h:RepL M H vs ds):∀ k:Nat,RepL M H (List.replicate k vs).flatten (List.replicate k ds).flatten
 |0=>.nil
 |k+1=>by rw[uh,uh,xJ,xJ];exact h.append (RepL.rep h k)
theorem Rep.tup_inv{M:Addr->Prop}{H:Hp}{v:V}{ds:List PyData}(r:Rep M H v (.tuple ds)):∃ a vs,v=.ref a/\H a=some (.tup vs)/\RepL M H vs ds:=by
 cases r with
 |tuple e q=>exact⟨_,_,rfl,e,q⟩
theorem Rep.lst_inv{M:Addr->Prop}{H:Hp}{v:V}{ds:List PyData}(r:Rep M H v (.list ds)):∃ a vs,v=.ref a/\H a=some (.lst vs)/\¬ M a/\RepL M H vs ds:=by
 cases r with
 |list e n q=>exact⟨_,_,rfl,e,n,q⟩
variable {Γ:Ge} {pos p p2:Pos} {a b c:Expr} {es:List Expr} {d d1 d2:PyData} {ds ds1 ds2:List PyData}
noncomputable def zfJ(K:PySem.W.Frag):R2:=fun x y H Q=>∃ a b xs ys,x=.ref a/\y=.ref b/\SqT K H a xs/\SqT K H b ys/\xs.length+ys.length<=sizeLine/\(xs= []->Q (.ref b) H)/\(ys= []->Q (.ref a) H)/\∀ p,H p=none->Q (.ref p) (upd H p (.tup (xs++ys)))
theorem zbD:OpR X (binaryOp .Add) (zfJ X.K):=by
 intro pins s σ H x y v u Q I rx ry h
 obtain⟨a,b,xs,ys,rfl,rfl,ha,hb,hz,q0,q1,q⟩:=h
 cases rx
 cases ry
 obtain⟨its,r,hit,_⟩:=I.tuple ha
 obtain⟨its2,r2,hit2,_⟩:=I.tuple hb
 by_cases hv:its= []
 ·obtain⟨⟨cls,dd,data,sl⟩,ho,hc,n,hd⟩:=id hit
  obtain⟨⟨cls2,dd2,data2,sl2⟩,ho2,hc2,n2,hd2⟩:=id hit2
  simp only at hc hd hc2 hd2
  subst hc hd hc2 hd2
  refine concat_meets ⟨_,ho,rfl⟩ ⟨_,ho2,rfl⟩ noFill_tuple_add seq_tuple_add PySem.F.slot_tuple_add PySem.F.entry_tuple_add (PySem.F.args_tuple_add_2 _ _)
   (tuple_addW0 a b its.toArray its2.toArray n n2 dd dd2 sl sl2 (by simp[hv])) ⟨ho,ho2,⟨.ref b,H,I,rfl,q0 ?_⟩⟩
  exact r.nil_iff.mp hv
 ·refine HT.cat_tup hit hit2 hv (fun hw=>⟨.ref a,H,I,rfl,q1 (r2.nil_iff.mp hw)⟩) (fun _=>?_) (by rw[<- r.length,<- r2.length];exact hz)
  refine⟨.ref s.heap.objs.size,_,I.laid (t':=s.toks) (o:=.tup (xs++ys)) (fun b u e=>Heap.get?_push_of_some _ e) (xn _) ?_,rfl,q _ (I.hok.fresh (xn _))⟩
  exact⟨by rw[xw];exact hz,_,r.append r2,⟨_,Heap.get?_push_size _ rfl,rfl,_,rfl⟩⟩
theorem vo{M:Addr->Prop}{H:Hp}{vs:List V}{ds:List PyData}{i:Int}{d:PyData}(r:RepL M H vs ds)(h:atI ds i=some d):∃ v,atI vs i=some v/\Rep M H v d:=by
 unfold atI at h |-
 rw[r.length]
 cases e:ixN ds.length i with
 |none=>rw[e]at h;cases h
 |some j=>
  rw[e]at h
  exact r.get' h
end
end L2
namespace L2
open PySem PySem.Spec PyProof.Rows
noncomputable def tyD:PyData->String
 |.none=> "NoneType"
 |.bool _=> "bool"
 |.int _=> "int"
 |.str _=> "str"
 |.list _=> "list"
 |.tuple _=> "tuple"
 |.dict _=> "dict"
theorem Rep.ty{K:PySem.W.Frag}{M:Addr->Prop}{H:Hp}{v:V}{d:PyData}(r:Rep M H v d):Qk K H v (.type (tyD d)):=by
 cases r with
 |none=>exact .non
 |bool b=>exact .bl b
 |int i=>exact .int i
 |str x=>exact .str x
 |list e n q=>exact .lst e
 |tuple e q=>exact .tup e
section
variable {X:Cx}
theorem zct:jm X (.builtin "isinstance") (fun xs H Q=>∃ x T t k,xs= [x,.ty T]/\Qk X.K H x t/\PySem.W.kitOne X.K t (.type T)=some k/\Q (.bl k) H):=by
 intro pins s σ H xs us Q I r h
 obtain⟨x,T,t,k,rfl,ty,e,q⟩:=h
 obtain⟨u,w',rfl,rx,rc⟩:=zcR r
 cases (show w'=Value.type T from rc)
 exact K4 I rx ty e fun tk=>⟨.bl k,H,I.tok tk,rfl,q⟩
variable {Γ:Ge} {pos p p2:Pos} {a b c:Expr} {es:List Expr} {d d1 d2:PyData} {ds ds1 ds2:List PyData}
theorem Kz(bs:List Bool):(List.range bs.length).all (fun i=>(bs[i]?).getD false)=bs.all id:=by
 have e:(List.range bs.length).map (fun i=>(bs[i]?).getD false)=bs:=by
  apply List.ext_getElem
  ·simp
  ·intro i h1 h2
   simp[h2]
 have h:=congrArg (fun l=>List.all l id) e
 rw[List.all_map]at h
 exact h
theorem KY(bs:List Bool):(List.range bs.length).any (fun i=>(bs[i]?).getD false)=bs.any id:=by
 have e:(List.range bs.length).map (fun i=>(bs[i]?).getD false)=bs:=by
  apply List.ext_getElem
  ·simp
  ·intro i h1 h2
   simp[h2]
 have h:=congrArg (fun l=>List.any l id) e
 rw[uO]at h
 exact h
theorem YV{bs:List Bool}{its:List Value}(rv:Vals (bs.map V.bl) its){i:Nat}{v:Value}(e:its[i]?=some v):∃ b,bs[i]?=some b/\v=.bool b:=by
 have hi:i<its.length:=(xc.mp e).1
 have hl:=rv.length
 rw[xk]at hl
 have hb:i<bs.length:=by omega
 obtain⟨u,hu,ru⟩:=rv.get (i:=i) (x:=V.bl bs[i]) (by simp[hb])
 rw[e]at hu;cases hu
 exact⟨bs[i],by simp[hb],ru⟩
theorem KN (hc:X.calm=true):jm X (.builtin "all") (fun xs H Q=>∃ (p:Addr) (bs:List Bool),xs= [.ref p]/\SqL X.K H p (bs.map V.bl)/\Q (.bl (bs.all id)) H):=by
 intro pins s σ H xs us Q I r h
 obtain⟨p,bs,rfl,hq,q⟩:=h
 obtain⟨u,rfl,rx⟩:=Zj r
 cases rx
 obtain⟨its,rv,pl,hz⟩:=I.list hq
 have hne:p≠s.heap.objs.size:=by
  obtain⟨o,n,e,_⟩:=pl
  exact xu (Heap.lt_size e)
 have hl:=rv.length
 rw[xk]at hl
 refine call_all_walk (wpAny_pyIter_list pl.isList ⟨s.heap.objs.size,_,_,_,_,_,fun i=>(bs[i]?).getD false,rfl,Walks.list (A:=X.A.in1) (show X.A.in1.handled=none from I.ok.hd hc) s.heap.objs.size p hne its.toArray,
  ⟨⟨_,Heap.get?_push_size _ rfl,rfl,rfl⟩,pl.isList.at fun o e=>Heap.get?_push_of_some _ e⟩,fun i v s' Q' E' hP hQ=>?_,fun h' tk hk=>?_⟩)
 ·obtain⟨b,hb,rfl⟩:=YV rv (by simpa using hP)
  dsimp only at hQ;rw[hb]at hQ
  exact wpAny_truthy_bool hQ
 ·rw[xq,<- hl,Kz]
  refine⟨.bl _,H,I.kept (t':=tk) fun b o e=>hk b o ?_ (Heap.get?_push_of_some _ e),rfl,q⟩
  intro z
  rw[uz]at z
  exact absurd (Heap.lt_size e) (by rw[z];exact ue _)
theorem Kd (hc:X.calm=true):jm X (.builtin "any") (fun xs H Q=>∃ (p:Addr) (bs:List Bool),xs= [.ref p]/\SqL X.K H p (bs.map V.bl)/\Q (.bl (bs.any id)) H):=by
 intro pins s σ H xs us Q I r h
 obtain⟨p,bs,rfl,hq,q⟩:=h
 obtain⟨u,rfl,rx⟩:=Zj r
 cases rx
 obtain⟨its,rv,pl,hz⟩:=I.list hq
 have hne:p≠s.heap.objs.size:=by
  obtain⟨o,n,e,_⟩:=pl
  exact xu (Heap.lt_size e)
 have hl:=rv.length
 rw[xk]at hl
 refine call_any_walk (wpAny_pyIter_list pl.isList ⟨s.heap.objs.size,_,_,_,_,_,fun i=>(bs[i]?).getD false,rfl,Walks.list (A:=X.A.in1) (show X.A.in1.handled=none from I.ok.hd hc) s.heap.objs.size p hne its.toArray,
  ⟨⟨_,Heap.get?_push_size _ rfl,rfl,rfl⟩,pl.isList.at fun o e=>Heap.get?_push_of_some _ e⟩,fun i v s' Q' E' hP hQ=>?_,fun h' tk hk=>?_⟩)
 ·obtain⟨b,hb,rfl⟩:=YV rv (by simpa using hP)
  dsimp only at hQ;rw[hb]at hQ
  exact wpAny_truthy_bool hQ
 ·rw[xq,<- hl,KY]
  refine⟨.bl _,H,I.kept (t':=tk) fun b o e=>hk b o ?_ (Heap.get?_push_of_some _ e),rfl,q⟩
  intro z
  rw[uz]at z
  exact absurd (Heap.lt_size e) (by rw[z];exact ue _)
theorem RepL.bls{M:Addr->Prop}{H:Hp}:∀ {vs:List V}{bs:List Bool},RepL M H vs (bs.map PyData.bool)->vs=bs.map V.bl
 |_,[],.nil=>rfl
 |_,b::bs,.cons q t=>by cases q;rw[xK,<- RepL.bls t]
theorem Km:bootBuiltins "all" =some (.builtin "all"):=by decide +kernel
theorem KE:bootBuiltins "any" =some (.builtin "any"):=by decide +kernel
theorem ZJ:bootBuiltins "list" =some (.type "list"):=by decide +kernel
theorem Jl:bootBuiltins "tuple" =some (.type "tuple"):=by decide +kernel
theorem Wt:bootBuiltins "int" =some (.type "int"):=by decide +kernel
theorem Yy:bootBuiltins "bool" =some (.type "bool"):=by decide +kernel
theorem boot_setW:bootBuiltins "set" =some (.type "set"):=by decide +kernel
end
section
variable {X:Cx} {Γ:Ge} {tg iter a b:Expr} {ds:List PyData} {p pos:Pos}
noncomputable def zo(n:Nat):List PyData:=(List.range n).map fun (i:Nat)=>PyData.int (i:Int)
theorem zi(n:Nat):(zo n).length=n:=by simp[zo]
theorem jd{n i:Nat}{d:PyData}(h:(zo n)[i]?=some d):i<n/\d=.int (i:Int):=by
 unfold zo at h
 rw[xg]at h
 have hi:i<n:=by
  cases e:(List.range n)[i]? with
  |none=>rw[e]at h;cases h
  |some j=>simpa using (xc.mp e).1
 rw[xY hi]at h
 exact⟨hi,(Option.some.inj h).symm⟩
end
noncomputable def zfo(X:Cx)(ts:List Expr):TGs:=fun vs σ H Q=>∀ (pins:List (Addr×Obj)) (s:Shared) (us:List Value),Inv X pins σ H s->Vals vs us ->
  wpAny (model X.prog X.w) X.A (assignInOrder ((assignEach ts X.env).map (·.2)) us) (fun _ s'=>∃ σ' H',Inv X pins σ' H' s'/\Q σ' H') X.xe s
theorem yg{X:Cx}{ts:List Expr}:PGs X ts (zfo X ts):=fun pins s σ H vs us Q I r h=>h pins s us I r
theorem PGs.wp{X:Cx}{ts:List Expr}{t:TGs}{vs:List V}{σ:St}{H:Hp}{Q:St->Hp->Prop}(h:PGs X ts t)(q:t vs σ H Q):zfo X ts vs σ H Q:=fun pins s us I r=>h pins s σ H vs us Q I r q
section
variable {X:Cx} {k:Nat} {Γ Γ1 Γ2:Ge} {tg:Expr} {ts:List Expr} {d:PyData} {ds:List PyData} {pos:Pos}
end
theorem zfK{k:Nat}{ix:List Nat}{σ:St}{j i0:Nat}{v:V}(q:ix[j]?=some i0)(h:σ[i0]?=some (some v)):(cS k ix σ)[k+j]?=some (some v):=by
 unfold cS
 rw[xh (by simp),uE,Nat.add_sub_cancel_left,xg,q]
 simp[h]
section
variable {X:Cx} {elt tg iter:Expr} {ifs:List Expr} {scope:Scope} {pos:Pos} {N':List Str} {k:Nat} {ix:List Nat} {Γ:Ge} {ds:List PyData} {M:Addr->Prop} {σ:St} {H:Hp} {Q:VK}
noncomputable def gU(X:Cx)(N':List Str)(scope:Scope)(tg:Expr):TG:=fun v σ H Q=>∀ cl C s2 H2 fp,wpG (X.comp N' scope cl C s2 H2 fp) tg v σ H Q
noncomputable def fU(X:Cx)(N':List Str)(scope:Scope)(ifs:List Expr):TT:=fun σ H Q=>∀ cl C s2 H2 fp,wpF (X.comp N' scope cl C s2 H2 fp) ifs σ H Q
noncomputable def eU(X:Cx)(N':List Str)(scope:Scope)(elt:Expr):TE:=fun σ H Q=>∀ cl C s2 H2 fp,wpE (X.comp N' scope cl C s2 H2 fp) elt σ H Q
theorem zcr(hcalm:X.calm=true)(S:CSc X.env.scope X.N scope N' k ix)(hf:∀ x,foldedSetIterable iter X.env x=pure x:=by intro _;rfl) :
    PE X (.ListComp elt [⟨tg,iter,ifs,0⟩] scope pos) (Ww k ix (wpI X tg iter) (gU X N' scope tg) (fU X N' scope ifs) (eU X N' scope elt)) :=
  zdB hcalm S WY (fun cl C s2 H2 fp pins s σ H v u Q I r h=>h cl C s2 H2 fp pins s u I r) (fun cl C s2 H2 fp pins s σ H Q I h=>h cl C s2 H2 fp pins s I)
    (fun cl C s2 H2 fp pins s σ H Q I h=>h cl C s2 H2 fp pins s I) hf
theorem zd4{i:Nat}{x:Str}{pos' spos:Pos}(hN:X.N.Nodup)(hi':X.N[i]?=some x)(hx:Loc X.env.scope x)(hcalm:X.calm=true)(S:CSc X.env.scope X.N scope N' k ix)
  (hsw:swapsWith (.ListComp elt [⟨tg,iter,ifs,0⟩] scope pos) (some (.Name x pos')) spos.line X.env=pure true) (hs:∀ x,foldedSetIterable iter X.env x=pure x:=by intro _;rfl)
  (hf:X.fn x=true∨X.env.scope.names.lookup x=some .local:=by first | exact .inl rfl | exact .inr rfl | assumption) :
  PS X (.Assign [.Name x pos'] (.ListComp elt [⟨tg,iter,ifs,0⟩] scope pos) spos) (YN (Ww k ix (wpI X tg iter) (gU X N' scope tg) (fU X N' scope ifs) (eU X N' scope elt)) (yb i)) :=
 zdG hN hi' hx hcalm S WY (fun cl C s2 H2 fp pins s σ H v u Q I r h=>h cl C s2 H2 fp pins s u I r) (fun cl C s2 H2 fp pins s σ H Q I h=>h cl C s2 H2 fp pins s I)
  (fun cl C s2 H2 fp pins s σ H Q I h=>h cl C s2 H2 fp pins s I) hsw hs hf
end
inductive Out where
 |next (Γ:Ge)
 |ret (d:PyData)
 |new (ds:List PyData)
section
variable {X:Cx} {Γ Γ1:Ge} {st:Stmt} {sts body els:List Stmt} {o:Out} {d:PyData} {e c tg:Expr} {pos:Pos}
end
structure Kn(P:Program)(w:World)(K:PySem.W.Frag)(mg:Str->Option Value)(base:Heap)(CX:CXT)(x:Str)(k:Nat)(sp:Sp):Prop where
 ex:∃ (f:Addr) (fd:FuncData) (ps:List Str),we P w K mg base CX k f fd ps sp/\mg x=some (.ref f)/\PySem.W.keepIn K (.ref f)=true/\Binds K fd ps []
section
variable {X:Cx} {Γ:Ge} {x:Str} {k:Nat} {CX:CXT} {E:XK} {n:Nat} {pre:List PyData->Prop} {e:Expr} {es:List Expr} {ds:List PyData} {p pos:Pos}
theorem vI {sp:Sp}{σ:St}{H:Hp}{Q:VK}(kn:Kn X.prog X.w X.K X.mg X.base CX x k sp) (hr:Room k X.A) (hg:Gl X x) (hx:wH CX X E) (h:wpA X (e::es) σ H fun vs H1=>sp vs H1 Q E) (hdb:(x==("__debug__" :Str))=false:=by decide)
    (he:starEach (e::es) X.env=(false,eval e X.env)::starEach es X.env:=by rfl) (hpl:(backTo pos (starEach es X.env)).any (·.1)=false:=by rfl):wpE X (.Call (.Name x p) (e::es) [] pos) σ H Q:=by
  obtain⟨f,fd,ps,F,hm,hk,hb⟩:=kn.ex
  refine (zel F hr hg hm hk hb .nil hx jh hdb he hpl).wp (h.mono fun vs H1 q=>?_)
  show sp (vs++ []) H1 Q E
  rw[uf];exact q
end
theorem Vq{N:List Str}{vs:List V}(h:vs.length<=N.length):(start N vs).length=N.length:=by
 unfold start;simp;omega
structure Df(K:PySem.W.Frag)(mg:Str->Option Value)(x:Str)(st:Stmt)(ps:List Str):Prop where
 ex:∃ f fd,Fun K x x st f fd/\mg x=some (.ref f)/\Binds K fd ps []
section
variable {P:Program} {w:World} {K:PySem.W.Frag} {mg:Str->Option Value} {base:Heap} {x:Str} {st:Stmt} {N ps:List Str} {k:Nat}
theorem Df.kn{sp:Sp}(D:Df K mg x st ps)(S:qN N ps (defScope st))(len:∀ vs H Q E,sp vs H Q E->vs.length=ps.length)
  (hbody:∀ (f:Addr) (cdv:Value) (A:Around) (outer:List Env) (s:Shared) (H:Hp) (vs:List V) (Q:VK) (E:XK),Room k (A.deeper (envOfC x (defScope st) s.heap.objs.size f cdv))->sp vs H Q E ->
   wpB (ZN CX0 P w K mg base N x (defScope st) f cdv A outer s H E).nox (defBody st) { nx:=fun _ H'=>Q .non H',rt:=Q } (start N vs) H):Kn P w K mg base CX0 x (k+1) sp:=by
 obtain⟨f,fd,F,hm,hb⟩:=D.ex
 exact⟨f,fd,ps,F.ok S len (fun cdv A outer s H vs Q E hr h=>⟨_,qH,hbody f cdv A outer s H vs Q E hr h⟩),hm,F.kp,hb⟩
end
section
variable {X:Cx} {M:Addr->Prop} {Γ Γ1:Ge} {σ:St} {H:Hp} {D:jg} {st:Stmt} {sts body els:List Stmt} {o:Out} {d:PyData} {e c tg:Expr} {pos pos':Pos} {x:Str}
theorem zhB(i:Nat){Q:VK}(hN:X.N.Nodup)(h:wpE X e σ H Q)(k:∀ v H',Q v H'->wpB X sts D (σ.set i (some v)) H')(hi:X.N[i]?=some x:=by rfl)(hx:Loc X.env.scope x:=by first | exact Or.inl rfl | exact Or.inr rfl)(hs:swapsWith e (some (.Name x pos')) pos.line X.env=pure false:=by rfl)
    (hf:X.fn x=true∨X.env.scope.names.lookup x=some .local:=by first | exact .inl rfl | exact .inr rfl | assumption):wpB X (.Assign [.Name x pos'] e pos::sts) D σ H :=
  (Z5 (vZ hN hi hx zg hs hf) qH).wp (h.mono k)
end
section
variable {X:Cx} {M:Addr->Prop} {Γ Γ1:Ge} {σ:St} {H:Hp} {D:jg} {sts:List Stmt} {e:Expr} {ds:List PyData} {d:PyData} {pos pos':Pos} {x:Str}
end
mutual
/-- no list within -/
noncomputable def noL:PyData->Bool
 |.list _=>false
 |.tuple ds=>zdU ds
 |.dict _=>false
 |_=>true
noncomputable def zdU:List PyData->Bool
 |[]=>true
 |d::ds=>noL d&&zdU ds
end
mutual
theorem Rep.free{M M':Addr->Prop}{H:Hp}:∀ {v:V}{d:PyData},noL d=true->Rep M H v d->Rep M' H v d
 |_,_,_,.none=>.none
 |_,_,_,.bool b=>.bool b
 |_,_,_,.int i=>.int i
 |_,_,_,.str x=>.str x
 |_,_,h,.list e n r=>by simp[noL]at h
 |_,_,h,.tuple e r=>.tuple e (RepL.free (by simpa [noL] using h) r)
theorem RepL.free{M M':Addr->Prop}{H:Hp}:∀ {vs:List V}{ds:List PyData},zdU ds=true->RepL M H vs ds->RepL M' H vs ds
 |_,_,_,.nil=>.nil
 |_,_,h,.cons r t=>by
  rw[zdU,xa]at h
  exact .cons (Rep.free h.1 r) (RepL.free h.2 t)
end
section
variable {X:Cx} {M:Addr->Prop} {Γ Γ1:Ge} {σ:St} {H:Hp} {D:jg} {sts:List Stmt} {e:Expr} {ds:List PyData} {d:PyData} {pos pos' p2 p3:Pos} {x:Str} {l:Addr} {vs:List V}
end
theorem Df.of{K:PySem.W.Frag}{mg:Str->Option Value}{h:Heap}{x:Str}{st:Stmt}{ps:List Str}{f:Addr}{oc:Value}{od an:Option Addr}{sl:Array (Option Value)}{kV dc pm cd ct:Value}(X:K.In h)(G:h.Ns mainGlobals mg)
  (a:PySem.W.nsIn K mainGlobals x=some (some (.ref f))) (l:K.lookup f=some ⟨oc,od,.func (PySem.W.fnOf x x (jj st) (defBody st) (defScope st) .none kV dc pm an cd ct),sl⟩) (c:PySem.W.codeIn K cd x=true) (k:PySem.W.keepIn K (.ref f)=true)
  (hb:∀ (kV doc pm:Value) (an:Option Addr) (cdv ct:Value) (us:List Value),us.length=ps.length->bindArgs (PySem.W.fnOf x x (jj st) (defBody st) (defScope st) .none kV doc pm an cdv ct) ⟨us,[]⟩=pure (ps.zip us)):Df K mg x st ps :=
 ⟨f,_,Yx (st:=st) l c k,PySem.W.mg_of X G a,(Yx (st:=st) l c k).binds hb⟩
structure Dl(K:PySem.W.Frag)(x:Str)(st:Stmt)(fa:Addr)(p:Str):Prop where
 ex:∃ fd:FuncData,Fun K x x st fa fd/\∀ (s:Shared) (u:Value),BindsTo s fd ⟨[u],[]⟩ [(p,u)]
theorem Dl.of{K:PySem.W.Frag}{mg:Str->Option Value}{h:Heap}{x p:Str}{st:Stmt}{f fa:Addr}{oc:Value}{od an:Option Addr}{sl:Array (Option Value)}{kV dc pm cd ct:Value}(X:K.In h)(G:h.Ns mainGlobals mg)(hfa:mg x=some (.ref fa))
  (a:PySem.W.nsIn K mainGlobals x=some (some (.ref f))) (l:K.lookup f=some ⟨oc,od,.func (PySem.W.fnOf x x (jj st) (defBody st) (defScope st) .none kV dc pm an cd ct),sl⟩) (c:PySem.W.codeIn K cd x=true) (k:PySem.W.keepIn K (.ref f)=true)
  (hb:∀ (s:Shared) (u:Value),BindsTo s (PySem.W.fnOf x x (jj st) (defBody st) (defScope st) .none kV dc pm an cd ct) ⟨[u],[]⟩ [(p,u)]):Dl K x st fa p:=by
 have e:=hfa.symm.trans (PySem.W.mg_of X G a)
 cases e
 exact⟨_,Yx (st:=st) l c k,hb⟩
noncomputable def Y8(K:PySem.W.Frag):Sp:=fun vs H Q _=>∃ (a:Addr) (ns:List Int),vs= [.ref a]/\SqL K H a (ns.map V.int)/\ns.length<=63/\∀ H',Q (.bl true) H'
theorem Fun.law{P:Program}{w:World}{K:PySem.W.Frag}{mg:Str->Option Value}{base:Heap}{x p:Str}{st:Stmt}{N:List Str}{k:Nat}{f:Addr}{fd:FuncData}(F:Fun K x x st f fd)(S:qN N [p] (defScope st))
  (hbody:∀ (cdv:Value) (A:Around) (outer:List Env) (s:Shared) (H:Hp) (Q:VK) (E:XK) (a:Addr) (ns:List Int),Room k (A.deeper (envOfC x (defScope st) s.heap.objs.size f cdv))->SqL K H a (ns.map V.int)->ns.length<=63->(∀ H',Q (.bl true) H') ->
   wpB (ZN CX0 P w K mg base N x (defScope st) f cdv A outer s H E).nox (defBody st) { nx:=fun _ H'=>Q .non H',rt:=Q } (start N [.ref a]) H):we P w K mg base CX0 (k+1) f fd [p] (Y8 K) :=
 F.ok S (fun vs H Q E ⟨a,ns,e,_⟩=>by rw[e];rfl) fun cdv A outer s H vs Q E hr ⟨a,ns,e,hS,hlen,kk⟩=>⟨_,qH,by subst e;exact hbody cdv A outer s H Q E a ns hr hS hlen kk⟩
theorem walkL{l:PySem.W.OpenLaw}{q:Program}{loose:List Str}{XP:(Str->Option Value)->Heap->Prop}{YP:World->Heap->Prop}{d:DefRec}{K:Params->PySem.W.Frag}{k:Nat}{st:Stmt}(hn:l.most=some 63)(hdf:d.params.defaults= [])(hk:Room k callerA)
  (hY:∀ (w:World) (h:Heap),YP w h->(K w.params).In h)
  (F:∀ (w:World) (mg:Str->Option Value) (fa:Addr) (h:Heap),(K w.params).In h->h.Ns mainGlobals mg->mg d.name=some (.ref fa) ->
   Dl (K w.params) "law" st fa "_law_script" /\∀ (fd:FuncData),Fun (K w.params) "law" "law" st fa fd->∀ base:Heap,we l.prog w (K w.params) mg base CX0 k fa fd ["_law_script"] (Y8 (K w.params))) :
  PySem.W.WalkO q loose XP YP l.row.toRowW d [] (fun f vs=>PySem.call f vs) :=
 L2.walk_of (n:=63) (k:=k) (x:= "_law_script") (CX:=fun _=>CX0) (sp:=fun w=>Y8 (K w.params)) hn (by decide) hdf hk hY (fun w mg fa h KX G hm=>by
  obtain⟨⟨fd,Ff,hb⟩,hF⟩:=F w mg fa h KX G hm
  exact⟨fd,hb,fun base _ _=>hF fd Ff base⟩) (fun _ _ a ns hl _ hS=>⟨a,ns,rfl,hS,hl,fun _=>rfl⟩) fun _ _ _ _ _ z=>z
end L2
namespace L2
open PySem PySem.Spec PyProof.Rows
structure zgW(M:Addr->Prop)(H:Hp)(b c:Addr)(cells:List Int)(i l t s:Int):Prop where
 mb:M b
 hb:H b=some (.lst [.ref c,.int i,.int l,.int t,.int s])
 hc:Rep M H (.ref c) (.list (cells.map PyData.int))
 hi:0<=i
noncomputable def BoxAt(M:Addr->Prop)(H:Hp)(b:Addr):Prop:=∃ c cells i l t s,zgW M H b c cells i l t s
theorem BoxAt.mem{M:Addr->Prop}{H:Hp}{b:Addr}(B:BoxAt M H b):M b:=let ⟨_,_,_,_,_,_,B⟩:=B;B.mb
theorem BoxAt.lst{M:Addr->Prop}{H:Hp}{b:Addr}(B:BoxAt M H b):∃ xs,H b=some (.lst xs):=let ⟨_,_,_,_,_,_,B⟩:=B;⟨_,B.hb⟩
noncomputable def zay(K:PySem.W.Frag):Sp:=fun vs H Q _=>∃ (a:Addr) (ns:List Int),vs= [.ref a]/\SqL K H a (ns.map V.int)/\ns.length<=63/\∀ b H',Same H H'->H b=none->H' b≠none->BoxAt (fun a=>a=b) H' b->Q (.ref b) H'
theorem RepL.intsInv{M:Addr->Prop}{H:Hp}:∀ {vs:List V}{ns:List Int},RepL M H vs (ns.map PyData.int)->vs=ns.map V.int
 |_,[],.nil=>rfl
 |_,n::ns,.cons q t=>by cases q;rw[xK,<- RepL.intsInv t]
section
variable {X:Cx} {M:Addr->Prop} {Γ:Ge} {σ:St} {H:Hp} {D:jg} {sts:List Stmt} {e e1:Expr} {p pos pos':Pos} {x:Str} {k:Nat} {b:Addr} {n:Int} {Q:VK}
end
theorem WU{n i:Nat}{z:Ent}(e:(List.replicate n none:Ge)[i]?=some (some z)):False:=by
 rw[xS]at e
 split at e
 ·cases e
 ·cases e
theorem RS.blank{M:Addr->Prop}{σ:St}{H:Hp}(n:Nat)(al:Al M H):RS M (List.replicate n none) σ H:=⟨al,fun i d e=>(WU e).elim,fun i d e=>(WU e).elim⟩
section
variable {X:Cx} {H:Hp} {D:jg} {sts:List Stmt} {p pos pos' p2:Pos} {x:Str} {k:Nat} {Q:VK}
theorem zfW {a:Addr}{ns:List Int}{N:List Str}(hN:X.N.Nodup) (kb:Kn X.prog X.w X.K X.mg X.base CX0 "_law_box" k (zay X.K)) (hr:Room k X.A) (hS:SqL X.K H a (ns.map V.int)) (hlen:ns.length<=63)
  (kk:∀ b σ' H',Same H H'->H b=none->BoxAt (fun a=>a=b) H' b->RS (fun a=>a=b) ((List.replicate X.N.length none).set 1 (some (.v (.ref b)))) σ' H'->σ'.length=X.N.length->wpB X sts D σ' H')
  (hNe:X.N=N) (h0:N[0]?=some ("_law_script" :Str)) (hi:X.N[1]?=some x:=by rfl) (hv0:Vis X.env.scope "_law_script" :=by first | exact Or.inl rfl | exact Or.inr (Or.inl rfl) | exact Or.inr (Or.inr rfl)) (hx:Loc X.env.scope x:=by first | exact Or.inl rfl | exact Or.inr rfl)
  (hf:X.fn x=true∨X.env.scope.names.lookup x=some .local:=by first | exact .inl rfl | exact .inr rfl | assumption) (hg:Gl X "_law_box" :=by rfl)
  (hs:starEach [.Name "_law_script" p2] X.env= [(false,eval (.Name "_law_script" p2) X.env)]:=by rfl) (hpl:(backTo p (starEach [] X.env)).any (·.1)=false:=by rfl) {p3:Pos} :
  wpB X (.Assign [.Name x pos'] (.Call (.Name "_law_box" p3) [.Name "_law_script" p2] [] p) pos::sts) D (start N [.ref a]) H:=by
 have hl:1<N.length:=by rw[<- hNe];exact (xc.mp hi).1
 have hst:(start N [V.ref a]).length=N.length:=Vq (by simp;omega)
 refine zhB 1 (Q:=fun v H'=>∃ b,v=.ref b/\Same H H'/\H b=none/\BoxAt (fun a=>a=b) H' b) hN (vI kb hr hg kB ((zy (jT (by rw[hNe];exact h0) hv0) pa_nil hs).wp ⟨.ref a,by simp[start],a,ns,rfl,hS,hlen,fun b H' s' nb _ hB=>⟨b,rfl,s',nb,hB⟩⟩) (by decide) hs hpl) (fun v H1 ⟨b,ev,s1,nb,hB⟩=>?_) hi hx rfl hf
 subst ev
 refine kk b _ H1 s1 nb hB ((RS.blank X.N.length (fun c hc=>?_)).setV (by rw[hst];exact hl)) (by rw[uk,hst,hNe])
 subst hc
 obtain⟨xs,hx⟩:=hB.lst
 rw[hx]
 exact fun z=>nomatch z
end
end L2
namespace L2
open PySem PySem.Spec PyProof.Rows
noncomputable def CX1(P:Program)(w:World):CXT:=fun outer H s E e s'=>∃ (ea:Addr) (c a0:Value) (B h0:Heap) (H':Hp),e=.ref ea/\s'.os=s.os/\AllBare s'.gens/\Heap.FlyingW B outer ea c a0 s'.heap/\h0.UpToSlots s'.heap /\
 (∀ h6,B.StaysIn h6->h0.UpToSlots h6->Un (frs outer) [] H H' s.heap h6/\HOk P w H' h6)/\E c none H'
section
variable {X:Cx} {pins:List (Addr×Obj)} {σ:St} {H:Hp} {s:Shared}
theorem Inv.flies(I:Inv X pins σ H s)(hx:X.ex= [])(hst:X.stack=X.env::X.outer)(hf:X.env.frame=some X.env.locals){h6:Heap}
  (k1:(PySem.W.hideAll s.heap (frs X.stack)).StaysIn h6) (k2:s.heap.UpToSlots h6):Un (frs X.outer) [] X.H₀ H X.s₀.heap h6/\HOk X.prog X.w H h6:=by
 have nex:∀ b,b∉X.ex:=fun b z=>by rw[hx]at z;cases z
 have kk:∀ b o,s.heap.get? b=some o->b∉frs X.stack->h6.get? b=some o:=fun b o e n=>k1 b o (PySem.W.hideAll_get _ e n)
 have fr:∀ b,b∈frs X.stack->∀ o,s.heap.get? b=some o->∃ sl,h6.get? b=some { o with slots:=sl }:=fun b hb o e=>by
  obtain⟨_,o',e',hn⟩:=I.stack.mem hb
  rw[e]at e'
  cases e'
  exact k2 b o e hn
 have hsub:∀ b,b∈frs X.outer->b∈frs X.stack:=fun b hb=>by
  rw[hst]
  unfold frs at hb |-
  rw[xG,hf]
  exact xi _ hb
 have hsup:∀ b,b∈frs X.stack->b=X.env.locals∨b∈frs X.outer:=fun b hb=>by
  rw[hst]at hb
  unfold frs at hb |-
  rw[xG,hf]at hb
  exact xm.mp hb
 have hL:∀ b o,X.s₀.heap.get? b=some o->b≠X.env.locals:=fun b o e z=>by
  have h1:=Heap.lt_size e
  have h2:=I.ok.above
  rw[z]at h1
  exact absurd (xy h1 h2) (ue _)
 refine⟨⟨fun b o e n hb _=>?_,fun b o e n hb _=>?_,fun b o e n _=>I.base.free b o e n (nex b),fun b o e _=>?_,I.base.tups,I.base.frzs,I.base.tbls⟩,fun a o e=>?_⟩
 ·refine kk b o (I.base.keep b o e n hb (nex b)) fun z=>?_
  rcases hsup b z with z | z
  ·exact hL b o e z
  ·exact hb z
 ·obtain⟨sl,e1⟩:=I.base.slot b o e n hb (nex b)
  obtain⟨sl2,e2⟩:=fr b (hsub b hb) _ e1
  exact⟨sl2,e2⟩
 ·obtain⟨o1,e1⟩:=I.base.there b o e (nex b)
  by_cases hb:b∈frs X.stack
  ·obtain⟨sl,e2⟩:=fr b hb _ e1
   exact⟨_,e2⟩
  ·exact⟨o1,kk b o1 e1 hb⟩
 ·refine (I.hok a o e).stay (fun b u hb q=>kk b u q fun z=>?_) (fun _ q=>q) fun _ _ q=>q
  have hn:=I.stkFree b z
  rcases hb with hb | hb
  ·subst hb;rw[e]at hn;cases hn
  ·rw[hb]at hn;cases hn
theorem VM(I:Inv X pins σ H s)(hx:X.ex= [])(hst:X.stack=X.env::X.outer)(hf:X.env.frame=some X.env.locals){h':Heap}{ea:Addr}{c:Value}{args:List Value}
  (hm:Heap.MadeExcOf s.heap h' ea c args) {E:XK} (q:E c none H) {E':Value->Shared->Prop} :
  wpAny (model X.prog X.w) X.A (leaving X.env (.ref ea)) (fun _ s''=>CX1 X.prog X.w X.outer X.H₀ X.s₀ E (.ref ea) s'') E' { s with heap:=h' }:=by
 have hfr:X.A.frames=some (X.env::X.outer):=by rw[<- hst];exact I.ok.frames
 have hst':=I.stack
 rw[hst]at hst'
 refine wpAny_leaves_madeW (base:=PySem.W.hideAll s.heap (frs X.stack)) (h:=s.heap) hfr hf (fun b o e=>PySem.W.of_hideAll _ e) (PySem.W.funFrames_hide hst' fun env he a ha=>?_) hm fun h'' t f1 f2 f3 f4=>?_
 ·rw[hst];exact List.mem_filterMap.mpr ⟨env,he,ha⟩
 ·exact⟨ea,c,.ref t,_,s.heap,H,rfl,I.os,I.bare,f1,(Heap.UpToSlots.of_keeps hm.keeps).trans f4,fun h6 k1 k2=>I.flies hx hst hf k1 k2,q⟩
end
noncomputable abbrev bmV:List Value:= [.type "ValueError",.type "Exception",.type "BaseException",.type "object"]
noncomputable def mroIn(K:PySem.W.Frag)(C:Addr):List Value:=match K.lookup C with
 |some ⟨_,_,.cls cd,_⟩=>cd.mro
 |_=> []
theorem zeA {K:PySem.W.Frag}{h:Heap}{C:Addr}(X:K.In h) (q:PySem.W.excIn K C bmV "ValueError.__new__" =true) :
  ∃ bm N nm qn bs hdct sn sub ab col dd k0 k1 k2 k3 k5 mN,h.get? C=some (excClassObj nm qn C N bs bm hdct sn sub ab col dd k0 k1 k2 k3 k5 "ValueError.__new__")/\h.Ns N mN/\mN "__init__" =none/\OwnTail h bmV bm/\mroIn K C=Value.ref C::bm:=by
 unfold PySem.W.excIn at q
 unfold mroIn
 split at q
 ·rename_i d0 c0 s0 e0
  rw[e0]
  dsimp only
  split at q
  ·rename_i C1 bm z0 z1 z2 z3 n1 z5 e1 e2
   rw[xa,xa,xa,xa,xa]at q
   obtain⟨⟨⟨⟨⟨q1,q2⟩,q3⟩,q4⟩,q5⟩,q6⟩:=q
   have r1:C1=C:=eq_of_beq q1
   have r2:n1= "ValueError.__new__" :=eq_of_beq q2
   have r3:c0.hasDel=false:=by simpa using q3
   have r6:PySem.W.nsIn K c0.ns "__init__" =some none:=eq_of_beq q6
   subst r1 r2
   have r5:s0=#[z0,z1,z2,z3,some (.builtin "ValueError.__new__"),z5]:=by
    cases s0 with
    |mk l=>exact congrArg Array.mk e2
   cases c0 with
   |mk a1 a2 a3 a4 a5 a6 a7 a8 a9 a10 a11=>
    dsimp only at e1 r3 q5 r6
    subst e1 r3 r5
    exact⟨_,_,_,_,_,_,_,_,_,_,_,_,_,_,_,_,_,X _ _ e0,.of_isNs (PySem.W.isNs_of_in X q5),PySem.W.nsMap_none_of_in X q5 r6,PySem.W.tail_of_in X q4,rfl⟩
  ·cases q
 ·cases q
structure Kq(X:Cx)(x:Str)(C:Addr):Prop where
 gl:Gl X x
 mg:X.mg x=some (.ref C)
 ex:PySem.W.excIn X.K C bmV "ValueError.__new__" =true
 d:(x==("__debug__" :Str))=false
section
variable {X:Cx} {x:Str} {C:Addr} {np cpos pos cp:Pos} {z:Str} {cj:Nat} {σ:St} {H:Hp} {D:jg}
theorem za1 {h:Heap}{bm:List Value}(T:OwnTail h bmV bm):bm.contains (.type "BaseException")=true:=(T.hasType (by decide +kernel))
theorem zbY(k:Kq X x C)(hcalm:X.calm=true)
  (h:∀ pins s,Inv X pins σ H s->∀ h' ea args,Heap.MadeExcOf s.heap h' ea (.ref C) args->X.xe (.ref ea) { s with heap:=h' }) :
  wpS X (.Raise (some (.Call (.Name x np) [.Constant (.str z) cj cp] [] cpos)) none pos) D σ H:=fun pins s I=>by
 obtain⟨bm,N,nm,qn,bs,hdct,sn,sub,ab,col,dd,k0,k1,k2,k3,k5,mN,hC,hN,hi,T,_⟩:=zeA I.mod.kin k.ex
 refine wpAny_Raise_call_subT (C:=C) (nm:=nm) (q:=qn) (N:=N) (bs:=bs) (bm:=bm) (hdct:=hdct) (sn:=sn) (sub:=sub) (ab:=ab) (col:=col) (dd:=dd) (k0:=k0) (k1:=k1) (k2:=k2) (k3:=k3) (k5:=k5) (mN:=mN) PySem.F.excBase_ValueError (za1 T) (I.ok.hd hcalm) rfl hi (vf I k.gl k.mg ⟨rfl,?_⟩ k.d)
 refine Calls.evalArgs_plain ?_
 have hz:wpE X (.Constant (.str z) cj cp) σ H fun v H'=>v=.str z/\H'=H:=pe_str.wp ⟨rfl,rfl⟩
 have hA:wpA X [.Constant (.str z) cj cp] σ H fun vs H'=>vs= [.str z]/\H'=H:=(zy zg pa_nil rfl).wp (hz.mono fun v H' ⟨e1,e2⟩=>⟨by rw[e1],e2⟩)
 refine wpAny_mono (hA cpos pins s I) (fun vs s1 hq=>?_) fun _ _ y=>y
 obtain⟨ws,H1,I1,r,e,eH⟩:=hq
 subst eH
 have hlen:vs.length=1:=by rw[<- r.length,e];rfl
 exact⟨rfl,by have:=sizeLine_eq;show vs.length<=sizeLine;omega,I1.bk _ _ hC,hN.keeps I1.bk,T.keeps I1.bk,fun h' ea hm=>h pins s1 I1 h' ea vs hm⟩
end
end L2
namespace L2
open PySem PySem.Spec PyProof.Rows
noncomputable abbrev Cx.tried(X:Cx)(pins:List (Addr×Obj))(E:Value->Shared->Prop):Cx:={ X with pn:=X.pn++pins,xe:=E }
section
variable {X:Cx} {pins:List (Addr×Obj)} {σ:St} {H:Hp} {s:Shared} {e:Value} {E:Value->Shared->Prop} {D:jg} {f:Flow}
theorem Cx.Ok.tried(ok:X.Ok):(X.tried pins E).Ok :=
 ⟨ok.mod,ok.kind,ok.glob,ok.blt,ok.above,ok.inj,ok.has,ok.cab,ok.hd,ok.frames,ok.stk,ok.exf,ok.bs,ok.bsz,ok.noex,ok.exfs,ok.funs,ok.frf⟩
theorem Inv.tried(I:Inv X pins σ H s)(E:Value->Shared->Prop):Inv (X.tried pins E) [] σ H s:=⟨I.ok.tried,I.os,I.bare,I.base,I.loc,I.cell,I.free,I.freeC,fun p hp=>I.pin p (by simpa using hp),I.hok,I.len⟩
end
structure HdK(X:Cx)(hd:ExceptHandler)(C:Addr)(t:Nat)(v:Str):Prop where
 ex:∃ x np y py cj pc pa hp,hd=.ExceptHandler (some (.Name x np)) none [.Assign [.Name y py] (.Constant (.str v) cj pc) pa] hp/\Kq X x C/\X.N[t]?=some y/\Loc X.env.scope y/\(X.fn y=true∨X.env.scope.names.lookup y=some .local)
inductive zdW(X:Cx):List ExceptHandler->List (Addr×Nat×Str)->Prop
 |nil:zdW X [] []
 |cons {hd:ExceptHandler} {hs:List ExceptHandler} {C:Addr} {t:Nat} {v:Str} {zs:List (Addr×Nat×Str)}:HdK X hd C t v->zdW X hs zs->zdW X (hd::hs) ((C,t,v)::zs)
section
variable {X:Cx} {pins:List (Addr×Obj)} {σ:St} {H:Hp} {s:Shared} {E:Value->Shared->Prop} {D:jg} {B:Heap} {ea C:Addr} {a0:Value}
end
end L2
namespace L2
open PySem PySem.Spec PyProof.Rows
section
variable {X:Cx} {pins:List (Addr×Obj)} {σ:St} {H:Hp} {s s':Shared} {D:jg} {e:Value}
end
section
variable {P:Program} {w:World} {K:PySem.W.Frag} {mg:Str->Option Value} {base:Heap} {x:Str} {st:Stmt} {N ps:List Str} {k:Nat}
theorem Df.knX{sp:Sp}(D:Df K mg x st ps)(S:qN N ps (defScope st))(len:∀ vs H Q E,sp vs H Q E->vs.length=ps.length)
  (hbody:∀ (f:Addr) (cdv:Value) (A:Around) (outer:List Env) (s:Shared) (H:Hp) (vs:List V) (Q:VK) (E:XK),Room k (A.deeper (envOfC x (defScope st) s.heap.objs.size f cdv))->sp vs H Q E ->
   wpB (ZN (CX1 P w) P w K mg base N x (defScope st) f cdv A outer s H E) (defBody st) { nx:=fun _ H'=>Q .non H',rt:=Q } (start N vs) H):Kn P w K mg base (CX1 P w) x (k+1) sp:=by
 obtain⟨f,fd,F,hm,hb⟩:=D.ex
 obtain⟨oc,od,kV,doc,pm,an,cdv,ct,osl,rfl,lk,hcd⟩:=F.ex
 exact⟨f,_,ps,zeG lk hcd S len fun A outer s H vs Q E hr hsp=>⟨_,qH,hbody f cdv A outer s H vs Q E hr hsp⟩,hm,F.kp,hb⟩
end
end L2
namespace L2
open PySem PySem.Spec PyProof.Rows
section
variable {prog:Program} {w:World} {A:Around} {E:Value->Shared->Prop} {s:Shared}
theorem zcp{l:Addr}{x:Value}{xs:List Value}{Q:List Value->Shared->Prop}(hl:s.heap.IsList l (x::xs).toArray)(hh:A.handled=none)(hz:(x::xs).length<=sizeLine)
  (k:∀ (h2:Heap) (tk:Nat),(∀ b o,s.heap.get? b=some o->h2.get? b=some o)->Q [x,.ref h2.objs.size] { s with heap:=h2.push { cls:=.type "list",data:=.seq xs.toArray },toks:=tk }) :
  wpAny (model prog w) A (unpackItems (.ref l) 2 (some 1)) Q E s:=by
 obtain⟨ol,hol,hcl,hdl⟩:=id hl
 have hlt:=Heap.lt_size hol
 have hne:l≠s.heap.objs.size:=xu hlt
 unfold unpackItems notIterableAtAll
 refine wpAny_bind (wpAny_bind (wpAny_specialOf hl.typeIs PySem.F.slot_list_iter.lookup (wpAny_pure ?_)))
 simp only[xI,if_false]
 refine wpAny_bind (wpAny_holding (wpAny_pyIter_list hl ?_))
 refine wpAny_bind (wpAny_holding (PySem.W.kun_draw hne 1 0 _ _ ⟨_,Heap.get?_push_size _ rfl,rfl,rfl⟩ (hl.push _) (by simp) fun h1 it1 sb1=>?_))
 have hl1:h1.IsList l (x::xs).toArray:=(hl.push _).extBut sb1.extBut hne
 obtain⟨oi,hoi,_⟩:=id it1
 obtain⟨o1,ho1,_⟩:=id hl1
 have hfst:(((x::xs).toArray.toList.drop 0).take 1)= [x]:=rfl
 rw[hfst]
 rw[if_neg (show ¬ ([x].length<1) by simp)]
 refine wpAny_bind (wpAny_holding (PySem.W.kun_collect (s:={ s with heap:=h1 }) (T:= "list_iterator") (.inr (.inr (.inl rfl))) (Walks.list (A:=A.in1) hh s.heap.objs.size l hne (x::xs).toArray) (fun j u st=>st.1.typeIs) (k:=1) (by simp) ⟨it1,hl1⟩ (Heap.lt_size hoi) (Heap.lt_size ho1) (fun h2 tk hk=>?_) (by simpa using hz)))
 have hdr:(x::xs).toArray.toList.drop 1=xs:=rfl
 rw[hdr]
 show wpAny _ _ (if xs.length<2-1-1 then _ else _) _ _ _
 rw[if_neg (by omega)]
 have keep:∀ b o,s.heap.get? b=some o->h2.get? b=some o:=fun b o e=>by
  have hb:b≠s.heap.objs.size:=xu (Heap.lt_size e)
  exact hk b o hb (sb1.extBut b o hb (Heap.get?_push_of_some _ e))
 show wpAny _ _ (newList (xs.take (xs.length-(2-1-1))) >>= fun d=>pure ([x]++ [d]++xs.drop (xs.length-(2-1-1)))) _ _ _
 have h0:xs.length-(2-1-1)=xs.length:=by omega
 rw[h0,uF,List.drop_length]
 refine wpAny_bind (wpAny_newList (s:={ s with heap:=h2,toks:=tk }) (wpAny_pure ?_) (by simp at hz;omega))
 exact k h2 tk keep
end
section
variable {M:Model} {A:Around} {E:Value->Shared->Prop} {s:Shared}
theorem K3:fillsInplaceSlot (.type "list") "add" true=pure false:=by
 unfold fillsInplaceSlot
 show (typeLookup (.type "list") (dunderI "add") >>= fun z=>pure (z.isSome&& !isSeqSlot z))=pure false
 rw[PySem.F.slot_list_iadd.lookup]
 have z:isSeqSlot (some (.builtin "list.__iadd__"))=true:=by decide +kernel
 show (pure (true&& !isSeqSlot (some (.builtin "list.__iadd__"))):Sem Bool)=pure false
 rw[z];rfl
theorem zcx:seqSlot? (.type "list") (dunderI "add")=pure (some (.builtin "list.__iadd__")):=PySem.seqSlot_of PySem.F.slot_list_iadd.lookup (by decide +kernel)
theorem WZ {a b:Value}{Q:Value->Shared->Prop}(ha:s.TypeIs a "list") (hb:s.TypeIs b "list") (h:wpAny M A (call (.builtin "list.__iadd__") [a,b]) Q E s):wpAny M A (inplaceOp .Add a b) Q E s:=by
 unfold inplaceOp
 refine wpAny_holding (wpAny_bind (wpAny_typeOf ha (wpAny_bind (wpAny_of_eq K3 ?_))))
 show wpAny M A (if false=true then _ else _) Q E s
 rw[if_neg uy]
 refine wpAny_bind (wpAny_binaryOp1_none (nm:= "add") ha hb noFill_list_add (wpAny_bind (wpAny_of_eq zcx ?_)))
 exact wpAny_bind (wpAny_rule h)
end
section
variable {X:Cx}
theorem zd6:PIp X .Add (fun x y H Q=>∃ l b xs zs,x=.ref l/\y=.ref b/\H l=some (.lst xs)/\H b=some (.lst zs)/\xs.length+zs.length<=sizeLine/\Q (.ref l) (upd H l (.lst (xs++zs)))):=by
 intro pins s σ H x y v u Q I rx ry h
 obtain⟨l,b,xs,zs,rfl,rfl,hH,hB,hz,q⟩:=h
 cases rx
 cases ry
 obtain⟨z,its,n,r,hl,e⟩:=I.lstM hH
 obtain⟨z2,its2,n2,r2,hl2,e2⟩:=I.lstM hB
 refine WZ ⟨_,e,rfl⟩ ⟨_,e2,rfl⟩ ?_
 have hsz:its.toArray.size+its2.toArray.size<=sizeLine:=by rw[xq,xq];omega
 have hlong:¬ (!its.toArray.isEmpty&&Builtin.List.listTooLong (its.toArray.size+its2.toArray.size))=true:=by
  rw[zbx hsz,Bool.and_false];exact uy
 refine call_meets PySem.F.slot_list_iadd ⟨_,e,rfl⟩ PySem.F.entry_list_iadd (PySem.F.args_list_iadd_2 _ _) (AutoSeq1.list___iadd___list_list_0 l its.toArray n b its2.toArray n2 hlong (by rw[xq];omega) (by omega)) ⟨e,e2,?_⟩
 exact⟨.ref l,_,I.lset (its':=its++its2) hH e (by simp) (r.append r2) (by rw[xw];omega),rfl,q⟩
noncomputable def zgQ(K:PySem.W.Frag)(i j:Nat):TG:=fun v σ H Q=>∃ l y ys,v=.ref l/\SqL K H l (y::ys)/\∀ p,H p=none->Q ((σ.set i (some y)).set j (some (.ref p))) (upd H p (.lst ys))
theorem zer{i j:Nat}{x y:Str}{k:Nat}{px py ps pos:Pos}(hc:X.calm=true)(hN:X.N.Nodup)(hi:X.N[i]?=some x)(hx:Loc X.env.scope x)(hfx:X.fn x=true∨X.env.scope.names.lookup x=some .local)(hj:X.N[j]?=some y)(hy:Loc X.env.scope y)(hfy:X.fn y=true∨X.env.scope.names.lookup y=some .local) :
  PG X (.Tuple [.Name x px,.Starred (.Name y py) ps] k pos) (zgQ X.K i j):=by
 intro pins s σ H v u Q I r h
 obtain⟨l,z,zs,rfl,hq,q⟩:=h
 cases r
 obtain⟨its,rv,pl,hz⟩:=I.list hq
 cases rv with
 |cons r1 r2=>
  rename_i w ws
  rw[assign_Tuple]
  refine wpAny_bind (wpAny_standAt ?_)
  unfold unpack
  refine wpAny_bind (wpAny_holding (zcp (x:=w) (xs:=ws) pl.isList (I.ok.hd hc) (by have:=r2.length;simp at hz |-;omega) fun h2 tk keep=>?_))
  have I2:Inv X pins σ H { s with heap:=h2,toks:=tk }:=I.kept (t':=tk) keep
  have I3:=I2.lnew (t':=tk) r2 (by simp at hz;omega)
  refine assignInOrder_cons (wpAny_assign_Name (j8 I3 hN hi hx r1 (fun s4 I4=>?_) hfx))
  refine assignInOrder_cons (wpAny_assign_Name (j8 (v:=.ref h2.objs.size) I4 hN hj hy rfl (fun s5 I5=>?_) hfy))
  exact assignInOrder_nil ⟨_,_,I5,q _ I2.fresh⟩
end
end L2
namespace L3
open PySem PySem.Spec PyProof.Rows L2
inductive OV where
 |d (x:PyData)
 |l (xs:List OV)
noncomputable abbrev Gv:=List (Option OV)
mutual
noncomputable def OV.view:OV->PyData
 |.d x=>x
 |.l xs=>.list (OV.views xs)
noncomputable def OV.views:List OV->List PyData
 |[]=> []
 |x::xs=>x.view::OV.views xs
end
theorem OV.views_d(xs:List PyData):OV.views (xs.map .d)=xs:=by
 induction xs with
 |nil=>rfl
 |cons x xs ih=>simp[OV.views,OV.view,ih]
theorem OV.views_map(xs:List OV):OV.views xs=xs.map OV.view:=by
 induction xs with
 |nil=>rfl
 |cons x xs ih=>simp[OV.views,ih]
mutual
/-- v stands for the value;its own lists lie at A -/
inductive OR(M:Addr->Prop)(H:Hp):V->OV->List Addr->Prop
 |d {v:V} {x:PyData}:Rep M H v x->OR M H v (.d x) []
 |l {a:Addr} {vs:List V} {xs:List OV} {A:List Addr}:H a=some (.lst vs)->ORL M H vs xs A->OR M H (.ref a) (.l xs) (a::A)
inductive ORL(M:Addr->Prop)(H:Hp):List V->List OV->List Addr->Prop
 |nil:ORL M H [] [] []
 |cons {v:V} {vs:List V} {x:OV} {xs:List OV} {A B:List Addr}:OR M H v x A->ORL M H vs xs B->ORL M H (v::vs) (x::xs) (A++B)
end
noncomputable abbrev zC:Addr->Prop:=fun _=>False
mutual
theorem OR.go{M M':Addr->Prop}{H H':Hp}(hr:∀ v d,Rep M H v d->Rep M' H' v d):∀ {v:V}{o:OV}{A:List Addr},(∀ a∈A,H' a=H a)->OR M H v o A->OR M' H' v o A
 |_,_,_,_,.d r=>.d (hr _ _ r)
 |_,_,_,h,.l e r=>.l (by rw[h _ xz];exact e) (ORL.go hr (fun a ha=>h a (xi _ ha)) r)
theorem ORL.go{M M':Addr->Prop}{H H':Hp}(hr:∀ v d,Rep M H v d->Rep M' H' v d):∀ {v:List V}{o:List OV}{A:List Addr},(∀ a∈A,H' a=H a)->ORL M H v o A->ORL M' H' v o A
 |_,_,_,_,.nil=>.nil
 |_,_,_,h,.cons r t=>.cons (OR.go hr (fun a ha=>h a (xr _ ha)) r) (ORL.go hr (fun a ha=>h a (xA _ ha)) t)
end
mutual
/-- given up: it is data from now on -/
theorem OR.rep{M M':Addr->Prop}{H:Hp}(hm:∀ b,M' b->M b):∀ {v:V}{o:OV}{A:List Addr},(∀ a∈A,¬ M' a)->OR M H v o A->Rep M' H v o.view
 |_,_,_,_,.d r=>r.less fun b hb _=>hm b hb
 |_,_,_,h,.l e r=>.list e (h _ xz) (ORL.rep hm (fun a ha=>h a (xi _ ha)) r)
theorem ORL.rep{M M':Addr->Prop}{H:Hp}(hm:∀ b,M' b->M b):∀ {v:List V}{o:List OV}{A:List Addr},(∀ a∈A,¬ M' a)->ORL M H v o A->RepL M' H v (OV.views o)
 |_,_,_,_,.nil=>.nil
 |_,_,_,h,.cons r t=>.cons (OR.rep hm (fun a ha=>h a (xr _ ha)) r) (ORL.rep hm (fun a ha=>h a (xA _ ha)) t)
end
theorem OR.weak{M:Addr->Prop}{H:Hp}{v:V}{o:OV}{A:List Addr}(r:OR M H v o A):Rep zC H v o.view:=r.rep (fun _ h=>h.elim) fun _ _ h=>h
mutual
theorem OR.laid{M:Addr->Prop}{H:Hp}:∀ {v:V}{o:OV}{A:List Addr},OR M H v o A->∀ a∈A,∃ vs,H a=some (.lst vs)
 |_,_,_,.d _,a,h=>by cases h
 |_,_,_,.l e r,a,h=>by
  rcases xm.mp h with rfl | h
  ·exact⟨_,e⟩
  ·exact ORL.laid r a h
theorem ORL.laid{M:Addr->Prop}{H:Hp}:∀ {v:List V}{o:List OV}{A:List Addr},ORL M H v o A->∀ a∈A,∃ vs,H a=some (.lst vs)
 |_,_,_,.nil,a,h=>by cases h
 |_,_,_,.cons r t,a,h=>by
  rcases xH.mp h with h | h
  ·exact OR.laid r a h
  ·exact ORL.laid t a h
end
theorem ORL.length{M:Addr->Prop}{H:Hp}:∀ {vs:List V}{os:List OV}{A:List Addr},ORL M H vs os A->vs.length=os.length
 |_,_,_,.nil=>rfl
 |_,_,_,.cons _ t=>by rw[xl,xl,ORL.length t]
theorem ORL.data{M:Addr->Prop}{H:Hp}:∀ {vs:List V}{ds:List PyData},RepL M H vs ds->ORL M H vs (ds.map .d) []
 |_,_,.nil=>.nil
 |_,_,.cons r t=>.cons (A:= []) (.d r) (ORL.data t)
noncomputable abbrev Fp:=Nat->List Addr
noncomputable def jz(F:Fp)(i:Nat)(A:List Addr):Fp:=fun j=>if j=i then A else F j
theorem zF{F:Fp}{i:Nat}{A:List Addr}:jz F i A i=A:=by unfold jz;rw[if_pos rfl]
theorem zN{F:Fp}{i j:Nat}{A:List Addr}(h:j≠i):jz F i A j=F j:=by unfold jz;rw[if_neg h]
noncomputable def MM(M0:Addr->Prop)(F:Fp):Addr->Prop:=fun a=>M0 a∨∃ i,a∈F i
noncomputable abbrev Nu:=List (Option V)
structure RS(M0:Addr->Prop)(F:Fp)(Γ:Gv)(ν:Nu)(H:Hp):Prop where
 al0:∀ a,M0 a->H a≠none
 dis0:∀ i a,a∈F i->¬ M0 a
 nd:∀ i,(F i).Nodup
 dis:∀ i j a,a∈F i->a∈F j->i=j
 at':∀ i o,Γ[i]?=some (some o)->∃ v,ν[i]?=some (some v)/\OR (MM M0 F) H v o (F i)
 emp:∀ i,(∀ o,Γ[i]?≠some (some o))->F i= []
 len:ν.length=Γ.length
structure Stp(F:Fp)(H:Hp)(F':Fp)(H':Hp):Prop where
 keep:∀ b o,H b=some o->(∀ i,b∉F i)->H' b=some o/\∀ i,b∉F' i
 tups:∀ b xs,H b=some (.tup xs)->H' b=some (.tup xs)
 stay:∀ b,H b≠none->H' b≠none
theorem Stp.refl(F:Fp)(H:Hp):Stp F H F H:=⟨fun _ _ e n=>⟨e,n⟩,fun _ _ e=>e,fun _ h=>h⟩
theorem Stp.trans{F F1 F2:Fp}{H H1 H2:Hp}(a:Stp F H F1 H1)(b:Stp F1 H1 F2 H2):Stp F H F2 H2 :=
 ⟨fun c o e n=>let ⟨e1,n1⟩:=a.keep c o e n;b.keep c o e1 n1,fun c xs e=>b.tups c xs (a.tups c xs e),fun c h=>b.stay c (a.stay c h)⟩
theorem Stp.same{F:Fp}{H H':Hp}(s:Same H H'):Stp F H F H':=⟨fun b o e n=>⟨s b o e,n⟩,fun b xs e=>s b _ e,fun b h=>by
 cases q:H b with
 |none=>exact absurd q h
 |some o=>rw[s b o q];exact fun z=>nomatch z⟩
theorem Stp.free{F F':Fp}{H H':Hp}(s:Stp F H F' H'){a:Addr}(n:H' a=none):H a=none:=by
 cases q:H a with
 |none=>rfl
 |some o=>exact absurd n (s.stay a (by rw[q];exact fun z=>nomatch z))
section
variable {M0:Addr->Prop} {F F':Fp} {Γ Γ':Gv} {ν ν':Nu} {H H':Hp}
theorem RS.laidF(r:RS M0 F Γ ν H){i:Nat}{a:Addr}(h:a∈F i):∃ vs,H a=some (.lst vs):=by
 by_cases q:∃ o,Γ[i]?=some (some o)
 ·obtain⟨o,q⟩:=q
  obtain⟨v,_,z⟩:=r.at' i o q
  exact z.laid a h
 ·rw[r.emp i fun o e=>q ⟨o,e⟩]at h;cases h
theorem RS.al(r:RS M0 F Γ ν H):Al (MM M0 F) H:=fun a h=>by
 rcases h with h | ⟨i,h⟩
 ·exact r.al0 a h
 ·obtain⟨vs,e⟩:=r.laidF h
  rw[e];exact fun z=>nomatch z
mutual
/-- data goes through a step -/
theorem zJ(s:Stp F H F' H')(h0:∀ a,M0 a->H a≠none):∀ {v:V}{d:PyData},Rep (MM M0 F) H v d->Rep (MM M0 F') H' v d
 |_,_,.none=>.none
 |_,_,.bool b=>.bool b
 |_,_,.int i=>.int i
 |_,_,.str x=>.str x
 |_,_,.list (a:=a) e n q=>by
  have hn:∀ i,a∉F i:=fun i h=>n (.inr ⟨i,h⟩)
  obtain⟨e',n'⟩:=s.keep a _ e hn
  refine .list e' ?_ (qf s h0 q)
  rintro (h | ⟨i,h⟩)
  ·exact n (.inl h)
  ·exact n' i h
 |_,_,.tuple e q=>.tuple (s.tups _ _ e) (qf s h0 q)
theorem qf(s:Stp F H F' H')(h0:∀ a,M0 a->H a≠none):∀ {vs:List V}{ds:List PyData},RepL (MM M0 F) H vs ds->RepL (MM M0 F') H' vs ds
 |_,_,.nil=>.nil
 |_,_,.cons r t=>.cons (zJ s h0 r) (qf s h0 t)
end
theorem RS.same(r:RS M0 F Γ ν H)(s:Same H H'):RS M0 F Γ ν H' where
 al0 a h:=by
  have:=r.al0 a h
  cases q:H a with
  |none=>exact absurd q this
  |some o=>rw[s a o q];exact fun z=>nomatch z
 dis0:=r.dis0
 nd:=r.nd
 dis:=r.dis
 at' i o e:=by
  obtain⟨v,e1,q⟩:=r.at' i o e
  exact⟨v,e1,q.go (fun v d x=>x.grow s.grow) fun a ha=>by
   obtain⟨vs,z⟩:=q.laid a ha
   rw[z,s a _ z]⟩
 emp:=r.emp
 len:=r.len
theorem RS.put{i:Nat}{o:OV}{v:V}{A:List Addr}(r:RS M0 F Γ ν H)(s:Stp F H (jz F i A) H')(hF:∀ j,j≠i->∀ a∈F j,H' a=H a)
  (hm:∀ a,M0 a->H' a≠none) (hA0:∀ a∈A,¬ M0 a) (hAn:A.Nodup) (hAd:∀ j,j≠i->∀ a∈A,a∉F j) (hi:i<Γ.length)
  (q:OR (MM M0 (jz F i A)) H' v o A):RS M0 (jz F i A) (Γ.set i (some o)) (ν.set i (some v)) H' where
 al0:=hm
 dis0 j a h:=by
  by_cases hj:j=i
  ·subst hj;rw[zF]at h;exact hA0 a h
  ·rw[zN hj]at h;exact r.dis0 j a h
 nd j:=by
  by_cases hj:j=i
  ·subst hj;rw[zF];exact hAn
  ·rw[zN hj];exact r.nd j
 dis j k a h1 h2:=by
  by_cases hj:j=i
  ·by_cases hk:k=i
   ·rw[hj,hk]
   ·subst hj;rw[zF]at h1;rw[zN hk]at h2;exact absurd h2 (hAd k hk a h1)
  ·by_cases hk:k=i
   ·subst hk;rw[zF]at h2;rw[zN hj]at h1;exact absurd h1 (hAd j hj a h2)
   ·rw[zN hj]at h1;rw[zN hk]at h2;exact r.dis j k a h1 h2
 at' j p e:=by
  by_cases hj:j=i
  ·subst hj
   rw[xt hi]at e
   cases e
   refine⟨v,by rw[xt (by rw[r.len];exact hi)],?_⟩
   rw[zF];exact q
  ·rw[xv (Ne.symm hj)]at e |-
   obtain⟨u,e1,z⟩:=r.at' j p e
   refine⟨u,e1,?_⟩
   rw[zN hj]
   exact z.go (fun v d x=>zJ s r.al0 x) (hF j hj)
 emp j h:=by
  by_cases hj:j=i
  ·subst hj
   rw[xt hi]at h
   exact absurd rfl (h o)
  ·rw[zN hj]
   refine r.emp j fun p e=>h p ?_
   rw[xv (Ne.symm hj)];exact e
 len:=by rw[uk,uk];exact r.len
theorem RS.setD{i:Nat}{d:PyData}{v:V}(r:RS M0 F Γ ν H)(q:Rep (MM M0 F) H v d)(hi:i<Γ.length):∃ F',RS M0 F' (Γ.set i (some (.d d))) (ν.set i (some v)) H/\Stp F H F' H:=by
 have s:Stp F H (jz F i []) H:=⟨fun b o e n=>⟨e,fun j=>by
  by_cases hj:j=i
  ·subst hj;rw[zF];exact fun z=>nomatch z
  ·rw[zN hj];exact n j⟩,fun _ _ e=>e,fun _ h=>h⟩
 exact⟨_,r.put s (fun _ _ _ _=>rfl) r.al0 (fun _ h=>nomatch h) .nil (fun _ _ _ h=>nomatch h) hi (.d (zJ s r.al0 q)),s⟩
noncomputable def wx(F:Fp)(n:Nat):Fp:=fun j=>if j<n then F j else []
theorem Vf{n j:Nat}(h:j<n):wx F n j=F j:=by unfold wx;rw[if_pos h]
theorem kW{n j:Nat}(h:¬ j<n):wx F n j= []:=by unfold wx;rw[if_neg h]
theorem qY{n j:Nat}{a:Addr}(h:a∈wx F n j):j<n/\a∈F j:=by
 unfold wx at h
 split at h
 ·exact⟨by assumption,h⟩
 ·cases h
theorem Zs(h:∀ j a,a∈F' j->∃ k,a∈F k):Stp F H F' H:=⟨fun b o e n=>⟨e,fun j hj=>let ⟨k,hk⟩:=h j b hj;n k hk⟩,fun _ _ e=>e,fun _ h=>h⟩
theorem RS.cut(r:RS M0 F Γ ν H)(n:Nat):RS M0 (wx F n) (Γ.take n) (ν.take n) H/\Stp F H (wx F n) H:=by
 have s:Stp F H (wx F n) H:=Zs fun j a h=>⟨j,(qY h).2⟩
 refine⟨⟨r.al0,fun j a h=>r.dis0 j a (qY h).2,fun j=>?_,fun j k a h1 h2=>r.dis j k a (qY h1).2 (qY h2).2,fun j o e=>?_,fun j h=>?_,?_⟩,s⟩
 ·by_cases hj:j<n
  ·rw[Vf hj];exact r.nd j
  ·rw[kW hj];exact .nil
 ·have hj:j<n:=by
   by_cases hj:j<n
   ·exact hj
   ·rw[xj (by rw[xW];omega)]at e;cases e
  rw[xX hj]at e |-
  obtain⟨v,e1,q⟩:=r.at' j o e
  exact⟨v,e1,by rw[Vf hj];exact q.go (fun _ _ x=>zJ s r.al0 x) fun _ _=>rfl⟩
 ·by_cases hj:j<n
  ·rw[Vf hj]
   refine r.emp j fun o e=>h o ?_
   rw[xX hj];exact e
  ·exact kW hj
 ·rw[xW,xW,r.len]
theorem RS.ext(r:RS M0 F Γ ν H)(k:Nat):RS M0 F (Γ++List.replicate k none) (ν++List.replicate k none) H:=by
 have get:∀ {α:Type} (l:List (Option α)) (j:Nat) (o:α),(l++List.replicate k none)[j]?=some (some o)->l[j]?=some (some o):=fun {α} l j o e=>by
  by_cases hj:j<l.length
  ·rw[xf hj]at e;exact e
  ·rw[xh (by omega),xS]at e
   split at e<;>cases e
 have put:∀ {α:Type} (l:List (Option α)) (j:Nat) (o:α),l[j]?=some (some o)->(l++List.replicate k none)[j]?=some (some o):=fun {α} l j o e=>by
  rw[xf (xc.mp e).1];exact e
 exact⟨r.al0,r.dis0,r.nd,r.dis,fun j o e=>let ⟨v,e1,q⟩:=r.at' j o (get _ _ _ e);⟨v,put _ _ _ e1,q⟩,fun j h=>r.emp j fun o e=>h o (put _ _ _ e),by simp[r.len]⟩
theorem ya{α:Type}(l:List (Option α))(x:α):(l++List.replicate 1 none).set l.length (some x)=l++ [some x]:=by
 rw[List.set_append_right _ _ (xn _)];simp
theorem RS.newO{p:Addr}{vs:List V}{ds:List PyData}(r:RS M0 F Γ ν H)(n:H p=none)(q:RepL (MM M0 F) H vs ds) :
  RS M0 (jz F Γ.length [p]) (Γ++ [some (.l (ds.map .d))]) (ν++ [some (.ref p)]) (upd H p (.lst vs))/\Stp F H (jz F Γ.length [p]) (upd H p (.lst vs)):=by
 have hp:∀ i,p∉F i:=fun i h=>by
  obtain⟨vs,e⟩:=r.laidF h
  rw[n]at e;cases e
 have he:F Γ.length= []:=r.emp _ fun o e=>by
  rw[xj (xn _)]at e;cases e
 have s:Stp F H (jz F Γ.length [p]) (upd H p (.lst vs)):=⟨fun b o e nb=>⟨zM n b o e,fun j h=>by
  by_cases hj:j=Γ.length
  ·subst hj;rw[zF]at h
   have e':b=p:=by simpa using h
   subst e';rw[n]at e;cases e
  ·rw[zN hj]at h;exact nb j h⟩,fun b xs e=>zM n b _ e,fun b h=>by
   by_cases e:b=p
   ·subst e;exact absurd n h
   ·rw[zn e];exact h⟩
 have r1:=(r.ext 1).put (i:=Γ.length) (o:=.l (ds.map .d)) (v:=.ref p) (A:= [p]) (H':=upd H p (.lst vs)) s (fun j _ a ha=>zn (fun e=>hp j (by rw[<- e];exact ha)))
  (fun a h=>s.stay a (r.al0 a h)) (fun a ha h=>by
   have e:a=p:=by simpa using ha
   subst e;exact r.al0 a h n) (xB.mpr ⟨(fun z=>nomatch z),.nil⟩) (fun j _ a ha=>by
   have e:a=p:=by simpa using ha
   subst e;exact hp j) (by simp) (.l zx (ORL.data (qf s r.al0 q)))
 rw[ya]at r1
 have e2:(ν++List.replicate 1 none).set Γ.length (some (V.ref p))=ν++ [some (V.ref p)]:=by rw[<- r.len,ya]
 rw[e2]at r1
 exact⟨r1,s⟩
theorem RS.move{i:Nat}{o:OV}{v:V}(r:RS M0 F (Γ++ [some o]) (ν++ [some v]) H)(hi:i<Γ.length):∃ F',RS M0 F' (Γ.set i (some o)) (ν.set i (some v)) H/\Stp F H F' H:=by
 have hl:ν.length=Γ.length:=by have:=r.len;simp at this;exact this
 have hni:Γ.length≠i:=Nat.ne_of_gt hi
 let F':Fp:=fun j=>if j=i then F Γ.length else if j<Γ.length then F j else []
 have hFi:F' i=F Γ.length:=by show (if i=i then _ else _)=_;rw[if_pos rfl]
 have hFj:∀ j,j≠i->j<Γ.length->F' j=F j:=fun j h1 h2=>by show (if j=i then _ else _)=_;rw[if_neg h1,if_pos h2]
 have hFo:∀ j,j≠i->¬ j<Γ.length->F' j= []:=fun j h1 h2=>by show (if j=i then _ else _)=_;rw[if_neg h1,if_neg h2]
 have sub:∀ j a,a∈F' j->(j=i/\a∈F Γ.length)∨(j≠i/\j<Γ.length/\a∈F j):=fun j a h=>by
  by_cases h1:j=i
  ·subst h1;rw[hFi]at h;exact .inl ⟨rfl,h⟩
  ·by_cases h2:j<Γ.length
   ·rw[hFj j h1 h2]at h;exact .inr ⟨h1,h2,h⟩
   ·rw[hFo j h1 h2]at h;cases h
 have s:Stp F H F' H:=Zs fun j a h=>by
  rcases sub j a h with ⟨_,h⟩ | ⟨_,_,h⟩
  ·exact⟨_,h⟩
  ·exact⟨_,h⟩
 refine⟨F',⟨r.al0,fun j a h=>?_,fun j=>?_,fun j k a h1 h2=>?_,fun j p e=>?_,fun j h=>?_,by simp[hl]⟩,s⟩
 ·rcases sub j a h with ⟨_,h⟩ | ⟨_,_,h⟩
  ·exact r.dis0 _ a h
  ·exact r.dis0 _ a h
 ·by_cases h1:j=i
  ·subst h1;rw[hFi];exact r.nd _
  ·by_cases h2:j<Γ.length
   ·rw[hFj j h1 h2];exact r.nd _
   ·rw[hFo j h1 h2];exact .nil
 ·rcases sub j a h1 with ⟨e1,z1⟩ | ⟨n1,l1,z1⟩
  ·rcases sub k a h2 with ⟨e2,z2⟩ | ⟨n2,l2,z2⟩
   ·rw[e1,e2]
   ·have:=r.dis _ _ a z1 z2;omega
  ·rcases sub k a h2 with ⟨e2,z2⟩ | ⟨n2,l2,z2⟩
   ·have:=r.dis _ _ a z1 z2;omega
   ·exact r.dis _ _ a z1 z2
 ·by_cases hj:j=i
  ·subst hj
   rw[xt hi]at e
   cases e
   obtain⟨u,e1,q⟩:=r.at' Γ.length o (by rw[xh (xn _)];simp)
   rw[xh (by omega),hl]at e1
   simp at e1
   subst e1
   refine⟨v,by rw[xt (by omega)],?_⟩
   rw[hFi];exact q.go (fun _ _ x=>zJ s r.al0 x) fun _ _=>rfl
  ·rw[xv (Ne.symm hj)]at e |-
   have hjl:j<Γ.length:=(xc.mp e).1
   obtain⟨u,e1,q⟩:=r.at' j p (by rw[xf hjl];exact e)
   rw[xf (by omega)]at e1
   exact⟨u,e1,by rw[hFj j hj hjl];exact q.go (fun _ _ x=>zJ s r.al0 x) fun _ _=>rfl⟩
 ·by_cases hj:j=i
  ·subst hj;rw[xt hi]at h;exact absurd rfl (h o)
  ·by_cases h2:j<Γ.length
   ·rw[hFj j hj h2]
    refine r.emp j fun p e=>h p ?_
    rw[xf h2]at e
    rw[xv (Ne.symm hj)];exact e
   ·exact hFo j hj h2
theorem RS.dropD{o:OV}{v:V}(r:RS M0 F (Γ++ [some o]) (ν++ [some v]) H):∃ F',RS M0 F' Γ ν H/\Stp F H F' H/\Rep (MM M0 F') H v o.view:=by
 have hl:ν.length=Γ.length:=by have:=r.len;simp at this;exact this
 obtain⟨r1,s⟩:=r.cut Γ.length
 have e1:(Γ++ [some o]).take Γ.length=Γ:=by simp
 have e2:(ν++ [some v]).take Γ.length=ν:=by rw[<- hl];simp
 rw[e1,e2]at r1
 refine⟨_,r1,s,?_⟩
 obtain⟨u,e,q⟩:=r.at' Γ.length o (by rw[xh (xn _)];simp)
 rw[xh (by omega),hl]at e
 simp at e
 subst e
 refine q.rep (fun b hb=>?_) (fun a ha hb=>?_)
 ·rcases hb with hb | ⟨j,hb⟩
  ·exact .inl hb
  ·exact .inr ⟨j,(qY hb).2⟩
 ·rcases hb with hb | ⟨j,hb⟩
  ·exact r.dis0 _ a ha hb
  ·have:=r.dis _ _ a ha (qY hb).2
   have:=(qY hb).1
   omega
theorem RS.frz{i:Nat}{o:OV}(r:RS M0 F Γ ν H)(e:Γ[i]?=some (some o)):∃ F' v,ν[i]?=some (some v)/\RS M0 F' (Γ.set i (some (.d o.view))) ν H/\Stp F H F' H/\Rep (MM M0 F') H v o.view:=by
 obtain⟨v,ev,q⟩:=r.at' i o e
 have hi:=(xc.mp e).1
 have s:Stp F H (jz F i []) H:=Zs fun j a h=>by
  by_cases hj:j=i
  ·subst hj;rw[zF]at h;cases h
  ·rw[zN hj]at h;exact⟨j,h⟩
 have hq:Rep (MM M0 (jz F i [])) H v o.view:=q.rep (fun b hb=>by
  rcases hb with hb | ⟨j,hb⟩
  ·exact .inl hb
  ·by_cases hj:j=i
   ·subst hj;rw[zF]at hb;cases hb
   ·rw[zN hj]at hb;exact .inr ⟨j,hb⟩) (fun a ha hb=>by
  rcases hb with hb | ⟨j,hb⟩
  ·exact r.dis0 _ a ha hb
  ·by_cases hj:j=i
   ·subst hj;rw[zF]at hb;cases hb
   ·rw[zN hj]at hb;exact hj (r.dis _ _ a hb ha))
 have r1:=r.put (i:=i) (A:= []) s (fun _ _ _ _=>rfl) r.al0 (fun _ h=>nomatch h) .nil (fun _ _ _ h=>nomatch h) hi (.d hq)
 have e2:ν.set i (some v)=ν:=by
  apply xU
  intro j
  by_cases hj:i=j
  ·subst hj;rw[xt (xc.mp ev).1,ev]
  ·rw[xv hj]
 rw[e2]at r1
 exact⟨_,v,ev,r1,s,hq⟩
theorem RS.mut{i:Nat}{xs xs':List OV}{a:Addr}{vs:List V}(r:RS M0 F Γ ν H)(e:Γ[i]?=some (some (.l xs)))(ev:ν[i]?=some (some (.ref a)))
  (h:∀ us A,H a=some (.lst us)->ORL (MM M0 F) H us xs A->F i=a::A->∃ A',(∀ b∈A',b∈A)/\A'.Nodup/\ORL (MM M0 F) H vs xs' A') :
  ∃ F',RS M0 F' (Γ.set i (some (.l xs'))) ν (upd H a (.lst vs))/\Stp F H F' (upd H a (.lst vs)):=by
 obtain⟨v,ev',q⟩:=r.at' i _ e
 rw[ev]at ev';cases ev'
 have hi:=(xc.mp e).1
 generalize hA:F i=Ai at q
 cases q with
 |l ea qa=>
  rename_i us A
  obtain⟨A',sub,nd',q'⟩:=h us A ea qa hA
  have nd:=r.nd i
  rw[hA]at nd
  have hnA:a∉A:=(xB.mp nd).1
  have inF:∀ b,b∈(a::A')->b∈F i:=fun b hb=>by
   rw[hA]
   rcases xm.mp hb with z | z
   ·rw[z];exact xz
   ·exact xi _ (sub b z)
  have s:Stp F H (jz F i (a::A')) (upd H a (.lst vs)):=⟨fun b o eb nb=>⟨by rw[zn (fun z=>nb i (by rw[hA,z];exact xz))];exact eb,fun j hj=>by
   by_cases z:j=i
   ·subst z;rw[zF]at hj;exact nb j (inF b hj)
   ·rw[zN z]at hj;exact nb j hj⟩,fun b xs eb=>by rw[zn (zhC eb ea (by intro z;cases z))];exact eb,fun b hb=>by
   by_cases z:b=a
   ·subst z;rw[zx];exact fun w=>nomatch w
   ·rw[zn z];exact hb⟩
  have r1:=r.put (i:=i) (o:=.l xs') (v:=.ref a) (A:=a::A') s (fun j hj b hb=>by
    rw[zn]
    intro z
    subst z
    exact hj (r.dis j i b hb (by rw[hA];exact xz))) (fun b hb=>s.stay b (r.al0 b hb)) (fun b hb=>r.dis0 i b (inF b hb)) (xB.mpr ⟨fun z=>hnA (sub a z),nd'⟩)
   (fun j hj b hb hbj=>hj (r.dis j i b hbj (inF b hb))) hi (.l zx (q'.go (fun _ _ x=>zJ s r.al0 x) fun b hb=>by
    rw[zn];intro z;subst z;exact hnA (sub b hb)))
  have e2:ν.set i (some (V.ref a))=ν:=by
   apply xU
   intro j
   by_cases hj:i=j
   ·subst hj;rw[xt (xc.mp ev).1,ev]
   ·rw[xv hj]
  rw[e2]at r1
  exact⟨_,r1,s⟩
end
theorem ORL.snoc{M:Addr->Prop}{H:Hp}{v:V}{d:PyData}(q:Rep M H v d):∀ {vs:List V}{os:List OV}{A:List Addr},ORL M H vs os A->ORL M H (vs++ [v]) (os++ [.d d]) A
 |_,_,_,.nil=>.cons (A:= []) (.d q) .nil
 |_,_,_,.cons r t=>.cons r (ORL.snoc q t)
theorem ORL.setD{M:Addr->Prop}{H:Hp}{v:V}{d:PyData}(q:Rep M H v d):∀ {vs:List V}{os:List OV}{A:List Addr}{j:Nat}{x:PyData},ORL M H vs os A->os[j]?=some (.d x)->ORL M H (vs.set j v) (os.set j (.d d)) A
 |_,_,_,_,_,.nil,e=>by simp at e
 |_,_,_,0,x,.cons r t,e=>by
  simp at e
  subst e
  cases r
  exact .cons (A:= []) (.d q) t
 |_,_,_,j+1,x,.cons r t,e=>.cons r (ORL.setD (j:=j) q t (by simpa using e))
theorem ORL.get{M:Addr->Prop}{H:Hp}:∀ {vs:List V}{os:List OV}{A:List Addr}{j:Nat}{x:PyData},ORL M H vs os A->os[j]?=some (.d x)->∃ v,vs[j]?=some v/\Rep M H v x
 |_,_,_,_,_,.nil,e=>by simp at e
 |_,_,_,0,x,.cons r t,e=>by
  simp at e
  subst e
  cases r with
  |d r=>exact⟨_,rfl,r⟩
 |_,_,_,j+1,x,.cons r t,e=>by
  obtain⟨v,e1,q⟩:=ORL.get (j:=j) t (by simpa using e)
  exact⟨v,by simpa using e1,q⟩
end L3
namespace L3
open PySem PySem.Spec PyProof.Rows L2
noncomputable abbrev St:=L2.St
structure Exc where
 cls:Str
 pay:PyData
inductive R(α:Type) where
 |ok (a:α)
 |exc (x:Exc) (Γ:Gv)
 |bad
noncomputable def R.bind{α β:Type}(r:R α)(f:α->R β):R β:=match r with
 |.ok a=>f a
 |.exc x Γ=>.exc x Γ
 |.bad=>.bad
noncomputable abbrev EM(α:Type):=Gv->R (α×Gv)
inductive FV where
 |dat (x:PyData)
 |own (i:Nat)
noncomputable def derf(Γ:Gv):FV->Option PyData
 |.dat x=>some x
 |.own i=>match Γ[i]? with
  |some (some o)=>some o.view
  |_=>none
noncomputable def derS(Γ:Gv):FV->Option PyData
 |.dat x=>some x
 |.own i=>match Γ[i]? with
  |some (some (.d x))=>some x
  |_=>none
noncomputable def leaves:List OV->Option (List PyData)
 |[]=>some []
 |.d x::r=>(leaves r).map (x::·)
 |.l _::_=>none
theorem zbC(xs:List PyData):leaves (xs.map .d)=some xs:=by
 induction xs with
 |nil=>rfl
 |cons x r ih=>simp[leaves,ih]
noncomputable def derL(Γ:Gv):FV->Option (List PyData)
 |.dat (.list xs)=>some xs
 |.own i=>match Γ[i]? with
  |some (some (.l xs))=>leaves xs
  |some (some (.d (.list xs)))=>some xs
  |_=>none
 |_=>none
noncomputable abbrev XPT:=Exc->Gv->Fp->Nu->St->Hp->Prop
noncomputable def Sees(mp:List Nat)(ν:Nu)(σ:St):Prop:=∀ (s i:Nat) (v:V),mp[s]?=some i->ν[i]?=some (some v)->σ[s]?=some (some v)
noncomputable def EPost{α:Type}(M0:Addr->Prop)(F:Fp)(ν:Nu)(σ:St)(H:Hp)(XP:XPT)(P:Fp->Gv->Hp->α->Prop)(r:R (α×Gv)):Prop:=match r with
 |.ok (a,Γ')=>∀ F' H',RS M0 F' Γ' ν H'->Stp F H F' H'->P F' Γ' H' a
 |.exc x Γ'=>∀ F' H',RS M0 F' Γ' ν H'->Stp F H F' H'->XP x Γ' F' ν σ H'
 |.bad=>False
section
variable {α β:Type} {M0:Addr->Prop} {F:Fp} {Γ:Gv} {ν:Nu} {σ:St} {H:Hp} {XP:XPT}
theorem EPost.mono{P P':Fp->Gv->Hp->α->Prop}{r:R (α×Gv)}(h:EPost M0 F ν σ H XP P r)(k:∀ F' Γ' H' a,RS M0 F' Γ' ν H'->Stp F H F' H'->P F' Γ' H' a->P' F' Γ' H' a):EPost M0 F ν σ H XP P' r:=by
 cases r with
 |ok a=>exact fun F' H' rs s=>k F' _ H' _ rs s (h F' H' rs s)
 |exc x Γ'=>exact h
 |bad=>exact h
theorem EPost.seq{P:Fp->Gv->Hp->β->Prop}{r:R (α×Gv)}{k:α×Gv->R (β×Gv)}(h:EPost M0 F ν σ H XP P (r.bind k)) :
  EPost M0 F ν σ H XP (fun F1 Γ1 H1 a=>EPost M0 F1 ν σ H1 XP P (k (a,Γ1))) r:=by
 cases r with
 |ok a=>
  obtain⟨a,Γ1⟩:=a
  intro F1 H1 rs1 s1
  have h':EPost M0 F ν σ H XP P (k (a,Γ1)):=h
  revert h'
  generalize k (a,Γ1)=r2
  intro h'
  cases r2 with
  |ok b=>exact fun F' H' rs s=>h' F' H' rs (s1.trans s)
  |exc x Γ'=>exact fun F' H' rs s=>h' F' H' rs (s1.trans s)
  |bad=>exact h'
 |exc x Γ'=>exact h
 |bad=>exact h
theorem EPost.step{P:Fp->Gv->Hp->α->Prop}{r:R (α×Gv)}{F1:Fp}{H1:Hp}(h:EPost M0 F ν σ H XP P r)(s1:Stp F H F1 H1):EPost M0 F1 ν σ H1 XP P r:=by
 cases r with
 |ok b=>exact fun F' H' rs s=>h F' H' rs (s1.trans s)
 |exc x Γ'=>exact fun F' H' rs s=>h F' H' rs (s1.trans s)
 |bad=>exact h
end
noncomputable def FOk(M0:Addr->Prop)(F:Fp)(ν:Nu)(H:Hp)(v:V):FV->Prop
 |.dat x=>Rep (MM M0 F) H v x
 |.own i=>ν[i]?=some (some v)
section
variable {M0:Addr->Prop} {F F':Fp} {Γ:Gv} {ν:Nu} {H H':Hp} {v:V} {u:FV} {x:PyData}
theorem FOk.stp(h:FOk M0 F ν H v u)(s:Stp F H F' H')(h0:∀ a,M0 a->H a≠none):FOk M0 F' ν H' v u:=by
 cases u with
 |dat x=>exact zJ s h0 h
 |own i=>exact h
theorem FOk.weak(h:FOk M0 F ν H v u)(rs:RS M0 F Γ ν H)(e:derf Γ u=some x):Rep zC H v x:=by
 cases u with
 |dat y=>cases e;exact Rep.less (fun _ z _=>z.elim) h
 |own i=>
  dsimp only [derf]at e
  split at e
  ·rename_i o q
   cases e
   obtain⟨w,e1,r⟩:=rs.at' i o q
   have h':ν[i]?=some (some v):=h
   rw[h']at e1;cases e1
   exact r.weak
  ·cases e
theorem FOk.strong(h:FOk M0 F ν H v u)(rs:RS M0 F Γ ν H)(e:derS Γ u=some x):Rep (MM M0 F) H v x:=by
 cases u with
 |dat y=>cases e;exact h
 |own i=>
  dsimp only [derS]at e
  split at e
  ·rename_i y q
   cases e
   obtain⟨w,e1,r⟩:=rs.at' i _ q
   have h':ν[i]?=some (some v):=h
   rw[h']at e1;cases e1
   generalize F i=A at r
   cases r with
   |d r=>exact r
  ·cases e
theorem ORL.leaf{M:Addr->Prop}:∀ {vs:List V}{os:List OV}{A:List Addr}{ds:List PyData},ORL M H vs os A->leaves os=some ds->RepL M H vs ds/\A= []
 |_,_,_,_,.nil,e=>by cases e;exact⟨.nil,rfl⟩
 |_,_,_,_,.cons (x:=.d x) r t,e=>by
  unfold leaves at e
  rename_i vs xs A B
  cases q:leaves xs with
  |none=>rw[q]at e;cases e
  |some ys=>
   rw[q]at e;cases e
   obtain⟨h1,h2⟩:=ORL.leaf t q
   cases r with
   |d r=>exact⟨.cons r h1,by rw[h2];rfl⟩
 |_,_,_,_,.cons (x:=.l x) r t,e=>by cases e
theorem FOk.list{ds:List PyData}(h:FOk M0 F ν H v u)(rs:RS M0 F Γ ν H)(e:derL Γ u=some ds):∃ a vs,v=.ref a/\H a=some (.lst vs)/\RepL (MM M0 F) H vs ds:=by
 unfold derL at e
 split at e
 ·cases e
  obtain⟨a,vs,rfl,e1,_,r⟩:=Rep.lst_inv h
  exact⟨a,vs,rfl,e1,r⟩
 ·rename_i i
  have h':ν[i]?=some (some v):=h
  split at e
  ·rename_i q
   obtain⟨w,e1,r⟩:=rs.at' i _ q
   rw[h']at e1;cases e1
   generalize F i=A at r
   cases r with
   |l ea qa=>exact⟨_,_,rfl,ea,(ORL.leaf qa e).1⟩
  ·rename_i q
   cases e
   obtain⟨w,e1,r⟩:=rs.at' i _ q
   rw[h']at e1;cases e1
   generalize F i=A at r
   cases r with
   |d r=>
    obtain⟨a,vs,rfl,e1,_,r⟩:=Rep.lst_inv r
    exact⟨a,vs,rfl,e1,r⟩
  ·cases e
 ·cases e
end
noncomputable def SE(X:Cx)(XP:XPT)(mp:List Nat)(e:Expr)(f:EM FV):Prop:=∀ (M0:Addr->Prop) (F:Fp) (Γ:Gv) (ν:Nu) (σ:St) (H:Hp) (Q:VK),RS M0 F Γ ν H->Sees mp ν σ ->
 EPost M0 F ν σ H XP (fun F' Γ' H' u=>∀ v,FOk M0 F' ν H' v u->Q v H') (f Γ)->wpE X e σ H Q
noncomputable def SN(X:Cx)(XP:XPT)(mp:List Nat)(e:Expr)(f:EM (List PyData)):Prop:=∀ (M0:Addr->Prop) (F:Fp) (Γ:Gv) (ν:Nu) (σ:St) (H:Hp) (Q:VK),RS M0 F Γ ν H->Sees mp ν σ ->
 EPost M0 F ν σ H XP (fun F' Γ' H' ds=>∀ vs p,RepL (MM M0 F') H' vs ds->H' p=none->Q (.ref p) (upd H' p (.lst vs))) (f Γ)->wpE X e σ H Q
noncomputable def ST(X:Cx)(XP:XPT)(mp:List Nat)(e:Expr)(f:EM Bool):Prop:=∀ (M0:Addr->Prop) (F:Fp) (Γ:Gv) (ν:Nu) (σ:St) (H:Hp) (Q:Bool->Hp->Prop),RS M0 F Γ ν H->Sees mp ν σ ->
 EPost M0 F ν σ H XP (fun F' Γ' H' b=>Q b H') (f Γ)->wpT X e σ H Q
noncomputable def SW(X:Cx)(XP:XPT)(mp:List Nat)(e:Expr)(f:EM Bool):Prop:=∀ (M0:Addr->Prop) (F:Fp) (Γ:Gv) (ν:Nu) (σ:St) (H:Hp) (Q:Bool->Hp->Prop),RS M0 F Γ ν H->Sees mp ν σ ->
 EPost M0 F ν σ H XP (fun F' Γ' H' b=>Q b H') (f Γ)->wpW X e σ H Q
section
variable {X:Cx} {XP:XPT} {mp:List Nat} {a b c e:Expr} {es:List Expr} {pos p p2:Pos} {fa fb fc:EM FV} {ta tb:EM Bool} {na nb:EM (List PyData)}
section
variable {β:Type} {M0:Addr->Prop} {F:Fp} {Γ:Gv} {ν:Nu} {σ:St} {H:Hp} {P:Fp->Gv->Hp->β->Prop}
theorem SE.run{Q:VK}{k:FV×Gv->R (β×Gv)}(ha:SE X XP mp a fa)(rs:RS M0 F Γ ν H)(hs:Sees mp ν σ)(h:EPost M0 F ν σ H XP P ((fa Γ).bind k))
  (kk:∀ F1 Γ1 H1 u v,RS M0 F1 Γ1 ν H1->Stp F H F1 H1->FOk M0 F1 ν H1 v u->EPost M0 F1 ν σ H1 XP P (k (u,Γ1))->Q v H1):wpE X a σ H Q :=
 ha M0 F Γ ν σ H Q rs hs (h.seq.mono fun F1 Γ1 H1 u rs1 s1 h1 v hv=>kk F1 Γ1 H1 u v rs1 s1 hv h1)
theorem SN.run{Q:VK}{k:List PyData×Gv->R (β×Gv)}(ha:SN X XP mp a na)(rs:RS M0 F Γ ν H)(hs:Sees mp ν σ)(h:EPost M0 F ν σ H XP P ((na Γ).bind k))
  (kk:∀ F1 Γ1 H1 ds vs p,RS M0 F1 Γ1 ν H1->Stp F H F1 H1->RepL (MM M0 F1) H1 vs ds->H1 p=none->EPost M0 F1 ν σ H1 XP P (k (ds,Γ1))->Q (.ref p) (upd H1 p (.lst vs))):wpE X a σ H Q :=
 ha M0 F Γ ν σ H Q rs hs (h.seq.mono fun F1 Γ1 H1 u rs1 s1 h1 vs p r n=>kk F1 Γ1 H1 u vs p rs1 s1 r n h1)
theorem ST.run{Q:Bool->Hp->Prop}{k:Bool×Gv->R (β×Gv)}(ha:ST X XP mp a ta)(rs:RS M0 F Γ ν H)(hs:Sees mp ν σ)(h:EPost M0 F ν σ H XP P ((ta Γ).bind k))
  (kk:∀ F1 Γ1 H1 u,RS M0 F1 Γ1 ν H1->Stp F H F1 H1->EPost M0 F1 ν σ H1 XP P (k (u,Γ1))->Q u H1):wpT X a σ H Q :=
 ha M0 F Γ ν σ H Q rs hs (h.seq.mono fun F1 Γ1 H1 u rs1 s1 h1=>kk F1 Γ1 H1 u rs1 s1 h1)
end
noncomputable def fNew(n:EM (List PyData)):EM FV:=fun Γ=>(n Γ).bind fun (ds,Γ1)=>.ok (.dat (.list ds),Γ1)
theorem SN.se(h:SN X XP mp a na):SE X XP mp a (fNew na):=fun M0 F Γ ν σ H Q rs hs hp=>
 h.run rs hs hp fun F1 Γ1 H1 ds vs p rs1 s1 r n h1=>by
  have s2:Same H1 (upd H1 p (.lst vs)):=zM n
  exact h1 F1 _ (rs1.same s2) (.same s2) _ (Rep.list zx (fun z=>rs1.al p z n) (r.grow s2.grow))
noncomputable def fVar(i:Nat):EM FV:=fun Γ=>match Γ[i]? with
 |some (some (.d x))=>.ok (.dat x,Γ)
 |some (some (.l _))=>.ok (.own i,Γ)
 |_=>.bad
theorem zgK {s i:Nat}{x:Str}(hN:X.N[s]?=some x) (hv:Vis X.env.scope x) (hm:mp[s]?=some i) (hd:(x==("__debug__" :Str))=false) (hcd:(x==("__classdict__" :Str))=false) :
  SE X XP mp (.Name x pos) (fVar i):=fun M0 F Γ ν σ H Q rs hs hp=>by
 unfold fVar at hp
 split at hp
 ·rename_i y q
  obtain⟨v,e1,r⟩:=rs.at' i _ q
  generalize hA:F i=A at r
  cases r with
  |d r=>exact (jT hN hv hd hcd).wp ⟨v,hs s i v hm e1,hp F H rs (.refl F H) v r⟩
 ·rename_i y q
  obtain⟨v,e1,r⟩:=rs.at' i _ q
  exact (jT hN hv hd hcd).wp ⟨v,hs s i v hm e1,hp F H rs (.refl F H) v e1⟩
 ·exact hp.elim
noncomputable def fFrz(i:Nat):EM FV:=fun Γ=>match Γ[i]? with
 |some (some o)=>.ok (.dat o.view,Γ.set i (some (.d o.view)))
 |_=>.bad
theorem zf0 {s i:Nat}{x:Str}(hN:X.N[s]?=some x) (hv:Vis X.env.scope x) (hm:mp[s]?=some i) (hd:(x==("__debug__" :Str))=false) (hcd:(x==("__classdict__" :Str))=false) :
  SE X XP mp (.Name x pos) (fFrz i):=fun M0 F Γ ν σ H Q rs hs hp=>by
 unfold fFrz at hp
 split at hp
 ·rename_i o q
  obtain⟨F',v,e1,rs1,s1,r⟩:=rs.frz q
  exact (jT hN hv hd hcd).wp ⟨v,hs s i v hm e1,hp F' H rs1 s1 v r⟩
 ·exact hp.elim
noncomputable def fC(x:PyData):EM FV:=fun Γ=>.ok (.dat x,Γ)
theorem zfH{i j}:SE X XP mp (.Constant (.int i) j pos) (fC (.int i)):=fun M0 F Γ ν σ H Q rs hs hp=>pe_int.wp (hp F H rs (.refl F H) _ (Rep.int i))
theorem zdl{x j}:SE X XP mp (.Constant (.bool x) j pos) (fC (.bool x)):=fun M0 F Γ ν σ H Q rs hs hp=>pe_bl.wp (hp F H rs (.refl F H) _ (Rep.bool x))
theorem zdo{j}:SE X XP mp (.Constant .none j pos) (fC .none):=fun M0 F Γ ν σ H Q rs hs hp=>pe_non.wp (hp F H rs (.refl F H) _ Rep.none)
theorem zfy{x j}:SE X XP mp (.Constant (.str x) j pos) (fC (.str x)):=fun M0 F Γ ν σ H Q rs hs hp=>pe_str.wp (hp F H rs (.refl F H) _ (Rep.str x))
noncomputable def OpS(X:Cx)(f:Value->Value->Sem Value)(g:PyData->PyData->Option PyData):Prop:=∀ x y z,g x y=some z->∃ r:R2,OpR X f r/\∀ (M:Addr->Prop) (H:Hp) (v u:V) (Q:VK),
 Al M H->Rep M H v x->Rep M H u y->(∀ w H',Same H H'->Rep M H' w z->Q w H')->r v u H Q
noncomputable def fBin(g:PyData->PyData->Option PyData)(fa fb:EM FV):EM FV:=fun Γ=>(fa Γ).bind fun (u,Γ1)=>(fb Γ1).bind fun (w,Γ2)=>match derS Γ2 u,derS Γ2 w with
 |some x,some y=>match g x y with
  |some z=>.ok (.dat z,Γ2)
  |none=>.bad
 |_,_=>.bad
theorem zgD{op:Operator}{g:PyData->PyData->Option PyData}(ho:OpS X (binaryOp op) g)(ha:SE X XP mp a fa)(hb:SE X XP mp b fb):SE X XP mp (.BinOp a op b pos) (fBin g fa fb):=fun M0 F Γ ν σ H Q rs hs hp=>by
 have key:∀ x y z,g x y=some z->∃ r:R2,OpR X (binaryOp op) r/\∀ (M:Addr->Prop) (H:Hp) (v u:V) (Q:VK),Al M H->Rep M H v x->Rep M H u y->(∀ w H',Same H H'->Rep M H' w z->Q w H')->r v u H Q:=ho
 refine (WI (r:=fun v u H Q=>∃ M x y z,g x y=some z/\Al M H/\Rep M H v x/\Rep M H u y/\∀ w H',Same H H'->Rep M H' w z->Q w H') ?_ zg zg).wp
  (ha.run rs hs hp fun F1 Γ1 H1 u v rs1 s1 o1 h1=>hb.run rs1 hs h1 fun F2 Γ2 H2 w v2 rs2 s2 o2 h2=>?_)
 ·rintro pins s σ H x y v u Q I rx ry ⟨M,dx,dy,dz,e,al,r1,r2,k⟩
  obtain⟨r,hr,hh⟩:=ho dx dy dz e
  exact hr pins s σ H x y v u Q I rx ry (hh M H x y Q al r1 r2 k)
 ·dsimp only at h2
  split at h2
  ·rename_i x y e1 e2
   split at h2
   ·rename_i z e3
    exact⟨MM M0 F2,x,y,z,e3,rs2.al,(o1.stp s2 rs1.al0).strong rs2 e1,o2.strong rs2 e2,fun w' H3 s3 r3=>h2 F2 H3 (rs2.same s3) (.same s3) w' r3⟩
   ·exact h2.elim
  ·exact h2.elim
noncomputable def VD(X:Cx)(op:CmpOp)(g:PyData->PyData->Option Bool):Prop:=∀ x y z,g x y=some z->∃ r:R2,OpR X (compareOp op) r/\∀ (H:Hp) (v u:V) (Q:VK),
 Rep zC H v x->Rep zC H u y->Q (.bl z) H->r v u H Q
noncomputable def fCmp(g:PyData->PyData->Option Bool)(fa fb:EM FV):EM Bool:=fun Γ=>(fa Γ).bind fun (u,Γ1)=>(fb Γ1).bind fun (w,Γ2)=>match derf Γ2 u,derf Γ2 w with
 |some x,some y=>match g x y with
  |some z=>.ok (z,Γ2)
  |none=>.bad
 |_,_=>.bad
noncomputable def fB(t:EM Bool):EM FV:=fun Γ=>(t Γ).bind fun (b,Γ1)=>.ok (.dat (.bool b),Γ1)
theorem Zu{op:CmpOp}{g:PyData->PyData->Option Bool}(ho:VD X op g):OpR X (compareOp op) (fun v u H Q=>∃ x y z,g x y=some z/\Rep zC H v x/\Rep zC H u y/\Q (.bl z) H):=by
 rintro pins s σ H x y v u Q I rx ry ⟨dx,dy,dz,e,r1,r2,k⟩
 obtain⟨r,hr,hh⟩:=ho dx dy dz e
 exact hr pins s σ H x y v u Q I rx ry (hh H x y Q r1 r2 k)
section
variable {M0:Addr->Prop} {F:Fp} {Γ:Gv} {ν:Nu} {σ:St} {H:Hp} {β:Type} {P:Fp->Gv->Hp->β->Prop}
theorem kv{g:PyData->PyData->Option Bool}{k:Bool×Gv->R (β×Gv)}{Q:VK}(ha:SE X XP mp a fa)(hb:SE X XP mp b fb)(rs:RS M0 F Γ ν H)(hs:Sees mp ν σ)(hp:EPost M0 F ν σ H XP P ((fCmp g fa fb Γ).bind k))
  (kk:∀ F2 Γ2 H2 z,RS M0 F2 Γ2 ν H2->Stp F H F2 H2->EPost M0 F2 ν σ H2 XP P (k (z,Γ2))->Q (.bl z) H2) :
  wpE X a σ H fun v H1=>wpE X b σ H1 fun u H2=>∃ x y z,g x y=some z/\Rep zC H2 v x/\Rep zC H2 u y/\Q (.bl z) H2:=by
 have hp':EPost M0 F ν σ H XP P ((fa Γ).bind fun (u,Γ1)=>(fb Γ1).bind fun (w,Γ2)=>(match derf Γ2 u,derf Γ2 w with
  |some x,some y=>match g x y with
   |some z=>R.ok (z,Γ2)
   |none=>.bad
  |_,_=>.bad).bind k):=by
  have e:((fCmp g fa fb Γ).bind k)=((fa Γ).bind fun (u,Γ1)=>(fb Γ1).bind fun (w,Γ2)=>(match derf Γ2 u,derf Γ2 w with
   |some x,some y=>match g x y with
    |some z=>R.ok (z,Γ2)
    |none=>.bad
   |_,_=>.bad).bind k):=by
   unfold fCmp
   cases fa Γ with
   |ok a=>
    obtain⟨a,Γ1⟩:=a
    simp only[R.bind]
    cases fb Γ1<;>rfl
   |exc x y=>rfl
   |bad=>rfl
  rw[<- e];exact hp
 refine ha.run rs hs hp' fun F1 Γ1 H1 u v rs1 s1 o1 h1=>hb.run rs1 hs h1 fun F2 Γ2 H2 w v2 rs2 s2 o2 h2=>?_
 dsimp only at h2
 split at h2
 ·rename_i x y e1 e2
  split at h2
  ·rename_i z e3
   exact⟨x,y,z,e3,(o1.stp s2 rs1.al0).weak rs2 e1,o2.weak rs2 e2,kk F2 Γ2 H2 z rs2 (s1.trans s2) h2⟩
  ·exact h2.elim
 ·exact h2.elim
end
theorem R.bind_ok{α:Type}(r:R α):r.bind .ok=r:=by cases r<;>rfl
theorem zgy{op:CmpOp}{g:PyData->PyData->Option Bool}(ho:VD X op g)(ha:SE X XP mp a fa)(hb:SE X XP mp b fb)(hm:behindInMarks op b=false):SE X XP mp (.Compare a [op] [b] pos) (fB (fCmp g fa fb)):=fun M0 F Γ ν σ H Q rs hs hp=>
 (zcX (Zu ho) zg zg hm).wp (kv ha hb rs hs hp fun F2 Γ2 H2 z rs2 s2 h2=>h2 F2 H2 rs2 (.refl _ _) _ (Rep.bool z))
theorem ze5{op:CmpOp}{g:PyData->PyData->Option Bool}(ho:VD X op g)(ha:SE X XP mp a fa)(hb:SE X XP mp b fb)(hm:behindInMarks op b=false):ST X XP mp (.Compare a [op] [b] pos) (fCmp g fa fb):=fun M0 F Γ ν σ H Q rs hs hp=>
 (zd9 (Zu ho) zg zg hm).wp (kv (k:=.ok) (Q:=fun v H'=>∃ k,v=.bl k/\Q k H') ha hb rs hs (by rw[R.bind_ok];exact hp) fun F2 Γ2 H2 z rs2 s2 h2=>⟨z,rfl,h2 F2 H2 rs2 (.refl _ _)⟩)
end
end L3
namespace L3
open PySem PySem.Spec PyProof.Rows L2
noncomputable def truD:PyData->Option Bool
 |.none=>some false
 |.bool b=>some b
 |.int i=>some (i !=0)
 |.list xs=>some (!xs.isEmpty)
 |.tuple xs=>some (!xs.isEmpty)
 |_=>none
theorem VA{M:Addr->Prop}{H:Hp}{vs:List V}{ds:List PyData}(r:RepL M H vs ds):(!vs.isEmpty)= !ds.isEmpty:=by cases r<;>rfl
theorem kS{K:PySem.W.Frag}{M:Addr->Prop}{H:Hp}{v:V}{x:PyData}{k:Bool}(r:Rep M H v x)(e:truD x=some k):zes K v H k:=by
 cases r with
 |none=>cases e;rfl
 |bool b=>cases e;rfl
 |int i=>cases e;rfl
 |str x=>cases e
 |list ea n q=>cases e;exact .inl ⟨_,SqL.of ea,(VA q).symm⟩
 |tuple ea q=>cases e;exact .inr (.inl ⟨_,SqT.of ea,(VA q).symm⟩)
section
variable {X:Cx} {XP:XPT} {mp:List Nat} {a b c e:Expr} {es:List Expr} {pos p p2:Pos} {fa fb fc:EM FV} {ta tb:EM Bool} {na nb:EM (List PyData)}
noncomputable def fTru(fa:EM FV):EM Bool:=fun Γ=>(fa Γ).bind fun (u,Γ1)=>match (derf Γ1 u).bind truD with
 |some k=>.ok (k,Γ1)
 |none=>.bad
theorem zcU(ha:SE X XP mp a fa)(he:∀ whole,isTrue a X.env whole=(do let v<-whole;standAt a.pos;holding [v] (truthy v))):ST X XP mp a (fTru fa):=fun M0 F Γ ν σ H Q rs hs hp=>
 (zaV zg he).wp (ha.run rs hs hp fun F1 Γ1 H1 u v rs1 s1 o1 h1=>by
  dsimp only at h1
  split at h1
  ·rename_i k ek
   cases ex:derf Γ1 u with
   |none=>rw[ex]at ek;cases ek
   |some x=>
    rw[ex]at ek
    exact⟨k,kS (o1.weak rs1 ex) ek,h1 F1 H1 rs1 (.refl _ _)⟩
  ·exact h1.elim)
noncomputable def fNotT(ta:EM Bool):EM Bool:=fun Γ=>(ta Γ).bind fun (b,Γ1)=>.ok (!b,Γ1)
theorem zfe(h:ST X XP mp a ta):ST X XP mp (.UnaryOp .Not a pos) (fNotT ta):=fun M0 F Γ ν σ H Q rs hs hp=>
 (zfm qR).wp (h.run rs hs hp fun F1 Γ1 H1 b rs1 s1 h1=>h1 F1 H1 rs1 (.refl _ _))
theorem SW.st(h:SW X XP mp a ta):ST X XP mp a ta:=fun M0 F Γ ν σ H Q rs hs hp pins s I=>h M0 F Γ ν σ H Q rs hs hp _ pins s I
theorem zef(h:ST X XP mp a ta):SW X XP mp (.BoolOp .And [a] pos) ta:=fun M0 F Γ ν σ H Q rs hs hp=>(zdZ qR).wp (h M0 F Γ ν σ H Q rs hs hp)
theorem zdK(h:ST X XP mp a ta):SW X XP mp (.BoolOp .Or [a] pos) ta:=fun M0 F Γ ν σ H Q rs hs hp=>(zfr qR).wp (h M0 F Γ ν σ H Q rs hs hp)
noncomputable def fAndT(ta tb:EM Bool):EM Bool:=fun Γ=>(ta Γ).bind fun (b,Γ1)=>if b then tb Γ1 else .ok (false,Γ1)
noncomputable def fOrT(ta tb:EM Bool):EM Bool:=fun Γ=>(ta Γ).bind fun (b,Γ1)=>if b then .ok (true,Γ1) else tb Γ1
theorem za2(ha:ST X XP mp a ta)(hb:SW X XP mp (.BoolOp .And (b::es) pos) tb):SW X XP mp (.BoolOp .And (a::b::es) pos) (fAndT ta tb):=fun M0 F Γ ν σ H Q rs hs hp=>
 (zgo qR YT).wp (ha.run rs hs hp fun F1 Γ1 H1 b rs1 s1 h1=>by
  cases b with
  |true=>exact vc (hb M0 F1 Γ1 ν σ H1 Q rs1 hs h1)
  |false=>exact Vr (h1 F1 H1 rs1 (.refl _ _)))
theorem zeN(ha:ST X XP mp a ta)(hb:SW X XP mp (.BoolOp .Or (b::es) pos) tb):SW X XP mp (.BoolOp .Or (a::b::es) pos) (fOrT ta tb):=fun M0 F Γ ν σ H Q rs hs hp=>
 (zg7 qR YT).wp (ha.run rs hs hp fun F1 Γ1 H1 b rs1 s1 h1=>by
  cases b with
  |true=>exact vc (h1 F1 H1 rs1 (.refl _ _))
  |false=>exact Vr (hb M0 F1 Γ1 ν σ H1 Q rs1 hs h1))
noncomputable def fAndV(fa fb:EM FV):EM FV:=fun Γ=>(fa Γ).bind fun (u,Γ1)=>match derf Γ1 u with
 |some (.bool true)=>fb Γ1
 |some (.bool false)=>.ok (.dat (.bool false),Γ1)
 |_=>.bad
noncomputable def fOrV(fa fb:EM FV):EM FV:=fun Γ=>(fa Γ).bind fun (u,Γ1)=>match derf Γ1 u with
 |some (.bool true)=>.ok (.dat (.bool true),Γ1)
 |some (.bool false)=>fb Γ1
 |_=>.bad
theorem zaY{op}(h:SE X XP mp a fa):SE X XP mp (.BoolOp op [a] pos) fa:=fun M0 F Γ ν σ H Q rs hs hp=>(zfS zg).wp (h M0 F Γ ν σ H Q rs hs hp)
theorem zcH(ha:SE X XP mp a fa)(hb:SE X XP mp (.BoolOp .And (b::es) pos) fb):SE X XP mp (.BoolOp .And (a::b::es) pos) (fAndV fa fb):=fun M0 F Γ ν σ H Q rs hs hp=>
 (zge zg zg).wp (ha.run rs hs hp fun F1 Γ1 H1 u v rs1 s1 o1 h1=>by
  dsimp only at h1
  split at h1
  ·rename_i ex
   cases o1.weak rs1 ex
   exact⟨true,rfl,vc (hb M0 F1 Γ1 ν σ H1 Q rs1 hs h1)⟩
  ·rename_i ex
   cases o1.weak rs1 ex
   exact⟨false,rfl,Vr (h1 F1 H1 rs1 (.refl _ _) _ (Rep.bool false))⟩
  ·exact h1.elim)
theorem zeP(ha:SE X XP mp a fa)(hb:SE X XP mp (.BoolOp .Or (b::es) pos) fb):SE X XP mp (.BoolOp .Or (a::b::es) pos) (fOrV fa fb):=fun M0 F Γ ν σ H Q rs hs hp=>
 (zhr zg zg).wp (ha.run rs hs hp fun F1 Γ1 H1 u v rs1 s1 o1 h1=>by
  dsimp only at h1
  split at h1
  ·rename_i ex
   cases o1.weak rs1 ex
   exact⟨true,rfl,vc (h1 F1 H1 rs1 (.refl _ _) _ (Rep.bool true))⟩
  ·rename_i ex
   cases o1.weak rs1 ex
   exact⟨false,rfl,Vr (hb M0 F1 Γ1 ν σ H1 Q rs1 hs h1)⟩
  ·exact h1.elim)
theorem zdj:UnR X (unaryOp .Not) (fun x H Q=>∃ k,zes X.K x H k/\Q (.bl (!k)) H):=by
 intro pins s σ H x v Q I rx h
 obtain⟨k,hk,q⟩:=h
 exact not_of (thn (zcW pins s σ H x v _ I rx ⟨k,hk,q⟩) fun b s' ⟨H',I',q'⟩=>⟨.bl (!b),H',I',rfl,q'⟩)
theorem zfP(ha:SE X XP mp a fa):SE X XP mp (.UnaryOp .Not a pos) (fB (fNotT (fTru fa))):=fun M0 F Γ ν σ H Q rs hs hp=>by
 refine (zeT zdj zg).wp (ha.run (k:=fun (u,Γ1)=>match (derf Γ1 u).bind truD with
  |some k=>R.ok (FV.dat (.bool (!k)),Γ1)
  |none=>.bad) (P:=fun F' Γ' H' u=>∀ (v:V),FOk M0 F' ν H' v u->Q v H') rs hs ?_ fun F1 Γ1 H1 u v rs1 s1 o1 h1=>?_)
 ·have e:fB (fNotT (fTru fa)) Γ=(fa Γ).bind fun (u,Γ1)=>match (derf Γ1 u).bind truD with
   |some k=>.ok (.dat (.bool (!k)),Γ1)
   |none=>.bad:=by
   unfold fB fNotT fTru
   cases fa Γ with
   |ok a=>
    obtain⟨u,Γ1⟩:=a
    simp only[R.bind]
    cases (derf Γ1 u).bind truD<;>rfl
   |exc x y=>rfl
   |bad=>rfl
  rw[<- e];exact hp
 ·dsimp only at h1
  split at h1
  ·rename_i k ek
   cases ex:derf Γ1 u with
   |none=>rw[ex]at ek;cases ek
   |some x=>
    rw[ex]at ek
    exact⟨k,kS (o1.weak rs1 ex) ek,h1 F1 H1 rs1 (.refl _ _) _ (Rep.bool (!k))⟩
  ·exact h1.elim
noncomputable def fIf(t:EM Bool)(fa fb:EM FV):EM FV:=fun Γ=>(t Γ).bind fun (b,Γ1)=>if b then fa Γ1 else fb Γ1
theorem zhk(hc:ST X XP mp c ta)(ha:SE X XP mp a fa)(hb:SE X XP mp b fb):SE X XP mp (.IfExp c a b pos) (fIf ta fa fb):=fun M0 F Γ ν σ H Q rs hs hp=>
 (zcb qR zg zg).wp (hc.run rs hs hp fun F1 Γ1 H1 b rs1 s1 h1=>by
  cases b with
  |true=>exact vc (ha M0 F1 Γ1 ν σ H1 Q rs1 hs h1)
  |false=>exact Vr (hb M0 F1 Γ1 ν σ H1 Q rs1 hs h1))
noncomputable def fChain(g g':PyData->PyData->Option Bool)(fa fb fc:EM FV):EM Bool:=fun Γ=>(fa Γ).bind fun (u,Γ1)=>(fb Γ1).bind fun (w,Γ2)=>match derf Γ2 u,derf Γ2 w with
 |some x,some y=>match g x y with
  |some true=>(fc Γ2).bind fun (t,Γ3)=>match derf Γ3 w,derf Γ3 t with
   |some y,some z=>match g' y z with
    |some k=>.ok (k,Γ3)
    |none=>.bad
   |_,_=>.bad
  |some false=>.ok (false,Γ2)
  |none=>.bad
 |_,_=>.bad
theorem R.bind_assoc{α β γ:Type}(r:R α)(f:α->R β)(g:β->R γ):(r.bind f).bind g=r.bind fun a=>(f a).bind g:=by cases r<;>rfl
section
variable {M0:Addr->Prop} {F:Fp} {Γ:Gv} {ν:Nu} {σ:St} {H:Hp} {β:Type} {P:Fp->Gv->Hp->β->Prop}
theorem WJ{g g':PyData->PyData->Option Bool}{k:Bool×Gv->R (β×Gv)}{Q:VK}(ha:SE X XP mp a fa)(hb:SE X XP mp b fb)(hc:SE X XP mp c fc)(rs:RS M0 F Γ ν H)(hs:Sees mp ν σ)(hp:EPost M0 F ν σ H XP P ((fChain g g' fa fb fc Γ).bind k))
  (kk:∀ F2 Γ2 H2 z,RS M0 F2 Γ2 ν H2->EPost M0 F2 ν σ H2 XP P (k (z,Γ2))->Q (.bl z) H2) :
  yO (fun v u H Q=>∃ x y z,g x y=some z/\Rep zC H v x/\Rep zC H u y/\Q (.bl z) H) (fun v u H Q=>∃ x y z,g' x y=some z/\Rep zC H v x/\Rep zC H u y/\Q (.bl z) H) (wpE X a) (wpE X b) (wpE X c) σ H Q:=by
 unfold fChain at hp
 rw[R.bind_assoc]at hp
 refine ha.run rs hs hp fun F1 Γ1 H1 u v rs1 s1 o1 h1=>?_
 dsimp only at h1
 rw[R.bind_assoc]at h1
 refine hb.run rs1 hs h1 fun F2 Γ2 H2 w v2 rs2 s2 o2 h2=>?_
 dsimp only at h2
 split at h2
 ·rename_i x y e1 e2
  split at h2
  ·rename_i e3
   refine⟨x,y,true,e3,(o1.stp s2 rs1.al0).weak rs2 e1,o2.weak rs2 e2,true,rfl,vc ?_⟩
   rw[R.bind_assoc]at h2
   refine hc.run rs2 hs h2 fun F3 Γ3 H3 t v3 rs3 s3 o3 h3=>?_
   dsimp only at h3
   split at h3
   ·rename_i y' z e4 e5
    split at h3
    ·rename_i kz e6
     exact⟨y',z,kz,e6,(o2.stp s3 rs2.al0).weak rs3 e4,o3.weak rs3 e5,kk F3 Γ3 H3 kz rs3 h3⟩
    ·exact h3.elim
   ·exact h3.elim
  ·rename_i e3
   exact⟨x,y,false,e3,(o1.stp s2 rs1.al0).weak rs2 e1,o2.weak rs2 e2,false,rfl,Vr (kk F2 Γ2 H2 false rs2 h2)⟩
  ·exact h2.elim
 ·exact h2.elim
end
theorem zaK{op op':CmpOp}{g g':PyData->PyData->Option Bool}(ho:VD X op g)(ho':VD X op' g')(ha:SE X XP mp a fa)(hb:SE X XP mp b fb)(hc:SE X XP mp c fc)(hm:lastMarks [op,op'] [b,c]=false) :
  SE X XP mp (.Compare a [op,op'] [b,c] pos) (fB (fChain g g' fa fb fc)):=fun M0 F Γ ν σ H Q rs hs hp=>
 (zau (Zu ho) (Zu ho') zg zg zg hm).wp (WJ ha hb hc rs hs hp fun F2 Γ2 H2 z rs2 h2=>h2 F2 H2 rs2 (.refl _ _) _ (Rep.bool z))
theorem zcJ{op op':CmpOp}{g g':PyData->PyData->Option Bool}(ho:VD X op g)(ho':VD X op' g')(ha:SE X XP mp a fa)(hb:SE X XP mp b fb)(hc:SE X XP mp c fc)(hm:lastMarks [op,op'] [b,c]=false) :
  ST X XP mp (.Compare a [op,op'] [b,c] pos) (fChain g g' fa fb fc):=fun M0 F Γ ν σ H Q rs hs hp=>
 (za4 (Zu ho) (Zu ho') zg zg zg hm).wp (WJ (k:=.ok) (Q:=fun v H'=>∃ k,v=.bl k/\Q k H') ha hb hc rs hs (by rw[R.bind_ok];exact hp) fun F2 Γ2 H2 z rs2 h2=>⟨z,rfl,h2 F2 H2 rs2 (.refl _ _)⟩)
inductive FOks(M0:Addr->Prop)(F:Fp)(ν:Nu)(H:Hp):List V->List FV->Prop
 |nil:FOks M0 F ν H [] []
 |cons {v:V} {vs:List V} {u:FV} {us:List FV}:FOk M0 F ν H v u->FOks M0 F ν H vs us->FOks M0 F ν H (v::vs) (u::us)
noncomputable def derSs(Γ:Gv):List FV->Option (List PyData)
 |[]=>some []
 |u::us=>match derS Γ u,derSs Γ us with
  |some x,some xs=>some (x::xs)
  |_,_=>none
theorem FOks.strong{M0:Addr->Prop}{F:Fp}{Γ:Gv}{ν:Nu}{H:Hp}(rs:RS M0 F Γ ν H):∀ {vs:List V}{us:List FV}{ds:List PyData},FOks M0 F ν H vs us->derSs Γ us=some ds->RepL (MM M0 F) H vs ds
 |_,_,_,.nil,e=>by cases e;exact .nil
 |_,_,_,.cons h t,e=>by
  unfold derSs at e
  split at e
  ·rename_i e1 e2
   cases e
   exact .cons (h.strong rs e1) (FOks.strong rs t e2)
  ·cases e
theorem FOks.length{M0:Addr->Prop}{F:Fp}{ν:Nu}{H:Hp}:∀ {vs:List V}{us:List FV},FOks M0 F ν H vs us->vs.length=us.length
 |_,_,.nil=>rfl
 |_,_,.cons _ t=>by rw[xl,xl,FOks.length t]
noncomputable def SL(X:Cx)(XP:XPT)(mp:List Nat)(es:List Expr)(f:EM (List FV)):Prop:=∀ (M0:Addr->Prop) (F:Fp) (Γ:Gv) (ν:Nu) (σ:St) (H:Hp) (Q:List V->Hp->Prop),RS M0 F Γ ν H->Sees mp ν σ ->
 EPost M0 F ν σ H XP (fun F' Γ' H' us=>∀ vs,FOks M0 F' ν H' vs us->Q vs H') (f Γ)->wpA X es σ H Q
theorem SL.run{β:Type}{M0:Addr->Prop}{F:Fp}{Γ:Gv}{ν:Nu}{σ:St}{H:Hp}{P:Fp->Gv->Hp->β->Prop}{fl:EM (List FV)}{Q:List V->Hp->Prop}{k:List FV×Gv->R (β×Gv)}(ha:SL X XP mp es fl)(rs:RS M0 F Γ ν H)(hs:Sees mp ν σ)(h:EPost M0 F ν σ H XP P ((fl Γ).bind k))
  (kk:∀ F1 Γ1 H1 us vs,RS M0 F1 Γ1 ν H1->Stp F H F1 H1->FOks M0 F1 ν H1 vs us->EPost M0 F1 ν σ H1 XP P (k (us,Γ1))->Q vs H1):wpA X es σ H Q :=
 ha M0 F Γ ν σ H Q rs hs (h.seq.mono fun F1 Γ1 H1 u rs1 s1 h1 v hv=>kk F1 Γ1 H1 u v rs1 s1 hv h1)
noncomputable def fNil:EM (List FV):=fun Γ=>.ok ([],Γ)
noncomputable def fCons(fa:EM FV)(fl:EM (List FV)):EM (List FV):=fun Γ=>(fa Γ).bind fun (u,Γ1)=>(fl Γ1).bind fun (us,Γ2)=>.ok (u::us,Γ2)
theorem zgg:SL X XP mp [] fNil:=fun M0 F Γ ν σ H Q rs hs hp=>pa_nil.wp (hp F H rs (.refl _ _) [] .nil)
theorem zdy{fl:EM (List FV)}(ha:SE X XP mp a fa)(hl:SL X XP mp es fl)(hst:starEach (a::es) X.env=(false,eval a X.env)::starEach es X.env):SL X XP mp (a::es) (fCons fa fl):=fun M0 F Γ ν σ H Q rs hs hp=>
 (zy zg jh hst).wp (ha.run rs hs hp fun F1 Γ1 H1 u v rs1 s1 o1 h1=>hl.run rs1 hs h1 fun F2 Γ2 H2 us vs rs2 s2 o2 h2=>h2 F2 H2 rs2 (.refl _ _) _ (.cons (o1.stp s2 rs1.al0) o2))
theorem sz6{n:Nat}(h:n<=1000000):n<=sizeLine:=by have:=sizeLine_eq;omega
noncomputable def fTup(fl:EM (List FV)):EM FV:=fun Γ=>(fl Γ).bind fun (us,Γ1)=>match derSs Γ1 us with
 |some ds=>if us.length<=1000000 then .ok (.dat (.tuple ds),Γ1) else .bad
 |none=>.bad
noncomputable def fLst(fl:EM (List FV)):EM (List PyData):=fun Γ=>(fl Γ).bind fun (us,Γ1)=>match derSs Γ1 us with
 |some ds=>if us.length<=1000000 then .ok (ds,Γ1) else .bad
 |none=>.bad
theorem zgf{fl:EM (List FV)}{x1}(h:SL X XP mp es fl):SE X XP mp (.Tuple es x1 pos) (fTup fl):=fun M0 F Γ ν σ H Q rs hs hp=>
 (zgq jh).wp (h.run rs hs hp fun F1 Γ1 H1 us vs rs1 s1 o1 h1=>by
  dsimp only at h1
  split at h1
  ·rename_i ds e
   split at h1
   ·rename_i hz
    exact⟨by rw[o1.length];exact sz6 hz,fun p n=>h1 F1 _ (rs1.same (zM n)) (.same (zM n)) _ (Rep.tuple zx ((o1.strong rs1 e).grow (zM n).grow))⟩
   ·exact h1.elim
  ·exact h1.elim)
theorem zgF{fl:EM (List FV)}(h:SL X XP mp es fl):SN X XP mp (.List es pos) (fLst fl):=fun M0 F Γ ν σ H Q rs hs hp=>
 (zcu jh).wp (h.run rs hs hp fun F1 Γ1 H1 us vs rs1 s1 o1 h1=>by
  dsimp only at h1
  split at h1
  ·rename_i ds e
   split at h1
   ·rename_i hz
    exact⟨by rw[o1.length];exact sz6 hz,fun p n=>h1 F1 H1 rs1 (.refl _ _) vs p (o1.strong rs1 e) n⟩
   ·exact h1.elim
  ·exact h1.elim)
noncomputable def itemF(Γ:Gv)(u:FV)(i:Int):Option PyData:=match u with
 |.dat (.list xs)=>atI xs i
 |.dat (.tuple xs)=>atI xs i
 |.own k=>match Γ[k]? with
  |some (some (.l xs))=>match atI xs i with
   |some (.d x)=>some x
   |_=>none
  |some (some (.d (.list xs)))=>atI xs i
  |_=>none
 |_=>none
theorem zen{α:Type}{xs:List α}{i:Int}{x:α}(h:atI xs i=some x):∃ j,ixN xs.length i=some j/\xs[j]?=some x:=by
 unfold atI at h
 cases e:ixN xs.length i with
 |none=>rw[e]at h;cases h
 |some j=>rw[e]at h;exact⟨j,rfl,h⟩
theorem zff{α:Type}{xs:List α}{i:Int}{x:α}{j:Nat}(h:ixN xs.length i=some j)(h2:xs[j]?=some x):atI xs i=some x:=by
 unfold atI;rw[h];exact h2
theorem FOk.item{M0:Addr->Prop}{F:Fp}{Γ:Gv}{ν:Nu}{H:Hp}{v:V}{u:FV}{i:Int}{x:PyData}{K:PySem.W.Frag}(h:FOk M0 F ν H v u)(rs:RS M0 F Γ ν H)(e:itemF Γ u i=some x) :
  ∃ l vs w,v=.ref l/\(SqL K H l vs∨SqT K H l vs)/\atI vs i=some w/\Rep (MM M0 F) H w x:=by
 unfold itemF at e
 split at e
 ·obtain⟨a,vs,rfl,e1,_,r⟩:=Rep.lst_inv h
  obtain⟨w,ew,rw'⟩:=vo r e
  exact⟨a,vs,w,rfl,.inl (SqL.of e1),ew,rw'⟩
 ·obtain⟨a,vs,rfl,e1,r⟩:=Rep.tup_inv h
  obtain⟨w,ew,rw'⟩:=vo r e
  exact⟨a,vs,w,rfl,.inr (SqT.of e1),ew,rw'⟩
 ·rename_i k
  have h':ν[k]?=some (some v):=h
  split at e
  ·rename_i q
   split at e
   ·rename_i y eo
    cases e
    obtain⟨w,e1,r⟩:=rs.at' k _ q
    rw[h']at e1;cases e1
    generalize F k=A at r
    cases r with
    |l ea qa=>
     obtain⟨j,ej,exj⟩:=zen eo
     obtain⟨w,ew,r⟩:=qa.get exj
     rw[<- qa.length]at ej
     exact⟨_,_,w,rfl,.inl (SqL.of ea),zff ej ew,r⟩
   ·cases e
  ·rename_i q
   obtain⟨w,e1,r⟩:=rs.at' k _ q
   rw[h']at e1;cases e1
   generalize F k=A at r
   cases r with
   |d r=>
    obtain⟨a,vs,rfl,e1,_,r⟩:=Rep.lst_inv r
    obtain⟨w,ew,rw'⟩:=vo r e
    exact⟨a,vs,w,rfl,.inl (SqL.of e1),ew,rw'⟩
  ·cases e
 ·cases e
noncomputable def fIx(fa fb:EM FV):EM FV:=fun Γ=>(fa Γ).bind fun (u,Γ1)=>(fb Γ1).bind fun (w,Γ2)=>match derf Γ2 w with
 |some (.int i)=>match itemF Γ2 u i with
  |some x=>.ok (.dat x,Γ2)
  |none=>.bad
 |_=>.bad
theorem zhb(ha:SE X XP mp a fa)(hb:SE X XP mp b fb)(hx:vj b):SE X XP mp (.Subscript a b pos) (fIx fa fb):=fun M0 F Γ ν σ H Q rs hs hp=>
 (zhc (ix_list.or zgs) zg zg hx).wp (ha.run rs hs hp fun F1 Γ1 H1 u v rs1 s1 o1 h1=>hb.run rs1 hs h1 fun F2 Γ2 H2 w v2 rs2 s2 o2 h2=>by
  dsimp only at h2
  split at h2
  ·rename_i i e1
   split at h2
   ·rename_i x e2
    obtain⟨l,vs,z,rfl,hq,ez,rz⟩:=(o1.stp s2 rs1.al0).item (K:=X.K) rs2 e2
    cases o2.weak rs2 e1
    rcases hq with hq | hq
    ·exact .inl ⟨l,vs,i,z,rfl,rfl,hq,ez,h2 F2 H2 rs2 (.refl _ _) z rz⟩
    ·exact .inr ⟨l,vs,i,z,rfl,rfl,hq,ez,h2 F2 H2 rs2 (.refl _ _) z rz⟩
   ·exact h2.elim
  ·exact h2.elim)
noncomputable def SOp(X:Cx)(XP:XPT)(mp:List Nat)(e:Option Expr)(f:EM (Option Int)):Prop:=∃ t:TO,PO X e t/\∀ (M0:Addr->Prop) (F:Fp) (Γ:Gv) (ν:Nu) (σ:St) (H:Hp) (Q:Option Int->Hp->Prop),RS M0 F Γ ν H->Sees mp ν σ ->
 EPost M0 F ν σ H XP (fun F' Γ' H' b=>Q b H') (f Γ)->t σ H Q
noncomputable def zhx:EM (Option Int):=fun Γ=>.ok (none,Γ)
noncomputable def zhf(fa:EM FV):EM (Option Int):=fun Γ=>(fa Γ).bind fun (u,Γ1)=>match derf Γ1 u with
 |some (.int i)=>.ok (some i,Γ1)
 |_=>.bad
theorem zd1:SOp X XP mp none zhx:=⟨_,v9,fun M0 F Γ ν σ H Q rs hs hp=>hp F H rs (.refl _ _)⟩
theorem zdp(ha:SE X XP mp a fa):SOp X XP mp (some a) (zhf fa):=⟨_,Vd zg,fun M0 F Γ ν σ H Q rs hs hp=>ha.run rs hs hp fun F1 Γ1 H1 u v rs1 s1 o1 h1=>by
 dsimp only at h1
 split at h1
 ·rename_i i e1
  cases o1.weak rs1 e1
  exact⟨i,rfl,h1 F1 H1 rs1 (.refl _ _)⟩
 ·exact h1.elim⟩
noncomputable def zbV(fa fb:EM FV):EM (List PyData):=fun Γ=>(fa Γ).bind fun (u,Γ1)=>(fb Γ1).bind fun (w,Γ2)=>match derL Γ2 u,derL Γ2 w with
 |some xs,some ys=>if xs.length+ys.length<=1000000 then .ok (xs++ys,Γ2) else .bad
 |_,_=>.bad
theorem zfc(ha:SE X XP mp a fa)(hb:SE X XP mp b fb):SN X XP mp (.BinOp a .Add b pos) (zbV fa fb):=fun M0 F Γ ν σ H Q rs hs hp=>
 (WI zgP zg zg).wp (ha.run rs hs hp fun F1 Γ1 H1 u v rs1 s1 o1 h1=>hb.run rs1 hs h1 fun F2 Γ2 H2 w v2 rs2 s2 o2 h2=>by
  dsimp only at h2
  split at h2
  ·rename_i xs ys e1 e2
   split at h2
   ·rename_i hz
    obtain⟨l,vs,rfl,el,rl⟩:=(o1.stp s2 rs1.al0).list rs2 e1
    obtain⟨l2,vs2,rfl,el2,rl2⟩:=o2.list rs2 e2
    exact⟨l,l2,vs,vs2,rfl,rfl,el,el2,by rw[rl.length,rl2.length];exact sz6 hz,fun p n=>h2 F2 H2 rs2 (.refl _ _) _ p (rl.append rl2) n⟩
   ·exact h2.elim
  ·exact h2.elim)
structure BiK(X:Cx)(x:Str)(val:Value):Prop where
 gl:Gl X x
 mg:X.mg x=none
 bt:bootBuiltins x=some val
 n:x≠ "__name__"
 d:(x==("__debug__" :Str))=false
noncomputable def lenD:PyData->Option Nat
 |.list xs=>some xs.length
 |.tuple xs=>some xs.length
 |_=>none
noncomputable def f1(g:PyData->Option PyData)(fa:EM FV):EM FV:=fun Γ=>(fa Γ).bind fun (u,Γ1)=>match (derf Γ1 u).bind g with
 |some y=>.ok (.dat y,Γ1)
 |none=>.bad
noncomputable def wy(X:Cx)(f:Value)(g:PyData->Option PyData):Prop:=∀ x z,g x=some z->noL z=true/\∃ r,jm X f r/\∀ (H:Hp) (v:V) (Q:VK),
 Rep zC H v x->(∀ w,Rep zC H w z->Q w H)->r [v] H Q
theorem VT{f:Value}{g:PyData->Option PyData}(ho:wy X f g):jm X f (fun vs H Q=>∃ v x z,vs= [v]/\g x=some z/\Rep zC H v x/\∀ w,Rep zC H w z->Q w H):=by
 rintro pins s σ H xs us Q I r ⟨v,x,z,rfl,e,rv,k⟩
 obtain⟨_,r',hr,hh⟩:=ho x z e
 exact hr pins s σ H [v] us Q I r (hh H v Q rv k)
theorem zaW{M0:Addr->Prop}{F:Fp}{Γ:Gv}{ν:Nu}{σ:St}{H:Hp}{g:PyData->Option PyData}{Q:VK}(hz:∀ x z,g x=some z->noL z=true)(ha:SE X XP mp a fa)(rs:RS M0 F Γ ν H)(hs:Sees mp ν σ)(hst:starEach [a] X.env= [(false,eval a X.env)])
  (hp:EPost M0 F ν σ H XP (fun F' Γ' H' u=>∀ v,FOk M0 F' ν H' v u->Q v H') (f1 g fa Γ)):wpA X [a] σ H fun vs H1=>∃ v x z,vs= [v]/\g x=some z/\Rep zC H1 v x/\∀ w,Rep zC H1 w z->Q w H1 :=
 (zy zg pa_nil hst).wp (ha.run rs hs hp fun F1 Γ1 H1 u v rs1 s1 o1 h1=>by
  dsimp only at h1
  split at h1
  ·rename_i y ey
   cases ex:derf Γ1 u with
   |none=>rw[ex]at ey;cases ey
   |some x=>
    rw[ex]at ey
    exact⟨v,x,y,rfl,ey,o1.weak rs1 ex,fun w rw'=>h1 F1 H1 rs1 (.refl _ _) w (Rep.free (hz x y ey) rw')⟩
  ·exact h1.elim)
theorem zbu{x:Str}{id:String}{g:PyData->Option PyData}(ho:wy X (.builtin id) g)(B:BiK X x (.builtin id))(ha:SE X XP mp a fa)(hst:starEach [a] X.env= [(false,eval a X.env)]):SE X XP mp (.Call (.Name x p) [a] [] pos) (f1 g fa):=fun M0 F Γ ν σ H Q rs hs hp=>
 (Zc (VT ho) B.gl B.mg B.bt jh B.n B.d hst rfl).wp (zaW (fun x z e=>(ho x z e).1) ha rs hs hst hp)
theorem zhu{x:Str}{id:String}{g:PyData->Option PyData}(ho:wy X (.type id) g)(B:BiK X x (.type id))(ha:SE X XP mp a fa)(hst:starEach [a] X.env= [(false,eval a X.env)]):SE X XP mp (.Call (.Name x p) [a] [] pos) (f1 g fa):=fun M0 F Γ ν σ H Q rs hs hp=>
 (Zr (VT ho) B.gl B.mg B.bt jh B.n B.d hst rfl).wp (zaW (fun x z e=>(ho x z e).1) ha rs hs hst hp)
noncomputable def gLen(x:PyData):Option PyData:=(lenD x).map fun n=>.int n
theorem zgJ:wy X (.builtin "len") gLen:=fun x z e=>by
 cases x with
 |list xs=>cases e;exact⟨rfl,_,Z9,fun H v Q r k=>by
   obtain⟨l,vs,rfl,el,_,rl⟩:=r.lst_inv
   exact⟨l,vs,rfl,.inl (SqL.of el),by rw[rl.length];exact k _ (.int _)⟩⟩
 |tuple xs=>cases e;exact⟨rfl,_,Z9,fun H v Q r k=>by
   obtain⟨l,vs,rfl,el,rl⟩:=r.tup_inv
   exact⟨l,vs,rfl,.inr (SqT.of el),by rw[rl.length];exact k _ (.int _)⟩⟩
 |_=>cases e
noncomputable def gInt:PyData->Option PyData
 |.int i=>some (.int i)
 |.bool b=>some (.int (if b then 1 else 0))
 |_=>none
theorem zfq:wy X (.type "int") gInt:=fun x z e=>by
 cases x with
 |int i=>cases e;exact⟨rfl,_,w5,fun H v Q r k=>by cases r;exact .inl ⟨i,rfl,k _ (.int _)⟩⟩
 |bool b=>cases e;exact⟨rfl,_,w5,fun H v Q r k=>by cases r;exact .inr ⟨b,rfl,k _ (.int _)⟩⟩
 |_=>cases e
noncomputable def qk:List PyData->Option (List Bool)
 |[]=>some []
 |.bool b::r=>(qk r).map (b::·)
 |_=>none
theorem qO(bs:List Bool):qk (bs.map .bool)=some bs:=by
 induction bs with
 |nil=>rfl
 |cons b r ih=>simp[qk,ih]
theorem ZU:∀ {ds:List PyData}{bs:List Bool},qk ds=some bs->ds=bs.map .bool
 |[],bs,e=>by cases e;rfl
 |.bool b::r,bs,e=>by
  unfold qk at e
  cases q:qk r with
  |none=>rw[q]at e;cases e
  |some l=>rw[q]at e;cases e;rw[ZU q];rfl
 |.none::r,bs,e=>by cases e
 |.int _::r,bs,e=>by cases e
 |.str _::r,bs,e=>by cases e
 |.list _::r,bs,e=>by cases e
 |.tuple _::r,bs,e=>by cases e
 |.dict _::r,bs,e=>by cases e
noncomputable def gAll:PyData->Option PyData
 |.list xs=>(qk xs).map fun bs=>.bool (bs.all id)
 |_=>none
noncomputable def gAny:PyData->Option PyData
 |.list xs=>(qk xs).map fun bs=>.bool (bs.any id)
 |_=>none
theorem zgc (hc:X.calm=true):wy X (.builtin "all") gAll:=fun x z e=>by
 cases x with
 |list xs=>
  dsimp only [gAll]at e
  cases q:qk xs with
  |none=>rw[q]at e;cases e
  |some bs=>
   rw[q]at e;cases e
   exact⟨rfl,_,KN hc,fun H v Q r k=>by
    obtain⟨l,vs,rfl,el,_,rl⟩:=r.lst_inv
    rw[ZU q]at rl
    rw[rl.bls]at el
    exact⟨l,bs,rfl,SqL.of el,k _ (.bool _)⟩⟩
 |_=>cases e
theorem ze8 (hc:X.calm=true):wy X (.builtin "any") gAny:=fun x z e=>by
 cases x with
 |list xs=>
  dsimp only [gAny]at e
  cases q:qk xs with
  |none=>rw[q]at e;cases e
  |some bs=>
   rw[q]at e;cases e
   exact⟨rfl,_,Kd hc,fun H v Q r k=>by
    obtain⟨l,vs,rfl,el,_,rl⟩:=r.lst_inv
    rw[ZU q]at rl
    rw[rl.bls]at el
    exact⟨l,bs,rfl,SqL.of el,k _ (.bool _)⟩⟩
 |_=>cases e
noncomputable def zA(Γ:Gv)(u:FV):Option (List PyData):=match u with
 |.dat (.tuple xs)=>some xs
 |u=>derL Γ u
theorem FOk.seq{M0:Addr->Prop}{F:Fp}{Γ:Gv}{ν:Nu}{H:Hp}{v:V}{u:FV}{ds:List PyData}{K:PySem.W.Frag}(h:FOk M0 F ν H v u)(rs:RS M0 F Γ ν H)(e:zA Γ u=some ds) :
  ∃ l vs,v=.ref l/\(SqL K H l vs∨SqT K H l vs)/\RepL (MM M0 F) H vs ds:=by
 unfold zA at e
 split at e
 ·cases e
  obtain⟨a,vs,rfl,e1,r⟩:=Rep.tup_inv h
  exact⟨a,vs,rfl,.inr (SqT.of e1),r⟩
 ·obtain⟨a,vs,rfl,e1,r⟩:=h.list rs e
  exact⟨a,vs,rfl,.inl (SqL.of e1),r⟩
noncomputable def fListC(fa:EM FV):EM (List PyData):=fun Γ=>(fa Γ).bind fun (u,Γ1)=>match zA Γ1 u with
 |some ds=>.ok (ds,Γ1)
 |none=>.bad
theorem zdH {x:Str}(B:BiK X x (.type "list")) (ha:SE X XP mp a fa) (hst:starEach [a] X.env= [(false,eval a X.env)]):SN X XP mp (.Call (.Name x p) [a] [] pos) (fListC fa):=fun M0 F Γ ν σ H Q rs hs hp=>
 (Zr Qp B.gl B.mg B.bt (zy zg pa_nil hst) B.n B.d hst rfl).wp (ha.run rs hs hp fun F1 Γ1 H1 u v rs1 s1 o1 h1=>by
  dsimp only at h1
  split at h1
  ·rename_i ds e
   obtain⟨l,vs,rfl,hq,r⟩:=o1.seq (K:=X.K) rs1 e
   exact⟨l,vs,rfl,hq,fun p n=>h1 F1 H1 rs1 (.refl _ _) vs p r n⟩
  ·exact h1.elim)
noncomputable def fTupC(fa:EM FV):EM FV:=fun Γ=>(fa Γ).bind fun (u,Γ1)=>match derL Γ1 u with
 |some ds=>.ok (.dat (.tuple ds),Γ1)
 |none=>.bad
theorem zbj {x:Str}(B:BiK X x (.type "tuple")) (ha:SE X XP mp a fa) (hst:starEach [a] X.env= [(false,eval a X.env)]):SE X XP mp (.Call (.Name x p) [a] [] pos) (fTupC fa):=fun M0 F Γ ν σ H Q rs hs hp=>
 (Zr wS B.gl B.mg B.bt (zy zg pa_nil hst) B.n B.d hst rfl).wp (ha.run rs hs hp fun F1 Γ1 H1 u v rs1 s1 o1 h1=>by
  dsimp only at h1
  split at h1
  ·rename_i ds e
   obtain⟨l,vs,rfl,el,r⟩:=o1.list rs1 e
   exact⟨l,vs,rfl,.inl ⟨SqL.of el,fun p n=>h1 F1 _ (rs1.same (zM n)) (.same (zM n)) _ (Rep.tuple zx (r.grow (zM n).grow))⟩⟩
  ·exact h1.elim)
noncomputable def isiB (a T:String):Option Bool:=if T= "int" ∨T= "bool" ∨T= "list" ∨T= "tuple" ∨T= "str" then some (a==T||(a== "bool" &&T== "int")) else none
theorem zgA{K:PySem.W.Frag}{x:PyData}{T:String}{k:Bool}(h:isiB (tyD x) T=some k):PySem.W.kitOne K (.type (tyD x)) (.type T)=some k:=by
 unfold isiB at h
 split at h
 ·rename_i hT
  cases h
  rcases hT with rfl | rfl | rfl | rfl | rfl<;>cases x<;>kernel_rfl
 ·cases h
noncomputable def fIsi(T:String)(fa:EM FV):EM FV:=fun Γ=>(fa Γ).bind fun (u,Γ1)=>match (derf Γ1 u).bind fun x=>isiB (tyD x) T with
 |some k=>.ok (.dat (.bool k),Γ1)
 |none=>.bad
theorem J3 {x y:Str}{T:String}(B:BiK X x (.builtin "isinstance")) (BT:BiK X y (.type T)) (ha:SE X XP mp a fa) (hst:starEach [a,.Name y p2] X.env=(false,eval a X.env)::starEach [.Name y p2] X.env) :
  SE X XP mp (.Call (.Name x p) [a,.Name y p2] [] pos) (fIsi T fa):=fun M0 F Γ ν σ H Q rs hs hp=>
 (Zc zct B.gl B.mg B.bt (zy zg (zy (zdb (v:=.ty T) BT.gl BT.mg BT.bt rfl BT.n BT.d) pa_nil rfl) hst) B.n B.d hst rfl).wp (ha.run rs hs hp fun F1 Γ1 H1 u v rs1 s1 o1 h1=>by
  dsimp only at h1
  split at h1
  ·rename_i k ek
   cases ex:derf Γ1 u with
   |none=>rw[ex]at ek;cases ek
   |some z=>
    rw[ex]at ek
    exact⟨v,T,_,k,rfl,(o1.weak rs1 ex).ty,zgA ek,h1 F1 H1 rs1 (.refl _ _) _ (Rep.bool k)⟩
  ·exact h1.elim)
noncomputable def f2(g:PyData->PyData->Option PyData)(fa fb:EM FV):EM FV:=fun Γ=>(fa Γ).bind fun (u,Γ1)=>(fb Γ1).bind fun (w,Γ2)=>match derf Γ2 u,derf Γ2 w with
 |some x,some y=>match g x y with
  |some z=>.ok (.dat z,Γ2)
  |none=>.bad
 |_,_=>.bad
noncomputable def gMin:PyData->PyData->Option PyData
 |.int i,.int j=>some (.int (if j<i then j else i))
 |_,_=>none
noncomputable def gMax:PyData->PyData->Option PyData
 |.int i,.int j=>some (.int (if j>i then j else i))
 |_,_=>none
theorem zaQ{x y z:PyData}(h:gMin x y=some z):∃ i j,x=.int i/\y=.int j/\z=.int (if j<i then j else i):=by
 cases x<;>cases y<;>cases h
 exact⟨_,_,rfl,rfl,rfl⟩
theorem zaB{x y z:PyData}(h:gMax x y=some z):∃ i j,x=.int i/\y=.int j/\z=.int (if j>i then j else i):=by
 cases x<;>cases y<;>cases h
 exact⟨_,_,rfl,rfl,rfl⟩
theorem zdi {x:Str}(hc:X.calm=true) (B:BiK X x (.builtin "min")) (ha:SE X XP mp a fa) (hb:SE X XP mp b fb) (hst:starEach [a,b] X.env=(false,eval a X.env)::starEach [b] X.env) (hst2:starEach [b] X.env= [(false,eval b X.env)]) :
  SE X XP mp (.Call (.Name x p) [a,b] [] pos) (f2 gMin fa fb):=fun M0 F Γ ν σ H Q rs hs hp=>
 (Zc (K5 hc) B.gl B.mg B.bt (zy zg (zy zg pa_nil hst2) hst) B.n B.d hst (by rw[hst2];rfl)).wp (ha.run rs hs hp fun F1 Γ1 H1 u v rs1 s1 o1 h1=>hb.run rs1 hs h1 fun F2 Γ2 H2 w v2 rs2 s2 o2 h2=>by
  dsimp only at h2
  split at h2
  ·rename_i x y e1 e2
   split at h2
   ·rename_i z e3
    obtain⟨i,j,rfl,rfl,rfl⟩:=zaQ e3
    cases (o1.stp s2 rs1.al0).weak rs2 e1
    cases o2.weak rs2 e2
    exact⟨i,j,rfl,h2 F2 H2 rs2 (.refl _ _) _ (Rep.int _)⟩
   ·exact h2.elim
  ·exact h2.elim)
theorem zdJ {x:Str}(hc:X.calm=true) (B:BiK X x (.builtin "max")) (ha:SE X XP mp a fa) (hb:SE X XP mp b fb) (hst:starEach [a,b] X.env=(false,eval a X.env)::starEach [b] X.env) (hst2:starEach [b] X.env= [(false,eval b X.env)]) :
  SE X XP mp (.Call (.Name x p) [a,b] [] pos) (f2 gMax fa fb):=fun M0 F Γ ν σ H Q rs hs hp=>
 (Zc (zai hc) B.gl B.mg B.bt (zy zg (zy zg pa_nil hst2) hst) B.n B.d hst (by rw[hst2];rfl)).wp (ha.run rs hs hp fun F1 Γ1 H1 u v rs1 s1 o1 h1=>hb.run rs1 hs h1 fun F2 Γ2 H2 w v2 rs2 s2 o2 h2=>by
  dsimp only at h2
  split at h2
  ·rename_i x y e1 e2
   split at h2
   ·rename_i z e3
    obtain⟨i,j,rfl,rfl,rfl⟩:=zaB e3
    cases (o1.stp s2 rs1.al0).weak rs2 e1
    cases o2.weak rs2 e2
    exact⟨i,j,rfl,h2 F2 H2 rs2 (.refl _ _) _ (Rep.int _)⟩
   ·exact h2.elim
  ·exact h2.elim)
noncomputable def gNeg:PyData->Option PyData
 |.int i=>some (.int (-i))
 |_=>none
theorem zfB(ha:SE X XP mp a fa):SE X XP mp (.UnaryOp .USub a pos) (f1 gNeg fa):=fun M0 F Γ ν σ H Q rs hs hp=>
 (zeT zfY zg).wp (ha.run rs hs hp fun F1 Γ1 H1 u v rs1 s1 o1 h1=>by
  dsimp only at h1
  split at h1
  ·rename_i y ey
   cases ex:derf Γ1 u with
   |none=>rw[ex]at ey;cases ey
   |some x=>
    rw[ex]at ey
    cases x with
    |int i=>
     cases ey
     cases o1.weak rs1 ex
     exact⟨i,rfl,h1 F1 H1 rs1 (.refl _ _) _ (Rep.int _)⟩
    |_=>cases ey
  ·exact h1.elim)
open Classical in
noncomputable def binD(op:Operator)(x y:PyData):Option PyData:=match op,x,y with
 |.Add,.int i,.int j=>some (.int (i+j))
 |.Sub,.int i,.int j=>some (.int (i-j))
 |.Mult,.int i,.int j=>if (-(2 ^ 64)<i/\i<2 ^ 64)∨(-(2 ^ 64)<j/\j<2 ^ 64) then some (.int (i*j)) else none
 |.Mod,.int i,.int j=>if 0<j then some (.int (i % j)) else none
 |.FloorDiv,.int i,.int j=>if 0<j/\j<1073741824 then some (.int (i / j)) else none
 |.Pow,.int i,.int j=>if 0<=j/\j<=1000000/\i.natAbs<2 ^ 64 then some (.int (i ^ j.toNat)) else none
 |.LShift,.int i,.int j=>if 0<=j/\j<=1000000/\i.natAbs<2 ^ 64 then some (.int (i*2 ^ j.toNat)) else none
 |.RShift,.int i,.int j=>if 0<=j then some (.int (i / 2 ^ j.toNat)) else none
 |.BitAnd,.int i,.int j=>some (.int (Builtin.bitAnd i j))
 |.Add,.tuple a,.tuple b=>if a.length+b.length<=1000000 then some (.tuple (a++b)) else none
 |.Mult,.tuple a,.int n=>if 0<=n/\n<1000000/\a.length*n.toNat<=1000000 then some (.tuple (List.replicate n.toNat a).flatten) else none
 |_,_,_=>none
theorem Zn{op:Operator}{x y z:PyData}{i j k:Int}{C:Int->Int->Prop}{f:Int->Int->Int}(hc:C i j)(ho:OpR X (binaryOp op) (rI C fun i j=>.int (f i j))) :
  ∃ r:R2,OpR X (binaryOp op) r/\∀ (M:Addr->Prop) (H:Hp) (v u:V) (Q:VK),Al M H->Rep M H v (.int i)->Rep M H u (.int j)->(∀ w H',Same H H'->Rep M H' w (.int (f i j))->Q w H')->r v u H Q :=
 ⟨_,ho,fun M H v u Q _ r1 r2 k=>by cases r1;cases r2;exact⟨i,j,rfl,rfl,hc,k _ H (Same.refl H) (.int _)⟩⟩
theorem JV{op:Operator}{i j:Int}{f:Int->Int->Int}(ho:OpR X (binaryOp op) (rI0 fun i j=>.int (f i j))) :
  ∃ r:R2,OpR X (binaryOp op) r/\∀ (M:Addr->Prop) (H:Hp) (v u:V) (Q:VK),Al M H->Rep M H v (.int i)->Rep M H u (.int j)->(∀ w H',Same H H'->Rep M H' w (.int (f i j))->Q w H')->r v u H Q :=
 ⟨_,ho,fun M H v u Q _ r1 r2 k=>by cases r1;cases r2;exact⟨i,j,rfl,rfl,k _ H (Same.refl H) (.int _)⟩⟩
theorem zfM(op:Operator):OpS X (binaryOp op) (binD op):=fun x y z e=>by
 unfold binD at e
 split at e
 ·cases e;exact JV yY
 ·cases e;exact JV zf5
 ·split at e
  ·rename_i h;cases e;exact Zn (x:=.none) (y:=.none) (z:=.none) (k:=0) h zcE
  ·cases e
 ·split at e
  ·rename_i h;cases e;exact Zn (x:=.none) (y:=.none) (z:=.none) (k:=0) h za0
  ·cases e
 ·split at e
  ·rename_i h;cases e;exact Zn (x:=.none) (y:=.none) (z:=.none) (k:=0) h zdI
  ·cases e
 ·split at e
  ·rename_i h;cases e;exact Zn (x:=.none) (y:=.none) (z:=.none) (k:=0) h zgd
  ·cases e
 ·split at e
  ·rename_i h;cases e;exact Zn (x:=.none) (y:=.none) (z:=.none) (k:=0) h zfG
  ·cases e
 ·split at e
  ·rename_i h;cases e;exact Zn (x:=.none) (y:=.none) (z:=.none) (k:=0) (C:=fun _ j=>0<=j) h zf9
  ·cases e
 ·cases e;exact JV zfX
 ·split at e
  ·rename_i h
   cases e
   exact⟨_,zbD,fun M H v u Q _ q1 q2 k=>by
    obtain⟨l,vs,rfl,e,r⟩:=q1.tup_inv
    obtain⟨l2,vs2,rfl,e2,r2⟩:=q2.tup_inv
    refine⟨l,l2,vs,vs2,rfl,rfl,SqT.of e,SqT.of e2,by rw[r.length,r2.length];exact sz6 h,fun z=>k _ H (Same.refl H) ?_,fun z=>k _ H (Same.refl H) ?_,fun p np=>k _ _ (zM np) (.tuple zx ((r.append r2).grow (zM np).grow))⟩
    ·subst z
     cases r
     exact q2
    ·subst z
     cases r2
     rw[uf];exact q1⟩
  ·cases e
 ·split at e
  ·rename_i h
   cases e
   exact⟨_,zdw,fun M H v u Q _ q1 q2 k=>by
    obtain⟨l,vs,rfl,e,r⟩:=q1.tup_inv
    cases q2
    refine⟨l,_,vs,rfl,rfl,SqT.of e,by omega,by omega,by rw[r.length];exact sz6 h.2.2,fun hs=>k _ H (Same.refl H) ?_,fun p np=>k _ _ (zM np) (.tuple zx ((r.rep _).grow (zM np).grow))⟩
    rcases hs with z | z
    ·subst z
     cases r
     rename_i n _
     have:(List.replicate n.toNat ([]:List PyData)).flatten= []:=by simp
     rw[this];exact q1
    ·subst z
     have key:∀ l:List PyData,(List.replicate (1:Int).toNat l).flatten=l:=fun l=>by simp
     rw[key];exact q1⟩
  ·cases e
 ·cases e
noncomputable def lay:Nat->PyData->Bool
 |_,.none=>true
 |_,.bool _=>true
 |_,.int _=>true
 |_,.str x=>PyData.strOk x
 |n+1,.list xs=>xs.all (lay n)
 |n+1,.tuple xs=>xs.all (lay n)
 |_,_=>false
theorem vq{n:Nat}(ih:∀ d,lay n d=true->d.canLay0=true/\d.depth<=n):∀ xs:List PyData,xs.all (lay n)=true->PyData.canLayAll0 xs=true/\PyData.depthAll xs<=n
 |[],_=>⟨rfl,ui _⟩
 |x::r,h=>by
  rw[uH,xa]at h
  obtain⟨a,b⟩:=ih x h.1
  obtain⟨c,d⟩:=vq ih r h.2
  exact⟨by simp[PyData.canLayAll0,a,c],by simp only[PyData.depthAll];omega⟩
theorem jb:∀ (n:Nat) (d:PyData),lay n d=true->d.canLay0=true/\d.depth<=n
 |n,.none,_=>⟨rfl,ui _⟩
 |n,.bool _,_=>⟨rfl,ui _⟩
 |n,.int _,_=>⟨rfl,ui _⟩
 |n,.str _,h=>⟨by simpa [PyData.canLay0,lay] using h,ui _⟩
 |n+1,.list xs,h=>by
  obtain⟨a,b⟩:=vq (jb n) xs (by simpa [lay] using h)
  exact⟨by simpa [PyData.canLay0] using a,by simp only[PyData.depth];omega⟩
 |n+1,.tuple xs,h=>by
  obtain⟨a,b⟩:=vq (jb n) xs (by simpa [lay] using h)
  exact⟨by simpa [PyData.canLay0] using a,by simp only[PyData.depth];omega⟩
 |0,.list _,h=>by simp[lay]at h
 |0,.tuple _,h=>by simp[lay]at h
 |0,.dict _,h=>by simp[lay]at h
 |n+1,.dict _,h=>by simp[lay]at h
noncomputable def isN:PyData->Bool
 |.none=>true
 |_=>false
noncomputable def inD(x:PyData)(ys:List PyData):Bool:=ys.any fun y=>PyData.eqv y x
noncomputable def cmpD(op:CmpOp)(x y:PyData):Option Bool:=match op,x,y with
 |.Eq,x,y=>if lay 20 x&&lay 20 y then some (PyData.eqv x y) else none
 |.NotEq,x,y=>if lay 20 x&&lay 20 y then some (!PyData.eqv x y) else none
 |.Lt,.int i,.int j=>some (decide (i<j))
 |.LtE,.int i,.int j=>some (decide (i<=j))
 |.Gt,.int i,.int j=>some (decide (j<i))
 |.GtE,.int i,.int j=>some (decide (j<=i))
 |.In,x,.list ys=>if lay 20 x&&ys.all (lay 20) then some (inD x ys) else none
 |.In,x,.tuple ys=>if lay 20 x&&ys.all (lay 20) then some (inD x ys) else none
 |.NotIn,x,.list ys=>if lay 20 x&&ys.all (lay 20) then some (!inD x ys) else none
 |.NotIn,x,.tuple ys=>if lay 20 x&&ys.all (lay 20) then some (!inD x ys) else none
 |.Is,x,.none=>some (isN x)
 |.IsNot,x,.none=>some (!isN x)
 |_,_,_=>none
end
end L3
namespace L3
open PySem PySem.Spec PyProof.Rows L2
section
variable {X:Cx}
open Classical in
/-- is the value w equal to the data? -/
noncomputable def eqW(h:Heap)(dx:PyData)(w:Value):Bool:=if ∃ d as,Reads h w d as/\d.canLay0=true/\PyData.eqv d dx=true then true else false
theorem zaF{h:Heap}{dx d:PyData}{w:Value}{as:List Addr}(r:Reads h w d as)(hl:d.canLay0=true):eqW h dx w=PyData.eqv d dx:=by
 unfold eqW
 cases e:PyData.eqv d dx with
 |true=>rw[if_pos ⟨d,as,r,hl,e⟩]
 |false=>
  rw[if_neg]
  rintro⟨d',as',r',hl',e'⟩
  have:=SeqAt.Reads.unique d d' w as as' hl r r'
  rw[<- this,e]at e';cases e'
theorem Qv{h:Heap}{dx:PyData}:∀ {us:List Value}{ys:List PyData}{as:List Addr},ReadsAll h us ys as->ys.all (lay 20)=true->us.any (eqW h dx)=inD dx ys
 |_,_,_,.nil,_=>rfl
 |_,_,_,.cons r t,hl=>by
  rw[uH,xa]at hl
  unfold inD
  rw[uD,uD,zaF r (jb 20 _ hl.1).1,Qv t hl.2];rfl
theorem Qe{A:Around}{s:Shared}{dx:PyData}{v:Value}{bs:List Addr}(rx:Reads s.heap v dx bs)(hx:lay 20 dx=true)(hu:∀ n,n<=60->A.units+n<cLine):∀ {us:List Value}{ys:List PyData}{as:List Addr},ReadsAll s.heap us ys as->ys.all (lay 20)=true->∀ u∈us,SeqAt.EqAt A s u v (eqW s.heap dx u)
 |_,_,_,.nil,_=>fun u hu=>by cases hu
 |_,_,_,.cons (d:=d) r t,hl=>fun u' hu'=>by
  rw[uH,xa]at hl
  rcases xm.mp hu' with rfl | hu'
  ·rw[zaF r (jb 20 _ hl.1).1]
   have h1:=jb 20 _ hl.1
   have h2:=jb 20 _ hx
   exact SeqAt.eqAt_reads _ _ _ _ _ _ _ _ r rx h1.1 h2.1 (hu _ (xL (Nat.min_le_left _ _) (by omega)))
  ·exact Qe rx hx hu t hl.2 u' hu'
noncomputable def zhA(K:PySem.W.Frag)(neg:Bool):R2:=fun x y H Q=>∃ M M' dx ys p vs,Rep M H x dx/\y=.ref p/\(SqL K H p vs∨SqT K H p vs)/\RepL M' H vs ys/\lay 20 dx=true/\ys.all (lay 20)=true/\Q (.bl (if neg then !inD dx ys else inD dx ys)) H
theorem zbR(hr:Room 1 X.A):OpR X (compareOp .In) (zhA X.K false):=by
 intro pins s σ H x y v u Q I rx ry h
 obtain⟨M,M',dx,ys,p,vs,r1,rfl,hq,r2,l1,l2,q⟩:=h
 cases ry
 obtain⟨bs,z1⟩:=r1.reads I.hok rx
 have hu:∀ n,n<=60->X.A.in1.units+n<cLine:=(hr.in1).u60
 rcases hq with hq | hq
 ·obtain⟨its,r,pl,hz⟩:=I.list hq
  obtain⟨as,z2⟩:=r2.reads I.hok r
  refine SeqAt.in_listAt (eqW s.heap dx) pl.isList (fun w hw=>Qe z1 l1 hu z2 l2 w (by simpa using hw)) ⟨.bl _,H,I,rfl,?_⟩
  rw[show its.toArray.any (eqW s.heap dx)=its.any (eqW s.heap dx) by simp,Qv z2 l2]
  exact q
 ·obtain⟨its,r,pl,hz⟩:=I.tuple hq
  obtain⟨as,z2⟩:=r2.reads I.hok r
  refine SeqAt.in_tupleAt (eqW s.heap dx) pl (fun w hw=>Qe z1 l1 hu z2 l2 w (by simpa using hw)) ⟨.bl _,H,I,rfl,?_⟩
  rw[show its.toArray.any (eqW s.heap dx)=its.any (eqW s.heap dx) by simp,Qv z2 l2]
  exact q
theorem Wm(hr:Room 1 X.A):OpR X (compareOp .NotIn) (zhA X.K true):=by
 intro pins s σ H x y v u Q I rx ry h
 obtain⟨M,M',dx,ys,p,vs,r1,rfl,hq,r2,l1,l2,q⟩:=h
 cases ry
 obtain⟨bs,z1⟩:=r1.reads I.hok rx
 have hu:∀ n,n<=60->X.A.in1.units+n<cLine:=(hr.in1).u60
 rcases hq with hq | hq
 ·obtain⟨its,r,pl,hz⟩:=I.list hq
  obtain⟨as,z2⟩:=r2.reads I.hok r
  refine SeqAt.notIn_listAt (eqW s.heap dx) pl.isList (fun w hw=>Qe z1 l1 hu z2 l2 w (by simpa using hw)) ⟨.bl _,H,I,rfl,?_⟩
  rw[show its.toArray.any (eqW s.heap dx)=its.any (eqW s.heap dx) by simp,Qv z2 l2]
  exact q
 ·obtain⟨its,r,pl,hz⟩:=I.tuple hq
  obtain⟨as,z2⟩:=r2.reads I.hok r
  refine SeqAt.notIn_tupleAt (eqW s.heap dx) pl (fun w hw=>Qe z1 l1 hu z2 l2 w (by simpa using hw)) ⟨.bl _,H,I,rfl,?_⟩
  rw[show its.toArray.any (eqW s.heap dx)=its.any (eqW s.heap dx) by simp,Qv z2 l2]
  exact q
theorem JS{M:Addr->Prop}{H:Hp}{v:V}{x:PyData}(r:Rep M H v x):decide (v=.non)=isN x:=by
 cases r<;>rfl
theorem QU(hr:Room 1 X.A)(op:CmpOp):VD X op (cmpD op):=fun x y z e=>by
 have h60:∀ n,n<=60->X.A.units+n<cLine:=hr.u60
 unfold cmpD at e
 split at e
 ·split at e
  ·rename_i h
   cases e
   rw[xa]at h
   have h1:=jb 20 _ h.1
   have h2:=jb 20 _ h.2
   exact⟨_,K7 h60,fun H v u Q r1 r2 k=>⟨_,_,_,_,r1,r2,h1.1,h2.1,xL (Nat.min_le_left _ _) (by omega),k⟩⟩
  ·cases e
 ·split at e
  ·rename_i h
   cases e
   rw[xa]at h
   have h1:=jb 20 _ h.1
   have h2:=jb 20 _ h.2
   exact⟨_,Ks h60,fun H v u Q r1 r2 k=>⟨_,_,_,_,r1,r2,h1.1,h2.1,xL (Nat.min_le_left _ _) (by omega),k⟩⟩
  ·cases e
 ·cases e;exact⟨_,zhH,fun H v u Q r1 r2 k=>by cases r1;cases r2;exact⟨_,_,rfl,rfl,k⟩⟩
 ·cases e;exact⟨_,zgX,fun H v u Q r1 r2 k=>by cases r1;cases r2;exact⟨_,_,rfl,rfl,k⟩⟩
 ·cases e;exact⟨_,zgZ,fun H v u Q r1 r2 k=>by cases r1;cases r2;exact⟨_,_,rfl,rfl,k⟩⟩
 ·cases e;exact⟨_,zgV,fun H v u Q r1 r2 k=>by cases r1;cases r2;exact⟨_,_,rfl,rfl,k⟩⟩
 ·split at e
  ·rename_i h
   cases e
   rw[xa]at h
   exact⟨_,zbR hr,fun H v u Q r1 r2 k=>by
    obtain⟨l,vs,rfl,el,_,rl⟩:=r2.lst_inv
    exact⟨_,_,_,_,l,vs,r1,rfl,.inl (SqL.of el),rl,h.1,h.2,k⟩⟩
  ·cases e
 ·split at e
  ·rename_i h
   cases e
   rw[xa]at h
   exact⟨_,zbR hr,fun H v u Q r1 r2 k=>by
    obtain⟨l,vs,rfl,el,rl⟩:=r2.tup_inv
    exact⟨_,_,_,_,l,vs,r1,rfl,.inr (SqT.of el),rl,h.1,h.2,k⟩⟩
  ·cases e
 ·split at e
  ·rename_i h
   cases e
   rw[xa]at h
   exact⟨_,Wm hr,fun H v u Q r1 r2 k=>by
    obtain⟨l,vs,rfl,el,_,rl⟩:=r2.lst_inv
    exact⟨_,_,_,_,l,vs,r1,rfl,.inl (SqL.of el),rl,h.1,h.2,k⟩⟩
  ·cases e
 ·split at e
  ·rename_i h
   cases e
   rw[xa]at h
   exact⟨_,Wm hr,fun H v u Q r1 r2 k=>by
    obtain⟨l,vs,rfl,el,rl⟩:=r2.tup_inv
    exact⟨_,_,_,_,l,vs,r1,rfl,.inr (SqT.of el),rl,h.1,h.2,k⟩⟩
  ·cases e
 ·cases e
  exact⟨_,zf8,fun H v u Q r1 r2 k=>by cases r2;exact⟨rfl,by rw[JS r1];exact k⟩⟩
 ·cases e
  exact⟨_,zep,fun H v u Q r1 r2 k=>by
   cases r2
   refine⟨rfl,?_⟩
   rw[JS r1];exact k⟩
 ·cases e
end
mutual
inductive IT where
 |nm (s i:Nat)
 |tp (ts:ITs)
inductive ITs where
 |nil
 |cons (t:IT) (ts:ITs)
end
mutual
/-- what a store makes of the frame -/
noncomputable def tgF:IT->PyData->Gv->Option Gv
 |.nm _ i,x,Γ=>if i<Γ.length then some (Γ.set i (some (.d x))) else none
 |.tp ts,.tuple xs,Γ=>tgFs ts xs Γ
 |_,_,_=>none
noncomputable def tgFs:ITs->List PyData->Gv->Option Gv
 |.nil,[],Γ=>some Γ
 |.cons t ts,x::xs,Γ=>(tgF t x Γ).bind fun Γ=>tgFs ts xs Γ
 |_,_,_=>none
end
noncomputable def ITs.len:ITs->Nat
 |.nil=>0
 |.cons _ ts=>ts.len+1
theorem yx:∀ {ts:ITs}{ds:List PyData}{Γ Γ':Gv},tgFs ts ds Γ=some Γ'->ds.length=ts.len
 |.nil,[],_,_,_=>rfl
 |.nil,_::_,_,_,e=>by simp[tgFs]at e
 |.cons t ts,[],_,_,e=>by simp[tgFs]at e
 |.cons t ts,d::ds,Γ,Γ',e=>by
  rw[tgFs]at e
  cases q:tgF t d Γ with
  |none=>rw[q]at e;cases e
  |some Γ1=>rw[q]at e;rw[xl,yx (ts:=ts) e];rfl
theorem Ys(t:IT):∀ (d:PyData) (Γ Γ':Gv),tgF t d Γ=some Γ'->Γ'.length=Γ.length:=by
 refine IT.rec (motive_1:=fun t=>∀ (d:PyData) (Γ Γ':Gv),tgF t d Γ=some Γ'->Γ'.length=Γ.length) (motive_2:=fun ts=>∀ (ds:List PyData) (Γ Γ':Gv),tgFs ts ds Γ=some Γ'->Γ'.length=Γ.length) ?_ ?_ ?_ ?_ t
 ·intro s i d Γ Γ' e
  rw[tgF]at e
  split at e
  ·cases e;simp
  ·cases e
 ·intro ts ih d Γ Γ' e
  cases d with
  |tuple xs=>rw[tgF]at e;exact ih _ _ _ e
  |_=>simp[tgF]at e
 ·intro ds Γ Γ' e
  cases ds with
  |nil=>simp[tgFs]at e;rw[e]
  |cons=>simp[tgFs]at e
 ·intro t ts ih1 ih2 ds Γ Γ' e
  cases ds with
  |nil=>simp[tgFs]at e
  |cons d ds=>
   rw[tgFs]at e
   cases q:tgF t d Γ with
   |none=>rw[q]at e;cases e
   |some Γ1=>rw[q]at e;rw[ih2 _ _ _ e,ih1 _ _ _ q]
noncomputable def SG(X:Cx)(mp:List Nat)(kp:Nat->Prop)(tg:Expr)(t:IT):Prop:=∀ (M0:Addr->Prop) (F:Fp) (Γ Γ':Gv) (ν:Nu) (σ:St) (H:Hp) (v:V) (d:PyData) (Q:St->Hp->Prop),RS M0 F Γ ν H->Sees mp ν σ->σ.length=X.N.length->Rep (MM M0 F) H v d ->
 tgF t d Γ=some Γ'->(∀ F' ν' σ',RS M0 F' Γ' ν' H->Stp F H F' H->Sees mp ν' σ'->σ'.length=X.N.length->(∀ i:Nat,kp i->ν'[i]?=ν[i]?)->(∀ s i:Nat,mp[s]?=some i->kp i->σ'[s]?=σ[s]?)->Q σ' H)->wpG X tg v σ H Q
noncomputable def SGs(X:Cx)(mp:List Nat)(kp:Nat->Prop)(tgs:List Expr)(ts:ITs):Prop:=∀ (M0:Addr->Prop) (F:Fp) (Γ Γ':Gv) (ν:Nu) (σ:St) (H:Hp) (vs:List V) (ds:List PyData) (Q:St->Hp->Prop),RS M0 F Γ ν H->Sees mp ν σ->σ.length=X.N.length->RepL (MM M0 F) H vs ds ->
 tgFs ts ds Γ=some Γ'->(∀ F' ν' σ',RS M0 F' Γ' ν' H->Stp F H F' H->Sees mp ν' σ'->σ'.length=X.N.length->(∀ i:Nat,kp i->ν'[i]?=ν[i]?)->(∀ s i:Nat,mp[s]?=some i->kp i->σ'[s]?=σ[s]?)->Q σ' H)->zfo X tgs vs σ H Q
section
variable {X:Cx} {mp:List Nat} {kp:Nat->Prop} {tg:Expr} {tgs:List Expr} {t:IT} {ts:ITs} {pos:Pos}
theorem Sees.set{ν:Nu}{σ:St}{s i:Nat}{v:V}(h:Sees mp ν σ)(hn:mp.Nodup)(hm:mp[s]?=some i)(hs:s<σ.length):Sees mp (ν.set i (some v)) (σ.set s (some v)):=fun s' j w e1 e2=>by
 by_cases hj:i=j
 ·subst hj
  have:s'=s:=by
   have h1:=(xc.mp e1).1
   have h2:=(xc.mp hm).1
   exact (List.getElem?_inj h1 hn).mp (by rw[e1,hm])
  subst this
  rw[xt hs]
  by_cases hl:i<ν.length
  ·rw[xt hl]at e2;rw[e2]
  ·rw[xj (by simpa using hl)]at e2;cases e2
 ·rw[xv hj]at e2
  have:s'≠s:=fun z=>hj (by subst z;rw[hm]at e1;exact Option.some.inj e1)
  rw[xv (Ne.symm this)]
  exact h s' j w e1 e2
theorem zdg{s i:Nat}{x:Str}(hN:X.N.Nodup)(hn:mp.Nodup)(hi:X.N[s]?=some x)(hm:mp[s]?=some i)(hlo:¬ kp i)(hx:Loc X.env.scope x)(hf:X.fn x=true∨X.env.scope.names.lookup x=some .local):SG X mp kp (.Name x pos) (.nm s i) :=
 fun M0 F Γ Γ' ν σ H v d Q rs hs hl r e k=>by
  rw[tgF]at e
  split at e
  ·rename_i hi'
   cases e
   have hsl:s<σ.length:=by rw[hl];exact (xc.mp hi).1
   obtain⟨F',rs',s'⟩:=rs.setD r hi'
   refine (kM hN hi hx hf).wp (k F' _ _ rs' s' (hs.set hn hm hsl) (by simpa using hl) (fun j hj=>?_) (fun s2 j e2 hj=>?_))
   ·rw[xv (fun z=>hlo (by rw[z];exact hj))]
   ·rw[xv]
    intro z
    subst z
    rw[hm]at e2
    cases e2
    exact hlo hj
  ·cases e
theorem zdY:SGs X mp kp [] .nil:=fun M0 F Γ Γ' ν σ H vs ds Q rs hs hl r e k=>by
 cases r with
 |nil=>
  simp[tgFs]at e
  subst e
  exact pgs_nil.wp ⟨rfl,k F ν σ rs (.refl _ _) hs hl (fun _ _=>rfl) (fun _ _ _ _=>rfl)⟩
 |cons r rr=>simp[tgFs]at e
theorem zcs(h1:SG X mp kp tg t)(h2:SGs X mp kp tgs ts)(hst:(assignEach (tg::tgs) X.env).map (·.2)=assign tg X.env::(assignEach tgs X.env).map (·.2)):SGs X mp kp (tg::tgs) (.cons t ts):=fun M0 F Γ Γ' ν σ H vs ds Q rs hs hl r e k=>by
 cases r with
 |nil=>simp[tgFs]at e
 |cons r rr=>
  rename_i v vs d ds
  rw[tgFs]at e
  cases e1:tgF t d Γ with
  |none=>rw[e1]at e;cases e
  |some Γ1=>
   rw[e1]at e
   refine (zaU vS yg hst).wp ⟨v,vs,rfl,h1 M0 F Γ Γ1 ν σ H v d _ rs hs hl r e1 fun F1 ν1 σ1 rs1 s1 hs1 hl1 n1 m1=>?_⟩
   exact h2 M0 F1 Γ1 Γ' ν1 σ1 H vs ds _ rs1 hs1 hl1 (qf s1 rs.al0 rr) e fun F2 ν2 σ2 rs2 s2 hs2 hl2 n2 m2=>k F2 ν2 σ2 rs2 (s1.trans s2) hs2 hl2 (fun i hi=>(n2 i hi).trans (n1 i hi)) (fun s i e hi=>(m2 s i e hi).trans (m1 s i e hi))
theorem ze7{n:Nat}(hc:X.calm=true)(h:SGs X mp kp tgs ts)(hl:ts.len=(assignEach tgs X.env).length)(hst:(assignEach tgs X.env).findIdx? (·.1)=none):SG X mp kp (.Tuple tgs n pos) (.tp ts):=fun M0 F Γ Γ' ν σ H v d Q rs hs hl' r e k=>by
 cases d with
 |tuple ds=>
  rw[tgF]at e
  obtain⟨a,vs,rfl,ea,rr⟩:=r.tup_inv
  exact (zgz hc yg rfl hst).wp ⟨a,vs,rfl,SqT.of ea,by rw[rr.length,yx e,hl],h M0 F Γ Γ' ν σ H vs ds Q rs hs hl' rr e k⟩
 |_=>simp[tgF]at e
end
end L3
namespace L3
open PySem PySem.Spec PyProof.Rows L2
noncomputable def JI(M0:Addr->Prop)(F:Fp)(J:It)(ds:List PyData)(H1:Hp):Prop:=∀ (i:Nat) (F':Fp) (H':Hp),Stp F H1 F' H'->(∀ a,M0 a->H1 a≠none) ->
 (∀ d,ds[i]?=some d->J.go i H'/\∀ x H2,J.yld i H' x H2->Same H' H2/\Rep (MM M0 F') H2 x d)/\(ds.length<=i->J.stop i H')
noncomputable def SI(X:Cx)(XP:XPT)(mp:List Nat)(tg iter:Expr)(f:EM (List PyData)):Prop:=∀ (M0:Addr->Prop) (F:Fp) (Γ:Gv) (ν:Nu) (σ:St) (H:Hp) (R:It->Hp->Prop),RS M0 F Γ ν H->Sees mp ν σ ->
 EPost M0 F ν σ H XP (fun F' Γ' H' ds=>∀ J,JI M0 F' J ds H'->R J H') (f Γ)->wpI X tg iter σ H R
section
variable {X:Cx} {XP:XPT} {mp:List Nat} {a b c e tg iter elt:Expr} {es ifs:List Expr} {pos p p2:Pos} {fa fb fc:EM FV} {ta tb:EM Bool} {na nb:EM (List PyData)}
noncomputable def fSeqL(fa:EM FV):EM (List PyData):=fun Γ=>(fa Γ).bind fun (u,Γ1)=>match derS Γ1 u with
 |some (.list ds)=>.ok (ds,Γ1)
 |_=>.bad
noncomputable def fSeqT(fa:EM FV):EM (List PyData):=fun Γ=>(fa Γ).bind fun (u,Γ1)=>match derS Γ1 u with
 |some (.tuple ds)=>.ok (ds,Γ1)
 |_=>.bad
theorem zdS{M0:Addr->Prop}{F:Fp}{K:PySem.W.Frag}{H1:Hp}{l:Addr}{ds:List PyData}{vs:List V}(e:H1 l=some (.lst vs))(n:¬ MM M0 F l)(r:RepL (MM M0 F) H1 vs ds):JI M0 F (Itl K l) ds H1:=fun i F' H' s h0=>by
 have e':H' l=some (.lst vs):=(s.keep l _ e fun j hj=>n (.inr ⟨j,hj⟩)).1
 refine⟨fun d hd=>?_,fun hl=>⟨vs,SqL.of e',by rw[r.length];exact hl⟩⟩
 obtain⟨v,hv,rv⟩:=r.get' hd
 exact⟨⟨vs,v,SqL.of e',hv⟩,fun x H2 ⟨e2,y⟩=>by
  subst e2
  have:=y vs (SqL.of e')
  rw[hv]at this;cases this
  exact⟨Same.refl _,zJ s h0 rv⟩⟩
theorem zgO{M0:Addr->Prop}{F:Fp}{K:PySem.W.Frag}{H1:Hp}{l:Addr}{ds:List PyData}{vs:List V}(e:H1 l=some (.tup vs))(r:RepL (MM M0 F) H1 vs ds):JI M0 F (Itt K l) ds H1:=fun i F' H' s h0=>by
 have e':H' l=some (.tup vs):=s.tups l _ e
 refine⟨fun d hd=>?_,fun hl=>⟨vs,SqT.of e',by rw[r.length];exact hl⟩⟩
 obtain⟨v,hv,rv⟩:=r.get' hd
 exact⟨⟨vs,v,SqT.of e',hv⟩,fun x H2 ⟨e2,y⟩=>by
  subst e2
  have:=y vs (SqT.of e')
  rw[hv]at this;cases this
  exact⟨Same.refl _,zJ s h0 rv⟩⟩
theorem zdf(ha:SE X XP mp iter fa):SI X XP mp tg iter (fSeqL fa):=fun M0 F Γ ν σ H R rs hs hp=>
 (YY zg).wp (ha.run rs hs hp fun F1 Γ1 H1 u v rs1 s1 o1 h1=>by
  dsimp only at h1
  split at h1
  ·rename_i ds eu
   obtain⟨l,vs,rfl,e,n,r⟩:=(o1.strong rs1 eu).lst_inv
   exact⟨l,rfl,⟨vs,SqL.of e⟩,h1 F1 H1 rs1 (.refl _ _) _ (zdS e n r)⟩
  ·exact h1.elim)
theorem zgB(ha:SE X XP mp iter fa):SI X XP mp tg iter (fSeqT fa):=fun M0 F Γ ν σ H R rs hs hp=>
 (zfE zg).wp (ha.run rs hs hp fun F1 Γ1 H1 u v rs1 s1 o1 h1=>by
  dsimp only at h1
  split at h1
  ·rename_i ds eu
   obtain⟨l,vs,rfl,e,r⟩:=(o1.strong rs1 eu).tup_inv
   exact⟨l,rfl,⟨vs,SqT.of e⟩,h1 F1 H1 rs1 (.refl _ _) _ (zgO e r)⟩
  ·exact h1.elim)
noncomputable def fRange(fa:EM FV):EM (List PyData):=fun Γ=>(fa Γ).bind fun (u,Γ1)=>match derf Γ1 u with
 |some (.int n)=>if -1000000<=n/\n<=1000000 then .ok (zo n.toNat,Γ1) else .bad
 |_=>.bad
theorem za7{M0:Addr->Prop}{F:Fp}(n:Nat)(H1:Hp):JI M0 F (Itr 0 n) (zo n) H1:=fun i F' H' s h0=>by
 refine⟨fun d hd=>?_,fun hl=>?_⟩
 ·obtain⟨hi,rfl⟩:=jd hd
  exact⟨hi,fun x H2 ⟨e,y⟩=>by subst e y;exact⟨Same.refl _,by rw[show (0:Int)+(i:Int)=i by omega];exact .int _⟩⟩
 ·show n<=i
  simpa [zi] using hl
theorem zbW {x:Str}(B:BiK X x (.type "range")) (ex:x= "range") (ha:SE X XP mp a fa) (hst:starEach [a] X.env= [(false,eval a X.env)]):SI X XP mp tg (.Call (.Name x p) [a] [] pos) (fRange fa):=fun M0 F Γ ν σ H R rs hs hp=>by
 subst ex
 exact (zah B.gl B.mg (zy zg pa_nil hst) hst).wp (ha.run rs hs hp fun F1 Γ1 H1 u v rs1 s1 o1 h1=>by
  dsimp only at h1
  split at h1
  ·rename_i n eu
   split at h1
   ·rename_i hn
    cases o1.weak rs1 eu
    exact⟨n,rfl,by omega,by omega,h1 F1 H1 rs1 (.refl _ _) _ (za7 n.toNat H1)⟩
   ·exact h1.elim
  ·exact h1.elim)
noncomputable def SF(X:Cx)(XP:XPT)(mp:List Nat)(ifs:List Expr)(f:EM Bool):Prop:=∀ (M0:Addr->Prop) (F:Fp) (Γ:Gv) (ν:Nu) (σ:St) (H:Hp) (Q:Bool->Hp->Prop),RS M0 F Γ ν H->Sees mp ν σ ->
 EPost M0 F ν σ H XP (fun F' Γ' H' b=>Q b H') (f Γ)->wpF X ifs σ H Q
noncomputable def fYes:EM Bool:=fun Γ=>.ok (true,Γ)
theorem zgH:SF X XP mp [] fYes:=fun M0 F Γ ν σ H Q rs hs hp=>pf_nil.wp (hp F H rs (.refl _ _))
theorem zgN(h:ST X XP mp c ta):SF X XP mp [c] ta:=fun M0 F Γ ν σ H Q rs hs hp=>(zgm qR).wp (h M0 F Γ ν σ H Q rs hs hp)
noncomputable def qC(k:Nat)(t:IT)(cond:EM Bool)(elt:EM FV):List PyData->List PyData->Gv->R (List PyData×Gv)
 |[],ys,Γ=>.ok (ys,Γ)
 |d::ds,ys,Γ=>match tgF t d (Γ++List.replicate k none) with
  |none=>.bad
  |some Γ2=>match cond Γ2 with
   |.ok (true,Γ3)=>match elt Γ3 with
    |.ok (u,Γ4)=>match derS Γ4 u with
     |some y=>qC k t cond elt ds (ys++ [y]) (Γ4.take Γ.length)
     |none=>.bad
    |_=>.bad
   |.ok (false,Γ3)=>qC k t cond elt ds ys (Γ3.take Γ.length)
   |_=>.bad
noncomputable def fComp(n k:Nat)(t:IT)(src:EM (List PyData))(cond:EM Bool)(elt:EM FV):EM (List PyData):=fun Γ=>(src Γ).bind fun (ds,Γ1)=>if ds.length<=1000000/\Γ1.length=n then qC k t cond elt ds [] Γ1 else .bad
noncomputable abbrev XP0:XPT:=fun _ _ _ _ _ _=>False
noncomputable def mpC(mp:List Nat)(n k:Nat)(ix:List Nat):List Nat:=(List.range k).map (n+·)++ix.map fun i=>mp.getD i 0
theorem zfN{mp:List Nat}{n k:Nat}{ix:List Nat}{s:Nat}(h:s<k):(mpC mp n k ix)[s]?=some (n+s):=by
 unfold mpC
 rw[xf (by simpa using h),xg,xY h];rfl
theorem zbP{mp:List Nat}{n k:Nat}{ix:List Nat}{j:Nat}:(mpC mp n k ix)[k+j]?=(ix[j]?).map fun i=>mp.getD i 0:=by
 unfold mpC
 rw[xh (by simp),xg]
 simp
theorem yK{N':List Str}{scope:Scope}{n k:Nat}{ix:List Nat}{t:IT}{cond:EM Bool}{el:EM FV}{M0:Addr->Prop}{F1:Fp}{ν:Nu}{σ:St}{H1:Hp}{J:It}{ds:List PyData}{P:Fp->Gv->Hp->List PyData->Prop}{Γ1:Gv}{Q:List V->Hp->Prop}
  (hm:∀ j i:Nat,ix[j]?=some i->∃ m,mp[i]?=some m/\m<n) (hN':N'.length=k+ix.length)
  (hg:∀ cl C s2 H2 fp,SG (X.comp N' scope cl C s2 H2 fp) (mpC mp n k ix) (·<n) tg t) (hc:∀ cl C s2 H2 fp,SF (X.comp N' scope cl C s2 H2 fp) XP0 (mpC mp n k ix) ifs cond) (he:∀ cl C s2 H2 fp,SE (X.comp N' scope cl C s2 H2 fp) XP0 (mpC mp n k ix) elt el)
  (rs1:RS M0 F1 Γ1 ν H1) (hs:Sees mp ν σ) (hJ:JI M0 F1 J ds H1) (hd:ds.length<=1000000) (hn:Γ1.length=n) (hp:EPost M0 F1 ν σ H1 XP P (qC k t cond el ds [] Γ1))
  (fin:∀ F' Γ' H' ys vs,RS M0 F' Γ' ν H'->RepL (MM M0 F') H' vs ys->P F' Γ' H' ys->Q vs H') :
  zgh k ix (gU X N' scope tg) (fU X N' scope ifs) (eU X N' scope elt) σ J H1 Q:=by
 have hνn:ν.length=n:=by rw[rs1.len,hn]
 refine⟨fun i m vs H=>m=ds.length-i/\i<=ds.length/\∃ F' Γ' ys,RS M0 F' Γ' ν H/\Stp F1 H1 F' H/\RepL (MM M0 F') H vs ys/\Γ'.length=n/\ys.length<=i/\EPost M0 F' ν σ H XP P (qC k t cond el (ds.drop i) ys Γ'),⟨ds.length,by simp,ui _,F1,Γ1,[],rs1,.refl _ _,.nil,hn,xn _,hp⟩,?_⟩
 rintro i m vs H ⟨rfl,hil,F',Γ',ys,rs,st,rv,hln,hyl,hp⟩
 have hsz:=sizeLine_eq
 refine⟨by rw[rv.length];omega,?_⟩
 obtain⟨jgo,jst⟩:=hJ i F' H st rs1.al0
 by_cases hlt:i<ds.length
 ·obtain⟨go,yl⟩:=jgo ds[i] (by simp[hlt])
  refine .inr ⟨go,fun vs' H'=>∃ F'' Γ'' ys',RS M0 F'' Γ'' ν H'/\Stp F1 H1 F'' H'/\RepL (MM M0 F'') H' vs' ys'/\Γ''.length=n/\ys'.length<=i+1/\EPost M0 F'' ν σ H' XP P (qC k t cond el (ds.drop (i+1)) ys' Γ''),fun vs' H' h=>⟨ds.length-(i+1),by omega,rfl,hlt,h⟩,fun x H2 hy=>?_⟩
  obtain⟨s2,rx⟩:=yl x H2 hy
  rw[List.drop_eq_getElem_cons hlt,qC]at hp
  have rs2:=(rs.same s2).ext k
  have hcl:(cS k ix σ).length=N'.length:=by unfold cS;simp[hN']
  have hsee:Sees (mpC mp n k ix) (ν++List.replicate k none) (cS k ix σ):=fun s j v e1 e2=>by
   by_cases hsk:s<k
   ·rw[zfN hsk]at e1
    cases e1
    rw[xh (by omega),xS]at e2
    split at e2<;>cases e2
   ·obtain⟨j',rfl⟩:∃ j',s=k+j':=⟨s-k,by omega⟩
    rw[zbP]at e1
    cases q:ix[j']? with
    |none=>rw[q]at e1;cases e1
    |some i0=>
     rw[q]at e1
     obtain⟨m,hm1,hm2⟩:=hm j' i0 q
     have:mp.getD i0 0=m:=by rw[List.getD_eq_getElem?_getD,hm1];rfl
     have ej:m=j:=by
      have e3:some (mp.getD i0 0)=some j:=e1
      rw[this]at e3;exact Option.some.inj e3
     subst ej
     rw[xf (by omega)]at e2
     exact zfK q (hs i0 m v hm1 e2)
  cases et:tgF t ds[i] (Γ'++List.replicate k none) with
  |none=>rw[et]at hp;exact hp.elim
  |some Γ2=>
   rw[et]at hp
   intro cl C s2' H2' fp
   refine hg cl C s2' H2' fp M0 F' _ Γ2 _ (cS k ix σ) H2 x ds[i] _ rs2 hsee hcl rx et fun F3 ν3 σ3 rs3 s3 hs3 hl3 n3 m3=>⟨?_,fun cl C s2' H2' fp=>?_⟩
   ·apply xU
    intro j
    rw[List.getElem?_drop,List.getElem?_drop]
    by_cases hj:j<ix.length
    ·obtain⟨m,hm1,hm2⟩:=hm j ix[j] (by simp[hj])
     refine m3 (k+j) m ?_ hm2
     rw[zbP,xb hj]
     show some (mp.getD ix[j] 0)=some m
     rw[List.getD_eq_getElem?_getD,hm1];rfl
    ·have hl3':σ3.length=N'.length:=hl3
     rw[xj (by omega),xj (by omega)]
   ·have stA:Stp F1 H1 F3 H2:=(st.trans (.same s2)).trans s3
    have back:∀ {F4:Fp} {Γ4:Gv} {H4:Hp},RS M0 F4 Γ4 ν3 H4->RS M0 (wx F4 n) (Γ4.take n) ν H4/\Stp F4 H4 (wx F4 n) H4:=fun {F4 Γ4 H4} r4=>by
     obtain⟨r5,s5⟩:=r4.cut n
     have:ν3.take n=ν:=by
      apply xU
      intro j
      by_cases hj:j<n
      ·rw[xX hj,n3 j hj,xf (by omega)]
      ·rw[xj (by rw[xW];omega),xj (by omega)]
     rw[this]at r5
     exact⟨r5,s5⟩
    have hlen3:Γ2.length=n+k:=by
     rw[Ys _ _ _ _ et,xw,uE,hln]
    have lenOf:∀ {F4:Fp} {Γ4:Gv} {H4:Hp},RS M0 F4 Γ4 ν3 H4->(Γ4.take n).length=n:=fun {F4 Γ4 H4} r4=>by
     have h1:=r4.len
     have h2:=rs3.len
     rw[xW];omega
    refine hc cl C s2' H2' fp M0 F3 Γ2 ν3 σ3 H2 _ rs3 hs3 ?_
    dsimp only at hp
    cases ec:cond Γ2 with
    |bad=>rw[ec]at hp;exact hp.elim
    |exc xx yy=>rw[ec]at hp;exact hp.elim
    |ok z=>
     obtain⟨bb,Γ3⟩:=z
     rw[ec]at hp
     intro F4 H4 rs4 s4
     cases bb with
     |false=>
      refine Vr ?_
      obtain⟨r5,s5⟩:=back rs4
      have stB:=(stA.trans s4).trans s5
      rw[hln]at hp
      refine⟨_,_,ys,r5,stB,?_,lenOf rs4,by omega,?_⟩
      ·exact qf s5 rs4.al0 (qf s4 rs3.al0 (qf s3 (rs.same s2).al0 (rv.grow s2.grow)))
      ·exact hp.step ((((Stp.same s2).trans s3).trans s4).trans s5)
     |true=>
      refine vc fun cl C s2' H2' fp=>?_
      refine he cl C s2' H2' fp M0 F4 Γ3 ν3 σ3 H4 _ rs4 hs3 ?_
      dsimp only at hp
      cases ee:el Γ3 with
      |bad=>rw[ee]at hp;exact hp.elim
      |exc xx yy=>rw[ee]at hp;exact hp.elim
      |ok z=>
       obtain⟨u,Γ4⟩:=z
       rw[ee]at hp
       intro F5 H5 rs5 s5 v hv
       dsimp only at hp
       cases ed:derS Γ4 u with
       |none=>rw[ed]at hp;exact hp.elim
       |some y=>
        rw[ed]at hp
        dsimp only at hp
        obtain⟨r6,s6⟩:=back rs5
        have stB:=((stA.trans s4).trans s5).trans s6
        rw[hln]at hp
        refine⟨_,_,ys++ [y],r6,stB,?_,lenOf rs5,by simp;omega,?_⟩
        ·refine RepL.append ?_ (.cons (zJ s6 rs5.al0 (hv.strong rs5 ed)) .nil)
         exact qf s6 rs5.al0 (qf s5 rs4.al0 (qf s4 rs3.al0 (qf s3 (rs.same s2).al0 (rv.grow s2.grow))))
        ·exact hp.step (((((Stp.same s2).trans s3).trans s4).trans s5).trans s6)
 ·have e:i=ds.length:=by omega
  subst e
  rw[List.drop_length,qC]at hp
  exact .inl ⟨jst (xn _),fin F' Γ' H ys vs rs rv (hp F' H rs (.refl _ _))⟩
noncomputable def SNt(XP:XPT)(mp:List Nat)(t:TE)(f:EM (List PyData)):Prop:=∀ (M0:Addr->Prop) (F:Fp) (Γ:Gv) (ν:Nu) (σ:St) (H:Hp) (Q:VK),RS M0 F Γ ν H->Sees mp ν σ ->
 EPost M0 F ν σ H XP (fun F' Γ' H' ds=>∀ vs p,RepL (MM M0 F') H' vs ds->H' p=none->Q (.ref p) (upd H' p (.lst vs))) (f Γ)->t σ H Q
theorem VB{N':List Str}{scope:Scope}{n k:Nat}{ix:List Nat}{t:IT}{src:EM (List PyData)}{cond:EM Bool}{el:EM FV}(S:CSc X.env.scope X.N scope N' k ix)(hm:∀ j i:Nat,ix[j]?=some i->∃ m,mp[i]?=some m/\m<n)
  (hi:SI X XP mp tg iter src) (hg:∀ cl C s2 H2 fp,SG (X.comp N' scope cl C s2 H2 fp) (mpC mp n k ix) (·<n) tg t) (hc:∀ cl C s2 H2 fp,SF (X.comp N' scope cl C s2 H2 fp) XP0 (mpC mp n k ix) ifs cond) (he:∀ cl C s2 H2 fp,SE (X.comp N' scope cl C s2 H2 fp) XP0 (mpC mp n k ix) elt el) :
  SNt XP mp (Ww k ix (wpI X tg iter) (gU X N' scope tg) (fU X N' scope ifs) (eU X N' scope elt)) (fComp n k t src cond el):=fun M0 F Γ ν σ H Q rs hs hp=>by
 refine hi M0 F Γ ν σ H _ rs hs (hp.seq.mono fun F1 Γ1 H1 ds rs1 s1 h1 J hJ=>?_)
 dsimp only at h1
 split at h1
 ·rename_i hh
  exact yK hm S.len hg hc he rs1 hs hJ hh.1 hh.2 h1 fun F' Γ' H' ys vs rs' rv hP p hp'=>hP vs p rv hp'
 ·exact h1.elim
theorem zdM{N':List Str}{scope:Scope}{n k:Nat}{ix:List Nat}{t:IT}{src:EM (List PyData)}{cond:EM Bool}{el:EM FV}(hcalm:X.calm=true)(S:CSc X.env.scope X.N scope N' k ix)(hm:∀ j i:Nat,ix[j]?=some i->∃ m,mp[i]?=some m/\m<n)
  (hi:SI X XP mp tg iter src) (hg:∀ cl C s2 H2 fp,SG (X.comp N' scope cl C s2 H2 fp) (mpC mp n k ix) (·<n) tg t) (hc:∀ cl C s2 H2 fp,SF (X.comp N' scope cl C s2 H2 fp) XP0 (mpC mp n k ix) ifs cond) (he:∀ cl C s2 H2 fp,SE (X.comp N' scope cl C s2 H2 fp) XP0 (mpC mp n k ix) elt el)
  (hf:∀ x,foldedSetIterable iter X.env x=pure x):SN X XP mp (.ListComp elt [⟨tg,iter,ifs,0⟩] scope pos) (fComp n k t src cond el):=fun M0 F Γ ν σ H Q rs hs hp=>
 (zcr hcalm S hf).wp (VB S hm hi hg hc he M0 F Γ ν σ H Q rs hs hp)
end
end L3
namespace L2
open PySem PySem.Spec PyProof.Rows
section
variable {X:Cx} {pins:List (Addr×Obj)} {σ:List (Option V)} {H:Hp} {s:Shared} {h':Heap}
theorem Inv.turnedL{t':Nat}{ch:List Addr}(I:Inv X pins σ H s)(k:∀ b o,b∉ch->s.heap.get? b=some o->h'.get? b=some o)(there:∀ b o,b∈ch->s.heap.get? b=some o->∃ o',h'.get? b=some o')(hf:∀ b∈ch,Q0 X pins H b):Inv X pins σ H { s with heap:=h',toks:=t' }:=by
 have nit:∀ b u,H b=some u->b∉ch:=fun b u e z=>by rw[(hf b z).1]at e;cases e
 refine I.step (g':=s.gens) (d':=s.drawn) (ch:=ch) (fun b hb=>?_) (fun b o _ _ hc e _=>k b o hc e) (fun b o _ _ hc e _=>⟨o.slots,k b o hc e⟩) (fun _ _ _ _ n=>n)
  (fun b o hc e=>⟨o,k b o hc e⟩) (fun _ _ e=>e) (fun _ _ _ e=>e) (fun b ps e=>⟨#[],by rw[e];simp⟩) (fun m hm=>?_) (fun b u e=>?_) I.bare
 ·obtain⟨f0,f1,f2,f3,f4,f5⟩:=hf b hb
  exact⟨f3,f1,f4,f5⟩
 ·obtain⟨o,es,ep,ho,r⟩:=hm
  exact⟨o,es,ep,k _ o (fun z=>(hf _ z).2.1 rfl) ho,r⟩
 ·refine (I.hok b u e).stay (fun c v hc q=>k c v ?_ q) (fun _ q=>q) fun _ _ q=>q
  rcases hc with z | z
  ·rw[z];exact nit b u e
  ·exact nit c _ z
end
noncomputable def Ite(K:PySem.W.Frag)(a:Addr):It :=
 ⟨fun i H=>∃ xs x,SqL K H a xs/\xs[i]?=some x,fun i H x H'=>∃ p y,H p=none/\H'=upd H p (.tup [.int i,y])/\x=.ref p/\∀ xs,SqL K H a xs->xs[i]?=some y,fun i H=>∃ xs,SqL K H a xs/\xs.length<=i⟩
theorem Ki{P:Program}{w:World}{K:PySem.W.Frag}{elts:List Expr}{x1:Nat}{pos:Pos}(a e it:Addr)(hei:e≠it):zaf P w K (.Tuple elts x1 pos) (Ite K a) [e,it] e (fun i h=>(∃ old,IsEnum h e it i old)/\h.IsListIter it a i) where
 mem:=by simp
 obj:=fun i h st b hb=>by
  obtain⟨⟨old,he⟩,hit⟩:=st
  rcases xm.mp hb with rfl | hb
  ·exact⟨_,he,fun v z=>by cases z⟩
  ·have eb:b=it:=by simpa using hb
   subst eb
   obtain⟨o,e,c,d⟩:=hit
   exact⟨o,e,fun v z=>by rw[d]at z;cases z⟩
 keep:=fun i h h' st k=>by
  obtain⟨⟨old,he⟩,hit⟩:=st
  exact⟨⟨old,k e (by simp) _ he⟩,hit.at fun o q=>k it (by simp) o q⟩
 item:=by
  intro X hP hw hK hc i pins s σ H E I hf st hg
  subst hP hw hK
  obtain⟨⟨old,he⟩,hit⟩:=st
  obtain⟨xs,x,hq,hx⟩:=hg
  obtain⟨its,rv,p,hz⟩:=I.list hq
  obtain⟨u,hu,ru⟩:=rv.get hx
  have helt:e<s.heap.objs.size:=Heap.lt_size he
  have hilt:it<s.heap.objs.size:=by obtain⟨_,q,_⟩:=hit;exact Heap.lt_size q
  refine wpAny_pyNext_enum_item he hit p.isList (x:=u) (by simpa using hu) hei fun h1 ho hit1 hT hsz hk=>⟨.ref s.heap.objs.size,rfl,wpAny_letOwnedTupleGo_enum ho fun h2 he2 hs2=>?_⟩
  have keep2:∀ b o,b≠e->b≠it->s.heap.get? b=some o->h2.get? b=some o:=fun b o h1' h2' q=>(hs2.2 b h1').trans (hk b o h1' h2' q)
  have hit2:h2.IsListIter it a (i+1):=hit1.at fun o q=>(hs2.2 it (Ne.symm hei)).trans q
  have I1:Inv X pins σ H { s with heap:=h2,toks:=s.toks+1 }:=I.turnedL (ch:= [e,it]) (fun b o hb q=>keep2 b o (fun z=>hb (by simp[z])) (fun z=>hb (by simp[z])) q) (fun b o hb q=>by
   rcases xm.mp hb with rfl | hb
   ·exact⟨_,he2⟩
   ·have eb:b=it:=by simpa using hb
    subst eb
    obtain⟨o',q',_⟩:=hit2
    exact⟨o',q'⟩) hf
  have hTn:H s.heap.objs.size=none:=I.hok.fresh (xn _)
  have hT2:h2.get? s.heap.objs.size=some { cls:=.type "tuple",data:=.seq #[.int i s.toks,u] }:=(hs2.2 _ (Nat.ne_of_gt helt)).trans hT
  have I2:Inv X pins σ (upd H s.heap.objs.size (.tup [.int i,x])) { s with heap:=h2,toks:=s.toks+1 }:=I1.track I.sz hTn (Ne.symm (xu I.lt)) (fun y c q=>by
    obtain⟨v,ob,hob,_⟩:=I.cell y c q
    exact xu (Heap.lt_size hob)) (fun q hq'=>xu (Heap.lt_size (I.pin q hq').1))
   ⟨by show 2<=sizeLine;decide,[.int i s.toks,u],.cons ⟨_,rfl⟩ (.cons ru .nil),⟨_,hT2,rfl,_,rfl⟩⟩
  refine⟨.ref s.heap.objs.size,_,I2,rfl,⟨_,x,hTn,rfl,rfl,fun ys hy=>by rw[I.list_inj hy hq];exact hx⟩,⟨⟨u,by simpa using he2⟩,hit2⟩,fun b hb=>?_⟩
  rw[zn]
  ·exact (hf b hb).1
  ·rcases xm.mp hb with rfl | hb
   ·exact xu helt
   ·have eb:b=it:=by simpa using hb
    subst eb;exact xu hilt
 done:=by
  intro X hP hw hK hc i pins s σ H E I hf st hg
  subst hP hw hK
  obtain⟨⟨old,he⟩,hit⟩:=st
  obtain⟨xs,hq,hx⟩:=hg
  obtain⟨its,rv,p,hz⟩:=I.list hq
  obtain⟨f0,f1,f2,f3,f4,f5⟩:=hf it (by simp)
  have hl:=rv.length
  exact wpAny_pyNext_enum_end (I.ok.hd hc) he hit p.isList (by simp;omega) fun h1 eb=>⟨rfl,I.turned (t':=s.toks) (fun b o hb q=>eb b o hb q) f0 f1 f3 f4 f5⟩
 self:=fun _ _ _ _ _ st h=>by
  obtain⟨⟨old,he⟩,_⟩:=st
  exact wpAny_pyIter_enum he h
theorem boot_enumW:bootBuiltins "enumerate" =some (.type "enumerate"):=by decide +kernel
section
variable {X:Cx}
noncomputable def zg3(K:PySem.W.Frag)(tl:TE):TI:=fun σ H R=>tl σ H fun x H1=>∃ a,x=.ref a/\(∃ xs,SqL K H1 a xs)/\R (Ite K a) H1
theorem zdV {elts:List Expr}{x1:Nat}{pt:Pos}{l:Expr}{p pos:Pos}(hg:Gl X "enumerate") (hm:X.mg "enumerate" =none) (hst:starEach [l] X.env= [(false,eval l X.env)]) :
  PI X (.Tuple elts x1 pt) (.Call (.Name "enumerate" p) [l] [] pos) (zg3 X.K (wpE X l)):=by
 intro pins s σ H R I h
 have h':YU (wpE X l) zbn σ H (fun vs H1=>∃ v,vs= [v]/\∃ a,v=.ref a/\(∃ xs,SqL X.K H1 a xs)/\R (Ite X.K a) H1):=wpE.mono h fun v H1 q=>⟨v,rfl,q⟩
 refine Call_ (jp I hg hm boot_enumW (PyProof.Rows.callWith_type1 (thn ((zy zg pa_nil hst) pos pins s σ H _ I h') fun us s1 ⟨vs,H1,I1,r1,q1⟩=>?_) hst rfl))
 obtain⟨v,rfl,a,rfl,⟨xs,hq⟩,q⟩:=q1
 obtain⟨u,rfl,ru⟩:=Zj r1
 cases ru
 obtain⟨its,rv,pl,hz⟩:=I1.list hq
 refine call_enumerate_list pl.isList fun h1 he hit hsz hk=>?_
 refine wpAny_pyIter_enum he ?_
 have I2:Inv X pins σ H1 { s1 with heap:=h1 }:=I1.kept (t':=s1.toks) hk
 refine⟨s1.heap.objs.size+1,[s1.heap.objs.size+1,s1.heap.objs.size],_,_,H1,rfl,I2,Ki a _ _ (Nat.succ_ne_self _),⟨⟨_,he⟩,hit⟩,fun b hb=>?_,q⟩
 rcases xm.mp hb with rfl | hb
 ·exact I1.fpOk (Nat.le_succ _) (I1.hok.fresh (Nat.le_succ _))
 ·have eb:b=s1.heap.objs.size:=by simpa using hb
  subst eb
  exact I1.fpOk (xn _) (I1.hok.fresh (xn _))
end
end L2
namespace L3
open PySem PySem.Spec PyProof.Rows L2
noncomputable def qu(ds:List PyData):List PyData:=ds.zipIdx.map fun p=>PyData.tuple [.int p.2,p.1]
theorem QY{ds:List PyData}{i:Nat}{d:PyData}(h:(qu ds)[i]?=some d):∃ x,ds[i]?=some x/\d=.tuple [.int i,x]:=by
 unfold qu at h
 rw[xg,List.getElem?_zipIdx]at h
 cases e:ds[i]? with
 |none=>rw[e]at h;cases h
 |some x=>rw[e]at h;simp at h;exact⟨x,rfl,h.symm⟩
theorem qt(ds:List PyData):(qu ds).length=ds.length:=by simp[qu]
noncomputable def fEnum(fa:EM FV):EM (List PyData):=fun Γ=>(fa Γ).bind fun (u,Γ1)=>match derS Γ1 u with
 |some (.list ds)=>.ok (qu ds,Γ1)
 |_=>.bad
theorem zdC{M0:Addr->Prop}{F:Fp}{K:PySem.W.Frag}{H1:Hp}{l:Addr}{ds:List PyData}{vs:List V}(e:H1 l=some (.lst vs))(n:¬ MM M0 F l)(r:RepL (MM M0 F) H1 vs ds):JI M0 F (Ite K l) (qu ds) H1:=fun i F' H' s h0=>by
 have e':H' l=some (.lst vs):=(s.keep l _ e fun j hj=>n (.inr ⟨j,hj⟩)).1
 refine⟨fun d hd=>?_,fun hl=>⟨vs,SqL.of e',by rw[qt]at hl;rw[r.length];exact hl⟩⟩
 obtain⟨x,hx,rfl⟩:=QY hd
 obtain⟨v,hv,rv⟩:=r.get' hx
 refine⟨⟨vs,v,SqL.of e',hv⟩,fun z H2 ⟨p,y,np,e2,ez,hy⟩=>?_⟩
 subst e2 ez
 have:=hy vs (SqL.of e')
 rw[hv]at this;cases this
 exact⟨zM np,.tuple zx (.cons (.int _) (.cons ((zJ s h0 rv).grow (zM np).grow) .nil))⟩
section
variable {X:Cx} {XP:XPT} {mp:List Nat} {a:Expr} {p pos:Pos} {fa:EM FV}
theorem zdD {x:Str}{elts:List Expr}{x1:Nat}{pt:Pos}(B:BiK X x (.type "enumerate")) (ex:x= "enumerate") (ha:SE X XP mp a fa) (hst:starEach [a] X.env= [(false,eval a X.env)]):SI X XP mp (.Tuple elts x1 pt) (.Call (.Name x p) [a] [] pos) (fEnum fa):=fun M0 F Γ ν σ H R rs hs hp=>by
 subst ex
 exact (zdV B.gl B.mg hst).wp (ha.run rs hs hp fun F1 Γ1 H1 u v rs1 s1 o1 h1=>by
  dsimp only at h1
  split at h1
  ·rename_i ds eu
   obtain⟨l,vs,rfl,e,n,r⟩:=(o1.strong rs1 eu).lst_inv
   exact⟨l,rfl,⟨vs,SqL.of e⟩,h1 F1 H1 rs1 (.refl _ _) _ (zdC e n r)⟩
  ·exact h1.elim)
end
end L3
set_option maxHeartbeats 4000000
namespace L2
open PySem PySem.Spec PyProof.Rows
noncomputable def Qo(ns:List Int):List Int:=ns.mergeSort fun a b=>decide (a<=b)
theorem J6(ns:List Int):(Qo ns).Perm ns:=List.mergeSort_perm _ _
theorem zcP(ns:List Int):(Qo ns).Pairwise (·<=·):=by
 have h:=List.pairwise_mergeSort (le:=fun a b:Int=>decide (a<=b)) (by intro a b c h1 h2;simp at *;omega) (by intro a b;simp;omega) ns
 exact h.imp fun {a b} h=>by simpa using h
theorem wu{ns ms:List Int}(hp:ms.Perm ns)(hs:ms.Pairwise (·<=·)):ms=Qo ns :=
 List.Perm.eq_of_pairwise (le:=fun a b:Int=>a<=b) (fun a b _ _ h1 h2=>Int.le_antisymm h1 h2) hs (zcP ns) (hp.trans (J6 ns).symm)
theorem Kc(ns:List Int):(Qo ns).length=ns.length:=(J6 ns).length_eq
theorem IntsAre.of:∀ {ns:List Int}{us:List Value},Vals (ns.map V.int) us->IntsAre us ns
 |[],_,.nil=>.nil
 |n::ns,_,.cons ⟨t,e⟩ r=>by subst e;exact .cons n t (IntsAre.of r)
theorem Vals.ofInts:∀ {us:List Value}{ns:List Int},IntsAre us ns->Vals (ns.map V.int) us
 |_,_,.nil=>.nil
 |_,_,.cons n t r=>.cons ⟨t,rfl⟩ (Vals.ofInts r)
section
variable {X:Cx}
theorem yn:jm X (.builtin "sorted") (fun xs H Q=>∃ p ns,xs= [.ref p]/\SqL X.K H p (List.map V.int ns)/\ns.length<64/\∀ l,H l=none->Q (.ref l) (upd H l (.lst ((Qo ns).map V.int)))):=by
 intro pins s σ H xs us Q I r h
 obtain⟨p,ns,rfl,hq,h64,q⟩:=h
 obtain⟨u,rfl,rx⟩:=Zj r
 cases rx
 obtain⟨its,r',pl,hz⟩:=I.list hq
 have hlen:=r'.length
 rw[xk]at hlen
 refine sorted_ints pl.isList (IntsAre.of r') (by omega) fun out ns' a1 a2 a3=>?_
 have e:=wu a2 a3
 subst e
 obtain⟨c',ec⟩:=sortedAll_at s.heap its out
 refine⟨.ref (s.heap.objs.size+1),_,I.laid (t':=s.toks) (fun b o e=>sortedAll_old e) (Nat.le_succ _) (show ObjOk X.prog X.w _ _ _ (.lst ((Qo ns).map V.int)) from ⟨?_,out.toList,c',Vals.ofInts a1,?_⟩),rfl,q _ (I.hok.fresh (Nat.le_succ _))⟩
 ·rw[xk,Kc]
  have:=sizeLine_eq
  omega
 ·simpa [seqObj] using ec
end
end L2
namespace L3
open PySem PySem.Spec PyProof.Rows L2
noncomputable def qj:List PyData->Option (List Int)
 |[]=>some []
 |.int b::r=>(qj r).map (b::·)
 |_=>none
theorem wz(ns:List Int):qj (ns.map .int)=some ns:=by
 induction ns with
 |nil=>rfl
 |cons b r ih=>simp[qj,ih]
theorem QQ:∀ {ds:List PyData}{ns:List Int},qj ds=some ns->ds=ns.map .int
 |[],bs,e=>by cases e;rfl
 |.int b::r,bs,e=>by
  unfold qj at e
  cases q:qj r with
  |none=>rw[q]at e;cases e
  |some l=>rw[q]at e;cases e;rw[QQ q];rfl
 |.none::r,bs,e=>by cases e
 |.bool _::r,bs,e=>by cases e
 |.str _::r,bs,e=>by cases e
 |.list _::r,bs,e=>by cases e
 |.tuple _::r,bs,e=>by cases e
 |.dict _::r,bs,e=>by cases e
noncomputable def Y7(fa:EM FV):EM (List PyData):=fun Γ=>(fa Γ).bind fun (u,Γ1)=>match (derL Γ1 u).bind qj with
 |some ns=>if ns.length<64 then .ok ((Qo ns).map .int,Γ1) else .bad
 |none=>.bad
section
variable {X:Cx} {XP:XPT} {mp:List Nat} {a:Expr} {p pos:Pos} {fa:EM FV}
theorem zak {x:Str}(B:BiK X x (.builtin "sorted")) (ha:SE X XP mp a fa) (hst:starEach [a] X.env= [(false,eval a X.env)]):SN X XP mp (.Call (.Name x p) [a] [] pos) (Y7 fa):=fun M0 F Γ ν σ H Q rs hs hp=>
 (Zc yn B.gl B.mg B.bt (zy zg pa_nil hst) B.n B.d hst rfl).wp (ha.run rs hs hp fun F1 Γ1 H1 u v rs1 s1 o1 h1=>by
  dsimp only at h1
  split at h1
  ·rename_i ns e
   split at h1
   ·rename_i h64
    cases ed:derL Γ1 u with
    |none=>rw[ed]at e;cases e
    |some ds=>
     rw[ed]at e
     have eds:=QQ (by simpa using e:qj ds=some ns)
     subst eds
     obtain⟨l,vs,rfl,el,r⟩:=o1.list rs1 ed
     have ev:=RepL.intsInv r
     subst ev
     exact⟨l,ns,rfl,SqL.of el,h64,fun p n=>h1 F1 H1 rs1 (.refl _ _) _ p (RepL.ints _) n⟩
   ·exact h1.elim
  ·exact h1.elim)
end
end L3
set_option maxHeartbeats 4000000
namespace L3
open PySem PySem.Spec PyProof.Rows L2
section
variable {X:Cx} {XP:XPT} {mp:List Nat} {a b:Expr} {p p2 pos:Pos} {fa fb:EM FV}
end
end L3
set_option maxHeartbeats 4000000
namespace Tab
open PySem PySem.SetTable
noncomputable def stp(m i:Nat):Nat:=(i*5+1) % (m+1)
noncomputable def orb(m:Nat):Nat->Nat->List Nat
 |0,_=> []
 |n+1,i=>i::orb m n (stp m i)
noncomputable def Jn(m:Nat):Prop:=∀ i,i<=m->∀ j,j<=m->j∈orb m (m+1) i
noncomputable def it(m:Nat):Nat->Nat->Nat
 |0,i=>i
 |n+1,i=>it m n (stp m i)
theorem Vo(m:Nat):∀ a b i,it m (a+b) i=it m b (it m a i)
 |0,b,i=>by rw[uc];rfl
 |a+1,b,i=>by rw[show a+1+b=(a+b)+1 by omega,it,Vo m a b,it]
theorem vE(m:Nat):∀ n i t,t<n->it m t i∈orb m n i
 |0,_,_,h=>by omega
 |n+1,i,0,_=>by simp[orb,it]
 |n+1,i,t+1,h=>by rw[orb,it];exact xi _ (vE m n (stp m i) t (by omega))
theorem kg(m:Nat):∀ n i j,j∈orb m n i->∃ t,t<n/\it m t i=j
 |0,_,_,h=>by cases h
 |n+1,i,j,h=>by
  rcases xm.mp h with rfl | h
  ·exact⟨0,by omega,rfl⟩
  ·obtain⟨t,h1,h2⟩:=kg m n _ j h
   exact⟨t+1,by omega,h2⟩
noncomputable def ze0(m:Nat):Bool:=decide (it m (m+1) 0=0)&&(List.range (m+1)).all fun j=>(orb m (m+1) 0).contains j
theorem Z8{m:Nat}(h:ze0 m=true):Jn m:=fun i hi j hj=>by
 unfold ze0 at h
 rw[xa,decide_eq_true_eq,xD]at h
 obtain⟨hper,hall⟩:=h
 have hc:∀ x,x<=m->∃ t,t<m+1/\it m t 0=x:=fun x hx=>kg m _ _ _ (by simpa using hall x (xE.mpr (by omega)))
 obtain⟨p,hp,ep⟩:=hc i hi
 obtain⟨q,hq,eq⟩:=hc j hj
 by_cases hpq:p<=q
 ·have:it m (q-p) i=j:=by rw[<- ep,<- Vo,show p+(q-p)=q by omega,eq]
  rw[<- this];exact vE m _ _ _ (by omega)
 ·have:it m (q+(m+1)-p) i=j:=by rw[<- ep,<- Vo,show p+(q+(m+1)-p)=(m+1)+q by omega,Vo,hper,eq]
  rw[<- this];exact vE m _ _ _ (by omega)
theorem zhv:Jn 7:=Z8 (by decide +kernel)
theorem ze6:Jn 15:=Z8 (by decide +kernel)
theorem zft:Jn 31:=Z8 (by decide +kernel)
theorem zgx:Jn 63:=Z8 (by decide +kernel)
theorem zex:Jn 127:=Z8 (by decide +kernel)
theorem Kj(m i:Nat):i<=runEnd m i:=by unfold runEnd;split<;>omega
theorem yL{m:Nat}{owner:Array (Option Nat)}(hs:owner.size=m+1){i k:Nat}(h:(List.range (runEnd m i+1-i)).find? (fun k=>(owner.getD (i+k) (some 0)).isNone)=some k):i+k<=m/\owner.getD (i+k) (some 0)=none:=by
 have h1:=uJ h
 have h2:owner.getD (i+k) (some 0)=none:=by simpa using h1
 refine⟨?_,h2⟩
 by_cases hb:i+k<owner.size
 ·omega
 ·rw[xZ,Array.getElem?_eq_none (by omega)]at h2
  cases h2
theorem zag{m:Nat}{owner:Array (Option Nat)}{i:Nat}(h:(List.range (runEnd m i+1-i)).find? (fun k=>(owner.getD (i+k) (some 0)).isNone)=none):owner.getD i (some 0)≠none:=by
 have:=List.find?_eq_none.mp h 0 (xE.mpr (by have:=Kj m i;omega))
 intro e
 rw[Nat.add_zero,e]at this
 exact this rfl
theorem Wp{m:Nat}{owner:Array (Option Nat)}(hs:owner.size=m+1):∀ (n fuel i j:Nat),j∈orb m n i->owner.getD j (some 0)=none->n<=fuel->∃ r,layClean.free m owner fuel i 0=some r/\r<=m/\owner.getD r (some 0)=none
 |0,_,_,_,h,_,_=>by cases h
 |n+1,0,_,_,_,_,h=>by omega
 |n+1,fuel+1,i,j,h,hj,hf=>by
  rw[layClean.free]
  split
  ·rename_i k hk
   obtain⟨h1,h2⟩:=yL hs hk
   exact⟨_,rfl,h1,h2⟩
  ·rename_i hk
   have hne:=zag hk
   rcases xm.mp h with rfl | h
   ·exact absurd hj hne
   ·have e:leap m i 0=(stp m i,0):=by unfold leap stp;simp
    rw[e]
    exact Wp hs n fuel (stp m i) j h hj (by omega)
theorem Ws{m:Nat}(hfull:Jn m){owner:Array (Option Nat)}(hs:owner.size=m+1){j:Nat}(hj:j<=m)(ho:owner.getD j (some 0)=none):∀ (k fuel i p:Nat),p<32 ^ k->i<=m->k+(m+1)<=fuel->∃ r,layClean.free m owner fuel i p=some r/\r<=m/\owner.getD r (some 0)=none
 |0,fuel,i,p,hp,hi,hf=>by
  have:p=0:=by simpa using hp
  subst this
  exact Wp hs (m+1) fuel i j (hfull i hi j hj) ho (by omega)
 |k+1,0,i,p,hp,hi,hf=>by omega
 |k+1,fuel+1,i,p,hp,hi,hf=>by
  rw[layClean.free]
  split
  ·rename_i q hk
   obtain⟨h1,h2⟩:=yL hs hk
   exact⟨_,rfl,h1,h2⟩
  ·have e:leap m i p=((i*5+1+p / 32) % (m+1),p / 32):=rfl
   rw[e]
   refine Ws hfull hs hj ho k fuel _ _ ?_ ?_ (by omega)
   ·rw[Nat.pow_succ]at hp
    exact Nat.div_lt_of_lt_mul (by rw[Nat.mul_comm];exact hp)
   ·have:=Nat.mod_lt (i*5+1+p / 32) (Nat.succ_pos m)
    exact Nat.le_of_lt_succ this
theorem zds(h:Int):bits h<32 ^ 13:=by
 unfold bits
 have h1:=uA h (by decide:(0:Int)<2 ^ 64)
 have h2:=uK h (by decide:(2 ^ 64:Int)≠0)
 have:((h % 2 ^ 64).toNat:Int)<2 ^ 64:=by omega
 have h3:(h % 2 ^ 64).toNat<2 ^ 64:=by exact_mod_cast this
 exact xy h3 (by decide)
noncomputable def Q5(m:Nat)(owner:Array (Option Nat)):List Nat:=(List.range (m+1)).filterMap fun j=>owner.getD j none
theorem jA{f g:Nat->Option Nat}:∀ {l:List Nat},(∀ x∈l,f x=g x)->l.filterMap f=l.filterMap g
 |[],_=>rfl
 |x::l,h=>by
  rw[xG,xG,h x (by simp),jA fun y hy=>h y (by simp[hy])]
theorem yB{f g:Nat->Option Nat}{j k:Nat}(hj:f j=none)(hg:g j=some k)(he:∀ x,x≠j->g x=f x):∀ {l:List Nat},l.Nodup->j∈l->(l.filterMap g).Perm (k::l.filterMap f)
 |[],_,h=>by cases h
 |x::l,nd,h=>by
  obtain⟨hx,nd⟩:=xB.mp nd
  rcases xm.mp h with rfl | h
  ·rw[xG,xG,hg,hj]
   dsimp only
   rw[jA fun y hy=>he y fun e=>hx (e ▸ hy)]
  ·have hne:x≠j:=fun e=>hx (e ▸ h)
   have ih:=yB hj hg he nd h
   rw[xG,xG,he x hne]
   cases f x with
   |none=>exact ih
   |some y=>exact (ih.cons y).trans (.swap k y _)
theorem KG{m n:Nat}{owner:Array (Option Nat)}(hl:(Q5 m owner).length=n)(hn:n<=m):∃ j,j<=m/\owner.getD j none=none:=by
 refine Classical.byContradiction fun hno=>?_
 have hall:∀ j∈List.range (m+1),(owner.getD j none).isSome=true:=fun j hj=>by
  have hj':j<=m:=by have:=xE.mp hj;omega
  cases e:owner.getD j none with
  |none=>exact absurd ⟨j,hj',e⟩ hno
  |some _=>rfl
 have:(Q5 m owner).length=m+1:=by
  have h1:∀ {l:List Nat},(∀ j∈l,(owner.getD j none).isSome=true)->(l.filterMap fun j=>owner.getD j none).length=l.length:=by
   intro l
   induction l with
   |nil=>intro _;rfl
   |cons x l ih=>
    intro h
    obtain⟨y,ey⟩:=Option.isSome_iff_exists.mp (h x (by simp))
    rw[xG,ey]
    dsimp only
    rw[xl,xl,ih fun j hj=>h j (xi _ hj)]
  unfold Q5
  rw[h1 hall,xO]
 omega
theorem kT{m j:Nat}{owner:Array (Option Nat)}(hs:owner.size=m+1)(hj:j<=m)(d:Option Nat):owner.getD j d=owner.getD j none:=by
 rw[xZ,xZ,Array.getElem?_eq_getElem (by omega)];rfl
theorem za9{m:Nat}(hfull:Jn m):∀ (hs:List Int) (owner:Array (Option Nat)) (k:Nat),owner.size=m+1->(Q5 m owner).Perm (List.range k)->k+hs.length<=m+1 ->
  ∃ owner',(hs.foldl (init:=some (owner,k)) fun acc h=>do
   let (owner,k)<-acc
   let j<-layClean.free m owner (turns m) (bits h % (m+1)) (bits h)
   pure (owner.setIfInBounds j (some k),k+1))=some (owner',k+hs.length)/\owner'.size=m+1/\(Q5 m owner').Perm (List.range (k+hs.length))
 |[],owner,k,h1,h2,_=>⟨owner,rfl,h1,h2⟩
 |h::hs,owner,k,h1,h2,h3=>by
  rw[xl]at h3
  obtain⟨j0,hj0,ej0⟩:=KG (n:=k) (by rw[h2.length_eq,xO]) (by omega)
  obtain⟨j,ej,hj,oj⟩:=Ws hfull h1 hj0 (by rw[kT h1 hj0];exact ej0) 13 (turns m) (bits h % (m+1)) (bits h) (zds h) (Nat.le_of_lt_succ (Nat.mod_lt _ (Nat.succ_pos m))) (by unfold turns;omega)
  have hjs:j<owner.size:=by omega
  have oj':owner.getD j none=none:=by rw[<- kT h1 hj (some 0)];exact oj
  have hp:(Q5 m (owner.setIfInBounds j (some k))).Perm (k::Q5 m owner):=by
   refine yB (f:=fun x=>owner.getD x none) (g:=fun x=>(owner.setIfInBounds j (some k)).getD x none) oj' ?_ (fun x hx=>?_) uT (xE.mpr (by omega))
   ·simp[xZ,Array.getElem?_setIfInBounds,hjs]
   ·simp[xZ,Array.getElem?_setIfInBounds,Ne.symm hx]
  have hp2:(Q5 m (owner.setIfInBounds j (some k))).Perm (List.range (k+1)):=by
   rw[xT]
   exact hp.trans ((h2.cons k).trans (List.perm_append_singleton k _).symm)
  obtain⟨owner',e1,e2,e3⟩:=za9 hfull hs (owner.setIfInBounds j (some k)) (k+1) (by rw[Array.size_setIfInBounds];exact h1) hp2 (by omega)
  refine⟨owner',?_,e2,?_⟩
  ·rw[uB]
   rw[xl,show k+(hs.length+1)=k+1+hs.length by omega,<- e1]
   congr 1
   show (do let j<-layClean.free m owner (turns m) (bits h % (m+1)) (bits h);pure (owner.setIfInBounds j (some k),k+1):Option _)=_
   rw[ej];rfl
  ·rw[xl,show k+(hs.length+1)=k+1+hs.length by omega];exact e3
theorem zaE(m:Nat):Q5 m (Array.replicate (m+1) none)= []:=by
 unfold Q5
 rw[List.filterMap_eq_nil_iff]
 intro x _
 rw[xZ,Array.getElem?_replicate]
 split<;>rfl
theorem V3{m:Nat}(hfull:Jn m)(hashes:Array Int)(hn:hashes.size<=m+1):∃ owner,layClean m hashes=some owner/\owner.size=m+1/\(Q5 m owner).Perm (List.range hashes.size):=by
 obtain⟨owner,e1,e2,e3⟩:=za9 hfull hashes.toList (Array.replicate (m+1) none) 0 (by simp) (by rw[zaE];exact .refl _) (by simpa using hn)
 refine⟨owner,?_,e2,by simpa using e3⟩
 unfold layClean
 rw[<- Array.foldl_toList,e1];rfl
theorem YW{m finger moves:Nat}{led plain:Bool}(hfull:Jn m)(hashes:Array Int)(hn:hashes.size<=m) :
  ∃ t order,laid m finger moves led plain hashes=some (t,order)/\order.toList.Perm (List.range hashes.size)/\t.place.size=hashes.size/\t.dummies=#[]/\t.mask=m/\t.led=led/\t.plain=plain:=by
 obtain⟨owner,e1,e2,e3⟩:=V3 hfull hashes (by omega)
 have hl:(((List.range (m+1)).filterMap fun j=>(owner.getD j none).map (j,·)).map (·.2))=Q5 m owner:=by
  unfold Q5
  rw[List.map_filterMap]
  congr 1
  funext j
  cases owner.getD j none<;>rfl
 unfold laid
 rw[e1]
 refine⟨_,_,rfl,?_,?_,rfl,rfl,rfl,rfl⟩
 ·simp only[List.toList_toArray]
  rw[hl];exact e3
 ·have:=e3.length_eq
  rw[<- hl,xk,xO]at this
  show (List.map _ _).toArray.size=_
  rw[xq,xk];exact this
end Tab
set_option maxHeartbeats 4000000
namespace Tab
open PySem PySem.SetTable
theorem ZR{α:Type}:∀ {l:List α}{n:Nat}(h:n<l.length),(l[n]::l.eraseIdx n).Perm l
 |x::l,0,_=>.refl _
 |x::l,n+1,h=>((List.Perm.swap x (l[n]'(by simpa using h)) _)).trans ((ZR (l:=l) (n:=n) (by simpa using h)).cons x)
theorem kq{α:Type}(next:Nat->Nat):∀ (fuel k:Nat) (left:List α) (out:Array α),left.length<=fuel->(pickOrder.go next fuel k left out).toList.Perm (out.toList++left)
 |0,k,left,out,h=>by
  have:left= []:=uL.mp (by omega)
  subst this
  rw[pickOrder.go,uf]
 |fuel+1,k,left,out,h=>by
  rw[pickOrder.go]
  cases left with
  |nil=>simp
  |cons x l=>
   have hlt:next k % (x::l).length<(x::l).length:=Nat.mod_lt _ (by simp)
   rw[xb hlt]
   dsimp only
   refine (kq next fuel (k+1) _ _ ?_).trans ?_
   ·rw[List.length_eraseIdx_of_lt hlt];omega
   ·rw[Array.toList_push,List.append_assoc]
    exact List.Perm.append_left _ (ZR hlt)
theorem KW{α:Type}(next:Nat->Nat)(xs:Array α):(pickOrder next xs).toList.Perm xs.toList:=by
 have:=kq next xs.size 0 xs.toList #[] (by simp)
 simpa [pickOrder] using this
section
variable {prog:Program} {w:World} {A:Around} {E:Value->Shared->Prop} {s:Shared}
theorem zg0{es:Array (Int×Value)}(h:ElemsOf (intKind prog w) es.toList):∀ e∈es.toList,∃ n t,e.2=.int n t:=fun e he=>by
 obtain⟨⟨k,hk,_⟩,_⟩:=h e he
 obtain⟨t,ht⟩:=Value.isInt_shape hk
 exact⟨k,t,ht⟩
theorem yh{l:List Addr}{Q:Bool->Shared->Prop}(h:∀ b∈l,∃ S n,s.heap.SetOf (intKind prog w) b S n)(hQ:Q true s):wpAny (model prog w) A (setsQuiet l) Q E s:=by
 unfold setsQuiet
 refine wpAny_bind ?_
 refine wpAny_forIn_list _ (fun rest b s'=>b=(none,())/\s'=s/\∀ x∈rest,∃ S n,s.heap.SetOf (intKind prog w) x S n) _ ?_ ?_ l _ ⟨rfl,rfl,h⟩
 ·rintro a rest b s' ⟨rfl,rfl,hh⟩
  obtain⟨S,n,o,es,ep,t,ho,hex,hd,hel,hmem,hb,hf,hn⟩:=hh a xz
  refine wpAny_bind (wpAny_setEntries_of ho hd hf ?_)
  refine wpAny_bind (wpAny_forIn_array' _ (fun (rest:List (Int×Value)) b s''=>b=(none,())/\s''=s'/\∀ e∈rest,∃ n t,e.2=.int n t) _ ?_ ?_ es _ ⟨rfl,rfl,zg0 hel⟩)
  ·rintro⟨hh2,x⟩ rest b s'' ⟨rfl,rfl,hi⟩
   obtain⟨n,t,e⟩:=hi _ xz
   dsimp only at e
   subst e
   exact wpAny_pure ⟨rfl,rfl,fun e he=>hi e (xi _ he)⟩
  ·rintro b s'' ⟨rfl,rfl,_⟩
   exact wpAny_pure ⟨rfl,rfl,fun x hx=>hh x (xi _ hx)⟩
 ·rintro b s' ⟨rfl,rfl,_⟩
  exact wpAny_pure hQ
theorem JZ{a:Addr}{o:Obj}{es:Array (Int×Value)}{ep:Nat}{t:SetTable}{Q':Array (Int×Value)->Shared->Prop}(ho:s.heap.get? a=some o)(hd:o.data=.set es ep t)(hf:t.fits es.size=true)
  (hc:(w.params.followText "set-order" ||(t.led&&t.plain)||decide (es.size<=1))=true) (hq:∀ es',es'.toList.Perm es.toList->Q' es' s):wpAny (model prog w) A (setWalk a) Q' E s:=by
 unfold setWalk setsByText
 refine wpAny_bind (wpAny_setState_of ho hd hf ?_)
 refine wpAny_bind (wpAny_bind (wpAny_askSetting (wpAny_pure ?_)))
 show wpAny _ _ (if w.params.followText "set-order" =true then _ else _) _ _ _
 by_cases hT:w.params.followText "set-order" =true
 ·rw[if_pos hT]
  exact wpAny_bind (wpAny_askSetting (wpAny_pure (hq _ (KW _ _))))
 ·rw[if_neg hT]
  have hT':w.params.followText "set-order" =false:=by simpa using hT
  rw[hT',Bool.false_or,xM,xa,decide_eq_true_eq]at hc
  split
  ·rename_i hdr
   exfalso
   change (!t.plain&&decide (es.size>1))=true at hdr
   rw[xa,decide_eq_true_eq]at hdr
   rcases hc with ⟨_,hp⟩ | hz
   ·rw[hp]at hdr;exact absurd hdr.1 (by decide)
   ·omega
  ·show wpAny _ _ ((if (!t.led&&decide (es.size>1))=true then unsupported "set:maker-not-led" else pure PUnit.unit) >>= fun _=>pure es) _ _ _
   rw[if_neg]
   ·exact wpAny_bind (wpAny_pure (wpAny_pure (hq es (.refl _))))
   ·intro z
    rw[xa,decide_eq_true_eq]at z
    rcases hc with ⟨hl,_⟩ | hz
    ·rw[hl]at z;exact absurd z.1 (by decide)
    ·omega
theorem walk_of{a:Addr}{o:Obj}{es:Array (Int×Value)}{ep:Nat}{t:SetTable}{others:List Addr}{Q:Array (Int×Value)->Shared->Prop}(ho:s.heap.get? a=some o)(hd:o.data=.set es ep t)(hf:t.fits es.size=true)
  (hl:∀ b∈a::others,∃ S n,s.heap.SetOf (intKind prog w) b S n) (h:∀ es',es'.toList.Perm es.toList->Q es' s):wpAny (model prog w) A (setWalkUnseen a others none) Q E s:=by
 unfold setWalkUnseen setsByText
 refine wpAny_bind (wpAny_setState_of ho hd hf ?_)
 dsimp only
 refine wpAny_bind (wpAny_bind (wpAny_askSetting (wpAny_pure ?_)))
 show wpAny _ _ (if (w.params.followText "set-order" ||t.led&&t.plain||decide (es.size<=1))=true then _ else _) _ _ _
 split
 ·rename_i hc
  exact JZ ho hd hf hc h
 ·refine wpAny_bind (yh hl ?_)
  simp only[uI,xI,if_false]
  exact wpAny_bind (wpAny_rule (wpAny_pure (h es (.refl _))))
theorem zcf{a r:Addr}{o:Obj}{es:Array (Int×Value)}{ep:Nat}{t:SetTable}{others:List Addr}{S:Int->Bool}{n:Nat}{Q:Array (Int×Value)->Shared->Prop}(ho:s.heap.get? a=some o)(hd:o.data=.set es ep t)(hf:t.fits es.size=true)
  (hl:∀ b∈a::others,∃ S n,s.heap.SetOf (intKind prog w) b S n) (hr:s.heap.SetOf (intKind prog w) r S n) (h:∀ es' h',es'.toList.Perm es.toList->Heap.SameBut r s.heap h'->h'.SetOf (intKind prog w) r S n->Q es' { s with heap:=h' }):wpAny (model prog w) A (setWalkUnseen a others (some r)) Q E s:=by
 have hsame:s={ s with heap:=s.heap }:=by cases s;rfl
 have h0:∀ es',es'.toList.Perm es.toList->Q es' s:=fun es' hp=>by
  rw[hsame];exact h es' s.heap hp (Heap.SameBut.refl r s.heap) hr
 unfold setWalkUnseen setsByText
 refine wpAny_bind (wpAny_setState_of ho hd hf ?_)
 dsimp only
 refine wpAny_bind (wpAny_bind (wpAny_askSetting (wpAny_pure ?_)))
 show wpAny _ _ (if (w.params.followText "set-order" ||t.led&&t.plain||decide (es.size<=1))=true then _ else _) _ _ _
 split
 ·rename_i hc
  exact JZ ho hd hf hc h0
 ·refine wpAny_bind (yh hl ?_)
  simp only[uI,xI,if_false]
  refine wpAny_bind (wpAny_rule ?_)
  obtain⟨o',es',ep',t',ho',hex',hd',hel',hmem',hb',hf',hn'⟩:=hr
  refine wpAny_bind (wpAny_setState_of ho' hd' hf' ?_)
  dsimp only
  split
  ·have hf2:({ t' with led:=t'.led&&t.led,plain:=t'.plain&&t.plain }:SetTable).fits es'.size=true:=by
    unfold SetTable.fits SetTable.fill at hf' |-;exact hf'
   obtain⟨hg,hS⟩:=SetOf_store (knd:=intKind prog w) ho' hex' hd' hel' hmem' hb' hf2
   refine wpAny_bind (wpAny_storeSet_of ho' hd' ?_ ?_)
   ·exact wpAny_pure (h es _ (.refl _) (Heap.SameBut.update _ r _) (by rw[<- hn'];exact hS))
   ·exact fits_of_scanBound hb'
  ·exact wpAny_pure (h0 es (.refl _))
inductive Keys(prog:Program)(w:World):List (Int×Value)->List Int->Prop
 |nil:Keys prog w [] []
 |cons {k:Int} {t:Tok} {es ks}:Keys prog w es ks->Keys prog w (((intKind prog w).hash k,.int k t)::es) (k::ks)
theorem JF:∀ {es:List (Int×Value)},ElemsOf (intKind prog w) es->∃ ks,Keys prog w es ks
 |[],_=>⟨[],.nil⟩
 | (hh,x)::es,h=>by
  obtain⟨⟨k,hk,e1⟩,_⟩:=h.head
  obtain⟨t,e2⟩:=Value.isInt_shape hk
  obtain⟨ks,hks⟩:=JF h.tail
  dsimp only at e1 e2
  subst e1 e2
  exact⟨k::ks,.cons hks⟩
theorem Keys.mem{es:List (Int×Value)}{ks:List Int}(h:Keys prog w es ks)(k:Int):(∃ e∈es,(intKind prog w).is k e.2=true)↔k∈ks:=by
 induction h with
 |nil=>simp
 | @cons k' t es ks _ ih=>
  constructor
  ·rintro⟨e,he,hk⟩
   rcases xm.mp he with rfl | he
   ·have hk2:Value.isInt k (.int k' t)=true:=hk
    obtain⟨t2,e2⟩:=Value.isInt_shape hk2
    injection e2 with e3
    rw[<- e3];exact xz
   ·exact xi _ (ih.mp ⟨e,he,hk⟩)
  ·intro hk
   rcases xm.mp hk with rfl | hk
   ·exact⟨_,xz,intKind_is _ _ _ _⟩
   ·obtain⟨e,he,h2⟩:=ih.mpr hk
    exact⟨e,xi _ he,h2⟩
theorem Keys.length{es:List (Int×Value)}{ks:List Int}(h:Keys prog w es ks):es.length=ks.length:=by
 induction h with
 |nil=>rfl
 |cons _ ih=>simp[ih]
theorem Keys.perm{es es':List (Int×Value)}(p:es'.Perm es):∀ {ks},Keys prog w es ks->∃ ks',Keys prog w es' ks'/\ks'.Perm ks:=by
 induction p with
 |nil=>intro ks h;exact⟨ks,h,.refl _⟩
 | @cons x l1 l2 _ ih=>
  intro ks h
  cases h with
  |cons h=>
   obtain⟨ks',h1,h2⟩:=ih h
   exact⟨_,.cons h1,h2.cons _⟩
 |swap x y l=>
  intro ks h
  cases h with
  |cons h=>
   cases h with
   |cons h=>exact⟨_,.cons (.cons h),.swap _ _ _⟩
 |trans _ _ ih1 ih2=>
  intro ks h
  obtain⟨k2,h2,p2⟩:=ih2 h
  obtain⟨k1,h1,p1⟩:=ih1 h2
  exact⟨k1,h1,p1.trans p2⟩
theorem perm_of_sub:∀ {fm ks:List Int},fm.Nodup->(∀ x∈fm,x∈ks)->ks.length<=fm.length->ks.Perm fm
 |[],ks,_,_,h=>by
  have:ks= []:=uL.mp (by simpa using h)
  subst this;exact .refl _
 |x::fm,ks,nd,hs,hl=>by
  obtain⟨hx,nd⟩:=xB.mp nd
  have hm:=hs x (by simp)
  have p:=List.perm_cons_erase hm
  refine p.trans (List.Perm.cons x (perm_of_sub nd (fun y hy=>?_) ?_))
  ·exact (List.mem_erase_of_ne (fun e:y=x=>hx (e ▸ hy))).mpr (hs y (by simp[hy]))
  ·have:=p.length_eq
   simp at this hl
   omega
noncomputable def dedup(ks:List Int):List Int:=ks.foldl PyProof.Rows.step_dedup []
theorem yV(ks:List Int)(k:Int):dedup (ks++ [k])=PyProof.Rows.step_dedup (dedup ks) k:=by
 unfold dedup;rw[List.foldl_append];rfl
theorem any_dedup(ks:List Int):∀ k,(dedup ks).any (·==k)=true↔k∈ks:=by
 suffices H:∀ (l acc:List Int) k,(l.foldl PyProof.Rows.step_dedup acc).any (·==k)=true↔(acc.any (·==k)=true∨k∈l) by
  intro k
  have:=H ks [] k
  simpa [dedup] using this
 intro l
 induction l with
 |nil=>intro acc k;simp
 |cons x l ih=>
  intro acc k
  rw[uB,ih,PyProof.Rows.step_any,xM,decide_eq_true_eq,xm,or_assoc]
theorem nodup_dedup(ks:List Int):(dedup ks).Nodup:=by
 suffices H:∀ (l acc:List Int),acc.Nodup->(l.foldl PyProof.Rows.step_dedup acc).Nodup from H ks [] .nil
 intro l
 induction l with
 |nil=>intro acc h;exact h
 |cons x l ih=>
  intro acc h
  rw[uB]
  refine ih _ ?_
  unfold PyProof.Rows.step_dedup
  split
  ·exact h
  ·rename_i hx
   rw[uj]
   refine⟨h,by simp,fun a ha b hb=>?_⟩
   have:b=x:=by simpa using hb
   subst this
   intro e
   subst e
   exact hx (by simp;exact ha)
theorem qU {h:Heap}{a:Addr}{S:Int->Bool}{n:Nat}(hS:s.heap.SetOf (intKind prog w) a S n):s.TypeIs (.ref a) "set" :=by
 obtain⟨o,es,ep,t,ho,hex,_⟩:=hS
 exact⟨o,ho,hex.1⟩
theorem ji{a:Addr}{S:Int->Bool}{n:Nat}{Q:Bool->Shared->Prop}(hS:s.heap.SetOf (intKind prog w) a S n)(h:Q true s):wpAny (model prog w) A (Builtin.Frozenset.isAnySet (.ref a)) Q E s:=by
 unfold Builtin.Frozenset.isAnySet
 simp only[orM]
 refine wpAny_bind (wpAny_isInstance (qU (h:=s.heap) hS) sub_set_self ?_)
 exact wpAny_pure h
theorem WR {a:Addr}{S:Int->Bool}{n:Nat}{Q:Value->Shared->Prop}(hS:s.heap.SetOf (intKind prog w) a S n) (h:Q (.type "set") s):wpAny (model prog w) A (Builtin.Frozenset.baseOf a) Q E s:=by
 unfold Builtin.Frozenset.baseOf
 exact wpAny_bind (wpAny_isInstance (qU (h:=s.heap) hS) sub_set_self (wpAny_pure h))
theorem Zw{a:Addr}{S:Int->Bool}{n:Nat}{Q:Nat->Shared->Prop}(hS:s.heap.SetOf (intKind prog w) a S n)(h:Q n s):wpAny (model prog w) A (Builtin.Frozenset.sizeOf a) Q E s:=by
 obtain⟨o,es,ep,t,ho,hex,hd,hel,hmem,hb,hf,hn⟩:=hS
 unfold Builtin.Frozenset.sizeOf
 exact wpAny_bind (wpAny_setEntries_of ho hd hf (wpAny_pure (by rw[hn];exact h)))
theorem Ye{h h':Heap}{a r:Addr}{S:Int->Bool}{n:Nat}(hS:h.SetOf (intKind prog w) a S n)(e:Heap.SameBut r h h')(hne:a≠r):h'.SetOf (intKind prog w) a S n:=by
 obtain⟨o,es,ep,t,ho,rest⟩:=hS
 exact⟨o,es,ep,t,by rw[e.2 a hne];exact ho,rest⟩
theorem zhq{a o:Addr}{Sa So:Int->Bool}{na no:Nat}{nm:String}{Q:Value->Shared->Prop}(ha:s.heap.SetOf (intKind prog w) a Sa na)(ho:s.heap.SetOf (intKind prog w) o So no)(hna:na+1<scanBound){r:Addr}
  (hr:s.heap.SetOf (intKind prog w) r (fun _=>false) 0) (har:a≠r) (hor:o≠r)
  (h:∀ s' T n,Heap.SameBut r s.heap s'.heap->s'.heap.SetOf (intKind prog w) r T n->(∀ k,T k=(Sa k&& !So k))->(∃ L:List Int,L.Nodup/\L.length=n/\∀ k,T k=true↔k∈L)->s'.gens=s.gens/\s'.os=s.os/\s'.drawn=s.drawn->Q (.ref r) s') :
  wpAny (model prog w) A (do
     let was<-setEpoch a
     holding [.ref r] do
       let __do_lift<-setWalkUnseen a [o,r] (some r)
       forIn __do_lift PUnit.unit fun x __s=>do
         holding [x.snd] do
           let __do_lift<-setFind o x.snd x.fst
           let there<-pure __do_lift.isSome
           if (!there)=true then do
             let _<-setAddHashed r x.snd x.fst
             pure ()
            else pure ()
         Builtin.Frozenset.unchanged nm a was
         pure (ForInStep.yield PUnit.unit)
       pure ()
     pure (.ref r)) Q E s:=by
 have ha0:=ha
 obtain⟨oa,ea,epa,ta,hoa,hexa,hda,hela,hmema,hba,hfa,hna'⟩:=ha
 refine wpAny_bind (wpAny_setEpoch_of hoa hda hfa ?_)
 refine wpAny_bind (wpAny_holding ?_)
 refine wpAny_bind (zcf hoa hda hfa (fun b hb=>?_) hr fun es' h' hp hsb hr'=>?_)
 ·have:b=a∨b=o∨b=r:=by simpa using hb
  rcases this with rfl | rfl | rfl
  ·exact⟨_,_,ha0⟩
  ·exact⟨_,_,ho⟩
  ·exact⟨_,_,hr⟩
 ·obtain⟨ks0,hk0⟩:=JF hela
  obtain⟨ks,hks,hpk⟩:=hk0.perm hp
  have hlen:ks.length=na:=by rw[hpk.length_eq,<- hk0.length,<- hna'];simp
  refine wpAny_bind (wpAny_forIn_array' _ (fun (rest:List (Int×Value)) _ s'=>∃ done left,ks=done++left/\Keys prog w rest left/\Heap.SameBut r s.heap s'.heap /\
   s'.heap.SetOf (intKind prog w) r (fun k=>(dedup (done.filter fun k=> !So k)).any (·==k)) (dedup (done.filter fun k=> !So k)).length/\s'.gens=s.gens/\s'.os=s.os/\s'.drawn=s.drawn) _ ?_ ?_ es' _ ⟨[],ks,rfl,hks,hsb,hr',rfl,rfl,rfl⟩)
  ·rintro⟨hh,x⟩ rest u s' ⟨done,left,e1,hk,hs1,hS,g1,g2,g3⟩
   cases hk with
   | @cons k t _ left hk=>
    have hoo:=Ye ho hs1 hor
    refine wpAny_bind (wpAny_holding ?_)
    refine wpAny_bind (wpAny_setFind_of (knd:=intKind prog w) (intKind_is _ _ _ _) rfl hoo fun rr hrr=>?_)
    have e2:ks=(done++ [k])++left:=by rw[e1];simp
    have still:∀ (s'':Shared) {Q':PUnit->Shared->Prop},Heap.SameBut r s.heap s''.heap->Q' ⟨⟩ s''->wpAny (model prog w) A (Builtin.Frozenset.unchanged nm a epa) Q' E s'':=fun s'' Q' q1 q2=>by
     unfold Builtin.Frozenset.unchanged
     refine wpAny_bind (wpAny_setEpoch_of (by rw[q1.2 a har];exact hoa) hda hfa ?_)
     simp only[bne_self_eq_false,xI,if_false]
     exact wpAny_pure q2
    refine wpAny_bind (wpAny_pure ?_)
    rw[hrr]
    cases hSo:So k with
    |true=>
     simp only[uI,xI,if_false]
     refine wpAny_pure (wpAny_bind (still s' hs1 (wpAny_pure ⟨done++ [k],left,e2,hk,hs1,?_,g1,g2,g3⟩)))
     have ef:(done++ [k]).filter (fun k=> !So k)=done.filter fun k=> !So k:=by rw[xP];simp[hSo]
     rw[ef];exact hS
    |false=>
     simp only[Bool.not_false,if_true]
     have hdl:(dedup (done.filter fun k=> !So k)).length<=done.length:=by
      have h1:∀ (l acc:List Int),(l.foldl PyProof.Rows.step_dedup acc).length<=acc.length+l.length:=by
       intro l
       induction l with
       |nil=>intro acc;simp
       |cons x l ih=>
        intro acc
        rw[uB]
        refine xL (ih _) ?_
        rw[PyProof.Rows.step_length,xl]
        split<;>omega
      have h2:=h1 (done.filter fun k=> !So k) []
      have h3:=xQ (fun k=> !So k) done
      simp only[ua,uc]at h2
      exact xL h2 h3
     have hks3:done.length+1<=na:=by rw[<- hlen,e2];simp
     refine wpAny_bind (wpAny_setAddHashed_of (knd:=intKind prog w) (intKind_is _ _ _ _) rfl hS (by omega) fun h2 hsb2 hS2=>?_)
     have q1:Heap.SameBut r s.heap h2:=hs1.trans hsb2
     refine wpAny_pure (wpAny_bind (still _ q1 (wpAny_pure ⟨done++ [k],left,e2,hk,q1,?_,g1,g2,g3⟩)))
     have ef:(done++ [k]).filter (fun k=> !So k)=(done.filter fun k=> !So k)++ [k]:=by rw[xP];simp[hSo]
     rw[ef,yV]
     exact PyProof.Rows.SetOf_congr hS2 (fun k'=>by rw[PyProof.Rows.step_any]) (by rw[PyProof.Rows.step_length])
  ·rintro u s' ⟨done,left,e1,hk,hs1,hS,g1,g2,g3⟩
   cases hk
   rw[uf]at e1
   subst e1
   refine wpAny_pure (wpAny_pure (h s' _ _ hs1 hS (fun k=>?_) ?_ ⟨g1,g2,g3⟩))
   ·have h1:=any_dedup (ks.filter fun k=> !So k) k
    have h2:k∈ks↔Sa k=true:=by
     rw[hpk.mem_iff,<- hk0.mem k]
     exact (hmema k).symm
    rw[xp,h2]at h1
    exact xN.mpr (h1.trans (by rw[xa]))
   ·refine⟨dedup (ks.filter fun k=> !So k),nodup_dedup _,rfl,fun k=>?_⟩
    rw[any_dedup,<- any_dedup]
    simp
end
end Tab
set_option maxHeartbeats 4000000
namespace Tab
open PySem PySem.SetTable
section
variable {prog:Program} {w:World} {A:Around} {E:Value->Shared->Prop} {s:Shared}
theorem WL{α:Type}:∀ (l:List α),(List.range l.length).filterMap (fun i=>l[i]?)=l
 |[]=>rfl
 |x::l=>by
  rw[xl,List.range_succ_eq_map,xG,List.filterMap_map]
  show x::_=_
  congr 1
  exact WL l
theorem yR{α:Type}{es:Array α}{order:Array Nat}(h:order.toList.Perm (List.range es.size)):(order.filterMap (es[·]?)).toList.Perm es.toList:=by
 rw[Array.toList_filterMap]
 refine (h.filterMap _).trans ?_
 have:=WL es.toList
 simp only[Array.length_toList,Array.getElem?_toList]at this
 rw[this]
noncomputable def zb0(n:Nat):Bool:=decide (n<5)||((sizeAbove (n*2)==16||sizeAbove (n*2)==32||sizeAbove (n*2)==64||sizeAbove (n*2)==128)&&decide (n<sizeAbove (n*2)))
theorem zcA:(List.range 61).all zb0=true:=by decide +kernel
theorem zdA{n:Nat}(h5:5<=n)(hn:n<=60):Jn (sizeAbove (n*2)-1)/\n<=sizeAbove (n*2)-1/\sizeAbove (n*2)<=128:=by
 have h:=xD.mp zcA n (xE.mpr (by omega))
 unfold zb0 at h
 simp only[xM,xa,decide_eq_true_eq,beq_iff_eq]at h
 rcases h with h | ⟨h,h2⟩
 ·omega
 ·rcases h with ((h | h) | h) | h
  ·rw[h]at h2 |-;exact⟨ze6,by omega,by omega⟩
  ·rw[h]at h2 |-;exact⟨zft,by omega,by omega⟩
  ·rw[h]at h2 |-;exact⟨zgx,by omega,by omega⟩
  ·rw[h]at h2 |-;exact⟨zex,by omega,by omega⟩
structure kx(h:Heap)(r:Addr)(o:Obj)(ep:Nat)(t:SetTable):Prop where
 get:h.get? r=some o
 ex:o.ExactSet
 dt:o.data=.set #[] ep t
 pl:t.place=#[]
 dm:t.dummies=#[]
theorem Yn{r:Addr}{o:Obj}{ep:Nat}{t:SetTable}{n:Nat}{Q:Unit->Shared->Prop}(e:kx s.heap r o ep t)(hm:t.mask=7)(h4:4<=n)(hn:n<=60)
  (h:∀ h' o' ep' t',Heap.SameBut r s.heap h'->kx h' r o' ep' t'->Jn t'.mask->n<=t'.mask->Q () { s with heap:=h' }):wpAny (model prog w) A (setRoomFor r n) Q E s:=by
 have hf:t.fits 0=true:=by unfold SetTable.fits SetTable.fill;rw[e.pl,e.dm];simp
 have hsame:s={ s with heap:=s.heap }:=by cases s;rfl
 unfold setRoomFor
 refine wpAny_bind (wpAny_setState_of e.get e.dt hf ?_)
 dsimp only
 have hfill:t.fill=0:=by unfold SetTable.fill;rw[e.pl,e.dm];rfl
 unfold SetTable.roomFor
 rw[hfill,hm,e.pl]
 by_cases h5:5<=n
 ·rw[if_pos (by omega)]
  obtain⟨r1,r2,r3⟩:=zdA h5 hn
  dsimp only
  unfold setRelay
  refine wpAny_bind (wpAny_setState_of e.get e.dt hf ?_)
  dsimp only
  have hz0:(#[]:Array Nat).size+n=n:=by simp
  rw[hz0,if_neg (by have:sizeLine=16777216:=rfl;omega)]
  obtain⟨t',order,el,hp,hps,hdm,hmk,_,_⟩:=YW (finger:=t.finger) (moves:=t.movedTo (sizeAbove (n*2)-1)) (led:=t.led) (plain:=t.plain) r1 (Array.map (fun x:Int×Value=>x.fst) #[]) (by simp)
  have el':t.relaid (Array.map (fun x:Int×Value=>x.fst) #[]) (n*2)=some (t',order):=el
  rw[el']
  have ho:order=#[]:=by
   have:=hp.length_eq
   simp at this
   exact this
  subst ho
  have hpl:t'.place=#[]:=by simpa using hps
  refine wpAny_bind (m:=_) ?_
  show wpAny _ _ (pure ((#[]:Array (Int×Value)),t')) _ _ _
  refine wpAny_pure ?_
  have hf':t'.fits 0=true:=by unfold SetTable.fits SetTable.fill;rw[hpl,hdm];simp
  have hg:(s.heap.update r (Obj.putSet #[] t')).get? r=some { o with data:=.set #[] (ep+1) t' }:=by
   have:=Heap.get?_update_self (Obj.putSet #[] t') e.get (by rw[putSet_of #[] t' e.dt];rfl)
   rw[putSet_of #[] t' e.dt]at this;exact this
  refine wpAny_storeSet_of e.get e.dt (h _ _ (ep+1) t' (Heap.SameBut.update _ r _) ⟨hg,e.ex,rfl,hpl,hdm⟩ (by rw[hmk];exact r1) (by rw[hmk];exact r2)) (by simp)
 ·rw[if_neg (by omega)]
  refine wpAny_pure ?_
  rw[hsame]
  exact h s.heap o ep t (Heap.SameBut.refl _ _) e (by rw[hm];exact zhv) (by omega)
theorem zcw{a r:Addr}{o:Obj}{ep:Nat}{t:SetTable}{oa:Obj}{ea:Array (Int×Value)}{epa:Nat}{ta:SetTable}{Q:Unit->Shared->Prop}(har:a≠r)(e:kx s.heap r o ep t)(hm:t.mask=7)
    (hoa:s.heap.get? a=some oa) (hda:oa.data=.set ea epa ta) (hfa:ta.fits ea.size=true) (h4:4<=ea.size) (hn:ea.size<=60)
    (h:∀ h' o' es' ep' t',Heap.SameBut r s.heap h'->h'.get? r=some o'->o'.ExactSet->o'.data=.set es' ep' t'->es'.toList.Perm ea.toList->t'.fits es'.size=true->t'.dummies=#[]->ea.size<=t'.mask->Q () { s with heap:=h' }):wpAny (model prog w) A (setMerge r a) Q E s:=by
  unfold setMerge
  rw[if_neg (by simpa using Ne.symm har)]
  refine wpAny_bind (wpAny_setState_of hoa hda hfa ?_)
  dsimp only
  rw [if_neg (fun z => by have h0 : ea.size = 0 := (by simpa using z : ea = #[]) ▸ rfl
                          omega)]
  refine wpAny_bind (Yn e hm h4 hn fun h' o' ep' t' hsb e' hfull hle=>?_)
  have hf':t'.fits 0=true:=by unfold SetTable.fits SetTable.fill;rw[e'.pl,e'.dm];simp
  refine wpAny_bind (wpAny_setState_of e'.get e'.dt hf' ?_)
  dsimp only
  have hfill:t'.fill=0:=by unfold SetTable.fill;rw[e'.pl,e'.dm];rfl
  have hsz:ea.size<=sizeLine:=by have:sizeLine=16777216:=rfl;omega
  have fin:∀ (es2:Array (Int×Value)) (t2:SetTable),es2.toList.Perm ea.toList->t2.fits es2.size=true->t2.dummies=#[]->ea.size<=t2.mask->wpAny (model prog w) A (storeSet r es2 t2) Q E { s with heap:=h' }:=fun es2 t2 hp hf2 hd2 hm2=>by
    have hs2:es2.size=ea.size:=by have:=hp.length_eq;simpa using this
    have hg:(h'.update r (Obj.putSet es2 t2)).get? r=some { o' with data:=.set es2 (ep'+1) t2 }:=by
      have:=Heap.get?_update_self (Obj.putSet es2 t2) e'.get (by rw[putSet_of es2 t2 e'.dt];rfl)
      rw[putSet_of es2 t2 e'.dt]at this;exact this
    exact wpAny_storeSet_of (s:={ s with heap:=h' }) e'.get e'.dt (h _ _ es2 (ep'+1) t2 (hsb.trans (Heap.SameBut.update _ r _)) hg e'.ex rfl hp hf2 hd2 hm2) (by omega)
  unfold SetTable.road
  rw[hfill]
  simp only[bne_self_eq_false,xI,if_false]
  have hfa':=hfa
  unfold SetTable.fits SetTable.fill at hfa'
  rw[xa,beq_iff_eq,decide_eq_true_eq]at hfa'
  by_cases hc:(t'.mask==ta.mask&&ta.dummies.isEmpty)=true
  · rw [if_pos hc]
    rw[xa,beq_iff_eq]at hc
    have hdm:ta.dummies=#[]:=by simpa using hc.2
    refine fin ea _ (.refl _) ?_ hdm ?_
    · unfold SetTable.fits SetTable.fill at hfa |-;exact hfa
    · show ea.size ≤ ta.mask
      omega
  · rw [if_neg hc]
    dsimp only
    obtain⟨t2,order,el,hp,hps,hdm,hmk,_,_⟩:=YW (finger:=t'.finger) (moves:=t'.moves) (led:=t'.led&&ta.led) (plain:=t'.plain&&ta.plain) hfull (ea.map (·.1)) (by rw[Array.size_map];exact hle)
    rw[Array.size_map]at hp hps
    rw[el]
    have hop:=yR (es:=ea) hp
    have hos:(order.filterMap (ea[·]?)).size=ea.size:=by rw[<- Array.length_toList,hop.length_eq,Array.length_toList]
    refine wpAny_bind (m:=_) ?_
    show wpAny _ _ (if ((order.filterMap (ea[·]?)).size !=ea.size)=true then _ else pure (order.filterMap (ea[·]?),t2)) _ _ _
    rw[if_neg (by rw[hos];simp)]
    refine wpAny_pure (fin _ t2 hop ?_ hdm (by rw[hmk];exact hle))
    unfold SetTable.fits SetTable.fill
    rw[hdm,hps,hos,hmk]
    simp
    exact hle
theorem ZQ{α:Type}(es:Array α)(i:Nat):(eraseAt es i).toList=es.toList.eraseIdx i:=by
 unfold eraseAt
 rw[List.eraseIdx_eq_take_drop_succ]
 simp[Array.toList_extract]
 exact List.take_of_length_le (by simp)
theorem JN{α:Type}{es:Array α}{i:Nat}(h:i<es.size):(eraseAt es i).size+1=es.size:=by
 rw[<- Array.length_toList,ZQ,List.length_eraseIdx_of_lt (by simpa using h)]
 simp;omega
theorem VR{α:Type}(xs:Array α)(p:Nat)(x:α)(h:p<=xs.size):(insertAt xs p x).size=xs.size+1:=by
 unfold insertAt
 simp
 omega
structure Has(prog:Program)(w:World)(h:Heap)(r:Addr)(ks:List Int)(d m:Nat)(o:Obj)(es:Array (Int×Value))(ep:Nat)(t:SetTable):Prop where
 get:h.get? r=some o
 ex:o.ExactSet
 dt:o.data=.set es ep t
 el:ElemsOf (intKind prog w) es.toList
 key:Keys prog w es.toList ks
 nd:ks.Nodup
 fits:t.fits es.size=true
 dm:t.dummies.size<=d
 mke:m<=t.mask
 sm:es.size<scanBound
theorem Has.setOf{h:Heap}{r:Addr}{ks:List Int}{d m:Nat}{o:Obj}{es:Array (Int×Value)}{ep:Nat}{t:SetTable}(x:Has prog w h r ks d m o es ep t):h.SetOf (intKind prog w) r (fun k=>decide (k∈ks)) ks.length :=
 ⟨o,es,ep,t,x.get,x.ex,x.dt,x.el,fun k=>by rw[decide_eq_true_eq];exact (x.key.mem k).symm,x.sm,x.fits,by rw[<- x.key.length];simp⟩
theorem zcd(xs:Array Nat)(j:Nat):below xs j<=xs.size:=by
 unfold below
 have H:∀ fuel lo hi,lo<=hi->hi<=xs.size->below.go xs j fuel lo hi<=xs.size:=by
  intro fuel
  induction fuel with
  |zero=>intro lo hi h1 h2;rw[below.go];omega
  |succ fuel ih=>
   intro lo hi h1 h2
   rw[below.go]
   split
   ·dsimp only
    split
    ·exact ih _ _ (by omega) h2
    ·exact ih _ _ (by omega) (by omega)
   ·omega
 exact H _ _ _ (ui _) (xn _)
theorem Keys.eraseIdx:∀ {es:List (Int×Value)}{ks:List Int}(i:Nat),Keys prog w es ks->Keys prog w (es.eraseIdx i) (ks.eraseIdx i)
 |_,_,i,.nil=>by simp;exact .nil
 |_,_,0,.cons h=>h
 |_,_,i+1,.cons h=>.cons (h.eraseIdx i)
theorem Keys.find:∀ {es:List (Int×Value)}{ks:List Int}{i:Nat}{k:Int},Keys prog w es ks->es.findIdx? (fun e=>(intKind prog w).is k e.2)=some i->ks[i]?=some k:=by
 intro es ks i k h e
 obtain⟨hi,hp,_⟩:=List.findIdx?_eq_some_iff_getElem.mp e
 have H:∀ {es:List (Int×Value)} {ks:List Int} (i:Nat) (hi:i<es.length),Keys prog w es ks->(intKind prog w).is k es[i].2=true->ks[i]?=some k:=by
  intro es ks i hi h
  induction h generalizing i with
  |nil=>simp at hi
  | @cons k' t es ks h ih=>
   intro hk
   cases i with
   |zero=>
    have hk2:Value.isInt k (.int k' t)=true:=hk
    obtain⟨t2,e2⟩:=Value.isInt_shape hk2
    injection e2 with e3
    rw[e3];rfl
   |succ i=>exact ih i (by simpa using hi) hk
 exact H i hi h hp
theorem YF{r:Addr}{ks:List Int}{d m:Nat}{o:Obj}{es:Array (Int×Value)}{ep:Nat}{t:SetTable}{k:Int}{tok:Tok}{Q:Bool->Shared->Prop}(x:Has prog w s.heap r ks d m o es ep t)
  (h:∀ h' o' es' ep' t' ks' b,Heap.SameBut r s.heap h'->Has prog w h' r ks' (d+1) m o' es' ep' t'->(∀ k',k'∈ks'↔(k'∈ks/\k'≠k))->Q b { s with heap:=h' }):wpAny (model prog w) A (setDiscardHashed r (.int k tok) ((intKind prog w).hash k)) Q E s:=by
 have hsame:s={ s with heap:=s.heap }:=by cases s;rfl
 unfold setDiscardHashed setFind setFindIn
 refine wpAny_bind (wpAny_bind (wpAny_setState_of x.get x.dt x.fits ?_))
 dsimp only
 rw[byScan_of (knd:=intKind prog w) rfl x.sm x.el]
 simp only[↓reduceIte]
 refine wpAny_bind (wpAny_rule ?_)
 refine wpAny_bind (wpAny_setScan_of (knd:=intKind prog w) (intKind_is _ _ _ _) x.get x.dt x.fits x.el ?_)
 cases hr:List.findIdx? (fun e=>(intKind prog w).is k e.2) es.toList with
 |none=>
  dsimp only
  refine wpAny_pure (wpAny_pure ?_)
  rw[hsame]
  refine h s.heap o es ep t ks false (Heap.SameBut.refl _ _) ⟨x.get,x.ex,x.dt,x.el,x.key,x.nd,x.fits,Nat.le_succ_of_le x.dm,x.mke,x.sm⟩ fun k'=>⟨fun hk=>⟨hk,fun e=>?_⟩,fun hk=>hk.1⟩
  subst e
  obtain⟨e1,he,hp⟩:=(x.key.mem k').mpr hk
  have:=List.findIdx?_eq_none_iff.mp hr e1 he
  rw[hp]at this;cases this
 |some i=>
  dsimp only
  rw[uc]
  refine wpAny_pure ?_
  dsimp only
  have hki:=x.key.find hr
  have hi:i<es.size:=by
   obtain⟨hi,_⟩:=List.findIdx?_eq_some_iff_getElem.mp hr
   simpa using hi
  refine wpAny_bind (wpAny_setState_of x.get x.dt x.fits ?_)
  dsimp only
  have hfit:=x.fits
  unfold SetTable.fits SetTable.fill at hfit
  rw[xa,beq_iff_eq,decide_eq_true_eq]at hfit
  have hpi:t.place[i]?=some t.place[i]:=Array.getElem?_eq_getElem (by omega)
  have hdrop:t.drop i={ t with place:=eraseAt t.place i,dummies:=insertAt t.dummies (below t.dummies t.place[i]) t.place[i] }:=by
   unfold SetTable.drop;rw[hpi]
  have hes:=JN hi
  have hpl:=JN (es:=t.place) (i:=i) (by omega)
  have hdm:=VR t.dummies (below t.dummies t.place[i]) t.place[i] (zcd _ _)
  have hfit2:(t.drop i).fits (eraseAt es i).size=true:=by
   rw[hdrop]
   unfold SetTable.fits SetTable.fill
   rw[xa,beq_iff_eq,decide_eq_true_eq]
   dsimp only
   constructor<;>omega
  have hg:(s.heap.update r (Obj.putSet (eraseAt es i) (t.drop i))).get? r=some { o with data:=.set (eraseAt es i) (ep+1) (t.drop i) }:=by
   have:=Heap.get?_update_self (Obj.putSet (eraseAt es i) (t.drop i)) x.get (by rw[putSet_of (eraseAt es i) (t.drop i) x.dt];rfl)
   rw[putSet_of (eraseAt es i) (t.drop i) x.dt]at this;exact this
  have hkl:i<ks.length:=by rw[<- x.key.length];simpa using hi
  have hkk:ks[i]=k:=by rw[xb hkl]at hki;exact Option.some.inj hki
  have hpm:=ZR hkl
  have hnd:(k::ks.eraseIdx i).Nodup:=by rw[<- hkk];exact (hpm.nodup_iff).mpr x.nd
  refine wpAny_bind (wpAny_storeSet_of x.get x.dt ?_ (by have:=fits_of_scanBound x.sm;omega))
  refine wpAny_bind (wpAny_point ?_)
  refine wpAny_pure (h _ _ (eraseAt es i) (ep+1) (t.drop i) (ks.eraseIdx i) true (Heap.SameBut.update _ r _) ⟨hg,x.ex,rfl,?_,?_,(xB.mp hnd).2,hfit2,?_,?_,by have:=x.sm;omega⟩ fun k'=>?_)
  ·rw[ZQ];exact fun e he=>x.el e (List.mem_of_mem_eraseIdx he)
  ·rw[ZQ];exact x.key.eraseIdx i
  ·rw[hdrop];show (insertAt _ _ _).size<=_;have:=x.dm;omega
  ·rw[hdrop];exact x.mke
  ·have h1:k'∈ks↔k'∈k::ks.eraseIdx i:=by rw[<- hkk];exact (hpm.mem_iff).symm
   rw[h1,xm]
   constructor
   ·intro hk
    exact⟨.inr hk,fun e=>(xB.mp hnd).1 (e ▸ hk)⟩
   ·rintro⟨hk | hk,hne⟩
    ·exact absurd hk hne
    ·exact hk
end
end Tab
set_option maxHeartbeats 4000000
namespace Tab
open PySem PySem.SetTable
section
variable {prog:Program} {w:World} {A:Around} {E:Value->Shared->Prop} {s:Shared}
theorem zej{r:Addr}{ks:List Int}{d m:Nat}{o:Obj}{es:Array (Int×Value)}{ep:Nat}{t:SetTable}{Q:Unit->Shared->Prop}(x:Has prog w s.heap r ks d m o es ep t)(hd:d<=m / 4)(h:Q () s):wpAny (model prog w) A (setTidy r) Q E s:=by
 unfold setTidy
 refine wpAny_bind (wpAny_setState_of x.get x.dt x.fits ?_)
 dsimp only
 unfold SetTable.tooManyDummies
 have h1:=x.dm
 have h2:m / 4<=t.mask / 4:=Nat.div_le_div_right x.mke
 rw[if_neg (by simp;omega)]
 exact wpAny_pure h
theorem K1{o r:Addr}{So:Int->Bool}{no m:Nat}{ks:List Int}{d:Nat}{ob:Obj}{es:Array (Int×Value)}{ep:Nat}{t:SetTable}{nm:String}{Q:Unit->Shared->Prop}(ho:s.heap.SetOf (intKind prog w) o So no)(x:Has prog w s.heap r ks 0 m ob es ep t)(hor:o≠r)(hlt:no<ks.length / 4)(hm:ks.length<=m)
  (h:∀ s' ob' es' ep' t' ks',Heap.SameBut r s.heap s'.heap->Has prog w s'.heap r ks' no m ob' es' ep' t'->(∀ k,k∈ks'↔(k∈ks/\So k=false))->s'.gens=s.gens/\s'.os=s.os/\s'.drawn=s.drawn->Q () s'):wpAny (model prog w) A (Builtin.Frozenset.differenceUpdate nm r (.ref o)) Q E s:=by
 unfold Builtin.Frozenset.differenceUpdate
 rw[if_neg (by simp;exact hor)]
 refine wpAny_bind (ji ho ?_)
 simp only[if_true]
 refine wpAny_bind (wpAny_pure ?_)
 refine wpAny_bind (Zw ho ?_)
 refine wpAny_bind (Zw x.setOf ?_)
 rw[if_neg (by omega)]
 have ho0:=ho
 obtain⟨oo,eo,epo,to,hoo,hexo,hdo,helo,hmemo,hbo,hfo,hno⟩:=ho0
 refine wpAny_bind (wpAny_setEpoch_of hoo hdo hfo ?_)
 refine wpAny_bind (wpAny_holding ?_)
 refine wpAny_bind (walk_of hoo hdo hfo (fun b hb=>?_) fun es' hp=>?_)
 ·have:b=o∨b=r:=by simpa using hb
  rcases this with rfl | rfl
  ·exact⟨_,_,ho⟩
  ·exact⟨_,_,x.setOf⟩
 ·obtain⟨ko0,hk0⟩:=JF helo
  obtain⟨ko,hko,hpk⟩:=hk0.perm hp
  have hlen:ko.length=no:=by rw[hpk.length_eq,<- hk0.length,<- hno];simp
  refine wpAny_bind (wpAny_forIn_array' _ (fun (rest:List (Int×Value)) _ s'=>∃ done left ob' es' ep' t' ks',ko=done++left/\Keys prog w rest left/\Heap.SameBut r s.heap s'.heap /\
   Has prog w s'.heap r ks' done.length m ob' es' ep' t'/\(∀ k,k∈ks'↔(k∈ks/\k∉done))/\s'.gens=s.gens/\s'.os=s.os/\s'.drawn=s.drawn) _ ?_ ?_ es' _ ⟨[],ko,_,_,_,_,ks,rfl,hko,Heap.SameBut.refl _ _,x,fun k=>by simp,rfl,rfl,rfl⟩)
  ·rintro⟨hh,y⟩ rest u s' ⟨done,left,ob',es2,ep',t',ks',e1,hk,hs1,hx,hmem,g1,g2,g3⟩
   cases hk with
   | @cons k tk _ left hk=>
    have e2:ko=(done++ [k])++left:=by rw[e1];simp
    refine wpAny_bind (wpAny_holding (YF hx fun h2 o2 es3 ep3 t3 ks3 b hsb hx3 hm3=>?_))
    have q1:Heap.SameBut r s.heap h2:=hs1.trans hsb
    have still:∀ {Q':PUnit->Shared->Prop},Q' ⟨⟩ { s' with heap:=h2 }->wpAny (model prog w) A (Builtin.Frozenset.unchanged nm o epo) Q' E { s' with heap:=h2 }:=fun {Q'} q2=>by
     unfold Builtin.Frozenset.unchanged
     refine wpAny_bind (wpAny_setEpoch_of (s:={ s' with heap:=h2 }) (by show h2.get? o=_;rw[q1.2 o hor];exact hoo) hdo hfo ?_)
     simp only[bne_self_eq_false,xI,if_false]
     exact wpAny_pure q2
    refine wpAny_bind (still (wpAny_pure ⟨done++ [k],left,_,_,_,_,ks3,e2,hk,q1,by rw[xw];exact hx3,fun k'=>?_,g1,g2,g3⟩))
    rw[hm3,hmem,xH,uz]
    constructor
    ·rintro⟨⟨h1,h2⟩,h3⟩
     exact⟨h1,fun z=>z.elim h2 h3⟩
    ·rintro⟨h1,h2⟩
     exact⟨⟨h1,fun z=>h2 (.inl z)⟩,fun z=>h2 (.inr z)⟩
  ·rintro u s' ⟨done,left,ob',es2,ep',t',ks',e1,hk,hs1,hx,hmem,g1,g2,g3⟩
   cases hk
   rw[uf]at e1
   subst e1
   refine wpAny_pure ?_
   rw[hlen]at hx
   refine zej hx ?_ (h s' ob' es2 ep' t' ks' hs1 hx (fun k=>?_) ⟨g1,g2,g3⟩)
   ·have:ks.length / 4<=m / 4:=Nat.div_le_div_right hm
    omega
   ·rw[hmem]
    have h2:k∈ko↔So k=true:=by
     rw[hpk.mem_iff,<- hk0.mem k]
     exact (hmemo k).symm
    rw[h2]
    simp
theorem zdd{a o:Addr}{Sa So:Int->Bool}{na no:Nat}{ka:List Int}{nm:String}{Q:Value->Shared->Prop}(ha:s.heap.SetOf (intKind prog w) a Sa na)(ho:s.heap.SetOf (intKind prog w) o So no)(hka:ka.Nodup)(hkm:∀ k,Sa k=true↔k∈ka)(hkl:ka.length=na)(hna:na<=60)
  (h:∀ s' T n,(∀ b ob,s.heap.get? b=some ob->s'.heap.get? b=some ob)->s.heap.objs.size<s'.heap.objs.size->s'.heap.SetOf (intKind prog w) s.heap.objs.size T n->(∀ k,T k=(Sa k&& !So k))->(∃ L:List Int,L.Nodup/\L.length=n/\∀ k,T k=true↔k∈L)->s'.gens=s.gens/\s'.os=s.os/\s'.drawn=s.drawn->Q (.ref s.heap.objs.size) s') :
  wpAny (model prog w) A (Builtin.Frozenset.difference nm a (.ref o)) Q E s:=by
 have hlt:∀ {b:Addr} {S:Int->Bool} {n:Nat},s.heap.SetOf (intKind prog w) b S n->b<s.heap.objs.size:=fun {b S n} hS=>by
  obtain⟨ob,_,_,_,hg,_⟩:=hS
  exact Heap.lt_size hg
 have har:a≠s.heap.objs.size:=xu (hlt ha)
 have hor:o≠s.heap.objs.size:=xu (hlt ho)
 unfold Builtin.Frozenset.difference
 dsimp only
 refine wpAny_bind (ji ho ?_)
 simp only[uI,xI,if_false,if_true,Bool.false_and]
 refine wpAny_bind (wpAny_pure ?_)
 refine wpAny_bind (Zw ho ?_)
 refine wpAny_bind (Zw ha ?_)
 by_cases hbig:na / 4>no
 ·rw[if_pos hbig]
  refine wpAny_bind (wpAny_rule ?_)
  unfold Builtin.Frozenset.copyOf
  refine wpAny_bind (wpAny_bind (WR ha ?_))
  refine wpAny_bind (wpAny_newSet_of (knd:=intKind prog w) fun led hr=>?_)
  refine wpAny_bind (wpAny_pure ?_)
  obtain⟨oa,ea,epa,ta,hoa,hexa,hda,hela,hmema,hba,hfa,hna'⟩:=ha
  have hgr:(s.heap.push { cls:=.type "set",dict:=none,data:=.set #[] 0 (.fresh 0 0 led) }).get? s.heap.objs.size=some { cls:=.type "set",dict:=none,data:=.set #[] 0 (.fresh 0 0 led) }:=Heap.get?_push_size _ rfl
  have hem:kx (s.heap.push { cls:=.type "set",dict:=none,data:=.set #[] 0 (.fresh 0 0 led) }) s.heap.objs.size { cls:=.type "set",dict:=none,data:=.set #[] 0 (.fresh 0 0 led) } 0 (.fresh 0 0 led):=⟨hgr,⟨rfl,rfl,rfl⟩,rfl,rfl,rfl⟩
  refine wpAny_bind (zcw (s:={ s with heap:=s.heap.push { cls:=.type "set",dict:=none,data:=.set #[] 0 (.fresh 0 0 led) } }) har hem rfl (Heap.get?_push_of_some _ hoa) hda hfa (by omega) (by omega) fun h' o' es' ep' t' hsb hg' hex' hd' hp' hf' hdm' hmk'=>?_)
  refine wpAny_pure ?_
  obtain⟨k0,hk0⟩:=JF hela
  obtain⟨kk,hkk,hpk⟩:=hk0.perm hp'
  have hkkl:kk.length=na:=by rw[hpk.length_eq,<- hk0.length,<- hna'];simp
  have hkmem:∀ k,k∈kk↔Sa k=true:=fun k=>by rw[hpk.mem_iff,<- hk0.mem k];exact (hmema k).symm
  have hnd:kk.Nodup:=(perm_of_sub hka (fun y hy=>(hkmem y).mpr ((hkm y).mpr hy)) (by omega)).nodup_iff.mpr hka
  have hes':es'.size=ea.size:=by rw[<- Array.length_toList,hp'.length_eq,Array.length_toList]
  have hHas:Has prog w h' s.heap.objs.size kk 0 na o' es' ep' t':=⟨hg',hex',hd',hela.perm hp',hkk,hnd,hf',by rw[hdm'];simp,by omega,by omega⟩
  have hoo:h'.SetOf (intKind prog w) o So no:=by
   obtain⟨ob,e1,e2,e3,hg,rest⟩:=ho
   exact⟨ob,e1,e2,e3,by rw[hsb.2 o hor];exact Heap.get?_push_of_some _ hg,rest⟩
  refine wpAny_bind (wpAny_pure ?_)
  refine wpAny_bind (wpAny_holding (K1 (s:={ s with heap:=h' }) (d:=0) hoo hHas hor (by omega) (by omega) fun s' ob2 es2 ep2 t2 ks2 hsb2 hx2 hm2 hg2=>?_))
  refine wpAny_pure (h s' (fun k=>decide (k∈ks2)) ks2.length (fun b ob hb=>?_) ?_ hx2.setOf (fun k=>?_) ?_ hg2)
  ·have hne:b≠s.heap.objs.size:=xu (Heap.lt_size hb)
   rw[hsb2.2 b hne]
   show h'.get? b=some ob
   rw[hsb.2 b hne]
   exact Heap.get?_push_of_some _ hb
  ·have:=Heap.lt_size hx2.get
   exact this
  ·have h1:=hm2 k
   rw[hkmem]at h1
   apply xN.mpr
   rw[decide_eq_true_eq,h1]
   simp
  ·exact⟨ks2,hx2.nd,rfl,fun k=>by rw[decide_eq_true_eq]⟩
 ·rw[if_neg hbig]
  refine wpAny_bind (WR ha ?_)
  refine wpAny_bind (wpAny_newSet_of (knd:=intKind prog w) fun led hr=>?_)
  refine wpAny_bind (wpAny_pure ?_)
  have up:∀ {b:Addr} {S:Int->Bool} {n:Nat},s.heap.SetOf (intKind prog w) b S n->(s.heap.push { cls:=.type "set",dict:=none,data:=.set #[] 0 (.fresh 0 0 led) }).SetOf (intKind prog w) b S n:=fun {b S n} hS=>by
   obtain⟨ob,e1,e2,e3,hg,rest⟩:=hS
   exact⟨ob,e1,e2,e3,Heap.get?_push_of_some _ hg,rest⟩
  refine zhq (s:={ s with heap:=s.heap.push { cls:=.type "set",dict:=none,data:=.set #[] 0 (.fresh 0 0 led) } }) (up ha) (up ho) (by have:scanBound=4096:=rfl;omega) hr har hor fun s' T n hsb hS hT hz hg=>?_
  refine h s' T n (fun b ob hb=>?_) ?_ hS hT hz hg
  ·have hne:b≠s.heap.objs.size:=xu (Heap.lt_size hb)
   rw[hsb.2 b hne]
   exact Heap.get?_push_of_some _ hb
  ·obtain⟨_,_,_,_,hg,_⟩:=hS
   exact Heap.lt_size hg
end
end Tab
set_option maxHeartbeats 4000000
namespace Tab
open PySem PySem.SetTable
section
variable {prog:Program} {w:World} {A:Around} {E:Value->Shared->Prop} {s:Shared}
theorem zb5{a o:Addr}{Sa So:Int->Bool}{na no:Nat}{ka:List Int}{Q:PySem.Fin->Shared->Prop}(ha:s.heap.SetOf (intKind prog w) a Sa na)(ho:s.heap.SetOf (intKind prog w) o So no)(hka:ka.Nodup)(hkm:∀ k,Sa k=true↔k∈ka)(hkl:ka.length=na)(hna:na<=60)
  (h:∀ s' T n,(∀ b ob,s.heap.get? b=some ob->s'.heap.get? b=some ob)->s.heap.objs.size<s'.heap.objs.size->s'.heap.SetOf (intKind prog w) s.heap.objs.size T n->(∀ k,T k=(Sa k&& !So k))->(∃ L:List Int,L.Nodup/\L.length=n/\∀ k,T k=true↔k∈L)->s'.gens=s.gens/\s'.os=s.os/\s'.drawn=s.drawn->Q (.done (.ret (.ref s.heap.objs.size))) s') :
  wpAny (model prog w) A (Builtin.«frozenset.__sub__» ⟨[.ref a,.ref o],[]⟩) Q E s:=by
 unfold Builtin.«frozenset.__sub__»
 refine wpAny_bind (m:=Builtin.Frozenset.slot1 "__sub__" ⟨[.ref a,.ref o],[]⟩) ?_
 unfold Builtin.Frozenset.slot1
 refine wpAny_bind (m:=slotArgs "__sub__" 1 ⟨[.ref a,.ref o],[]⟩) (wpAny_pure ?_)
 refine wpAny_pure ?_
 dsimp only
 simp only[xI,if_false,andM]
 refine wpAny_bind (wpAny_bind (ji ha ?_))
 refine ji ho ?_
 simp only[uI,xI,if_false]
 refine wpAny_bind (wpAny_pure ?_)
 refine wpAny_bind (zdd ha ho hka hkm hkl hna fun s' T n h1 h2 h3 h4 h5 h6=>?_)
 exact wpAny_pure (h s' T n h1 h2 h3 h4 h5 h6)
theorem wL:entryFor table "set.__sub__" =some Builtin.«frozenset.__sub__» :=
 entryFor_alias (id':= "frozenset.__sub__") (by kernel_rfl) rfl (by decide +kernel) (by kernel_rfl)
theorem sub_sets{a o:Addr}{Sa So:Int->Bool}{na no:Nat}{ka:List Int}{Q:Value->Shared->Prop}(ha:s.heap.SetOf (intKind prog w) a Sa na)(ho:s.heap.SetOf (intKind prog w) o So no)(hka:ka.Nodup)(hkm:∀ k,Sa k=true↔k∈ka)(hkl:ka.length=na)(hna:na<=60)
  (h:∀ s' T n,(∀ b ob,s.heap.get? b=some ob->s'.heap.get? b=some ob)->s.heap.objs.size<s'.heap.objs.size->s'.heap.SetOf (intKind prog w) s.heap.objs.size T n->(∀ k,T k=(Sa k&& !So k))->(∃ L:List Int,L.Nodup/\L.length=n/\∀ k,T k=true↔k∈L)->s'.gens=s.gens/\s'.os=s.os/\s'.drawn=s.drawn->Q (.ref s.heap.objs.size) s') :
  wpAny (model prog w) A (binaryOp .Sub (.ref a) (.ref o)) Q E s :=
 wpAny_binaryOp_same (qU (h:=s.heap) ha) (qU (h:=s.heap) ho) PySem.F.fills_set_sub PySem.F.slot_set_sub
  (wpAny_call_entry PySem.F.slot_set_sub (qU (h:=s.heap) ha) wL (zb5 ha ho hka hkm hkl hna fun s' T n h1 h2 h3 h4 h5 h6=>⟨_,rfl,(fun z=>nomatch z),h s' T n h1 h2 h3 h4 h5 h6⟩) (PySem.F.args_set_sub_2 _ _))
end
end Tab
set_option maxHeartbeats 4000000
namespace L2
open PySem PySem.Spec PyProof.Rows
theorem Yj(ns:List Int):(List.range ns.length).map (fun i=>ns.getD i 0)=ns:=by
 apply List.ext_getElem
 ·simp
 ·intro i h1 h2
  simp at h1
  simp[h1]
theorem Zl(ns:List Int):firstMet (fun i=>ns.getD i 0) ns.length=Tab.dedup ns:=by
 unfold firstMet Tab.dedup
 rw[Yj]
noncomputable def Zg(ns ms:List Int):Nat:=(Tab.dedup (ns.filter fun k=> !ms.contains k)).length
section
variable {X:Cx}
theorem yT {l:Expr}{p pos:Pos}(hc:X.calm=true) (hg:Gl X "set") (hm:X.mg "set" =none) (hst:starEach [l] X.env= [(false,eval l X.env)]){pins:List (Addr×Obj)}{s:Shared}{σ:St}{H:Hp}{R:List Int->Hp->Prop}(I:Inv X pins σ H s)
  (h:wpE X l σ H (fun v H1=>∃ a ns,v=.ref a/\SqL X.K H1 a (List.map V.int ns)/\ns.length<=60/\R ns H1)) :
  wpAny (model X.prog X.w) X.A (eval (.Call (.Name "set" p) [l] [] pos) X.env) (fun u s'=>∃ (r:Addr) (ns:List Int) (H1:Hp),u=.ref r/\Inv X pins σ H1 s'/\Q0 X pins H1 r/\ns.length<=60/\s'.heap.SetOf (intKind X.prog X.w) r (fun k=>(Tab.dedup ns).any (·==k)) (Tab.dedup ns).length/\R ns H1) X.xe s:=by
 have h':YU (wpE X l) zbn σ H (fun vs H1=>∃ v,vs= [v]/\∃ a ns,v=.ref a/\SqL X.K H1 a (List.map V.int ns)/\ns.length<=60/\R ns H1):=wpE.mono h fun v H1 q=>⟨v,rfl,q⟩
 refine Call_ (jp I hg hm boot_setW (PyProof.Rows.callWith_type1 (thn ((zy zg pa_nil hst) pos pins s σ H _ I h') fun us s1 ⟨vs,H1,I1,r1,q1⟩=>?_) hst rfl))
 obtain⟨v,rfl,a,ns,rfl,hq,hn,q⟩:=q1
 obtain⟨u,rfl,ru⟩:=Zj r1
 cases ru
 obtain⟨its,rv,pl,hz⟩:=I1.list hq
 have hlen:=rv.length
 rw[xk]at hlen
 have hsz:its.toArray.size=ns.length:=by rw[xq];exact hlen.symm
 refine call_set_list (I1.ok.hd hc) pl.isList (IntsAre.of rv) (by rw[hsz];have:scanBound=4096:=rfl;omega) fun h2 tk hS hk=>?_
 rw[hsz,Zl]at hS
 exact⟨s1.heap.objs.size,ns,H1,rfl,I1.kept (t':=tk) fun b o e=>hk b o (Heap.lt_size e) e,I1.fpOk (xn _) (I1.hok.fresh (xn _)),hn,hS,q⟩
theorem Z6(ns:List Int)(k:Int):(Tab.dedup ns).any (·==k)=true↔k∈Tab.dedup ns:=by simp
theorem zbE{ns ms L:List Int}{n:Nat}(hL:L.Nodup)(hl:L.length=n)(hm:∀ k,k∈L↔(k∈ns/\k∉ms)):n=Zg ns ms:=by
 unfold Zg
 rw[<- hl]
 have hd:∀ k,k∈Tab.dedup (ns.filter fun k=> !ms.contains k)↔(k∈ns/\k∉ms):=fun k=>by
  rw[<- Z6,Tab.any_dedup,xp];simp
 have p1:=Tab.perm_of_sub (fm:=L) (ks:=Tab.dedup (ns.filter fun k=> !ms.contains k)) hL (fun x hx=>(hd x).mpr ((hm x).mp hx))
 have p2:=Tab.perm_of_sub (fm:=Tab.dedup (ns.filter fun k=> !ms.contains k)) (ks:=L) (Tab.nodup_dedup _) (fun x hx=>(hm x).mpr ((hd x).mp hx))
 rcases Nat.le_total L.length (Tab.dedup (ns.filter fun k=> !ms.contains k)).length with h | h
 ·exact (p2 h).length_eq
 ·exact (p1 h).length_eq.symm
theorem jv(ns:List Int):(Tab.dedup ns).length<=ns.length:=by
 have h1:∀ (l acc:List Int),(l.foldl PyProof.Rows.step_dedup acc).length<=acc.length+l.length:=by
  intro l
  induction l with
  |nil=>intro acc;simp
  |cons x l ih=>
   intro acc
   rw[uB]
   refine xL (ih _) ?_
   rw[PyProof.Rows.step_length,xl]
   split<;>omega
 have:=h1 ns []
 simpa [Tab.dedup] using this
theorem yZ {a b:Expr}{p1 p2 p3 q1 q2 q3 pb:Pos}(hc:X.calm=true) (hgl:Gl X "len") (hml:X.mg "len" =none) (hgs:Gl X "set") (hms:X.mg "set" =none) (hsa:starEach [a] X.env= [(false,eval a X.env)]) (hsb:starEach [b] X.env= [(false,eval b X.env)]) :
  PE X (.Call (.Name "len" p1) [.BinOp (.Call (.Name "set" p2) [a] [] q2) .Sub (.Call (.Name "set" p3) [b] [] q3) pb] [] q1) (fun σ H Q=>wpE X a σ H fun v H1=>∃ l ns,v=.ref l/\SqL X.K H1 l (List.map V.int ns)/\ns.length<=60 /\
   wpE X b σ H1 fun u H2=>∃ l2 ms,u=.ref l2/\SqL X.K H2 l2 (List.map V.int ms)/\ms.length<=60/\Q (.int (Zg ns ms)) H2):=by
 intro pins s σ H Q I h
 refine wpAny_Call_Name_kw (jp I hgl hml PySem.boot_len ?_)
 refine PyProof.Rows.callWith_builtin1 (E:=X.xe) ?_ rfl rfl
 show wpAny _ _ (spliced ((false,eval (.BinOp (.Call (.Name "set" p2) [a] [] q2) .Sub (.Call (.Name "set" p3) [b] [] q3) pb) X.env)::backTo q1 (starEach [] X.env))) _ _ s
 refine Calls.spliced_cons (wpAny_BinOp ?_)
 refine thn (yT hc hgs hms hsa (R:=fun ns H1=>wpE X b σ H1 fun u H2=>∃ l2 ms,u=.ref l2/\SqL X.K H2 l2 (List.map V.int ms)/\ms.length<=60/\Q (.int (Zg ns ms)) H2) I h) fun v s1 ⟨r1,ns,H1,e1,I1,f1,hn,hS1,q⟩=>?_
 subst e1
 have hS1':=hS1
 obtain⟨o1,es1,ep1,t1,hg1,hx1,hd1,rest1⟩:=hS1'
 have hncell:∀ v,o1.data≠ .cell v:=fun v z=>by rw[hd1]at z;cases z
 have hfp:∀ b∈ [r1],Q0 X pins H1 b:=fun b hb=>by
  have:b=r1:=by simpa using hb
  subst this;exact f1
 have Ip:=I1.pinned (fp:= [r1]) hfp fun b hb=>by
  have:b=r1:=by simpa using hb
  subst this;exact⟨o1,hg1,hncell⟩
 refine thn (yT hc hgs hms hsb (R:=fun ms H2=>Q (.int (Zg ns ms)) H2) Ip q) fun u s2 ⟨r2,ms,H2,e2,I2,f2,hn2,hS2,q2⟩=>?_
 subst e2
 have hpin:=I2.pin (r1,o1) (xA _ (xA _ (by
  unfold Jc
  simp[hg1])))
 have hS1b:s2.heap.SetOf (intKind X.prog X.w) r1 (fun k=>(Tab.dedup ns).any (·==k)) (Tab.dedup ns).length:=⟨o1,es1,ep1,t1,hpin.1,hx1,hd1,rest1⟩
 refine Tab.sub_sets hS1b hS2 (Tab.nodup_dedup ns) (Z6 ns) rfl (xL (jv ns) hn) fun s3 T n k1 k2 hS3 hT hL hg=>?_
 obtain⟨L,hL1,hL2,hL3⟩:=hL
 have hnn:n=Zg ns ms:=zbE hL1 hL2 fun k=>by
  rw[<- hL3,hT,xa,Bool.not_eq_true',<- Bool.not_eq_true,Tab.any_dedup,Tab.any_dedup]
 refine Calls.spliced_nil ?_
 obtain⟨o3,es3,ep3,t3,hg3,hx3,hd3,_,_,hb3,hf3,hn3⟩:=hS3
 have hsb:scanBound=4096:=rfl
 refine call_len_set hg3 hx3 hd3 hf3 (by omega) ?_
 have I3:Inv X pins σ H2 { s2 with heap:=s3.heap,toks:=s3.toks+1+1 }:=I2.unpinned.kept k1
 have es:({ heap:=s3.heap,gens:=s3.gens,drawn:=s3.drawn,toks:=s3.toks+1+1,os:=s3.os }:Shared)={ s2 with heap:=s3.heap,toks:=s3.toks+1+1 }:=by
  rw[hg.1,hg.2.1,hg.2.2]
 refine⟨.int (Zg ns ms),H2,?_,⟨s3.toks+1,?_⟩,q2⟩
 ·rw[es];exact I3
 ·rw[hn3,hnn]
end
end L2
namespace L3
open PySem PySem.Spec PyProof.Rows L2
noncomputable def YS(fa fb:EM FV):EM FV:=fun Γ=>(fa Γ).bind fun (u,Γ1)=>match (derL Γ1 u).bind qj with
 |some ns=>if ns.length<=60 then (fb Γ1).bind fun (w,Γ2)=>match (derL Γ2 w).bind qj with
  |some ms=>if ms.length<=60 then .ok (.dat (.int (Zg ns ms)),Γ2) else .bad
  |none=>.bad
  else .bad
 |none=>.bad
section
variable {X:Cx} {XP:XPT} {mp:List Nat} {a b:Expr} {fa fb:EM FV}
theorem vp{M0:Addr->Prop}{F:Fp}{Γ:Gv}{ν:Nu}{H:Hp}{v:V}{u:FV}{ns:List Int}(o:FOk M0 F ν H v u)(rs:RS M0 F Γ ν H)(e:(derL Γ u).bind qj=some ns):∃ l,v=.ref l/\H l=some (.lst (List.map V.int ns)):=by
 cases ed:derL Γ u with
 |none=>rw[ed]at e;cases e
 |some ds=>
  rw[ed]at e
  have eds:=QQ (by simpa using e:qj ds=some ns)
  subst eds
  obtain⟨l,vs,rfl,el,r⟩:=o.list rs ed
  have ev:=RepL.intsInv r
  subst ev
  exact⟨l,rfl,el⟩
theorem zc5 {p1 p2 p3 q1 q2 q3 pb:Pos}(hc:X.calm=true) (hgl:Gl X "len") (hml:X.mg "len" =none) (hgs:Gl X "set") (hms:X.mg "set" =none) (ha:SE X XP mp a fa) (hb:SE X XP mp b fb) (hsa:starEach [a] X.env= [(false,eval a X.env)]) (hsb:starEach [b] X.env= [(false,eval b X.env)]) :
  SE X XP mp (.Call (.Name "len" p1) [.BinOp (.Call (.Name "set" p2) [a] [] q2) .Sub (.Call (.Name "set" p3) [b] [] q3) pb] [] q1) (YS fa fb):=fun M0 F Γ ν σ H Q rs hs hp=>by
 refine (yZ hc hgl hml hgs hms hsa hsb).wp (ha.run rs hs hp fun F1 Γ1 H1 u v rs1 s1 o1 h1=>?_)
 dsimp only at h1
 split at h1
 ·rename_i ns en
  split at h1
  ·rename_i hn
   obtain⟨l,rfl,el⟩:=vp o1 rs1 en
   refine⟨l,ns,rfl,SqL.of el,hn,hb.run rs1 hs h1 fun F2 Γ2 H2 w v2 rs2 s2 o2 h2=>?_⟩
   dsimp only at h2
   split at h2
   ·rename_i ms em
    split at h2
    ·rename_i hm
     obtain⟨l2,rfl,el2⟩:=vp o2 rs2 em
     exact⟨l2,ms,rfl,SqL.of el2,hm,h2 F2 H2 rs2 (.refl _ _) _ (Rep.int _)⟩
    ·exact h2.elim
   ·exact h2.elim
  ·exact h1.elim
 ·exact h1.elim
end
end L3
namespace Tab
open PySem PySem.Spec PyProof.Rows
noncomputable abbrev qX (led:Bool):Obj:={ cls:=.type "set",dict:=none,data:=.set #[] 0 (.fresh 0 0 led) }
section
variable {prog:Program} {w:World} {A:Around} {E:Value->Shared->Prop} {s:Shared}
set_option maxHeartbeats 3200000 in
theorem set_tuple{a:Addr}{vs:Array Value}{ns:List Int}{Q:Value->Shared->Prop}(hd:A.handled=none)(ht:s.heap.IsTuple a vs)(hv:IntsAre vs.toList ns)(hsz:vs.size+1<scanBound)
  (k:∀ (h2:Heap) (tk:Nat),h2.SetOf (intKind prog w) s.heap.objs.size (fun z=>(firstMet (fun i=>ns.getD i 0) vs.size).any (·==z)) (firstMet (fun i=>ns.getD i 0) vs.size).length ->
   (∀ b o,b<s.heap.objs.size->s.heap.get? b=some o->h2.get? b=some o)->Q (.ref s.heap.objs.size) { s with heap:=h2,toks:=tk }) :
  wpAny (model prog w) A (call (.type "set") [.ref a]) Q E s:=by
 obtain⟨c0,t0,m0⟩:=F.called_set.mro
 have m1:=F.called_set.made
 have m2:=F.called_set.sub
 have m3:=F.called_set.notType
 have m4:=F.called_set.canCreate
 have m5:=F.typeCall_set_1 (.ref a)
 refine wpAny_call (codeAny_of_tree ?_)
 show wpAny _ _ (callAny (.type "set") ⟨[.ref a],[]⟩) _ _ s
 refine wpAny_pure ⟨Code.quiet_builtin _ (by decide +kernel),codeAny_builtin F.entry_type_call ?_⟩
 rw[Around.under_plain (weight_type_call_type "set" [.ref a] []) rfl]
 repeat (any_goals (first | assumption | wp_step))
 refine codeAny_mono (code_set_new_1 (.ref a) (E:=E) (Q₁:=fun z z1=>∃ led:Bool,z=.ref s.heap.objs.size/\z1={ s with heap:=s.heap.push (qX led) }) fun led=>⟨led,rfl,rfl⟩) fun r z1 hr=>?_
 cases r with
 |error e=>exact hr
 |ok fl=>
  cases fl with
  |next=>exact hr.elim
  |brk=>exact hr.elim
  |cont=>exact hr.elim
  |ret z=>
   obtain⟨led,rfl,rfl⟩:=hr
   have g0:(s.heap.push (qX led)).get? s.heap.objs.size=some (qX led):=Heap.get?_push_size _ rfl
   have g1:Shared.TypeIs { s with heap:=s.heap.push (qX led) } (.ref s.heap.objs.size) "set" :=⟨_,g0,rfl⟩
   have g2:=F.called_set.init.lookup
   have g3:=F.called_set.init.bind (.ref s.heap.objs.size)
   repeat (any_goals (first | assumption | wp_step))
   refine codeAny_mono (codeAny_call_builtin (R:=wants (fun r z2=>r=.none/\∃ h2 tk,z2={ s with heap:=h2,toks:=tk } /\
     h2.SetOf (intKind prog w) s.heap.objs.size (fun z=>(firstMet (fun i=>ns.getD i 0) vs.size).any (·==z)) (firstMet (fun i=>ns.getD i 0) vs.size).length /\
     ∀ b o,b<s.heap.objs.size->s.heap.get? b=some o->h2.get? b=some o) E) F.called_set.init.plain F.entry_set_init (check_set_init_1 g1 ?_)) fun r2 z2 hr2=>?_
   ·have ht1:=ht.push (qX led)
    obtain⟨ot,e1,e2,nt,e3⟩:=ht
    have hlt:=Heap.lt_size e1
    cases ot with
    |mk oc od odt osl=>
     dsimp only at e2 e3
     subst e2 e3
     have e1':(s.heap.push (qX led)).get? a=some { cls:=.type "tuple",dict:=od,data:=.seq vs nt,slots:=osl }:=Heap.get?_push_of_some _ e1
     have f1:=F.sub_tuple_set
     have f2:=F.sub_tuple_frozenset
     have f3:(Value.type "tuple" ==Value.type "dict")=false:=by decide
     unfold Builtin.«set.__init__» noKeywords Builtin.Frozenset.updateFrom
     generalize hpi:pyIter=pI
     wp_walk
     subst hpi
     refine wpAny_pyIter_tuple ht1 (wpAny_bind (wpAny_runValue ?_))
     have sz1:(s.heap.push (qX led)).objs.size=s.heap.objs.size+1:=Heap.size_push ..
     have n1:a≠(s.heap.push (qX led)).objs.size:=by rw[sz1];exact xu (uN hlt)
     have n2:s.heap.objs.size∉ [(s.heap.push (qX led)).objs.size,a]:=fun z=>by
      rcases xm.mp z with z | z
      ·rw[sz1]at z;exact absurd z (xu (uS _))
      ·have:s.heap.objs.size=a:=by simpa using z
       exact absurd this.symm (xu hlt)
     have n3:A.in1.in1.in1.handled=none:=by simp[hd]
     refine codeAny_set_update_loopS ((Walks.tuple n3 _ a n1 vs).toS) s.heap.objs.size n2 (fun i=>ns.getD i 0) (fun i v q=>IntsAre.int_at hv i v (by rw[Array.getElem?_toList];exact q)) hsz (vs.size-0) 0 _ rfl (ui _)
      ⟨⟨_,Heap.get?_push_size _ rfl,rfl,rfl⟩,ht1.push _⟩ ?u ?v
     case u=>
      have g4:=Heap.get?_push_of_some (h:=s.heap.push (qX led)) { cls:=.type "tuple_iterator",data:=.fields #[.ref a,.int 0 0] } g0
      exact SetOf_congr ((setObjOf_fresh (knd:=intKind prog w) led).setOf g4 (by unfold scanBound;omega)) (fun _=>rfl) rfl
     case v=>
      intro z2 hm hS
      have q1:=hm.gens
      have q2:=hm.drawn
      have q3:=hm.os
      have q4:=hm.heap
      cases z2 with
      |mk h2 gg gd gt go=>
       dsimp only at q1 q2 q3 q4 hS
       subst q1 q2 q3
       show wpAny _ _ _ _ _ _
       refine wpAny_pure ?_
       show wpAny _ _ (ret Value.none) _ _ _
       refine wpAny_pure ⟨rfl,h2,gt,rfl,hS,fun b o hb e=>q4 b o (fun z=>?_) (Heap.get?_push_of_some _ (Heap.get?_push_of_some _ e))⟩
       rcases xm.mp z with z | z
       ·exact absurd z (xu hb)
       ·have:b=(s.heap.push (qX led)).objs.size:=by simpa using z
        rw[sz1]at this;omega
   ·cases r2 with
    |error e=>exact hr2
    |ok fl2=>
     cases fl2 with
     |next=>exact hr2.elim
     |brk=>exact hr2.elim
     |cont=>exact hr2.elim
     |ret r=>
      obtain⟨rfl,h2,tk,rfl,hS,hk⟩:=hr2
      repeat (any_goals (first | assumption | wp_step))
      exact k h2 tk hS hk
end
end Tab
namespace L2
open PySem PySem.Spec PyProof.Rows
section
variable {X:Cx}
theorem zd0 {l:Expr}{p pos:Pos}(hc:X.calm=true) (hg:Gl X "set") (hm:X.mg "set" =none) (hst:starEach [l] X.env= [(false,eval l X.env)]){pins:List (Addr×Obj)}{s:Shared}{σ:St}{H:Hp}{R:List Int->Hp->Prop}(I:Inv X pins σ H s)
  (h:wpE X l σ H (fun v H1=>∃ a ns,v=.ref a/\SqT X.K H1 a (List.map V.int ns)/\ns.length<=60/\R ns H1)) :
  wpAny (model X.prog X.w) X.A (eval (.Call (.Name "set" p) [l] [] pos) X.env) (fun u s'=>∃ (r:Addr) (ns:List Int) (H1:Hp),u=.ref r/\Inv X pins σ H1 s'/\ns.length<=60/\s'.heap.SetOf (intKind X.prog X.w) r (fun k=>(Tab.dedup ns).any (·==k)) (Tab.dedup ns).length/\R ns H1) X.xe s:=by
 have h':YU (wpE X l) zbn σ H (fun vs H1=>∃ v,vs= [v]/\∃ a ns,v=.ref a/\SqT X.K H1 a (List.map V.int ns)/\ns.length<=60/\R ns H1):=wpE.mono h fun v H1 q=>⟨v,rfl,q⟩
 refine Call_ (jp I hg hm boot_setW (PyProof.Rows.callWith_type1 (thn ((zy zg pa_nil hst) pos pins s σ H _ I h') fun us s1 ⟨vs,H1,I1,r1,q1⟩=>?_) hst rfl))
 obtain⟨v,rfl,a,ns,rfl,hq,hn,q⟩:=q1
 obtain⟨u,rfl,ru⟩:=Zj r1
 cases ru
 obtain⟨its,rv,pl,hz⟩:=I1.tuple hq
 have hlen:=rv.length
 rw[xk]at hlen
 have hsz:its.toArray.size=ns.length:=by rw[xq];exact hlen.symm
 refine Tab.set_tuple (I1.ok.hd hc) (show s1.heap.IsTuple a its.toArray from pl) (IntsAre.of rv) (by rw[hsz];have:scanBound=4096:=rfl;omega) fun h2 tk hS hk=>?_
 rw[hsz,Zl]at hS
 exact⟨s1.heap.objs.size,ns,H1,rfl,I1.kept (t':=tk) fun b o e=>hk b o (Heap.lt_size e) e,hn,hS,q⟩
theorem YK {a:Expr}{p1 p2 q1 q2:Pos}(hc:X.calm=true) (hgl:Gl X "len") (hml:X.mg "len" =none) (hgs:Gl X "set") (hms:X.mg "set" =none) (hsa:starEach [a] X.env= [(false,eval a X.env)]) :
  PE X (.Call (.Name "len" p1) [.Call (.Name "set" p2) [a] [] q2] [] q1) (fun σ H Q=>wpE X a σ H fun v H1=>∃ l ns,v=.ref l/\SqT X.K H1 l (List.map V.int ns)/\ns.length<=60/\Q (.int (Tab.dedup ns).length) H1):=by
 intro pins s σ H Q I h
 refine wpAny_Call_Name_kw (jp I hgl hml PySem.boot_len ?_)
 refine PyProof.Rows.callWith_builtin1 (E:=X.xe) ?_ rfl rfl
 show wpAny _ _ (spliced ((false,eval (.Call (.Name "set" p2) [a] [] q2) X.env)::backTo q1 (starEach [] X.env))) _ _ s
 refine Calls.spliced_cons ?_
 refine thn (zd0 hc hgs hms hsa (R:=fun ns H1=>Q (.int (Tab.dedup ns).length) H1) I h) fun v s1 ⟨r1,ns,H1,e1,I1,hn,hS1,q⟩=>?_
 subst e1
 refine Calls.spliced_nil ?_
 obtain⟨o3,es3,ep3,t3,hg3,hx3,hd3,_,_,hb3,hf3,hn3⟩:=hS1
 have hsb:scanBound=4096:=rfl
 have hdl:=jv ns
 obtain⟨hh,gg,gd,gt,go⟩:=s1
 refine call_len_set hg3 hx3 hd3 hf3 (by omega) ?_
 refine⟨.int (Tab.dedup ns).length,H1,I1.kept (t':=gt+1+1) fun b o e=>e,⟨gt+1,?_⟩,q⟩
 rw[hn3]
end
end L2
namespace L3
open PySem PySem.Spec PyProof.Rows L2
section
variable {X:Cx} {XP:XPT} {mp:List Nat} {a b:Expr} {p1 p2 q1 q2:Pos} {fa fb:EM FV}
noncomputable def yf(fa:EM FV):EM FV:=fun Γ=>(fa Γ).bind fun (u,Γ1)=>match derS Γ1 u with
 |some (.tuple ds)=>match qj ds with
  |some ns=>if ns.length<=60 then .ok (.dat (.int (Tab.dedup ns).length),Γ1) else .bad
  |none=>.bad
 |_=>.bad
theorem jD{M:Addr->Prop}{H:Hp}:∀ {vs:List V}{ds:List PyData}{ns:List Int},RepL M H vs ds->qj ds=some ns->vs=ns.map V.int
 |_,_,_,.nil,e=>by cases e;rfl
 |_,_,_,.cons (ds:=ds) (d:=d) r t,e=>by
  cases d with
  |int i=>
   unfold qj at e
   cases q:qj ds with
   |none=>rw[q]at e;cases e
   |some ms=>
    rw[q]at e
    cases e
    cases r
    rw[xK,jD t q]
  |_=>cases e
theorem zev (hc:X.calm=true) (hgl:Gl X "len") (hml:X.mg "len" =none) (hgs:Gl X "set") (hms:X.mg "set" =none) (ha:SE X XP mp a fa) (hsa:starEach [a] X.env= [(false,eval a X.env)]) :
  SE X XP mp (.Call (.Name "len" p1) [.Call (.Name "set" p2) [a] [] q2] [] q1) (yf fa):=fun M0 F Γ ν σ H Q rs hs hp=>by
 refine (YK hc hgl hml hgs hms hsa).wp (ha.run rs hs hp fun F1 Γ1 H1 u v rs1 s1 o1 h1=>?_)
 dsimp only at h1
 split at h1
 ·rename_i ds ed
  split at h1
  ·rename_i ns en
   split at h1
   ·rename_i hn
    obtain⟨l,vs,rfl,el,r⟩:=(o1.strong rs1 ed).tup_inv
    have hv:=jD r en
    subst hv
    exact⟨l,ns,rfl,SqT.of el,hn,h1 F1 H1 rs1 (.refl _ _) _ (Rep.int _)⟩
   ·exact h1.elim
  ·exact h1.elim
 ·exact h1.elim
end
end L3
namespace L2
open PySem PySem.Spec PyProof.Rows
section
variable {X:Cx} {e:Expr} {te:TE} {st:Expr} {ts:TO} {pos p2:Pos}
end
end L2
namespace L2
open PySem PySem.Spec PyProof.Rows
section
variable {X:Cx}
end
end L2
namespace L3
open PySem PySem.Spec PyProof.Rows L2
section
variable {X:Cx} {XP:XPT} {mp:List Nat} {a st:Expr} {p p2 pos:Pos} {fa fs:EM FV}
end
end L3
namespace L3
open PySem PySem.Spec PyProof.Rows L2
inductive AV where
 |v (u:FV)
 |io (i:Nat)
inductive AOks(M0:Addr->Prop)(F:Fp)(ν:Nu)(H:Hp):List V->List AV->Prop
 |nil:AOks M0 F ν H [] []
 |v {v:V} {vs:List V} {u:FV} {as:List AV}:FOk M0 F ν H v u->AOks M0 F ν H vs as->AOks M0 F ν H (v::vs) (.v u::as)
 |io {v:V} {vs:List V} {i:Nat} {as:List AV}:ν[i]?=some (some v)->AOks M0 F ν H vs as->AOks M0 F ν H (v::vs) (.io i::as)
noncomputable def APost(M0:Addr->Prop)(F:Fp)(ν:Nu)(σ:St)(H:Hp)(XP:XPT)(P:Fp->Gv->Nu->Hp->List AV->Prop)(r:R (List AV×Gv)):Prop:=match r with
 |.ok (as,Γ')=>∀ F' ν' H',RS M0 F' Γ' ν' H'->ν <+: ν'->Stp F H F' H'->P F' Γ' ν' H' as
 |.exc x Γ'=>∀ F' H',RS M0 F' Γ' ν H'->Stp F H F' H'->XP x Γ' F' ν σ H'
 |.bad=>False
noncomputable def OPost(M0:Addr->Prop)(F:Fp)(ν:Nu)(σ:St)(H:Hp)(XP:XPT)(P:Fp->Gv->Hp->OV->V->Prop)(r:R (OV×Gv)):Prop:=match r with
 |.ok (o,Γ')=>∀ F' H' v,RS M0 F' (Γ'++ [some o]) (ν++ [some v]) H'->Stp F H F' H'->P F' Γ' H' o v
 |.exc x Γ'=>∀ F' H',RS M0 F' Γ' ν H'->Stp F H F' H'->XP x Γ' F' ν σ H'
 |.bad=>False
noncomputable def SA(X:Cx)(XP:XPT)(mp:List Nat)(es:List Expr)(f:EM (List AV)):Prop:=∀ (M0:Addr->Prop) (F:Fp) (Γ:Gv) (ν:Nu) (σ:St) (H:Hp) (Q:List V->Hp->Prop),RS M0 F Γ ν H->Sees mp ν σ ->
 APost M0 F ν σ H XP (fun F' Γ' ν' H' as=>∀ vs,AOks M0 F' ν' H' vs as->Q vs H') (f Γ)->wpA X es σ H Q
noncomputable def SO(X:Cx)(XP:XPT)(mp:List Nat)(e:Expr)(f:EM OV):Prop:=∀ (M0:Addr->Prop) (F:Fp) (Γ:Gv) (ν:Nu) (σ:St) (H:Hp) (Q:VK),RS M0 F Γ ν H->Sees mp ν σ ->
 OPost M0 F ν σ H XP (fun F' Γ' H' o v=>Q v H') (f Γ)->wpE X e σ H Q
section
variable {M0:Addr->Prop} {F:Fp} {Γ:Gv} {ν:Nu} {σ:St} {H:Hp} {XP:XPT} {α:Type}
theorem APost.seq{P:Fp->Gv->Nu->Hp->List AV->Prop}{r:R (α×Gv)}{k:α×Gv->R (List AV×Gv)}(h:APost M0 F ν σ H XP P (r.bind k)):EPost M0 F ν σ H XP (fun F1 Γ1 H1 a=>APost M0 F1 ν σ H1 XP P (k (a,Γ1))) r:=by
 cases r with
 |ok a=>
  obtain⟨a,Γ1⟩:=a
  intro F1 H1 rs1 s1
  have h':APost M0 F ν σ H XP P (k (a,Γ1)):=h
  revert h'
  generalize k (a,Γ1)=r2
  intro h'
  cases r2 with
  |ok b=>exact fun F' ν' H' rs hn s=>h' F' ν' H' rs hn (s1.trans s)
  |exc x Γ'=>exact fun F' H' rs s=>h' F' H' rs (s1.trans s)
  |bad=>exact h'
 |exc x Γ'=>exact h
 |bad=>exact h
theorem APost.mono{P P':Fp->Gv->Nu->Hp->List AV->Prop}{r:R (List AV×Gv)}(h:APost M0 F ν σ H XP P r)(k:∀ F' Γ' ν' H' as,RS M0 F' Γ' ν' H'->ν <+: ν'->Stp F H F' H'->P F' Γ' ν' H' as->P' F' Γ' ν' H' as):APost M0 F ν σ H XP P' r:=by
 cases r with
 |ok a=>exact fun F' ν' H' rs hn s=>k F' _ ν' H' _ rs hn s (h F' ν' H' rs hn s)
 |exc x Γ'=>exact h
 |bad=>exact h
theorem OPost.seq{P:Fp->Gv->Hp->OV->V->Prop}{r:R (α×Gv)}{k:α×Gv->R (OV×Gv)}(h:OPost M0 F ν σ H XP P (r.bind k)):EPost M0 F ν σ H XP (fun F1 Γ1 H1 a=>OPost M0 F1 ν σ H1 XP P (k (a,Γ1))) r:=by
 cases r with
 |ok a=>
  obtain⟨a,Γ1⟩:=a
  intro F1 H1 rs1 s1
  have h':OPost M0 F ν σ H XP P (k (a,Γ1)):=h
  revert h'
  generalize k (a,Γ1)=r2
  intro h'
  cases r2 with
  |ok b=>exact fun F' H' v rs s=>h' F' H' v rs (s1.trans s)
  |exc x Γ'=>exact fun F' H' rs s=>h' F' H' rs (s1.trans s)
  |bad=>exact h'
 |exc x Γ'=>exact h
 |bad=>exact h
theorem OPost.mono{P P':Fp->Gv->Hp->OV->V->Prop}{r:R (OV×Gv)}(h:OPost M0 F ν σ H XP P r)(k:∀ F' Γ' H' o v,RS M0 F' (Γ'++ [some o]) (ν++ [some v]) H'->Stp F H F' H'->P F' Γ' H' o v->P' F' Γ' H' o v):OPost M0 F ν σ H XP P' r:=by
 cases r with
 |ok a=>exact fun F' H' v rs s=>k F' _ H' _ v rs s (h F' H' v rs s)
 |exc x Γ'=>exact h
 |bad=>exact h
end
section
variable {X:Cx} {XP:XPT} {mp:List Nat} {a b c e:Expr} {es:List Expr} {pos p p2:Pos} {fa fb fc:EM FV} {ta tb:EM Bool} {na nb:EM (List PyData)} {fl:EM (List AV)} {fo:EM OV}
noncomputable def fOwn(n:EM (List PyData)):EM OV:=fun Γ=>(n Γ).bind fun (ds,Γ1)=>.ok (.l (ds.map .d),Γ1)
theorem SN.so(h:SN X XP mp a na):SO X XP mp a (fOwn na):=fun M0 F Γ ν σ H Q rs hs hp=>
 h M0 F Γ ν σ H Q rs hs (hp.seq.mono fun F1 Γ1 H1 ds rs1 s1 h1 vs p r n=>by
  obtain⟨r2,s2⟩:=rs1.newO n r
  exact h1 _ _ _ r2 s2)
noncomputable def fOD(f:EM OV):EM FV:=fun Γ=>(f Γ).bind fun (o,Γ1)=>.ok (.dat o.view,Γ1)
theorem SO.se(h:SO X XP mp a fo):SE X XP mp a (fOD fo):=fun M0 F Γ ν σ H Q rs hs hp=>
 h M0 F Γ ν σ H Q rs hs (by
  have hp':EPost M0 F ν σ H XP (fun F' Γ' H' u=>∀ v,FOk M0 F' ν H' v u->Q v H') ((fo Γ).bind fun (o,Γ1)=>.ok (.dat o.view,Γ1)):=hp
  revert hp'
  generalize fo Γ=r
  intro hp'
  cases r with
  |ok z=>
   obtain⟨o,Γ1⟩:=z
   intro F' H' v rs' s'
   obtain⟨F2,rs2,s2,r2⟩:=rs'.dropD
   exact hp' F2 H' rs2 (s'.trans s2) v r2
  |exc x y=>exact hp'
  |bad=>exact hp')
theorem FOk.ext{M0:Addr->Prop}{F:Fp}{ν ν':Nu}{H:Hp}{v:V}{u:FV}(h:FOk M0 F ν H v u)(hn:ν <+: ν'):FOk M0 F ν' H v u:=by
 cases u with
 |dat x=>exact h
 |own i=>
  have h':ν[i]?=some (some v):=h
  obtain⟨t,rfl⟩:=hn
  show (ν++t)[i]?=_
  rw[xf (xc.mp h').1];exact h'
noncomputable def aNil:EM (List AV):=fun Γ=>.ok ([],Γ)
noncomputable def aCons(fa:EM FV)(fl:EM (List AV)):EM (List AV):=fun Γ=>(fa Γ).bind fun (u,Γ1)=>(fl Γ1).bind fun (as,Γ2)=>.ok (.v u::as,Γ2)
noncomputable def aIo(i:Nat)(fl:EM (List AV)):EM (List AV):=fun Γ=>match Γ[i]? with
 |some (some _)=>(fl Γ).bind fun (as,Γ2)=>.ok (.io i::as,Γ2)
 |_=>.bad
noncomputable def zfb(n:EM (List PyData)):EM (List AV):=fun Γ=>(n Γ).bind fun (ds,Γ1)=>.ok ([.io Γ1.length],Γ1++ [some (.l (ds.map .d))])
theorem zfk:SA X XP mp [] aNil:=fun M0 F Γ ν σ H Q rs hs hp=>pa_nil.wp (hp F ν H rs (List.prefix_refl _) (.refl _ _) [] .nil)
theorem APost.tail{M0:Addr->Prop}{F:Fp}{ν:Nu}{σ:St}{H:Hp}{P:Fp->Gv->Nu->Hp->List AV->Prop}{r:R (List AV×Gv)}{f:List AV->List AV}(h:APost M0 F ν σ H XP P (r.bind fun (as,Γ2)=>.ok (f as,Γ2))) :
  APost M0 F ν σ H XP (fun F' Γ' ν' H' as=>P F' Γ' ν' H' (f as)) r:=by
 cases r with
 |ok a=>exact h
 |exc x Γ'=>exact h
 |bad=>exact h
theorem zd5(ha:SE X XP mp a fa)(hl:SA X XP mp es fl)(hst:starEach (a::es) X.env=(false,eval a X.env)::starEach es X.env):SA X XP mp (a::es) (aCons fa fl):=fun M0 F Γ ν σ H Q rs hs hp=>
 (zy zg jh hst).wp (ha M0 F Γ ν σ H _ rs hs (hp.seq.mono fun F1 Γ1 H1 u rs1 s1 h1 v o1=>
  hl M0 F1 Γ1 ν σ H1 _ rs1 hs (h1.tail.mono fun F2 Γ2 ν2 H2 as rs2 hn s2 h2 vs oks=>h2 (v::vs) (.v ((o1.stp s2 rs1.al0).ext hn) oks))))
theorem zhK {s i:Nat}{x:Str}(hN:X.N[s]?=some x) (hv:Vis X.env.scope x) (hm:mp[s]?=some i) (hd:(x==("__debug__" :Str))=false) (hcd:(x==("__classdict__" :Str))=false) (hl:SA X XP mp es fl) (hst:starEach (.Name x pos::es) X.env=(false,eval (.Name x pos) X.env)::starEach es X.env) :
  SA X XP mp (.Name x pos::es) (aIo i fl):=fun M0 F Γ ν σ H Q rs hs hp=>by
 unfold aIo at hp
 split at hp
 ·rename_i o q
  obtain⟨v,e1,r⟩:=rs.at' i _ q
  exact (zy (jT hN hv hd hcd) jh hst).wp ⟨v,hs s i v hm e1,hl M0 F Γ ν σ H _ rs hs (hp.tail.mono fun F2 Γ2 ν2 H2 as rs2 hn s2 h2 vs oks=>h2 (v::vs) (.io (by
   obtain⟨t,rfl⟩:=hn
   rw[xf (xc.mp e1).1];exact e1) oks))⟩
 ·exact hp.elim
theorem zfD(h:SN X XP mp a na)(hst:starEach [a] X.env= [(false,eval a X.env)]):SA X XP mp [a] (zfb na):=fun M0 F Γ ν σ H Q rs hs hp=>
 (zy zg pa_nil hst).wp (h M0 F Γ ν σ H _ rs hs (hp.seq.mono fun F1 Γ1 H1 ds rs1 s1 h1 vs p r n=>by
  obtain⟨r2,s2⟩:=rs1.newO n r
  exact h1 _ _ _ r2 (List.prefix_append _ _) s2 _ (.io (by rw[<- rs1.len];simp) .nil)))
inductive RF where
 |ok (r:OV) (outs:List (Option OV))
 |exc (x:Exc) (outs:List (Option OV))
 |bad
noncomputable def spI(n:Nat)(run:List OV->RF):Sp:=fun vs H Q _=>vs.length=n/\∃ (M0:Addr->Prop) (F:Fp) (args:List OV),RS M0 F (args.map some) (vs.map some) H/\match run args with
 |.ok r outs=>∀ F' v H',RS M0 F' (outs++ [some r]) (vs.map some++ [some v]) H'->Stp F H F' H'->Q v H'
 |_=>False
noncomputable def toArg(Γ:Gv):AV->Option OV
 |.v u=>(derS Γ u).map .d
 |.io i=>match Γ[i]? with
  |some (some o)=>some o
  |_=>none
noncomputable def toArgs(Γ:Gv):List AV->Option (List OV)
 |[]=>some []
 |a::as=>match toArg Γ a,toArgs Γ as with
  |some o,some os=>some (o::os)
  |_,_=>none
noncomputable def ios:List AV->List Nat
 |[]=> []
 |.v _::as=>ios as
 |.io i::as=>i::ios as
noncomputable def putBack:List AV->List (Option OV)->Gv->Option Gv
 |[],_,Γ=>some Γ
 |.v _::as,_::os,Γ=>putBack as os Γ
 |.io i::as,some o::os,Γ=>if i<Γ.length then putBack as os (Γ.set i (some o)) else none
 |_,_,_=>none
theorem mem_ios{as:List AV}{i:Nat}:i∈ios as↔∃ j:Nat,as[j]?=some (.io i):=by
 induction as with
 |nil=>simp[ios]
 |cons a as ih=>
  cases a with
  |v u=>
   rw[ios,ih]
   constructor
   ·rintro⟨j,h⟩;exact⟨j+1,by simpa using h⟩
   ·rintro⟨j,h⟩
    cases j with
    |zero=>simp at h
    |succ j=>exact⟨j,by simpa using h⟩
  |io k=>
   rw[ios,xm,ih]
   constructor
   ·rintro (rfl | ⟨j,h⟩)
    ·exact⟨0,rfl⟩
    ·exact⟨j+1,by simpa using h⟩
   ·rintro⟨j,h⟩
    cases j with
    |zero=>simp at h;exact .inl h.symm
    |succ j=>exact .inr ⟨j,by simpa using h⟩
theorem Js:∀ {as:List AV}{i j k:Nat},(ios as).Nodup->as[j]?=some (.io i)->as[k]?=some (.io i)->j=k
 |[],_,_,_,_,h,_=>by simp at h
 |.v u::as,i,j,k,nd,h1,h2=>by
  cases j with
  |zero=>simp at h1
  |succ j=>
   cases k with
   |zero=>simp at h2
   |succ k=>exact congrArg (·+1) (Js (as:=as) (i:=i) (by rw[ios]at nd;exact nd) (by simpa using h1) (by simpa using h2))
 |.io m::as,i,j,k,nd,h1,h2=>by
  rw[ios,xB]at nd
  cases j with
  |zero=>
   cases k with
   |zero=>rfl
   |succ k=>
    simp at h1;subst h1
    exact absurd (mem_ios.mpr ⟨k,by simpa using h2⟩) nd.1
  |succ j=>
   cases k with
   |zero=>
    simp at h2;subst h2
    exact absurd (mem_ios.mpr ⟨j,by simpa using h1⟩) nd.1
   |succ k=>exact congrArg (·+1) (Js (as:=as) (i:=i) nd.2 (by simpa using h1) (by simpa using h2))
section
variable {M0:Addr->Prop} {F:Fp} {Γ:Gv} {ν:Nu} {H:Hp}
theorem AOks.get:∀ {vs:List V}{as:List AV}{args:List OV}{j:Nat}{o:OV},AOks M0 F ν H vs as->toArgs Γ as=some args->args[j]?=some o ->
  ∃ v,vs[j]?=some v/\((∃ u x,as[j]?=some (.v u)/\derS Γ u=some x/\o=.d x/\FOk M0 F ν H v u)∨∃ i,as[j]?=some (.io i)/\ν[i]?=some (some v)/\Γ[i]?=some (some o))
 |_,_,_,j,o,.nil,e,h=>by cases e;simp at h
 |_,_,_,j,o,.v (u:=u) (as:=as) h1 t,e,h=>by
  unfold toArgs at e
  split at e
  ·rename_i o' os e1 e2
   cases e
   cases j with
   |zero=>
    simp at h;subst h
    simp only[toArg,Option.map_eq_some_iff]at e1
    obtain⟨x,ex,rfl⟩:=e1
    exact⟨_,rfl,.inl ⟨u,x,rfl,ex,rfl,h1⟩⟩
   |succ j=>
    obtain⟨v,ev,q⟩:=AOks.get (j:=j) t e2 (by simpa using h)
    exact⟨v,by simpa using ev,by simpa using q⟩
  ·cases e
 |_,_,_,j,o,.io (i:=i) (as:=as) h1 t,e,h=>by
  unfold toArgs at e
  split at e
  ·rename_i o' os e1 e2
   cases e
   cases j with
   |zero=>
    simp at h;subst h
    simp only[toArg]at e1
    split at e1
    ·rename_i q
     cases e1
     exact⟨_,rfl,.inr ⟨i,rfl,h1,q⟩⟩
    ·cases e1
   |succ j=>
    obtain⟨v,ev,q⟩:=AOks.get (j:=j) t e2 (by simpa using h)
    exact⟨v,by simpa using ev,by simpa using q⟩
  ·cases e
theorem AOks.len:∀ {vs:List V}{as:List AV},AOks M0 F ν H vs as->vs.length=as.length
 |_,_,.nil=>rfl
 |_,_,.v _ t=>by rw[xl,xl,AOks.len t]
 |_,_,.io _ t=>by rw[xl,xl,AOks.len t]
theorem jc:∀ {as:List AV}{args:List OV},toArgs Γ as=some args->args.length=as.length
 |[],_,e=>by cases e;rfl
 |a::as,_,e=>by
  unfold toArgs at e
  split at e
  ·rename_i e1 e2
   cases e
   rw[xl,xl,jc e2]
  ·cases e
noncomputable def cM(M0:Addr->Prop)(F:Fp)(as:List AV):Addr->Prop:=fun a=>M0 a∨∃ i,i∉ios as/\a∈F i
noncomputable def cF(F:Fp)(as:List AV):Fp:=fun j=>match as[j]? with
 |some (.io i)=>F i
 |_=> []
theorem zeO{as:List AV}{j i:Nat}(h:as[j]?=some (.io i)):cF F as j=F i:=by unfold cF;rw[h]
theorem Ja{as:List AV}{j:Nat}{a:Addr}(h:a∈cF F as j):∃ i,as[j]?=some (.io i)/\a∈F i:=by
 unfold cF at h
 split at h
 ·rename_i i e;exact⟨i,e,h⟩
 ·cases h
theorem cMM{as:List AV}:MM (cM M0 F as) (cF F as)=MM M0 F:=by
 funext a
 apply propext
 constructor
 ·rintro ((h | ⟨i,_,h⟩) | ⟨j,h⟩)
  ·exact .inl h
  ·exact .inr ⟨i,h⟩
  ·obtain⟨i,_,h⟩:=Ja h;exact .inr ⟨i,h⟩
 ·rintro (h | ⟨i,h⟩)
  ·exact .inl (.inl h)
  ·by_cases hi:i∈ios as
   ·obtain⟨j,hj⟩:=mem_ios.mp hi
    exact .inr ⟨j,by rw[zeO hj];exact h⟩
   ·exact .inl (.inr ⟨i,hi,h⟩)
theorem YI{vs:List V}{as:List AV}{args:List OV}(rs:RS M0 F Γ ν H)(oks:AOks M0 F ν H vs as)(e:toArgs Γ as=some args)(nd:(ios as).Nodup):RS (cM M0 F as) (cF F as) (args.map some) (vs.map some) H where
 al0 a h:=by
  rcases h with h | ⟨i,_,h⟩
  ·exact rs.al0 a h
  ·exact rs.al a (.inr ⟨i,h⟩)
 dis0 j a h:=by
  obtain⟨i,hi,ha⟩:=Ja h
  rintro (h0 | ⟨i',hi',ha'⟩)
  ·exact rs.dis0 i a ha h0
  ·have:=rs.dis _ _ a ha ha'
   subst this
   exact hi' (mem_ios.mpr ⟨j,hi⟩)
 nd j:=by
  unfold cF
  split
  ·exact rs.nd _
  ·exact .nil
 dis j k a h1 h2:=by
  obtain⟨i,hi,ha⟩:=Ja h1
  obtain⟨i',hi',ha'⟩:=Ja h2
  have:=rs.dis _ _ a ha ha'
  subst this
  exact Js nd hi hi'
 at' j o ej:=by
  rw[xg]at ej
  cases q:args[j]? with
  |none=>rw[q]at ej;cases ej
  |some o'=>
   rw[q]at ej
   have eo:o'=o:=by simpa using ej
   subst eo
   obtain⟨v,ev,h⟩:=oks.get e q
   refine⟨v,by rw[xg,ev];rfl,?_⟩
   rw[cMM]
   rcases h with ⟨u,x,ea,ex,rfl,ok⟩ | ⟨i,ea,en,eg⟩
   ·have:cF F as j= []:=by unfold cF;rw[ea]
    rw[this]
    exact .d (ok.strong rs ex)
   ·rw[zeO ea]
    obtain⟨v',ev',r⟩:=rs.at' i o' eg
    rw[en]at ev';cases ev'
    exact r
 emp j h:=by
  unfold cF
  split
  ·rename_i i ea
   exfalso
   have hj:j<args.length:=by rw[jc e];exact (xc.mp ea).1
   exact h args[j] (by rw[xg,xb hj];rfl)
  ·rfl
 len:=by rw[xk,xk,oks.len,jc e]
theorem j7:∀ {as:List AV}{outs:List (Option OV)}{Γ Γ2:Gv},putBack as outs Γ=some Γ2->(ios as).Nodup->Γ2.length=Γ.length/\(∀ i:Nat,i∉ios as->Γ2[i]?=Γ[i]?)/\∀ j i:Nat,as[j]?=some (.io i)->∃ o,outs[j]?=some (some o)/\Γ2[i]?=some (some o)/\i<Γ.length
 |[],_,Γ,_,e,_=>by
  have:some Γ=some _:=e
  cases this
  exact⟨rfl,fun _ _=>rfl,fun j i h=>by simp at h⟩
 |.v u::as,[],Γ,_,e,_=>by cases e
 |.v u::as,x::os,Γ,Γ2,e,nd=>by
  obtain⟨h0,h1,h2⟩:=j7 (as:=as) (outs:=os) (Γ:=Γ) (Γ2:=Γ2) e (by rw[ios]at nd;exact nd)
  refine⟨h0,fun i hi=>h1 i (by rw[ios]at hi;exact hi),fun j i hj=>?_⟩
  cases j with
  |zero=>simp at hj
  |succ j=>
   obtain⟨o,a,b⟩:=h2 j i (by simpa using hj)
   exact⟨o,by simpa using a,b⟩
 |.io k::as,[],Γ,_,e,_=>by cases e
 |.io k::as,none::os,Γ,_,e,_=>by cases e
 |.io k::as,some o::os,Γ,Γ2,e,nd=>by
  rw[putBack]at e
  split at e
  ·rename_i hk
   rw[ios,xB]at nd
   obtain⟨h0,h1,h2⟩:=j7 (as:=as) (outs:=os) e nd.2
   rw[uk]at h0
   refine⟨h0,fun i hi=>?_,fun j i hj=>?_⟩
   ·rw[ios,xm]at hi
    rw[h1 i (fun z=>hi (.inr z)),xv (fun z=>hi (.inl z.symm))]
   ·cases j with
    |zero=>
     have:k=i:=by simpa using hj
     subst this
     refine⟨o,rfl,?_,hk⟩
     rw[h1 k nd.1,xt hk]
    |succ j=>
     obtain⟨o',a,b,c⟩:=h2 j i (by simpa using hj)
     exact⟨o',by simpa using a,b,by simpa using c⟩
  ·cases e
open Classical in
theorem KH{vs:List V}{as:List AV}{args:List OV}{outs:List (Option OV)}{r:OV}{v:V}{Γ2:Gv}{ν0:Nu}{Fc':Fp}{H':Hp}{n:Nat}(rs:RS M0 F Γ ν H)(oks:AOks M0 F ν H vs as)(e:toArgs Γ as=some args)(nd:(ios as).Nodup)
  (rc:RS (cM M0 F as) Fc' (outs++ [some r]) (vs.map some++ [some v]) H') (sc:Stp (cF F as) H Fc' H') (pb:putBack as outs Γ=some Γ2) (hν:ν0 <+: ν) (hn:ν0.length=n) :
  ∃ F',RS M0 F' (Γ2.take n++ [some r]) (ν0++ [some v]) H'/\Stp F H F' H':=by
 obtain⟨p0,p1,p2⟩:=j7 pb nd
 have hol:outs.length=as.length:=by have:=rc.len;simp[oks.len]at this;omega
 obtain⟨tl,rfl⟩:=hν
 have hnl:n<=Γ.length:=by have:=rs.len;simp at this;omega
 have htl:(Γ2.take n).length=n:=by rw[xW];omega
 let F':Fp:=fun i=>if i<n then (if h:∃ j:Nat,as[j]?=some (.io i) then Fc' (Classical.choose h) else F i) else if i=n then Fc' as.length else []
 have f1:∀ (i j:Nat),i<n->as[j]?=some (.io i)->F' i=Fc' j:=fun i j hi hj=>by
  show (if i<n then _ else _)=_
  rw[if_pos hi]
  have hex:∃ j:Nat,as[j]?=some (.io i):=⟨j,hj⟩
  rw[dif_pos hex,Js nd (Classical.choose_spec hex) hj]
 have f2:∀ (i:Nat),i<n->i∉ios as->F' i=F i:=fun i hi hj=>by
  show (if i<n then _ else _)=_
  rw[if_pos hi,dif_neg]
  rintro hex
  exact hj (mem_ios.mpr hex)
 have f3:F' n=Fc' as.length:=by show (if n<n then _ else _)=_;rw[if_neg (ue _),if_pos rfl]
 have f4:∀ i,n<i->F' i= []:=fun i hi=>by show (if i<n then _ else _)=_;rw[if_neg (by omega),if_neg (by omega)]
 have cls:∀ i a,a∈F' i->(∃ j,i<n/\as[j]?=some (.io i)/\a∈Fc' j)∨(i<n/\i∉ios as/\a∈F i)∨(i=n/\a∈Fc' as.length):=fun i a h=>by
  by_cases hi:i<n
  ·by_cases hj:i∈ios as
   ·obtain⟨j,hj⟩:=mem_ios.mp hj
    rw[f1 i j hi hj]at h
    exact .inl ⟨j,hi,hj,h⟩
   ·rw[f2 i hi hj]at h;exact .inr (.inl ⟨hi,hj,h⟩)
  ·by_cases hj:i=n
   ·subst hj;rw[f3]at h;exact .inr (.inr ⟨rfl,h⟩)
   ·rw[f4 i (by omega)]at h;cases h
 have keepF:∀ i,i∉ios as->∀ a∈F i,H' a=H a:=fun i hi a ha=>by
  obtain⟨us,ea⟩:=rs.laidF ha
  rw[ea]
  refine (sc.keep a _ ea fun j hj=>?_).1
  obtain⟨i',hi',ha'⟩:=Ja hj
  have:=rs.dis _ _ a ha ha'
  subst this
  exact hi (mem_ios.mpr ⟨j,hi'⟩)
 have st:Stp F H F' H':=⟨fun b o eb nb=>by
  obtain⟨e1,n1⟩:=sc.keep b o eb fun j hj=>let ⟨i,_,ha⟩:=Ja hj;nb i ha
  refine⟨e1,fun i hi=>?_⟩
  rcases cls i b hi with ⟨j,_,_,h⟩ | ⟨_,_,h⟩ | ⟨_,h⟩
  ·exact n1 j h
  ·exact nb i h
  ·exact n1 _ h,sc.tups,sc.stay⟩
 have sub:∀ b,MM M0 F' b->MM (cM M0 F as) Fc' b:=fun b hb=>by
  rcases hb with hb | ⟨i,hb⟩
  ·exact .inl (.inl hb)
  ·rcases cls i b hb with ⟨j,_,_,h⟩ | ⟨_,hi,h⟩ | ⟨_,h⟩
   ·exact .inr ⟨j,h⟩
   ·exact .inl (.inr ⟨i,hi,h⟩)
   ·exact .inr ⟨_,h⟩
 have conv:∀ {w:V} {o:OV} {A:List Addr},OR (MM (cM M0 F as) Fc') H' w o A->OR (MM M0 F') H' w o A:=fun {w o A} q=>q.go (fun v d x=>x.less fun b hb _=>sub b hb) fun _ _=>rfl
 have out:∀ (j:Nat) (a:Addr),a∈Fc' j->¬ M0 a/\∀ i,i∉ios as->a∉F i:=fun j a ha=>by
  have h:=rc.dis0 j a ha
  exact⟨fun z=>h (.inl z),fun i hi z=>h (.inr ⟨i,hi,z⟩)⟩
 refine⟨F',⟨fun a ha=>sc.stay a (rs.al0 a ha),fun i a ha=>?_,fun i=>?_,fun i k a h1 h2=>?_,fun i o ei=>?_,fun i hi=>?_,by simp[htl,hn]⟩,st⟩
 ·rcases cls i a ha with ⟨j,_,_,h⟩ | ⟨_,hi,h⟩ | ⟨_,h⟩
  ·exact (out j a h).1
  ·exact rs.dis0 i a h
  ·exact (out _ a h).1
 ·by_cases hi:i<n
  ·by_cases hj:i∈ios as
   ·obtain⟨j,hj⟩:=mem_ios.mp hj
    rw[f1 i j hi hj];exact rc.nd j
   ·rw[f2 i hi hj];exact rs.nd i
  ·by_cases hj:i=n
   ·subst hj;rw[f3];exact rc.nd _
   ·rw[f4 i (by omega)];exact .nil
 ·rcases cls i a h1 with ⟨j,hi,ej,z1⟩ | ⟨hi,ni,z1⟩ | ⟨rfl,z1⟩
  ·rcases cls k a h2 with ⟨j',hk,ej',z2⟩ | ⟨hk,nk,z2⟩ | ⟨rfl,z2⟩
   ·have:=rc.dis _ _ a z1 z2
    subst this
    rw[ej]at ej';cases ej';rfl
   ·exact absurd z2 ((out j a z1).2 k nk)
   ·have:=rc.dis _ _ a z1 z2
    subst this
    rw[xj (xn _)]at ej;cases ej
  ·rcases cls k a h2 with ⟨j',hk,ej',z2⟩ | ⟨hk,nk,z2⟩ | ⟨rfl,z2⟩
   ·exact absurd z1 ((out j' a z2).2 i ni)
   ·exact rs.dis _ _ a z1 z2
   ·exact absurd z1 ((out _ a z2).2 i ni)
  ·rcases cls k a h2 with ⟨j',hk,ej',z2⟩ | ⟨hk,nk,z2⟩ | ⟨rfl,z2⟩
   ·have:=rc.dis _ _ a z1 z2
    subst this
    rw[xj (xn _)]at ej';cases ej'
   ·exact absurd z2 ((out _ a z1).2 k nk)
   ·rfl
 ·by_cases hi:i<n
  ·rw[xf (by omega),xX hi]at ei
   rw[xf (by omega)]
   by_cases hj:i∈ios as
   ·obtain⟨j,hj⟩:=mem_ios.mp hj
    obtain⟨o',eo,eg,_⟩:=p2 j i hj
    rw[eg]at ei
    have eoo:o'=o:=by simpa using ei
    subst eoo
    have hjl:j<as.length:=(xc.mp hj).1
    obtain⟨w,ew,q⟩:=rc.at' j o' (by rw[xf (by omega)];exact eo)
    rw[xf (by rw[xk,oks.len];exact hjl),xg]at ew
    have hal:j<args.length:=by rw[jc e];exact hjl
    obtain⟨v',ev',hh⟩:=oks.get e (xb hal)
    rw[ev']at ew
    have ew':v'=w:=by simpa using ew
    subst ew'
    rcases hh with ⟨u,x,ea,_⟩ | ⟨i',ea,en,_⟩
    ·rw[hj]at ea;cases ea
    ·rw[hj]at ea;cases ea
     rw[xf (by omega)]at en
     exact⟨v',en,by rw[f1 i j hi hj];exact conv q⟩
   ·rw[p1 i hj]at ei
    obtain⟨w,ew,q⟩:=rs.at' i o ei
    rw[xf (by omega)]at ew
    refine⟨w,ew,?_⟩
    rw[f2 i hi hj]
    exact q.go (fun v d x=>zJ st rs.al0 x) (keepF i hj)
  ·have hin:i=n:=by
    have:=(xc.mp ei).1
    simp[htl]at this;omega
   subst hin
   rw[xh (by omega),htl]at ei
   have:r=o:=by simpa using ei
   subst this
   refine⟨v,by rw[xh (by omega),hn];simp,?_⟩
   rw[f3]
   obtain⟨w,ew,q⟩:=rc.at' as.length r (by rw[xh (by omega),hol];simp)
   rw[xh (by rw[xk,oks.len];exact xn _),xk,oks.len]at ew
   have:v=w:=by simpa using ew
   subst this
   exact conv q
 ·by_cases hlt:i<n
  ·have nj:i∉ios as:=fun hj=>by
    obtain⟨j,hj⟩:=mem_ios.mp hj
    obtain⟨o',eo,eg,_⟩:=p2 j i hj
    exact hi o' (by rw[xf (by omega),xX hlt];exact eg)
   rw[f2 i hlt nj]
   refine rs.emp i fun o eo=>hi o ?_
   rw[xf (by omega),xX hlt,p1 i nj];exact eo
  ·by_cases hin:i=n
   ·subst hin
    exact absurd (by rw[xh (by omega),htl];simp) (hi r)
   ·exact f4 i (by omega)
end
noncomputable def fCall(run:List OV->RF)(fl:EM (List AV)):EM OV:=fun Γ=>(fl Γ).bind fun (as,Γ1)=>match toArgs Γ1 as with
 |none=>.bad
 |some args=>if (ios as).Nodup then match run args with
  |.ok r outs=>match putBack as outs Γ1 with
   |some Γ2=>.ok (r,Γ2.take Γ.length)
   |none=>.bad
  |_=>.bad
  else .bad
theorem Wn{M0:Addr->Prop}{F:Fp}{Γ:Gv}{ν:Nu}{σ:St}{H:Hp}{run:List OV->RF}{n:Nat}{Q:VK}{E:XK}(rs:RS M0 F Γ ν H)(hrun:∀ args r outs,run args=.ok r outs->args.length=n)
  (hp:OPost M0 F ν σ H XP (fun F' Γ' H' o v=>Q v H') (fCall run fl Γ)):APost M0 F ν σ H XP (fun F1 Γ1 ν1 H1 as=>∀ vs,AOks M0 F1 ν1 H1 vs as->spI n run vs H1 Q E) (fl Γ):=by
 unfold fCall at hp
 generalize fl Γ=ra at hp
 cases ra with
 |bad=>exact hp
 |exc x y=>exact hp
 |ok z=>
  obtain⟨as,Γ1⟩:=z
  intro F1 ν1 H1 rs1 hn s1 vs oks
  simp only[R.bind]at hp
  split at hp
  ·exact hp.elim
  ·rename_i args ea
   split at hp
   ·rename_i nd
    split at hp
    ·rename_i r outs er
     split at hp
     ·rename_i Γ2 eb
      have hl:=hrun args r outs er
      refine⟨by rw[oks.len,<- jc ea,hl],cM M0 F1 as,cF F1 as,args,YI rs1 oks ea nd,?_⟩
      rw[er]
      intro F' v H' rc sc
      obtain⟨F2,rs2,s2⟩:=KH (n:=Γ.length) rs1 oks ea nd rc sc eb hn rs.len
      exact hp F2 H' v rs2 (s1.trans s2)
     ·exact hp.elim
    ·exact hp.elim
   ·exact hp.elim
theorem zee{x:Str}{k n:Nat}{run:List OV->RF}(kn:Kn X.prog X.w X.K X.mg X.base CX0 x k (spI n run))(hr:Room k X.A)(hg:Gl X x)(hrun:∀ args r outs,run args=.ok r outs->args.length=n)(hl:SA X XP mp (a::es) fl)
  (hdb:(x==("__debug__" :Str))=false) (he:starEach (a::es) X.env=(false,eval a X.env)::starEach es X.env) (hpl:(backTo pos (starEach es X.env)).any (·.1)=false):SO X XP mp (.Call (.Name x p) (a::es) [] pos) (fCall run fl):=fun M0 F Γ ν σ H Q rs hs hp=>
 vI (E:=E0) kn hr hg kB (hl M0 F Γ ν σ H _ rs hs (Wn rs hrun hp)) hdb he hpl
theorem zbp{x:Str}{k n:Nat}{run:List OV->RF}(kn:Kn X.prog X.w X.K X.mg X.base CX0 x k (spI n run))(hr:Room k X.A)(hg:Gl X x)(hrun:∀ args r outs,run args=.ok r outs->args.length=n)
  (hdb:(x==("__debug__" :Str))=false):SO X XP mp (.Call (.Name x p) [] [] pos) (fCall run aNil):=fun M0 F Γ ν σ H Q rs hs hp=>by
 obtain⟨f,fd,ps,Fk,hm,hk,hb⟩:=kn.ex
 have h:=Wn (E:=E0) (n:=n) rs hrun hp F ν H rs (List.prefix_refl _) (.refl _ _) [] .nil
 exact (zaD Fk hr hg hm hk hb .nil kB hdb).wp (show spI n run ([]++ []) H Q E0 from h)
end
end L3
namespace L3
open PySem PySem.Spec PyProof.Rows L2
inductive FL where
 |next
 |ret (o:OV)
 |brk
 |cnt
noncomputable abbrev SM:=Gv->R (FL×Gv)
noncomputable def SPost(M0:Addr->Prop)(F:Fp)(ν:Nu)(H:Hp)(XP:XPT)(mp:List Nat)(N:Nat)(io:List Nat)(D:jg)(r:R (FL×Gv)):Prop:=match r with
 |.ok (.next,Γ')=>∀ F' ν' σ' H',RS M0 F' Γ' ν' H'->Stp F H F' H'->Sees mp ν' σ'->σ'.length=N->(∀ i∈io,ν'[i]?=ν[i]?)->D.nx σ' H'
 |.ok (.brk,Γ')=>∀ F' ν' σ' H',RS M0 F' Γ' ν' H'->Stp F H F' H'->Sees mp ν' σ'->σ'.length=N->(∀ i∈io,ν'[i]?=ν[i]?)->D.bk σ' H'
 |.ok (.cnt,Γ')=>∀ F' ν' σ' H',RS M0 F' Γ' ν' H'->Stp F H F' H'->Sees mp ν' σ'->σ'.length=N->(∀ i∈io,ν'[i]?=ν[i]?)->D.ct σ' H'
 |.ok (.ret o,Γ')=>∀ F' ν' v H',RS M0 F' (Γ'++ [some o]) (ν'++ [some v]) H'->Stp F H F' H'->(∀ i∈io,ν'[i]?=ν[i]?)->D.rt v H'
 |.exc x Γ'=>∀ F' ν' σ' H',RS M0 F' Γ' ν' H'->Stp F H F' H'->Sees mp ν' σ'->σ'.length=N->(∀ i∈io,ν'[i]?=ν[i]?)->XP x Γ' F' ν' σ' H'
 |.bad=>False
noncomputable def SS(X:Cx)(XP:XPT)(mp:List Nat)(io:List Nat)(st:Stmt)(f:SM):Prop:=∀ (M0:Addr->Prop) (F:Fp) (Γ:Gv) (ν:Nu) (σ:St) (H:Hp) (D:jg),RS M0 F Γ ν H->Sees mp ν σ->σ.length=X.N.length ->
 SPost M0 F ν H XP mp X.N.length io D (f Γ)->wpS X st D σ H
noncomputable def SB(X:Cx)(XP:XPT)(mp:List Nat)(io:List Nat)(sts:List Stmt)(f:SM):Prop:=∀ (M0:Addr->Prop) (F:Fp) (Γ:Gv) (ν:Nu) (σ:St) (H:Hp) (D:jg),RS M0 F Γ ν H->Sees mp ν σ->σ.length=X.N.length ->
 SPost M0 F ν H XP mp X.N.length io D (f Γ)->wpB X sts D σ H
section
variable {M0:Addr->Prop} {F F1:Fp} {Γ:Gv} {ν ν1:Nu} {σ:St} {H H1:Hp} {XP:XPT} {mp:List Nat} {N:Nat} {io:List Nat} {D D':jg} {r:R (FL×Gv)}
theorem SPost.step(h:SPost M0 F ν H XP mp N io D r)(s1:Stp F H F1 H1)(hn:∀ i∈io,ν1[i]?=ν[i]?):SPost M0 F1 ν1 H1 XP mp N io D r:=by
 cases r with
 |ok z=>
  obtain⟨fl,Γ'⟩:=z
  cases fl with
  |next=>exact fun F' ν' σ' H' a b c d e=>h F' ν' σ' H' a (s1.trans b) c d fun i hi=>(e i hi).trans (hn i hi)
  |brk=>exact fun F' ν' σ' H' a b c d e=>h F' ν' σ' H' a (s1.trans b) c d fun i hi=>(e i hi).trans (hn i hi)
  |cnt=>exact fun F' ν' σ' H' a b c d e=>h F' ν' σ' H' a (s1.trans b) c d fun i hi=>(e i hi).trans (hn i hi)
  |ret o=>exact fun F' ν' v H' a b e=>h F' ν' v H' a (s1.trans b) fun i hi=>(e i hi).trans (hn i hi)
 |exc x Γ'=>exact fun F' ν' σ' H' a b c d e=>h F' ν' σ' H' a (s1.trans b) c d fun i hi=>(e i hi).trans (hn i hi)
 |bad=>exact h
theorem SPost.seq{α:Type}{r:R (α×Gv)}{k:α×Gv->R (FL×Gv)}(hs:Sees mp ν σ)(hl:σ.length=N)(h:SPost M0 F ν H XP mp N io D (r.bind k)):EPost M0 F ν σ H XP (fun F1 Γ1 H1 a=>SPost M0 F1 ν H1 XP mp N io D (k (a,Γ1))) r:=by
 cases r with
 |ok z=>
  obtain⟨a,Γ1⟩:=z
  intro F1 H1 rs1 s1
  have h':SPost M0 F ν H XP mp N io D (k (a,Γ1)):=h
  exact h'.step s1 fun _ _=>rfl
 |exc x Γ'=>exact fun F' H' rs s=>h F' ν σ H' rs s hs hl fun _ _=>rfl
 |bad=>exact h
theorem SPost.seqO{r:R (OV×Gv)}{k:OV×Gv->R (FL×Gv)}(hs:Sees mp ν σ)(hl:σ.length=N)(h:SPost M0 F ν H XP mp N io D (r.bind k)):OPost M0 F ν σ H XP (fun F1 Γ1 H1 o v=>SPost M0 F1 ν H1 XP mp N io D (k (o,Γ1))) r:=by
 cases r with
 |ok z=>
  obtain⟨a,Γ1⟩:=z
  intro F1 H1 v rs1 s1
  have h':SPost M0 F ν H XP mp N io D (k (a,Γ1)):=h
  exact h'.step s1 fun _ _=>rfl
 |exc x Γ'=>exact fun F' H' rs s=>h F' ν σ H' rs s hs hl fun _ _=>rfl
 |bad=>exact h
end
noncomputable def sNext:SM:=fun Γ=>.ok (.next,Γ)
noncomputable def sSeq(f g:SM):SM:=fun Γ=>match f Γ with
 |.ok (.next,Γ1)=>g Γ1
 |r=>r
section
variable {X:Cx} {XP:XPT} {mp io:List Nat} {a b c e tg iter:Expr} {es:List Expr} {pos p p2 pos':Pos} {fa fb fc:EM FV} {ta tb:EM Bool} {na nb:EM (List PyData)} {fo:EM OV} {st:Stmt} {sts body els:List Stmt} {f g:SM}
theorem zfR:SB X XP mp io [] sNext:=fun M0 F Γ ν σ H D rs hs hl hp=>pss_nil.wp (hp F ν σ H rs (.refl _ _) hs hl fun _ _=>rfl)
theorem zbT{M0:Addr->Prop}{F:Fp}{Γ:Gv}{ν:Nu}{H:Hp}{N:Nat}{D:jg}{nx:St->Hp->Prop}(hp:SPost M0 F ν H XP mp N io D (sSeq f g Γ))
  (hn:∀ F1 Γ1 ν1 σ1 H1,RS M0 F1 Γ1 ν1 H1->Sees mp ν1 σ1->σ1.length=N->SPost M0 F1 ν1 H1 XP mp N io D (g Γ1)->nx σ1 H1):SPost M0 F ν H XP mp N io { D with nx:=nx } (f Γ):=by
 unfold sSeq at hp
 generalize f Γ=r at hp
 cases r with
 |ok z=>
  obtain⟨fl,Γ'⟩:=z
  cases fl with
  |next=>exact fun F' ν' σ' H' a b c d e=>hn F' Γ' ν' σ' H' a c d (hp.step b e)
  |brk=>exact hp
  |cnt=>exact hp
  |ret o=>exact hp
 |exc x Γ'=>exact hp
 |bad=>exact hp
theorem zd8(h1:SS X XP mp io st f)(h2:SB X XP mp io sts g):SB X XP mp io (st::sts) (sSeq f g):=fun M0 F Γ ν σ H D rs hs hl hp=>
 (Z5 kF qH).wp (h1 M0 F Γ ν σ H _ rs hs hl (zbT hp fun F1 Γ1 ν1 σ1 H1 rs1 hs1 hl1 h=>h2 M0 F1 Γ1 ν1 σ1 H1 D rs1 hs1 hl1 h))
theorem zcY:SS X XP mp io (.Pass pos) sNext:=fun M0 F Γ ν σ H D rs hs hl hp=>ps_pass.wp (hp F ν σ H rs (.refl _ _) hs hl fun _ _=>rfl)
noncomputable def zhI:SM:=fun _=>.bad
theorem zfw:SS X XP mp io st zhI:=fun M0 F Γ ν σ H D rs hs hl hp=>hp.elim
noncomputable def fD(fa:EM FV):EM OV:=fun Γ=>(fa Γ).bind fun (u,Γ1)=>match derS Γ1 u with
 |some x=>.ok (.d x,Γ1)
 |none=>.bad
theorem RS.newD{M0:Addr->Prop}{F:Fp}{Γ:Gv}{ν:Nu}{H:Hp}{v:V}{x:PyData}(r:RS M0 F Γ ν H)(q:Rep (MM M0 F) H v x):RS M0 F (Γ++ [some (.d x)]) (ν++ [some v]) H:=by
 have he:F Γ.length= []:=r.emp _ fun o e=>by
  rw[xj (xn _)]at e;cases e
 refine⟨r.al0,r.dis0,r.nd,r.dis,fun j o e=>?_,fun j h=>?_,by simp[r.len]⟩
 ·by_cases hj:j<Γ.length
  ·rw[xf hj]at e
   obtain⟨w,e1,z⟩:=r.at' j o e
   exact⟨w,by rw[xf (by rw[r.len];exact hj)];exact e1,z⟩
  ·have hj':j=Γ.length:=by
    have:=(xc.mp e).1
    simp at this;omega
   subst hj'
   rw[xh (xn _)]at e
   have:(OV.d x)=o:=by simpa using e
   subst this
   refine⟨v,by rw[xh (by rw[r.len];exact xn _),r.len];simp,?_⟩
   rw[he];exact .d q
 ·refine r.emp j fun o e=>h o ?_
  rw[xf (xc.mp e).1];exact e
theorem SE.so(h:SE X XP mp a fa):SO X XP mp a (fD fa):=fun M0 F Γ ν σ H Q rs hs hp=>
 h M0 F Γ ν σ H Q rs hs (hp.seq.mono fun F1 Γ1 H1 u rs1 s1 h1 v hv=>by
  dsimp only at h1
  split at h1
  ·rename_i x e
   exact h1 F1 H1 v (rs1.newD (hv.strong rs1 e)) (.refl _ _)
  ·exact h1.elim)
noncomputable def fMove(i:Nat):EM OV:=fun Γ=>match Γ[i]? with
 |some (some o)=>.ok (o,Γ.set i none)
 |_=>.bad
theorem RS.take{M0:Addr->Prop}{F:Fp}{Γ:Gv}{ν:Nu}{H:Hp}{i:Nat}{o:OV}(r:RS M0 F Γ ν H)(e:Γ[i]?=some (some o)):∃ F' v,ν[i]?=some (some v)/\RS M0 F' (Γ.set i none++ [some o]) (ν++ [some v]) H/\Stp F H F' H:=by
 obtain⟨v,ev,q⟩:=r.at' i o e
 have hi:=(xc.mp e).1
 let F':Fp:=fun j=>if j=i then [] else if j=Γ.length then F i else F j
 have g1:F' i= []:=by show (if i=i then _ else _)=_;rw[if_pos rfl]
 have g2:F' Γ.length=F i:=by show (if Γ.length=i then _ else _)=_;rw[if_neg (by omega),if_pos rfl]
 have g3:∀ j,j≠i->j≠Γ.length->F' j=F j:=fun j h1 h2=>by show (if j=i then _ else _)=_;rw[if_neg h1,if_neg h2]
 have cls:∀ j a,a∈F' j->(j=Γ.length/\a∈F i)∨(j≠i/\j≠Γ.length/\a∈F j):=fun j a h=>by
  by_cases h1:j=i
  ·subst h1;rw[g1]at h;cases h
  ·by_cases h2:j=Γ.length
   ·subst h2;rw[g2]at h;exact .inl ⟨rfl,h⟩
   ·rw[g3 j h1 h2]at h;exact .inr ⟨h1,h2,h⟩
 have st:Stp F H F' H:=Zs fun j a h=>by
  rcases cls j a h with ⟨_,h⟩ | ⟨_,_,h⟩
  ·exact⟨_,h⟩
  ·exact⟨_,h⟩
 refine⟨F',v,ev,⟨r.al0,fun j a h=>?_,fun j=>?_,fun j k a h1 h2=>?_,fun j p ej=>?_,fun j h=>?_,by simp[r.len]⟩,st⟩
 ·rcases cls j a h with ⟨_,h⟩ | ⟨_,_,h⟩
  ·exact r.dis0 _ a h
  ·exact r.dis0 _ a h
 ·by_cases h1:j=i
  ·subst h1;rw[g1];exact .nil
  ·by_cases h2:j=Γ.length
   ·subst h2;rw[g2];exact r.nd _
   ·rw[g3 j h1 h2];exact r.nd _
 ·rcases cls j a h1 with ⟨e1,z1⟩ | ⟨n1,m1,z1⟩
  ·rcases cls k a h2 with ⟨e2,z2⟩ | ⟨n2,m2,z2⟩
   ·rw[e1,e2]
   ·exact absurd (r.dis _ _ a z2 z1) n2
  ·rcases cls k a h2 with ⟨e2,z2⟩ | ⟨n2,m2,z2⟩
   ·exact absurd (r.dis _ _ a z1 z2) n1
   ·exact r.dis _ _ a z1 z2
 ·have hsl:(Γ.set i none).length=Γ.length:=by simp
  by_cases hj:j<Γ.length
  ·rw[xf (by omega)]at ej
   by_cases hji:j=i
   ·subst hji;rw[xt hi]at ej;cases ej
   ·rw[xv (Ne.symm hji)]at ej
    obtain⟨w,ew,z⟩:=r.at' j p ej
    refine⟨w,by rw[xf (by rw[r.len];exact hj)];exact ew,?_⟩
    rw[g3 j hji (by omega)]
    exact z.go (fun _ _ x=>zJ st r.al0 x) fun _ _=>rfl
  ·have hj':j=Γ.length:=by
    have:=(xc.mp ej).1
    simp at this;omega
   subst hj'
   rw[xh (by omega),hsl]at ej
   have:o=p:=by simpa using ej
   subst this
   refine⟨v,by rw[xh (by rw[r.len];exact xn _),r.len];simp,?_⟩
   rw[g2]
   exact q.go (fun _ _ x=>zJ st r.al0 x) fun _ _=>rfl
 ·by_cases h1:j=i
  ·subst h1;exact g1
  ·by_cases h2:j=Γ.length
   ·subst h2
    exact absurd (by rw[xh (by simp)];simp) (h o)
   ·rw[g3 j h1 h2]
    refine r.emp j fun p ep=>h p ?_
    rw[xf (by simpa using (xc.mp ep).1),xv (Ne.symm h1)];exact ep
theorem zc1 {s i:Nat}{x:Str}(hN:X.N[s]?=some x) (hv:Vis X.env.scope x) (hm:mp[s]?=some i) (hd:(x==("__debug__" :Str))=false) (hcd:(x==("__classdict__" :Str))=false) :
  SO X XP mp (.Name x pos) (fMove i):=fun M0 F Γ ν σ H Q rs hs hp=>by
 unfold fMove at hp
 split at hp
 ·rename_i o q
  obtain⟨F',v,e1,rs1,s1⟩:=rs.take q
  exact (jT hN hv hd hcd).wp ⟨v,hs s i v hm e1,hp F' H v rs1 s1⟩
 ·exact hp.elim
noncomputable def sRet(fo:EM OV):SM:=fun Γ=>(fo Γ).bind fun (o,Γ1)=>.ok (.ret o,Γ1)
theorem zgC(h:SO X XP mp e fo):SS X XP mp io (.Return (some e) pos) (sRet fo):=fun M0 F Γ ν σ H D rs hs hl hp=>
 (zbs zg).wp (h M0 F Γ ν σ H _ rs hs ((SPost.seqO hs hl hp).mono fun F1 Γ1 H1 o v rs1 s1 h1=>h1 F1 ν v H1 rs1 (.refl _ _) fun _ _=>rfl))
noncomputable def sRetN:SM:=fun Γ=>.ok (.ret (.d .none),Γ)
noncomputable def SOt(XP:XPT)(mp:List Nat)(t:TE)(f:EM OV):Prop:=∀ (M0:Addr->Prop) (F:Fp) (Γ:Gv) (ν:Nu) (σ:St) (H:Hp) (Q:VK),RS M0 F Γ ν H->Sees mp ν σ ->
 OPost M0 F ν σ H XP (fun F' Γ' H' o v=>Q v H') (f Γ)->t σ H Q
theorem SNt.so{t:TE}(h:SNt XP mp t na):SOt XP mp t (fOwn na):=fun M0 F Γ ν σ H Q rs hs hp=>
 h M0 F Γ ν σ H Q rs hs (hp.seq.mono fun F1 Γ1 H1 ds rs1 s1 h1 vs p r n=>by
  obtain⟨r2,s2⟩:=rs1.newO n r
  exact h1 _ _ _ r2 s2)
theorem SNt.sd{t:TE}(h:SNt XP mp t na):SOt XP mp t (fD (fNew na)):=fun M0 F Γ ν σ H Q rs hs hp=>
 h M0 F Γ ν σ H Q rs hs (by
  have hp':OPost M0 F ν σ H XP (fun F' Γ' H' o v=>Q v H') ((na Γ).bind fun (ds,Γ1)=>.ok (.d (.list ds),Γ1)):=by
   have e:fD (fNew na) Γ=(na Γ).bind fun (ds,Γ1)=>.ok (.d (.list ds),Γ1):=by
    unfold fD fNew
    cases na Γ<;>rfl
   rw[<- e];exact hp
  exact hp'.seq.mono fun F1 Γ1 H1 ds rs1 s1 h1 vs p r n=>by
   have s2:Same H1 (upd H1 p (.lst vs)):=zM n
   exact h1 F1 _ _ ((rs1.same s2).newD (Rep.list zx (fun z=>rs1.al p z n) (r.grow s2.grow))) (.same s2))
noncomputable def sAsg(io:List Nat)(i:Nat)(fo:EM OV):SM:=fun Γ=>(fo Γ).bind fun (o,Γ1)=>if i<Γ1.length/\i∉io then .ok (.next,Γ1.set i (some o)) else .bad
theorem kN{s i:Nat}{t:TE}(hps:PS X st (YN t (yb s)))(hn:mp.Nodup)(hm:mp[s]?=some i)(hsl:s<X.N.length)(h:SOt XP mp t fo):SS X XP mp io st (sAsg io i fo):=fun M0 F Γ ν σ H D rs hs hl hp=>
 hps.wp (h M0 F Γ ν σ H _ rs hs ((SPost.seqO hs hl hp).mono fun F1 Γ1 H1 o v rs1 s1 h1=>by
  dsimp only at h1
  split at h1
  ·rename_i hh
   obtain⟨F2,rs2,s2⟩:=rs1.move hh.1
   exact h1 F2 _ _ H1 rs2 s2 (hs.set hn hm (by rw[hl];exact hsl)) (by simpa using hl) fun j hj=>by
    rw[xv (fun z=>hh.2 (by rw[z];exact hj))]
  ·exact h1.elim))
theorem zfZ{s i:Nat}{x:Str}(hN:X.N.Nodup)(hi:X.N[s]?=some x)(hx:Loc X.env.scope x)(hf:X.fn x=true∨X.env.scope.names.lookup x=some .local)(hn:mp.Nodup)(hm:mp[s]?=some i)(h:SO X XP mp e fo)
  (hsw:swapsWith e (some (.Name x pos')) pos.line X.env=pure false):SS X XP mp io (.Assign [.Name x pos'] e pos) (sAsg io i fo) :=
 kN (vZ hN hi hx zg hsw hf) hn hm (xc.mp hi).1 h
noncomputable def sAsgT(t:IT)(fa:EM FV):SM:=fun Γ=>(fa Γ).bind fun (u,Γ1)=>match derS Γ1 u with
 |some x=>match tgF t x Γ1 with
  |some Γ2=>.ok (.next,Γ2)
  |none=>.bad
 |none=>.bad
theorem zbM{t:IT}(ha:SE X XP mp e fa)(hg:SG X mp (·∈io) tg t)(hsw:swapsWithSole [tg] e pos.line X.env=pure false)(hw:swappedStores [tg] e X.env=pure none)
  (hps:PS X (.Assign [tg] e pos) (YN (wpE X e) (wpG X tg))):SS X XP mp io (.Assign [tg] e pos) (sAsgT t fa):=fun M0 F Γ ν σ H D rs hs hl hp=>
 hps.wp (ha M0 F Γ ν σ H _ rs hs ((SPost.seq hs hl hp).mono fun F1 Γ1 H1 u rs1 s1 h1 v hv=>by
  dsimp only at h1
  split at h1
  ·rename_i x ex
   split at h1
   ·rename_i Γ2 et
    exact hg M0 F1 Γ1 Γ2 ν σ H1 v x _ rs1 hs hl (hv.strong rs1 ex) et fun F2 ν2 σ2 rs2 s2 hs2 hl2 n2 m2=>h1 F2 ν2 σ2 H1 rs2 s2 hs2 hl2 n2
   ·exact h1.elim
  ·exact h1.elim))
noncomputable def sExpr(fa:EM FV):SM:=fun Γ=>(fa Γ).bind fun (_,Γ1)=>.ok (.next,Γ1)
theorem zek(ha:SE X XP mp e fa)(hsw:swapsWith e none pos.line X.env=pure false):SS X XP mp io (.Expr e pos) (sExpr fa):=fun M0 F Γ ν σ H D rs hs hl hp=>
 (Y5 zg hsw).wp (ha M0 F Γ ν σ H _ rs hs ((SPost.seq hs hl hp).mono fun F1 Γ1 H1 u rs1 s1 h1 v hv=>h1 F1 ν σ H1 rs1 (.refl _ _) hs hl fun _ _=>rfl))
noncomputable def sIf(t:EM Bool)(f g:SM):SM:=fun Γ=>(t Γ).bind fun (b,Γ1)=>if b then f Γ1 else g Γ1
theorem zg6(hc:ST X XP mp c ta)(ha:SB X XP mp io body f)(hb:SB X XP mp io els g):SS X XP mp io (.If c body els pos) (sIf ta f g):=fun M0 F Γ ν σ H D rs hs hl hp=>
 (zg4 qR qH qH).wp (hc M0 F Γ ν σ H _ rs hs ((SPost.seq hs hl hp).mono fun F1 Γ1 H1 b rs1 s1 h1=>by
  cases b with
  |true=>exact vc (ha M0 F1 Γ1 ν σ H1 D rs1 hs hl h1)
  |false=>exact Vr (hb M0 F1 Γ1 ν σ H1 D rs1 hs hl h1)))
noncomputable def zU(t:IT)(body:SM):List PyData->Gv->R (FL×Gv)
 |[],Γ=>.ok (.next,Γ)
 |d::ds,Γ=>match tgF t d Γ with
  |none=>.bad
  |some Γ1=>match body Γ1 with
   |.ok (.next,Γ2)=>zU t body ds Γ2
   |.ok (.cnt,Γ2)=>zU t body ds Γ2
   |.ok (.brk,Γ2)=>.ok (.next,Γ2)
   |r=>r
noncomputable def sFor(t:IT)(src:EM (List PyData))(body:SM):SM:=fun Γ=>(src Γ).bind fun (ds,Γ1)=>zU t body ds Γ1
theorem ze4{t:IT}{src:EM (List PyData)}(hpo:PassesOwn (model X.prog X.w) X.A X.env X.xe)(hc:X.calm=true)(hi:SI X XP mp tg iter src)(hg:SG X mp (·∈io) tg t)(hb:SB X XP mp io body f)
  (hf:∀ x,foldedSetIterable iter X.env x=pure x):SS X XP mp io (.For tg iter body [] pos) (sFor t src f):=fun M0 F Γ ν σ H D rs hs hl hp=>by
 refine (zbv hpo hc WY vS qH hf).wp (hi M0 F Γ ν σ H _ rs hs ((SPost.seq hs hl hp).mono fun F1 Γ1 H1 ds rs1 s1 h1 J hJ=>?_))
 dsimp only at h1
 refine⟨fun i m σ' H'=>m=ds.length-i/\i<=ds.length/\∃ F' Γ' ν',RS M0 F' Γ' ν' H'/\Stp F1 H1 F' H'/\Sees mp ν' σ'/\σ'.length=X.N.length/\SPost M0 F' ν' H' XP mp X.N.length io D (zU t f (ds.drop i) Γ'),⟨ds.length,by simp,ui _,F1,Γ1,ν,rs1,.refl _ _,hs,hl,h1⟩,?_⟩
 rintro i m σ' H' ⟨rfl,hil,F',Γ',ν',rs',st',hs',hl',hp'⟩
 obtain⟨jgo,jst⟩:=hJ i F' H' st' rs1.al0
 by_cases hlt:i<ds.length
 ·obtain⟨go,yl⟩:=jgo ds[i] (by simp[hlt])
  rw[List.drop_eq_getElem_cons hlt,zU]at hp'
  refine .inr ⟨go,fun σ2 H2=>∃ F2 Γ2 ν2,RS M0 F2 Γ2 ν2 H2/\Stp F1 H1 F2 H2/\Sees mp ν2 σ2/\σ2.length=X.N.length/\SPost M0 F2 ν2 H2 XP mp X.N.length io D (zU t f (ds.drop (i+1)) Γ2),fun σ2 H2 h=>⟨ds.length-(i+1),by omega,rfl,hlt,h⟩,fun x H2 hy=>?_⟩
  obtain⟨s2,rx⟩:=yl x H2 hy
  cases et:tgF t ds[i] Γ' with
  |none=>rw[et]at hp';exact hp'.elim
  |some Γ2=>
   rw[et]at hp'
   dsimp only at hp'
   refine hg M0 F' Γ' Γ2 ν' σ' H2 x ds[i] _ (rs'.same s2) hs' hl' rx et fun F3 ν3 σ3 rs3 s3 hs3 hl3 n3 m3=>?_
   have sA:Stp F' H' F3 H2:=(Stp.same s2).trans s3
   refine hb M0 F3 Γ2 ν3 σ3 H2 _ rs3 hs3 hl3 ?_
   cases ef:f Γ2 with
   |bad=>rw[ef]at hp';exact hp'.elim
   |exc xx yy=>
    rw[ef]at hp'
    exact hp'.step sA n3
   |ok z=>
    obtain⟨fl,Γ4⟩:=z
    rw[ef]at hp'
    cases fl with
    |next=>exact fun F4 ν4 σ4 H4 a b c d e=>⟨F4,Γ4,ν4,a,(st'.trans sA).trans b,c,d,hp'.step (sA.trans b) fun i hi=>(e i hi).trans (n3 i hi)⟩
    |cnt=>exact fun F4 ν4 σ4 H4 a b c d e=>⟨F4,Γ4,ν4,a,(st'.trans sA).trans b,c,d,hp'.step (sA.trans b) fun i hi=>(e i hi).trans (n3 i hi)⟩
    |brk=>exact fun F4 ν4 σ4 H4 a b c d e=>hp' F4 ν4 σ4 H4 a (sA.trans b) c d fun i hi=>(e i hi).trans (n3 i hi)
    |ret o=>exact fun F4 ν4 v4 H4 a b e=>hp' F4 ν4 v4 H4 a (sA.trans b) fun i hi=>(e i hi).trans (n3 i hi)
 ·have e:i=ds.length:=by omega
  subst e
  rw[List.drop_length,zU]at hp'
  exact .inl ⟨jst (xn _),hp' F' ν' σ' H' rs' (.refl _ _) hs' hl' fun _ _=>rfl⟩
noncomputable def ZZ(t:EM Bool)(body:SM):Nat->Gv->R (FL×Gv)
 |0,_=>.bad
 |n+1,Γ=>(t Γ).bind fun (b,Γ1)=>if b then match body Γ1 with
   |.ok (.next,Γ2)=>ZZ t body n Γ2
   |.ok (.cnt,Γ2)=>ZZ t body n Γ2
   |.ok (.brk,Γ2)=>.ok (.next,Γ2)
   |r=>r
  else .ok (.next,Γ1)
noncomputable def y4(n:Nat)(t:EM Bool)(body:SM):SM:=ZZ t body n
theorem zce{n:Nat}(hpo:PassesOwn (model X.prog X.w) X.A X.env X.xe)(hc:ST X XP mp c ta)(hb:SB X XP mp io body f):SS X XP mp io (.While c body [] pos) (y4 n ta f):=fun M0 F Γ ν σ H D rs hs hl hp=>by
 refine (zaG hpo qR qH).wp ⟨fun m σ' H'=>∃ F' Γ' ν',RS M0 F' Γ' ν' H'/\Sees mp ν' σ'/\σ'.length=X.N.length/\SPost M0 F' ν' H' XP mp X.N.length io D (ZZ ta f m Γ'),⟨n,F,Γ,ν,rs,hs,hl,hp⟩,?_⟩
 rintro m σ' H' ⟨F',Γ',ν',rs',hs',hl',hp'⟩
 cases m with
 |zero=>exact hp'.elim
 |succ m=>
  rw[ZZ]at hp'
  refine hc M0 F' Γ' ν' σ' H' _ rs' hs' ((SPost.seq hs' hl' hp').mono fun F1 Γ1 H1 b rs1 s1 h1=>?_)
  dsimp only at h1
  cases b with
  |false=>exact Vr (h1 F1 ν' σ' H1 rs1 (.refl _ _) hs' hl' fun _ _=>rfl)
  |true=>
   refine vc ⟨fun σ2 H2=>∃ F2 Γ2 ν2,RS M0 F2 Γ2 ν2 H2/\Sees mp ν2 σ2/\σ2.length=X.N.length/\SPost M0 F2 ν2 H2 XP mp X.N.length io D (ZZ ta f m Γ2),fun σ2 H2 h=>⟨m,uS _,h⟩,?_⟩
   rw[if_pos rfl]at h1
   refine hb M0 F1 Γ1 ν' σ' H1 _ rs1 hs' hl' ?_
   cases ef:f Γ1 with
   |bad=>rw[ef]at h1;exact h1.elim
   |exc xx yy=>rw[ef]at h1;exact h1
   |ok z=>
    obtain⟨fl,Γ4⟩:=z
    rw[ef]at h1
    cases fl with
    |next=>exact fun F4 ν4 σ4 H4 a b c d e=>⟨F4,Γ4,ν4,a,c,d,h1.step b e⟩
    |cnt=>exact fun F4 ν4 σ4 H4 a b c d e=>⟨F4,Γ4,ν4,a,c,d,h1.step b e⟩
    |brk=>exact h1
    |ret o=>exact h1
theorem ZX{M0:Addr->Prop}{F:Fp}{Γ:Gv}{ν:Nu}{H:Hp}{i:Nat}{xs:List OV}(rs:RS M0 F Γ ν H)(e:Γ[i]?=some (some (.l xs))):∃ a vs A,ν[i]?=some (some (.ref a))/\H a=some (.lst vs)/\ORL (MM M0 F) H vs xs A/\F i=a::A/\A.Nodup:=by
 obtain⟨v,ev,q⟩:=rs.at' i _ e
 have nd:=rs.nd i
 generalize hA:F i=A at q
 rw[hA]at nd
 cases q with
 |l ea qa=>exact⟨_,_,_,ev,ea,qa,rfl,(xB.mp nd).2⟩
theorem Yz{M0:Addr->Prop}{F:Fp}{Γ:Gv}{ν:Nu}{H:Hp}{i:Nat}{xs xs':List OV}{a:Addr}{vs vs':List V}(rs:RS M0 F Γ ν H)(e:Γ[i]?=some (some (.l xs)))(en:ν[i]?=some (some (.ref a)))(eh:H a=some (.lst vs))
  (h:∀ A,ORL (MM M0 F) H vs xs A->ORL (MM M0 F) H vs' xs' A):∃ F',RS M0 F' (Γ.set i (some (.l xs'))) ν (upd H a (.lst vs'))/\Stp F H F' (upd H a (.lst vs')) :=
 rs.mut (xs':=xs') (vs:=vs') e en fun us A eu qa eF=>by
  rw[eh]at eu;cases eu
  have nd:=rs.nd i
  rw[eF]at nd
  exact⟨A,fun _ h=>h,(xB.mp nd).2,h A qa⟩
noncomputable def isOwn(Γ:Gv)(i:Nat):Bool:=match Γ[i]? with
 |some (some (.l _))=>true
 |_=>false
theorem wC{Γ:Gv}{i:Nat}(h:isOwn Γ i=true):∃ xs,Γ[i]?=some (some (.l xs)):=by
 unfold isOwn at h
 split at h
 ·rename_i xs e;exact⟨xs,e⟩
 ·cases h
structure NmK(X:Cx)(mp:List Nat)(s i:Nat)(x:Str):Prop where
 hN:X.N[s]?=some x
 hv:Vis X.env.scope x
 hm:mp[s]?=some i
 hd:(x==("__debug__" :Str))=false
 hcd:(x==("__classdict__" :Str))=false
noncomputable def sApp(i:Nat)(fa:EM FV):SM:=fun Γ=>if isOwn Γ i then (fa Γ).bind fun (u,Γ1)=>match derS Γ1 u,Γ1[i]? with
 |some x,some (some (.l xs))=>if xs.length<1000000 then .ok (.next,Γ1.set i (some (.l (xs++ [.d x])))) else .bad
 |_,_=>.bad
 else .bad
theorem zfO{s i:Nat}{x:Str}(n:NmK X mp s i x)(ha:SE X XP mp a fa)(hst:starEach [a] X.env= [(false,eval a X.env)])(hline:(p2.endLine==pos.line)=true) :
  SS X XP mp io (.Expr (.Call (.Attribute (.Name x p) "append" p2) [a] [] pos) pos') (sApp i fa):=fun M0 F Γ ν σ H D rs hs hl hp=>by
 unfold sApp at hp
 split at hp
 ·rename_i hw
  obtain⟨xs0,e0⟩:=wC hw
  obtain⟨a0,vs0,A0,en0,eh0,q0,_,_⟩:=ZX rs e0
  refine (Y5 (zhE PySem.F.plainAttrs_list PySem.F.slot_list_append PySem.F.type_list_append KJ (jT n.hN n.hv n.hd n.hcd) (zy zg pa_nil hst) rfl (by rw[hst];rfl) hline hst rfl) rfl).wp ⟨.ref a0,hs s i _ n.hm en0,.inl ⟨rfl,_,SqL.of eh0⟩,?_⟩
  refine ha M0 F Γ ν σ H _ rs hs ((SPost.seq hs hl hp).mono fun F1 Γ1 H1 u rs1 s1 h1 v hv=>?_)
  dsimp only at h1
  split at h1
  ·rename_i y xs ey ex
   split at h1
   ·rename_i hz
    obtain⟨a1,vs1,A1,en1,eh1,q1,_,_⟩:=ZX rs1 ex
    rw[en0]at en1
    cases en1
    refine⟨a0,vs1,v,rfl,rfl,eh1,by have:=sizeLine_eq;rw[q1.length];omega,?_⟩
    obtain⟨F2,rs2,s2⟩:=Yz rs1 ex en0 eh1 fun A qa=>qa.snoc (hv.strong rs1 ey)
    exact h1 F2 ν σ _ rs2 s2 hs hl fun _ _=>rfl
   ·exact h1.elim
  ·exact h1.elim
 ·exact hp.elim
noncomputable def sSet(i:Nat)(fi fv:EM FV):SM:=fun Γ=>(fv Γ).bind fun (u,Γ1)=>if isOwn Γ1 i then (fi Γ1).bind fun (w,Γ2)=>match derS Γ2 u,derf Γ2 w,Γ2[i]? with
 |some x,some (.int k),some (some (.l xs))=>match ixN xs.length k with
  |some j=>match xs[j]? with
   |some (.d _)=>.ok (.next,Γ2.set i (some (.l (xs.set j (.d x)))))
   |_=>.bad
  |none=>.bad
 |_,_,_=>.bad
 else .bad
theorem zgj{s i:Nat}{x:Str}(n:NmK X mp s i x)(hi:SE X XP mp b fb)(hv:SE X XP mp a fa)(hsw:swapsWithSole [.Subscript (.Name x p) b p2] a pos.line X.env=pure false)(hw:swappedStores [.Subscript (.Name x p) b p2] a X.env=pure none)
  (hps:∀ {te:TE} {g:TG},PE X a te->PG X (.Subscript (.Name x p) b p2) g->PS X (.Assign [.Subscript (.Name x p) b p2] a pos) (YN te g)) (hpg:∀ {to ti:TE} {t:zeg},PE X (.Name x p) to->PE X b ti->zf3 X t->PG X (.Subscript (.Name x p) b p2) (zgR to ti t)) :
  SS X XP mp io (.Assign [.Subscript (.Name x p) b p2] a pos) (sSet i fb fa):=fun M0 F Γ ν σ H D rs hs hl hp=>by
 refine (hps zg (hpg (jT n.hN n.hv n.hd n.hcd) zg zbA)).wp (hv M0 F Γ ν σ H _ rs hs ((SPost.seq hs hl hp).mono fun F1 Γ1 H1 u rs1 s1 h1 v ov=>?_))
 dsimp only at h1
 split at h1
 ·rename_i hw
  obtain⟨xs0,e0⟩:=wC hw
  obtain⟨a0,vs0,A0,en0,eh0,q0,_,_⟩:=ZX rs1 e0
  refine⟨.ref a0,hs s i _ n.hm en0,?_⟩
  refine hi M0 F1 Γ1 ν σ H1 _ rs1 hs ((SPost.seq hs hl h1).mono fun F2 Γ2 H2 w rs2 s2 h2 vi oi=>?_)
  dsimp only at h2
  split at h2
  ·rename_i y k xs ey ek ex
   split at h2
   ·rename_i j ej
    split at h2
    ·rename_i z ez
     obtain⟨a1,vs1,A1,en1,eh1,q1,_,_⟩:=ZX rs2 ex
     rw[en0]at en1
     cases en1
     cases oi.weak rs2 ek
     refine⟨a0,vs1,k,j,rfl,rfl,eh1,by rw[q1.length];exact ej,?_⟩
     obtain⟨F3,rs3,s3⟩:=Yz rs2 ex en0 eh1 fun A qa=>qa.setD ((ov.stp s2 rs1.al0).strong rs2 ey) ez
     exact h2 F3 ν σ _ rs3 s3 hs hl fun _ _=>rfl
    ·exact h2.elim
   ·exact h2.elim
  ·exact h2.elim
 ·exact h1.elim
noncomputable def derfs(Γ:Gv):List FV->Option (List PyData)
 |[]=>some []
 |u::us=>match derf Γ u,derfs Γ us with
  |some x,some xs=>some (x::xs)
  |_,_=>none
theorem FOks.weak{M0:Addr->Prop}{F:Fp}{Γ:Gv}{ν:Nu}{H:Hp}(rs:RS M0 F Γ ν H):∀ {vs:List V}{us:List FV}{ds:List PyData},FOks M0 F ν H vs us->derfs Γ us=some ds->RepL zC H vs ds
 |_,_,_,.nil,e=>by cases e;exact .nil
 |_,_,_,.cons h t,e=>by
  unfold derfs at e
  split at e
  ·rename_i e1 e2
   cases e
   exact .cons (h.weak rs e1) (FOks.weak rs t e2)
  ·cases e
noncomputable def fCallW(run:List OV->RF)(fl:EM (List FV)):EM FV:=fun Γ=>(fl Γ).bind fun (us,Γ1)=>match derfs Γ1 us with
 |none=>.bad
 |some ds=>match run (ds.map .d) with
  |.ok (.d x) _=>if noL x then .ok (.dat x,Γ1) else .bad
  |_=>.bad
theorem zgb{H:Hp}{vs:List V}{ds:List PyData}(r:RepL zC H vs ds):RS zC (fun _=> []) ((ds.map OV.d).map some) (vs.map some) H where
 al0 a h:=h.elim
 dis0 i a h:=by cases h
 nd i:=.nil
 dis i j a h:=by cases h
 at' j o e:=by
  rw[xg,xg]at e
  cases q:ds[j]? with
  |none=>rw[q]at e;cases e
  |some x=>
   rw[q]at e
   have eo:OV.d x=o:=by simpa using e
   subst eo
   obtain⟨v,ev,rv⟩:=r.get' q
   refine⟨v,by rw[xg,ev];rfl,.d (rv.less fun b hb _=>?_)⟩
   rcases hb with hb | ⟨i,hb⟩
   ·exact hb
   ·cases hb
 emp i h:=rfl
 len:=by simp[r.length]
theorem zbN{x:Str}{k n:Nat}{run:List OV->RF}{fl:EM (List FV)}(kn:Kn X.prog X.w X.K X.mg X.base CX0 x k (spI n run))(hr:Room k X.A)(hg:Gl X x)(hrun:∀ args r outs,run args=.ok r outs->args.length=n)(hlist:SL X XP mp (a::es) fl)
  (hdb:(x==("__debug__" :Str))=false) (he:starEach (a::es) X.env=(false,eval a X.env)::starEach es X.env) (hpl:(backTo pos (starEach es X.env)).any (·.1)=false):SE X XP mp (.Call (.Name x p) (a::es) [] pos) (fCallW run fl):=fun M0 F Γ ν σ H Q rs hs hp=>
 vI (E:=E0) kn hr hg kB (hlist M0 F Γ ν σ H _ rs hs (hp.seq.mono fun F1 Γ1 H1 us rs1 s1 h1 vs oks=>by
  dsimp only at h1
  split at h1
  ·exact h1.elim
  ·rename_i ds ed
   have rw0:=oks.weak rs1 ed
   split at h1
   ·rename_i y outs er
    split at h1
    ·rename_i hz
     have hl:=hrun _ _ _ er
     refine⟨by rw[rw0.length,<- hl];simp,zC,fun _=> [],ds.map .d,zgb rw0,?_⟩
     rw[er]
     intro F' v H' rc sc
     have sm:Same H1 H':=fun b o e=>(sc.keep b o e fun _ h=>nomatch h).1
     refine h1 F1 H' (rs1.same sm) (.same sm) v ?_
     have hlen:=rc.len
     obtain⟨w,ew,q⟩:=rc.at' outs.length (.d y) (by rw[xh (xn _)];simp)
     have hol:outs.length=(vs.map some).length:=by simp at hlen |-;omega
     rw[hol,xh (xn _)]at ew
     have:v=w:=by simpa using ew
     subst this
     generalize F' outs.length=A at q
     cases q with
     |d q=>exact Rep.free hz q
    ·exact h1.elim
   ·exact h1.elim)) hdb he hpl
end
end L3
namespace L3
open PySem PySem.Spec PyProof.Rows L2
section
variable {M0:Addr->Prop} {F F':Fp} {Γ Γ':Gv} {ν ν':Nu} {H H':Hp}
end
section
variable {X:Cx} {XP:XPT} {mp io:List Nat} {a b c e tg iter:Expr} {es:List Expr} {pos p p2 pos':Pos} {fa fb fc:EM FV} {ta tb:EM Bool} {na nb:EM (List PyData)} {fo:EM OV} {st:Stmt} {sts body els:List Stmt} {f g:SM}
end
theorem ORL.snocO{M:Addr->Prop}{H:Hp}{v:V}{o:OV}{B:List Addr}(q:OR M H v o B):∀ {vs:List V}{os:List OV}{A:List Addr},ORL M H vs os A->ORL M H (vs++ [v]) (os++ [o]) (A++B)
 |_,_,_,.nil=>by simpa using ORL.cons q .nil
 |_,_,_,.cons r t=>by rw[List.append_assoc];exact .cons r (ORL.snocO q t)
section
variable {M0:Addr->Prop} {F F':Fp} {Γ Γ':Gv} {ν ν':Nu} {H H':Hp}
theorem RS.join{i:Nat}{xs:List OV}{o:OV}{v:V}{a:Addr}{vs:List V}(r:RS M0 F (Γ++ [some o]) (ν++ [some v]) H)(e:Γ[i]?=some (some (.l xs)))(en:ν[i]?=some (some (.ref a)))(eh:H a=some (.lst vs)) :
  vs.length=xs.length/\∃ F',RS M0 F' (Γ.set i (some (.l (xs++ [o])))) ν (upd H a (.lst (vs++ [v])))/\Stp F H F' (upd H a (.lst (vs++ [v]))):=by
 have hl:ν.length=Γ.length:=by have:=r.len;simp at this;exact this
 have hi:=(xc.mp e).1
 obtain⟨a1,vs1,A,en1,eh1,qa,eF,nd⟩:=ZX r (by rw[xf hi];exact e)
 rw[xf (by omega),en]at en1
 cases en1
 rw[eh]at eh1
 cases eh1
 refine⟨qa.length,?_⟩
 obtain⟨u,eu,qo⟩:=r.at' Γ.length o (by rw[xh (xn _)];simp)
 have euv:u=v:=by
  rw[xh (by omega),hl]at eu
  simpa using eu.symm
 subst euv
 have ha:a∈F i:=by rw[eF];exact xz
 have hne:∀ j,j≠i->∀ b∈F j,b≠a:=fun j hj b hb z=>by subst z;exact hj (r.dis _ _ _ hb ha)
 have hnA:∀ b∈A,b≠a:=fun b hb z=>by
  subst z
  have:=r.nd i
  rw[eF]at this
  exact (xB.mp this).1 hb
 let F':Fp:=fun j=>if j=i then F i++F Γ.length else if j<Γ.length then F j else []
 have hFi:F' i=F i++F Γ.length:=by show (if i=i then _ else _)=_;rw[if_pos rfl]
 have hFj:∀ j,j≠i->j<Γ.length->F' j=F j:=fun j h1 h2=>by show (if j=i then _ else _)=_;rw[if_neg h1,if_pos h2]
 have hFo:∀ j,j≠i->¬ j<Γ.length->F' j= []:=fun j h1 h2=>by show (if j=i then _ else _)=_;rw[if_neg h1,if_neg h2]
 have sub:∀ j b,b∈F' j->(j=i/\(b∈F i∨b∈F Γ.length))∨(j≠i/\j<Γ.length/\b∈F j):=fun j b h=>by
  by_cases h1:j=i
  ·subst h1;rw[hFi]at h;exact .inl ⟨rfl,xH.mp h⟩
  ·by_cases h2:j<Γ.length
   ·rw[hFj j h1 h2]at h;exact .inr ⟨h1,h2,h⟩
   ·rw[hFo j h1 h2]at h;cases h
 have s:Stp F H F' (upd H a (.lst (vs++ [u]))):=⟨fun b ob e nb=>⟨by
   rw[zn (fun z=>by subst z;exact nb i ha)];exact e,fun j h=>by
   rcases sub j b h with ⟨_,h | h⟩ | ⟨_,_,h⟩<;>exact nb _ h⟩,fun b xs e=>by
   rw[zn (fun z=>by subst z;rw[eh]at e;cases e)];exact e,fun b h=>by
   by_cases z:b=a
   ·subst z;rw[zx];exact fun z=>nomatch z
   ·rw[zn z];exact h⟩
 have hin:∀ b,b∈F Γ.length->b∉F i:=fun b h1 h2=>by have:=r.dis _ _ b h1 h2;omega
 refine⟨F',⟨fun b h=>s.stay b (r.al0 b h),fun j b h=>?_,fun j=>?_,fun j k b h1 h2=>?_,fun j p ep=>?_,fun j h=>?_,by simp[hl]⟩,s⟩
 ·rcases sub j b h with ⟨_,h | h⟩ | ⟨_,_,h⟩<;>exact r.dis0 _ b h
 ·by_cases h1:j=i
  ·subst h1;rw[hFi]
   exact uj.mpr ⟨r.nd _,r.nd _,fun x hx y hy z=>by subst z;exact hin _ hy hx⟩
  ·by_cases h2:j<Γ.length
   ·rw[hFj j h1 h2];exact r.nd _
   ·rw[hFo j h1 h2];exact .nil
 ·rcases sub j b h1 with ⟨e1,z1⟩ | ⟨n1,l1,z1⟩
  ·rcases sub k b h2 with ⟨e2,z2⟩ | ⟨n2,l2,z2⟩
   ·rw[e1,e2]
   ·rcases z1 with z1 | z1
    ·exact absurd (r.dis _ _ b z2 z1) n2
    ·have:=r.dis _ _ b z2 z1;omega
  ·rcases sub k b h2 with ⟨e2,z2⟩ | ⟨n2,l2,z2⟩
   ·rcases z2 with z2 | z2
    ·exact absurd (r.dis _ _ b z1 z2) n1
    ·have:=r.dis _ _ b z1 z2;omega
   ·exact r.dis _ _ b z1 z2
 ·by_cases hj:j=i
  ·subst hj
   rw[xt hi]at ep
   cases ep
   refine⟨.ref a,en,?_⟩
   rw[hFi,eF,uR]
   exact .l zx (ORL.snocO (qo.go (fun _ _ x=>zJ s r.al0 x) fun b hb=>zn (hne _ (by omega) b hb)) (qa.go (fun _ _ x=>zJ s r.al0 x) fun b hb=>zn (hnA b hb)))
  ·rw[xv (Ne.symm hj)]at ep
   have hjl:j<Γ.length:=(xc.mp ep).1
   obtain⟨w,e1,q⟩:=r.at' j p (by rw[xf hjl];exact ep)
   rw[xf (by omega)]at e1
   exact⟨w,e1,by rw[hFj j hj hjl];exact q.go (fun _ _ x=>zJ s r.al0 x) fun b hb=>zn (hne j hj b hb)⟩
 ·by_cases hj:j=i
  ·subst hj;rw[xt hi]at h;exact absurd rfl (h _)
  ·by_cases h2:j<Γ.length
   ·rw[hFj j hj h2]
    refine r.emp j fun p ep=>h p ?_
    rw[xf h2]at ep
    rw[xv (Ne.symm hj)];exact ep
   ·exact hFo j hj h2
theorem RS.clear(r:RS M0 F Γ ν H)(j:Nat)(w:Option V):∃ F',RS M0 F' (Γ.set j none) (ν.set j w) H/\Stp F H F' H:=by
 have sub:∀ k b,b∈jz F j [] k->k≠j/\b∈F k:=fun k b h=>by
  by_cases hk:k=j
  ·subst hk;rw[zF]at h;cases h
  ·rw[zN hk]at h;exact⟨hk,h⟩
 have s:Stp F H (jz F j []) H:=Zs fun k b h=>⟨k,(sub k b h).2⟩
 refine⟨jz F j [],⟨r.al0,fun k b h=>r.dis0 k b (sub k b h).2,fun k=>?_,fun k l b h1 h2=>r.dis k l b (sub k b h1).2 (sub l b h2).2,fun k o e=>?_,fun k h=>?_,by simp[r.len]⟩,s⟩
 ·by_cases hk:k=j
  ·subst hk;rw[zF];exact .nil
  ·rw[zN hk];exact r.nd k
 ·have hk:k≠j:=fun z=>by
   subst z
   have hl:=(xc.mp e).1
   rw[xt (by simpa using hl)]at e;cases e
  rw[xv (Ne.symm hk)]at e |-
  obtain⟨v,e1,q⟩:=r.at' k o e
  exact⟨v,e1,by rw[zN hk];exact q.go (fun _ _ x=>zJ s r.al0 x) fun _ _=>rfl⟩
 ·by_cases hk:k=j
  ·subst hk;exact zF
  ·rw[zN hk]
   refine r.emp k fun o e=>h o ?_
   rw[xv (Ne.symm hk)];exact e
end
section
variable {M0:Addr->Prop} {F F':Fp} {Γ Γ':Gv} {ν ν':Nu} {H H':Hp}
end
end L3
namespace L3
open PySem PySem.Spec PyProof.Rows L2
section
variable {X:Cx} {XP:XPT} {mp io:List Nat} {a b c e tg iter:Expr} {es:List Expr} {pos p p2 pos' p3:Pos} {fa fb fc:EM FV} {ta tb:EM Bool} {na nb:EM (List PyData)} {fo:EM OV} {st:Stmt} {sts body els:List Stmt} {f g:SM}
end
section
variable {X:Cx} {XP:XPT} {mp io:List Nat} {a b c e tg iter:Expr} {es:List Expr} {pos p p2 pos' p3 py pc pf:Pos} {fa fb fc:EM FV} {ta tb:EM Bool} {na nb:EM (List PyData)} {fo:EM OV} {st:Stmt} {sts body els:List Stmt} {f g:SM}
end
end L3
namespace L3
open PySem PySem.Spec PyProof.Rows L2
noncomputable def spX(mg:Str->Option Value)(n:Nat)(run:List OV->RF):Sp:=fun vs H Q E=>vs.length=n/\∃ (M0:Addr->Prop) (F:Fp) (args:List OV),RS M0 F (args.map some) (vs.map some) H/\match run args with
 |.ok r outs=>∀ F' v H',RS M0 F' (outs++ [some r]) (vs.map some++ [some v]) H'->Stp F H F' H'->Q v H'
 |.exc x _=>∀ C,mg x.cls=some (.ref C)->∀ F' H',Stp F H F' H'->E (.ref C) none H'
 |.bad=>False
noncomputable def vb(x:Str):SM:=fun Γ=>.exc ⟨x,.none⟩ Γ
noncomputable def zhz(X:Cx)(XP:XPT):Prop:=∀ (x:Exc) (Γ:Gv) (F:Fp) (ν:Nu) (σ:St) (H:Hp),XP x Γ F ν σ H->∀ C,X.mg x.cls=some (.ref C)->∀ pins s,Inv X pins σ H s->∀ h' ea args,Heap.MadeExcOf s.heap h' ea (.ref C) args->X.xe (.ref ea) { s with heap:=h' }
section
variable {X:Cx} {XP:XPT} {mp io:List Nat} {x:Str} {C:Addr} {np cpos pos cp:Pos} {z:Str} {cj:Nat}
theorem zcK(k:Kq X x C)(hcalm:X.calm=true)(rz:zhz X XP):SS X XP mp io (.Raise (some (.Call (.Name x np) [.Constant (.str z) cj cp] [] cpos)) none pos) (vb x):=fun M0 F Γ ν σ H D rs hs hl hp=>
 zbY k hcalm fun pins s I h' ea args hm=>rz ⟨x,.none⟩ Γ F ν σ H (hp F ν σ H rs (.refl _ _) hs hl fun _ _=>rfl) C k.mg pins s I h' ea args hm
end
noncomputable def zco(c:Str):List (Str×Nat×Nat×Str)->Option (Nat×Nat×Str)
 |[]=>none
 | (x,t,j,v)::r=>if x=c then some (t,j,v) else zco c r
structure HdN(X:Cx)(L:Str->Addr->Prop)(mp:List Nat)(hd:ExceptHandler)(x:Str)(C:Addr)(t j:Nat)(v:Str):Prop where
 k:HdK X hd C t v
 e:Kq X x C
 l:L x C
 m:mp[t]?=some j
inductive HdNs(X:Cx)(L:Str->Addr->Prop)(mp:List Nat):List ExceptHandler->List (Str×Nat×Nat×Str)->List (Addr×Nat×Str)->Prop
 |nil:HdNs X L mp [] [] []
 |cons {hd:ExceptHandler} {hs:List ExceptHandler} {x:Str} {C:Addr} {t j:Nat} {v:Str} {ns:List (Str×Nat×Nat×Str)} {zs:List (Addr×Nat×Str)}:HdN X L mp hd x C t j v->HdNs X L mp hs ns zs->HdNs X L mp (hd::hs) ((x,t,j,v)::ns) ((C,t,v)::zs)
theorem HdNs.ks{X:Cx}{L:Str->Addr->Prop}{mp:List Nat}:∀ {hs:List ExceptHandler}{ns:List (Str×Nat×Nat×Str)}{zs:List (Addr×Nat×Str)},HdNs X L mp hs ns zs->zdW X hs zs
 |_,_,_,.nil=>.nil
 |_,_,_,.cons h t=>.cons h.k t.ks
theorem HdNs.found{X:Cx}{L:Str->Addr->Prop}{mp:List Nat}{c:Str}{t j:Nat}{v:Str}:∀ {hs:List ExceptHandler}{ns:List (Str×Nat×Nat×Str)}{zs:List (Addr×Nat×Str)},HdNs X L mp hs ns zs->zco c ns=some (t,j,v)->∃ C,Kq X c C/\L c C/\mp[t]?=some j
 |_,_,_,.nil,e=>by cases e
 |_,_,_,.cons (x:=x) (C:=C) h r,e=>by
  unfold zco at e
  split at e
  ·rename_i q
   subst q
   cases e
   exact⟨C,h.e,h.l,h.m⟩
  ·exact r.found e
section
variable {X:Cx} {XP:XPT} {mp io:List Nat} {L:Str->Addr->Prop} {hs:List ExceptHandler} {ns:List (Str×Nat×Nat×Str)} {zs:List (Addr×Nat×Str)} {a:Expr} {es:List Expr} {fl:EM (List AV)}
end
end L3
namespace L2
open PySem PySem.Spec PyProof.Rows
section
variable {X:Cx}
theorem yU {a:Expr}{p1 p2 q1 q2:Pos}(hc:X.calm=true) (hgl:Gl X "len") (hml:X.mg "len" =none) (hgs:Gl X "set") (hms:X.mg "set" =none) (hsa:starEach [a] X.env= [(false,eval a X.env)]) :
  PE X (.Call (.Name "len" p1) [.Call (.Name "set" p2) [a] [] q2] [] q1) (fun σ H Q=>wpE X a σ H fun v H1=>∃ l ns,v=.ref l/\SqL X.K H1 l (List.map V.int ns)/\ns.length<=60/\Q (.int (Tab.dedup ns).length) H1):=by
 intro pins s σ H Q I h
 refine wpAny_Call_Name_kw (jp I hgl hml PySem.boot_len ?_)
 refine PyProof.Rows.callWith_builtin1 (E:=X.xe) ?_ rfl rfl
 show wpAny _ _ (spliced ((false,eval (.Call (.Name "set" p2) [a] [] q2) X.env)::backTo q1 (starEach [] X.env))) _ _ s
 refine Calls.spliced_cons ?_
 refine thn (yT hc hgs hms hsa (R:=fun ns H1=>Q (.int (Tab.dedup ns).length) H1) I h) fun v s1 ⟨r1,ns,H1,e1,I1,_,hn,hS1,q⟩=>?_
 subst e1
 refine Calls.spliced_nil ?_
 obtain⟨o3,es3,ep3,t3,hg3,hx3,hd3,_,_,hb3,hf3,hn3⟩:=hS1
 have hsb:scanBound=4096:=rfl
 have hdl:=jv ns
 obtain⟨hh,gg,gd,gt,go⟩:=s1
 refine call_len_set hg3 hx3 hd3 hf3 (by omega) ?_
 refine⟨.int (Tab.dedup ns).length,H1,I1.kept (t':=gt+1+1) fun b o e=>e,⟨gt+1,?_⟩,q⟩
 rw[hn3]
end
end L2
namespace L3
open PySem PySem.Spec PyProof.Rows L2
theorem ORL.appD{M:Addr->Prop}{H:Hp}:∀ {zs:List V}{ds:List PyData}{vs:List V}{os:List OV}{A:List Addr},RepL M H zs ds->ORL M H vs os A->ORL M H (vs++zs) (os++ds.map .d) A
 |_,_,_,_,_,.nil,h=>by simpa using h
 |_,_,vs,os,A,.cons (v:=v) (vs:=zs) (d:=d) (ds:=ds) r t,h=>by
  have:=ORL.appD t (ORL.snoc r h)
  simpa using this
section
variable {X:Cx} {XP:XPT} {mp io:List Nat} {a e:Expr} {p p1 p2 q1 q2 pos px py ps:Pos} {fa:EM FV}
noncomputable def va(fa:EM FV):EM FV:=fun Γ=>(fa Γ).bind fun (u,Γ1)=>match (derL Γ1 u).bind qj with
 |some ns=>if ns.length<=60 then .ok (.dat (.int (Tab.dedup ns).length),Γ1) else .bad
 |none=>.bad
theorem zcI (hc:X.calm=true) (hgl:Gl X "len") (hml:X.mg "len" =none) (hgs:Gl X "set") (hms:X.mg "set" =none) (ha:SE X XP mp a fa) (hsa:starEach [a] X.env= [(false,eval a X.env)]) :
  SE X XP mp (.Call (.Name "len" p1) [.Call (.Name "set" p2) [a] [] q2] [] q1) (va fa):=fun M0 F Γ ν σ H Q rs hs hp=>by
 refine (yU hc hgl hml hgs hms hsa).wp (ha.run rs hs hp fun F1 Γ1 H1 u v rs1 s1 o1 h1=>?_)
 dsimp only at h1
 split at h1
 ·rename_i ns en
  split at h1
  ·rename_i hn
   obtain⟨l,rfl,el⟩:=vp o1 rs1 en
   exact⟨l,ns,rfl,SqL.of el,hn,h1 F1 H1 rs1 (.refl _ _) _ (Rep.int _)⟩
  ·exact h1.elim
 ·exact h1.elim
noncomputable def zdt(i:Nat)(fa:EM FV):SM:=fun Γ=>if isOwn Γ i then (fa Γ).bind fun (u,Γ1)=>match derS Γ1 u,Γ1[i]? with
 |some (.list ds),some (some (.l xs))=>if xs.length+ds.length<=1000000 then .ok (.next,Γ1.set i (some (.l (xs++ds.map .d)))) else .bad
 |_,_=>.bad
 else .bad
theorem Sees.again{ν:Nu}{σ:St}{s i:Nat}{v:V}(h:Sees mp ν σ)(hm:mp[s]?=some i)(hv:ν[i]?=some (some v))(hs:s<σ.length):Sees mp ν (σ.set s (some v)):=fun s' j w e1 e2=>by
 by_cases hj:s=s'
 ·subst hj
  rw[hm]at e1
  cases e1
  rw[hv]at e2
  cases e2
  rw[xt hs]
 ·rw[xv hj];exact h s' j w e1 e2
theorem zgn{s i:Nat}{x:Str}(n:NmK X mp s i x)(hN:X.N.Nodup)(hx:Loc X.env.scope x)(hf:X.fn x=true∨X.env.scope.names.lookup x=some .local)(ha:SE X XP mp a fa):SS X XP mp io (.AugAssign (.Name x p) .Add a pos) (zdt i fa):=fun M0 F Γ ν σ H D rs hs hl hp=>by
 unfold zdt at hp
 split at hp
 ·rename_i hw
  obtain⟨xs0,e0⟩:=wC hw
  obtain⟨a0,vs0,A0,en0,eh0,q0,_,_⟩:=ZX rs e0
  have hsl:s<σ.length:=by rw[hl];exact (xc.mp n.hN).1
  refine (zgi hN n.hN hx zg zd6 hf).wp ⟨.ref a0,hs s i _ n.hm en0,?_⟩
  refine ha M0 F Γ ν σ H _ rs hs ((SPost.seq hs hl hp).mono fun F1 Γ1 H1 u rs1 s1 h1 v hv=>?_)
  dsimp only at h1
  split at h1
  ·rename_i ds xs ed ex
   split at h1
   ·rename_i hz
    obtain⟨a1,vs1,A1,en1,eh1,q1,_,_⟩:=ZX rs1 ex
    rw[en0]at en1
    cases en1
    obtain⟨l,zs,rfl,el,_,r⟩:=(hv.strong rs1 ed).lst_inv
    refine⟨a0,l,vs1,zs,rfl,rfl,eh1,el,by have:=sizeLine_eq;rw[q1.length,r.length];omega,?_⟩
    obtain⟨F2,rs2,s2⟩:=Yz rs1 ex en0 eh1 fun A qa=>ORL.appD r qa
    exact h1 F2 ν _ _ rs2 s2 (hs.again n.hm en0 hsl) (by simpa using hl) fun _ _=>rfl
   ·exact h1.elim
  ·exact h1.elim
 ·exact hp.elim
noncomputable def kO(io:List Nat)(i j:Nat)(fa:EM FV):SM:=fun Γ=>(fa Γ).bind fun (u,Γ1)=>match derS Γ1 u with
 |some (.list (d::ds))=>if i<Γ1.length/\j<Γ1.length/\i∉io/\j∉io then .ok (.next,(Γ1.set i (some (.d d))).set j (some (.d (.list ds)))) else .bad
 |_=>.bad
theorem zdL{s i t j:Nat}{x y:Str}{k:Nat}(hc:X.calm=true)(hN:X.N.Nodup)(hn:mp.Nodup)(hi:X.N[s]?=some x)(hx:Loc X.env.scope x)(hfx:X.fn x=true∨X.env.scope.names.lookup x=some .local)(hm:mp[s]?=some i)(hj:X.N[t]?=some y)(hy:Loc X.env.scope y)(hfy:X.fn y=true∨X.env.scope.names.lookup y=some .local)(hmt:mp[t]?=some j)
  (ha:SE X XP mp a fa) (hsw:swapsWithSole [.Tuple [.Name x px,.Starred (.Name y py) ps] k p] a pos.line X.env=pure false) (hw:swappedStores [.Tuple [.Name x px,.Starred (.Name y py) ps] k p] a X.env=pure none) :
  SS X XP mp io (.Assign [.Tuple [.Name x px,.Starred (.Name y py) ps] k p] a pos) (kO io i j fa):=fun M0 F Γ ν σ H D rs hs hl hp=>by
 have hsl:s<X.N.length:=(xc.mp hi).1
 have htl:t<X.N.length:=(xc.mp hj).1
 refine (yW zg (zer hc hN hi hx hfx hj hy hfy) hsw hw).wp (ha M0 F Γ ν σ H _ rs hs ((SPost.seq hs hl hp).mono fun F1 Γ1 H1 u rs1 s1 h1 v hv=>?_))
 unfold kO at hp
 dsimp only at h1
 split at h1
 ·rename_i d ds ed
  split at h1
  ·rename_i hh
   obtain⟨k1,k2,k3,k4⟩:=hh
   obtain⟨l,zs,rfl,el,_,r⟩:=(hv.strong rs1 ed).lst_inv
   cases r with
   |cons r1 r2=>
    rename_i w ws
    refine⟨l,w,ws,rfl,SqL.of el,fun q hq=>?_⟩
    have sm:Same H1 (upd H1 q (.lst ws)):=zM hq
    obtain⟨F2,rs2,s2⟩:=(rs1.same sm).setD (i:=i) (r1.grow sm.grow) k1
    have hnm:¬ MM M0 F1 q:=fun z=>rs1.al q z hq
    have rl:Rep (MM M0 F1) (upd H1 q (.lst ws)) (.ref q) (.list ds):=Rep.list zx hnm (r2.grow sm.grow)
    obtain⟨F3,rs3,s3⟩:=rs2.setD (i:=j) (zJ s2 (rs1.same sm).al0 rl) (by simpa using k2)
    refine h1 F3 _ _ _ rs3 (((Stp.same sm).trans s2).trans s3) ((hs.set hn hm (by rw[hl];exact hsl)).set hn hmt (by rw[uk,hl];exact htl)) (by simpa using hl) fun z hz=>?_
    rw[xv (fun e=>k4 (by rw[e];exact hz)),xv (fun e=>k3 (by rw[e];exact hz))]
  ·exact h1.elim
 ·exact h1.elim
end
end L3
namespace L2
open PySem PySem.Spec PyProof.Rows
section
variable {X:Cx}
end
end L2
namespace L3
open PySem PySem.Spec PyProof.Rows L2
section
variable {X:Cx} {XP:XPT} {mp:List Nat} {a b c e:Expr} {es:List Expr} {pos p p2:Pos} {fa fb fc:EM FV}
noncomputable def ze9:List Str->Str
 |[]=>Str.empty
 |x::r=>x++ze9 r
theorem Ym(x:Str):x++Str.empty=x:=by
 show Str.append x Str.empty=x
 cases x;simp[Str.append,Str.empty]
noncomputable def zbr:EM (List Str):=fun Γ=>.ok ([],Γ)
noncomputable def SJ(X:Cx)(XP:XPT)(mp:List Nat)(es:List Expr)(f:EM (List Str)):Prop:=∀ (M0:Addr->Prop) (F:Fp) (Γ:Gv) (ν:Nu) (σ:St) (H:Hp) (acc:Str) (Q:Str->Hp->Prop),RS M0 F Γ ν H->Sees mp ν σ->acc.length+10000*es.length<=10000000 ->
 EPost M0 F ν σ H XP (fun F' Γ' H' ys=>Q (acc++ze9 ys) H') (f Γ)->∀ pins s,Inv X pins σ H s->Joins (model X.prog X.w) X.A X.xe (evalEach es X.env) acc (fun out s1=>out.length<=sizeLine/\∃ H',Inv X pins σ H' s1/\Q out H') s
theorem zfA:SJ X XP mp [] zbr:=fun M0 F Γ ν σ H acc Q rs hs hz hp pins s I=>by
 have:=hp F H rs (.refl _ _)
 unfold ze9 at this
 rw[Ym]at this
 exact⟨by have:=sizeLine_eq;omega,H,I,this⟩
end
end L3
namespace L3
open PySem PySem.Spec PyProof.Rows L2
mutual
inductive IE where
 |var (s i:Nat)
 |frz (s i:Nat)
 |cint (i:Int)
 |cstr (x:Str)
 |cbool (b:Bool)
 |cnone
 |tup (a:IL)
 |new (n:IN)
 |bin (op:Operator) (a b:IE)
 |cmp (op:CmpOp) (a b:IE)
 |chain (op op':CmpOp) (a b c:IE)
 |not (a:IE)
 |neg (a:IE)
 |and (a b:IE)
 |or (a b:IE)
 |ite (c a b:IE)
 |ix (a b:IE)
 |len (a:IE)
 |int (a:IE)
 |all (a:IE)
 |any (a:IE)
 |tuple (a:IE)
 |isi (T:String) (a:IE)
 |min (a b:IE)
 |max (a b:IE)
 |less (a b:IE)
 |call (o:IO)
 |callw (f:Str) (n:Nat) (a:IL)
 |lset (a:IE)
 |lsetL (a:IE)
inductive IL where
 |nil
 |cons (e:IE) (a:IL)
inductive IA where
 |nil
 |cons (e:IE) (a:IA)
 |io (s i:Nat) (a:IA)
 |tmp (n:IN)
inductive IN where
 |lst (a:IL)
 |cat (a b:IE)
 |list (e:IE)
 |sorted (e:IE)
 |comp (n k:Nat) (ix:List Nat) (N':List Str) (t:IT) (src:II) (c:IC) (el:IE)
inductive IP where
 |non
 |one (e:IE)
inductive II where
 |list (e:IE)
 |tup (e:IE)
 |range (e:IE)
 |enum (e:IE)
inductive IC where
 |yes
 |one (e:IE)
inductive IO where
 |dat (e:IE)
 |own (n:IN)
 |call (f:Str) (n:Nat) (a:IA)
 |move (s i:Nat)
inductive IJ where
 |nil
end
noncomputable abbrev CF:=Str->List OV->RF
noncomputable def fNo:EM Bool:=fun _=>.bad
mutual
noncomputable def IE.ev(cf:CF):IE->EM FV×EM Bool
 |.var _ i=>(fVar i,fTru (fVar i))
 |.frz _ i=>(fFrz i,fTru (fFrz i))
 |.cint i=>(fC (.int i),fTru (fC (.int i)))
 |.cstr x=>(fC (.str x),fTru (fC (.str x)))
 |.cbool b=>(fC (.bool b),fTru (fC (.bool b)))
 |.cnone=>(fC .none,fTru (fC .none))
 |.tup a=>(fTup (a.ev cf),fTru (fTup (a.ev cf)))
 |.new n=>(fNew (n.ev cf),fTru (fNew (n.ev cf)))
 |.bin op a b=>(fBin (binD op) (a.ev cf).1 (b.ev cf).1,fTru (fBin (binD op) (a.ev cf).1 (b.ev cf).1))
 |.cmp op a b=>(fB (fCmp (cmpD op) (a.ev cf).1 (b.ev cf).1),fCmp (cmpD op) (a.ev cf).1 (b.ev cf).1)
 |.chain op op' a b c=>(fB (fChain (cmpD op) (cmpD op') (a.ev cf).1 (b.ev cf).1 (c.ev cf).1),fChain (cmpD op) (cmpD op') (a.ev cf).1 (b.ev cf).1 (c.ev cf).1)
 |.not a=>(fB (fNotT (fTru (a.ev cf).1)),fNotT (a.ev cf).2)
 |.neg a=>(f1 gNeg (a.ev cf).1,fTru (f1 gNeg (a.ev cf).1))
 |.and a b=>(fAndV (a.ev cf).1 (b.ev cf).1,fAndT (a.ev cf).2 (b.ev cf).2)
 |.or a b=>(fOrV (a.ev cf).1 (b.ev cf).1,fOrT (a.ev cf).2 (b.ev cf).2)
 |.ite c a b=>(fIf (c.ev cf).2 (a.ev cf).1 (b.ev cf).1,fNo)
 |.ix a b=>(fIx (a.ev cf).1 (b.ev cf).1,fTru (fIx (a.ev cf).1 (b.ev cf).1))
 |.len a=>(f1 gLen (a.ev cf).1,fTru (f1 gLen (a.ev cf).1))
 |.int a=>(f1 gInt (a.ev cf).1,fTru (f1 gInt (a.ev cf).1))
 |.all a=>(f1 gAll (a.ev cf).1,fTru (f1 gAll (a.ev cf).1))
 |.any a=>(f1 gAny (a.ev cf).1,fTru (f1 gAny (a.ev cf).1))
 |.tuple a=>(fTupC (a.ev cf).1,fTru (fTupC (a.ev cf).1))
 |.isi T a=>(fIsi T (a.ev cf).1,fTru (fIsi T (a.ev cf).1))
 |.min a b=>(f2 gMin (a.ev cf).1 (b.ev cf).1,fTru (f2 gMin (a.ev cf).1 (b.ev cf).1))
 |.max a b=>(f2 gMax (a.ev cf).1 (b.ev cf).1,fTru (f2 gMax (a.ev cf).1 (b.ev cf).1))
 |.less a b=>(YS (a.ev cf).1 (b.ev cf).1,fTru (YS (a.ev cf).1 (b.ev cf).1))
 |.call o=>(fOD (o.ev cf),fTru (fOD (o.ev cf)))
 |.callw f n a=>(fCallW (cf f) (a.ev cf),fTru (fCallW (cf f) (a.ev cf)))
 |.lset a=>(yf (a.ev cf).1,fTru (yf (a.ev cf).1))
 |.lsetL a=>(va (a.ev cf).1,fTru (va (a.ev cf).1))
noncomputable def IL.ev(cf:CF):IL->EM (List FV)
 |.nil=>fNil
 |.cons e a=>fCons (e.ev cf).1 (a.ev cf)
noncomputable def IA.ev(cf:CF):IA->EM (List AV)
 |.nil=>aNil
 |.cons e a=>aCons (e.ev cf).1 (a.ev cf)
 |.io _ i a=>aIo i (a.ev cf)
 |.tmp n=>zfb (n.ev cf)
noncomputable def IN.ev(cf:CF):IN->EM (List PyData)
 |.lst a=>fLst (a.ev cf)
 |.cat a b=>zbV (a.ev cf).1 (b.ev cf).1
 |.list e=>fListC (e.ev cf).1
 |.sorted e=>Y7 (e.ev cf).1
 |.comp n k _ _ t src c el=>fComp n k t (src.ev cf) (c.ev cf) (el.ev cf).1
noncomputable def IP.ev(cf:CF):IP->EM (Option Int)
 |.non=>zhx
 |.one e=>zhf (e.ev cf).1
noncomputable def II.ev(cf:CF):II->EM (List PyData)
 |.list e=>fSeqL (e.ev cf).1
 |.tup e=>fSeqT (e.ev cf).1
 |.range e=>fRange (e.ev cf).1
 |.enum e=>fEnum (e.ev cf).1
noncomputable def IC.ev(cf:CF):IC->EM Bool
 |.yes=>fYes
 |.one e=>(e.ev cf).2
noncomputable def IO.ev(cf:CF):IO->EM OV
 |.dat e=>fD (e.ev cf).1
 |.own n=>fOwn (n.ev cf)
 |.call f _ a=>fCall (cf f) (a.ev cf)
 |.move _ i=>fMove i
noncomputable def IJ.ev(cf:CF):IJ->EM (List Str)
 |.nil=>zbr
end
structure Wd where
 bi:List Str
 gi:List (Str×Int)
 gs:List (Str×Str)
 fl:List (Str×Nat)
 fx:List (Str×Nat)
 ex:List Str
noncomputable def zt:Expr->Bool
 |.Starred .. =>false
 |_=>true
noncomputable def Qy:Expr->Bool
 |.UnaryOp .Not _ _=>false
 |.BoolOp .. =>false
 |.IfExp .. =>false
 |.Compare .. =>false
 |_=>true
noncomputable def jy:Expr->Bool
 |.Slice .. =>false
 |_=>true
noncomputable def jL:Expr->Bool
 |.Set .. =>false
 |_=>true
noncomputable def zaN:Expr->Bool
 |.Tuple .. =>true
 |_=>false
noncomputable def zbX(sc:Scope)(x:Str):Bool:=decide (sc.names.lookup x=some .local)||decide (sc.names.lookup x=some .cell)||decide (sc.names.lookup x=some .free)
noncomputable def VE(sc:Scope)(x:Str):Bool:=decide (sc.names.lookup x=some .globalImplicit)
noncomputable def nmB (sc:Scope) (N:List Str) (mp:List Nat) (s i:Nat) (x:Str):Bool:=decide (N[s]?=some x)&&zbX sc x&&decide (mp[s]?=some i)&& !(x==("__debug__" :Str))&& !(x==("__classdict__" :Str))
noncomputable def biB(W:Wd)(sc:Scope)(x y:Str):Bool:=decide (x=y)&&VE sc x&&W.bi.contains x
noncomputable def okO{α:Type}(o:Option α)(f:α->Bool):Bool:=match o with
 |some a=>f a
 |none=>false
theorem zf{α:Type}{o:Option α}{f:α->Bool}(h:okO o f=true):∃ a,o=some a/\f a=true:=by
 cases o with
 |none=>cases h
 |some a=>exact⟨a,rfl,h⟩
noncomputable def qA:Expr->Option (Str×Pos)
 |.Name x p=>some (x,p)
 |_=>none
noncomputable def WA:Expr->Option (Const×Nat×Pos)
 |.Constant c j p=>some (c,j,p)
 |_=>none
noncomputable def zhn:Const->Option Int
 |.int i=>some i
 |_=>none
noncomputable def zfa:Const->Option Str
 |.str i=>some i
 |_=>none
noncomputable def zeE:Const->Option Bool
 |.bool i=>some i
 |_=>none
noncomputable def zeK:Const->Bool
 |.none=>true
 |_=>false
noncomputable def zb9:Expr->Option (List Expr×Nat×Pos)
 |.Tuple es n p=>some (es,n,p)
 |_=>none
noncomputable def zeH:Expr->Option (List Expr×Pos)
 |.List es p=>some (es,p)
 |_=>none
noncomputable def V7:Expr->Option (Expr×Operator×Expr×Pos)
 |.BinOp x op y p=>some (x,op,y,p)
 |_=>none
noncomputable def zb4:Expr->Option (Expr×List CmpOp×List Expr×Pos)
 |.Compare x ops ys p=>some (x,ops,ys,p)
 |_=>none
noncomputable def zfI:Expr->Option (UnaryOp×Expr×Pos)
 |.UnaryOp op x p=>some (op,x,p)
 |_=>none
noncomputable def zfu:Expr->Option (BoolOp×List Expr×Pos)
 |.BoolOp op vs p=>some (op,vs,p)
 |_=>none
noncomputable def zeQ:Expr->Option (Expr×Expr×Expr×Pos)
 |.IfExp z x y p=>some (z,x,y,p)
 |_=>none
noncomputable def zcv:Expr->Option (Expr×Expr×Pos)
 |.Subscript x y p=>some (x,y,p)
 |_=>none
noncomputable def yi:Expr->Option (Expr×List Expr×List Keyword×Pos)
 |.Call f xs ks q=>some (f,xs,ks,q)
 |_=>none
noncomputable def zbm:Expr->Option (Expr×Str×Pos)
 |.Attribute x f p=>some (x,f,p)
 |_=>none
noncomputable def za8:Expr->Option (Expr×List Comprehension×Scope×Pos)
 |.ListComp elt gens scope p=>some (elt,gens,scope,p)
 |_=>none
theorem zR{e:Expr}{x:Str}{p:Pos}(h:qA e=some (x,p)):e=.Name x p:=by cases e<;>cases h<;>rfl
theorem jB{e:Expr}{c:Const}{j:Nat}{p:Pos}(h:WA e=some (c,j,p)):e=.Constant c j p:=by cases e<;>cases h<;>rfl
theorem zbo{c:Const}{i:Int}(h:zhn c=some i):c=.int i:=by cases c<;>cases h<;>rfl
theorem ye{c:Const}{i:Str}(h:zfa c=some i):c=.str i:=by cases c<;>cases h<;>rfl
theorem Kp{c:Const}{i:Bool}(h:zeE c=some i):c=.bool i:=by cases c<;>cases h<;>rfl
theorem KA{c:Const}(h:zeK c=true):c=.none:=by cases c<;>first | rfl | cases h
theorem Wc{e:Expr}{es:List Expr}{n:Nat}{p:Pos}(h:zb9 e=some (es,n,p)):e=.Tuple es n p:=by cases e<;>cases h<;>rfl
theorem KL{e:Expr}{es:List Expr}{p:Pos}(h:zeH e=some (es,p)):e=.List es p:=by cases e<;>cases h<;>rfl
theorem Q9{e x y:Expr}{op:Operator}{p:Pos}(h:V7 e=some (x,op,y,p)):e=.BinOp x op y p:=by cases e<;>cases h<;>rfl
theorem WP{e x:Expr}{ops:List CmpOp}{ys:List Expr}{p:Pos}(h:zb4 e=some (x,ops,ys,p)):e=.Compare x ops ys p:=by cases e<;>cases h<;>rfl
theorem yq{e x:Expr}{op:UnaryOp}{p:Pos}(h:zfI e=some (op,x,p)):e=.UnaryOp op x p:=by cases e<;>cases h<;>rfl
theorem zaT{e:Expr}{op:BoolOp}{vs:List Expr}{p:Pos}(h:zfu e=some (op,vs,p)):e=.BoolOp op vs p:=by cases e<;>cases h<;>rfl
theorem KZ{e z x y:Expr}{p:Pos}(h:zeQ e=some (z,x,y,p)):e=.IfExp z x y p:=by cases e<;>cases h<;>rfl
theorem Wu{e x y:Expr}{p:Pos}(h:zcv e=some (x,y,p)):e=.Subscript x y p:=by cases e<;>cases h<;>rfl
theorem Wl{e f:Expr}{xs:List Expr}{ks:List Keyword}{p:Pos}(h:yi e=some (f,xs,ks,p)):e=.Call f xs ks p:=by cases e<;>cases h<;>rfl
theorem zal{e x:Expr}{f:Str}{p:Pos}(h:zbm e=some (x,f,p)):e=.Attribute x f p:=by cases e<;>cases h<;>rfl
theorem Kl{e elt:Expr}{gens:List Comprehension}{scope:Scope}{p:Pos}(h:za8 e=some (elt,gens,scope,p)):e=.ListComp elt gens scope p:=by cases e<;>cases h<;>rfl
noncomputable def unN(e:Expr):Option (Str×Pos×List Expr×Pos):=(yi e).bind fun (f,xs,ks,q)=>match ks with
 |[]=>(qA f).map fun (x,p)=>(x,p,xs,q)
 |_::_=>none
theorem JB{e:Expr}{f:Str}{p:Pos}{xs:List Expr}{q:Pos}(h:unN e=some (f,p,xs,q)):e=.Call (.Name f p) xs [] q:=by
 unfold unN at h
 cases e1:yi e with
 |none=>rw[e1]at h;cases h
 |some z=>
  obtain⟨g,ys,ks,q'⟩:=z
  rw[e1]at h
  cases ks with
  |cons _ _=>cases h
  |nil=>
   cases e2:qA g with
   |none=>simp[e2]at h
   |some z=>
    obtain⟨x,p'⟩:=z
    simp[e2]at h
    obtain⟨rfl,rfl,rfl,rfl⟩:=h
    rw[Wl e1,zR e2]
noncomputable def wW{α:Type}:List α->Option α
 |[x]=>some x
 |_=>none
theorem jF{α:Type}{l:List α}{x:α}(h:wW l=some x):l= [x]:=by
 match l,h with
 |[_],h=>cases h;rfl
noncomputable def Kh{α:Type}:List α->Option (α×α)
 |[x,y]=>some (x,y)
 |_=>none
theorem Qd{α:Type}{l:List α}{x y:α}(h:Kh l=some (x,y)):l= [x,y]:=by
 match l,h with
 |[_,_],h=>cases h;rfl
noncomputable def un1(e:Expr):Option (Str×Pos×Expr×Pos):=(unN e).bind fun (f,p,xs,q)=>(wW xs).map fun x=>(f,p,x,q)
theorem zW{e:Expr}{f:Str}{p:Pos}{x:Expr}{q:Pos}(h:un1 e=some (f,p,x,q)):e=.Call (.Name f p) [x] [] q:=by
 unfold un1 at h
 cases e1:unN e with
 |none=>rw[e1]at h;cases h
 |some z=>
  obtain⟨g,p',xs,q'⟩:=z
  cases e2:wW xs with
  |none=>simp[e1,e2]at h
  |some y=>
   simp[e1,e2]at h
   obtain⟨rfl,rfl,rfl,rfl⟩:=h
   rw[JB e1,jF e2]
noncomputable def un2(e:Expr):Option (Str×Pos×Expr×Expr×Pos):=(unN e).bind fun (f,p,xs,q)=>(Kh xs).map fun (x,y)=>(f,p,x,y,q)
theorem Vg{e:Expr}{f:Str}{p:Pos}{x y:Expr}{q:Pos}(h:un2 e=some (f,p,x,y,q)):e=.Call (.Name f p) [x,y] [] q:=by
 unfold un2 at h
 cases e1:unN e with
 |none=>rw[e1]at h;cases h
 |some z=>
  obtain⟨g,p',xs,q'⟩:=z
  cases e2:Kh xs with
  |none=>simp[e1,e2]at h
  |some y=>
   obtain⟨y1,y2⟩:=y
   simp[e1,e2]at h
   obtain⟨rfl,rfl,rfl,rfl,rfl⟩:=h
   rw[JB e1,Qd e2]
noncomputable def zdu(e:Expr):Option (Str×Pos×Str×Pos×List Expr×Pos):=(yi e).bind fun (f,xs,ks,q)=>match ks with
 |[]=>(zbm f).bind fun (x,m,p2)=>(qA x).map fun (y,p)=>(y,p,m,p2,xs,q)
 |_::_=>none
theorem zb6{e:Expr}{x f:Str}{p p2:Pos}{xs:List Expr}{q:Pos}(h:zdu e=some (x,p,f,p2,xs,q)):e=.Call (.Attribute (.Name x p) f p2) xs [] q:=by
 unfold zdu at h
 cases e1:yi e with
 |none=>rw[e1]at h;cases h
 |some z=>
  obtain⟨g,ys,ks,q'⟩:=z
  rw[e1]at h
  cases ks with
  |cons _ _=>cases h
  |nil=>
   cases e2:zbm g with
   |none=>simp[e2]at h
   |some z=>
    obtain⟨y,m,p3⟩:=z
    cases e3:qA y with
    |none=>simp[e2,e3]at h
    |some z=>
     obtain⟨y',p'⟩:=z
     simp[e2,e3]at h
     obtain⟨rfl,rfl,rfl,rfl,rfl,rfl⟩:=h
     rw[Wl e1,zal e2,zR e3]
noncomputable def yQ(e:Expr):Option (Str×Str×Str×Expr×Expr×Pos×Pos×Pos×Pos×Pos×Pos×Pos):=(un1 e).bind fun (f,p1,b,q1)=>(V7 b).bind fun (x,op,y,pb)=>(un1 x).bind fun (g,p2,x',q2)=>(un1 y).bind fun (h,p3,y',q3)=>match op with
 |.Sub=>some (f,g,h,x',y',p1,p2,p3,q1,q2,q3,pb)
 |_=>none
theorem Yq{e:Expr}{f g h:Str}{x y:Expr}{p1 p2 p3 q1 q2 q3 pb:Pos}(hh:yQ e=some (f,g,h,x,y,p1,p2,p3,q1,q2,q3,pb)):e=.Call (.Name f p1) [.BinOp (.Call (.Name g p2) [x] [] q2) .Sub (.Call (.Name h p3) [y] [] q3) pb] [] q1:=by
 unfold yQ at hh
 cases e1:un1 e with
 |none=>rw[e1]at hh;cases hh
 |some z1=>
  obtain⟨a1,a2,a3,a4⟩:=z1
  cases e2:V7 a3 with
  |none=>simp[e1,e2]at hh
  |some z2=>
   obtain⟨b1,b2,b3,b4⟩:=z2
   cases e3:un1 b1 with
   |none=>simp[e1,e2,e3]at hh
   |some z3=>
    obtain⟨c1,c2,c3,c4⟩:=z3
    cases e4:un1 b3 with
    |none=>simp[e1,e2,e3,e4]at hh
    |some z4=>
     obtain⟨d1,d2,d3,d4⟩:=z4
     cases b2 with
     |Sub=>
      simp[e1,e2,e3,e4]at hh
      obtain⟨rfl,rfl,rfl,rfl,rfl,rfl,rfl,rfl,rfl,rfl,rfl,rfl⟩:=hh
      rw[zW e1,Q9 e2,zW e3,zW e4]
     |_=>simp[e1,e2,e3,e4]at hh
noncomputable def zf2(e:Expr):Option (Expr×Expr×Expr×List Expr×Scope×Pos):=(za8 e).bind fun (elt,gens,scope,p)=>(wW gens).bind fun g=>if g.is_async=0 then some (elt,g.target,g.iter,g.ifs,scope,p) else none
theorem zch{e elt tg iter:Expr}{ifs:List Expr}{scope:Scope}{p:Pos}(h:zf2 e=some (elt,tg,iter,ifs,scope,p)):e=.ListComp elt [⟨tg,iter,ifs,0⟩] scope p:=by
 unfold zf2 at h
 cases e1:za8 e with
 |none=>rw[e1]at h;cases h
 |some z=>
  obtain⟨a1,a2,a3,a4⟩:=z
  cases e2:wW a2 with
  |none=>simp[e1,e2]at h
  |some g=>
   obtain⟨g1,g2,g3,g4⟩:=g
   by_cases hz:g4=0
   ·subst hz
    simp[e1,e2]at h
    obtain⟨rfl,rfl,rfl,rfl,rfl,rfl⟩:=h
    rw[Kl e1,jF e2]
   ·simp[e1,e2,hz]at h
noncomputable def kJ(op:BoolOp)(e:Expr):Option (Expr×Expr):=(zfu e).bind fun (o,vs,p)=>if o=op then (match vs with
 |x::y:: []=>some (x,y)
 |x::y::z::r=>some (x,.BoolOp op (y::z::r) p)
 |_=>none) else none
theorem Wa{op:BoolOp}{e x z:Expr}(h:kJ op e=some (x,z)):(∃ p,e=.BoolOp op [x,z] p)∨∃ y w r p,e=.BoolOp op (x::y::w::r) p/\z=.BoolOp op (y::w::r) p:=by
 unfold kJ at h
 cases e1:zfu e with
 |none=>rw[e1]at h;cases h
 |some q=>
  obtain⟨o,vs,p⟩:=q
  rw[zaT e1]
  by_cases ho:o=op
  ·subst ho
   match vs with
   |[]=>simp[e1]at h
   |[_]=>simp[e1]at h
   |[a,b]=>
    simp[e1]at h
    obtain⟨rfl,rfl⟩:=h
    exact .inl ⟨p,rfl⟩
   |a::b::c::r=>
    simp[e1]at h
    obtain⟨rfl,rfl⟩:=h
    exact .inr ⟨b,c,r,p,rfl,rfl⟩
  ·simp[e1,ho]at h
mutual
noncomputable def Vj(sc:Scope)(N:List Str)(mp:List Nat)(lo:Nat):IT->Expr->Bool
 |.nm s i,.Name x _=>decide (N[s]?=some x)&&decide (mp[s]?=some i)&&decide (lo<=i)&&(decide (sc.names.lookup x=some .local)||decide (sc.names.lookup x=some .cell))
 |.tp ts,.Tuple es _ _=>Wh sc N mp lo ts es
 |_,_=>false
noncomputable def Wh(sc:Scope)(N:List Str)(mp:List Nat)(lo:Nat):ITs->List Expr->Bool
 |.nil,[]=>true
 |.cons t ts,e::es=>zt e&&Vj sc N mp lo t e&&Wh sc N mp lo ts es
 |_,_=>false
end
mutual
noncomputable def IE.chk(W:Wd)(sc:Scope)(N:List Str)(mp:List Nat)(m:Nat):IE->Expr->Bool
 |.var s i,e=>okO (qA e) fun x=>nmB sc N mp s i x.1
 |.frz s i,e=>okO (qA e) fun x=>nmB sc N mp s i x.1
 |.cint i,e=>okO (WA e) fun c=>okO (zhn c.1) fun j=>decide (i=j)
 |.cstr x,e=>okO (WA e) fun c=>okO (zfa c.1) fun y=>decide (x=y)
 |.cbool b,e=>okO (WA e) fun c=>okO (zeE c.1) fun y=>decide (b=y)
 |.cnone,e=>okO (WA e) fun c=>zeK c.1
 |.tup a,e=>okO (zb9 e) fun es=>a.chk W sc N mp m es.1
 |.new n,e=>Qy e&&n.chk W sc N mp m e
 |.bin op a b,e=>okO (V7 e) fun z=>decide (op=z.2.1)&&a.chk W sc N mp m z.1&&b.chk W sc N mp m z.2.2.1
 |.cmp op a b,e=>okO (zb4 e) fun z=>okO (wW z.2.1) fun op'=>okO (wW z.2.2.1) fun y=>decide (op=op')&&jL y&&a.chk W sc N mp m z.1&&b.chk W sc N mp m y
 |.chain op1 op2 a b c,e=>okO (zb4 e) fun z=>okO (Kh z.2.1) fun o=>okO (Kh z.2.2.1) fun y=>decide (op1=o.1)&&decide (op2=o.2)&&jL y.2&&a.chk W sc N mp m z.1&&b.chk W sc N mp m y.1&&c.chk W sc N mp m y.2
 |.not a,e=>okO (zfI e) fun z=>decide (z.1=.Not)&&a.chk W sc N mp m z.2.1
 |.neg a,e=>okO (zfI e) fun z=>decide (z.1=.USub)&&a.chk W sc N mp m z.2.1
 |.and a b,e=>okO (kJ .And e) fun z=>a.chk W sc N mp m z.1&&b.chk W sc N mp m z.2
 |.or a b,e=>okO (kJ .Or e) fun z=>a.chk W sc N mp m z.1&&b.chk W sc N mp m z.2
 |.ite c a b,e=>okO (zeQ e) fun z=>c.chk W sc N mp m z.1&&a.chk W sc N mp m z.2.1&&b.chk W sc N mp m z.2.2.1
 |.ix a b,e=>okO (zcv e) fun z=>jy z.2.1&&a.chk W sc N mp m z.1&&b.chk W sc N mp m z.2.1
 |.len a,e=>match un1 e with
  |some (f,_,x,_)=>biB W sc f "len" &&zt x&&a.chk W sc N mp m x
  |none=>false
 |.int a,e=>match un1 e with
  |some (f,_,x,_)=>biB W sc f "int" &&zt x&&a.chk W sc N mp m x
  |none=>false
 |.all a,e=>match un1 e with
  |some (f,_,x,_)=>biB W sc f "all" &&zt x&&a.chk W sc N mp m x
  |none=>false
 |.any a,e=>match un1 e with
  |some (f,_,x,_)=>biB W sc f "any" &&zt x&&a.chk W sc N mp m x
  |none=>false
 |.tuple a,e=>match un1 e with
  |some (f,_,x,_)=>biB W sc f "tuple" &&zt x&&a.chk W sc N mp m x
  |none=>false
 |.isi T a,e=>match un2 e with
  |some (f,_,x,y,_)=>biB W sc f "isinstance" &&zt x&&(T== "int" ||T== "bool" ||T== "list" ||T== "tuple" ||T== "str")&&okO (qA y) (fun z=>biB W sc z.1 (Str.ofString T))&&a.chk W sc N mp m x
  |none=>false
 |.min a b,e=>match un2 e with
  |some (f,_,x,y,_)=>biB W sc f "min" &&zt x&&zt y&&a.chk W sc N mp m x&&b.chk W sc N mp m y
  |none=>false
 |.max a b,e=>match un2 e with
  |some (f,_,x,y,_)=>biB W sc f "max" &&zt x&&zt y&&a.chk W sc N mp m x&&b.chk W sc N mp m y
  |none=>false
 |.less a b,e=>match yQ e with
  |some (f,g,h,x,y,_)=>biB W sc f "len" &&biB W sc g "set" &&biB W sc h "set" &&zt x&&zt y&&a.chk W sc N mp m x&&b.chk W sc N mp m y
  |none=>false
 |.call o,e=>Qy e&&o.chk W sc N mp m e
 |.callw f n a,e=>match unN e with
  |some (g,_,xs,_)=>decide (f=g)&&VE sc f&&W.fl.contains (f,n)&& !(f==("__debug__" :Str))&& !xs.isEmpty&&xs.all zt&&a.chk W sc N mp m xs
  |none=>false
 |.lset a,e=>match un1 e with
  |some (f,_,x,_)=>match un1 x with
   |some (g,_,y,_)=>biB W sc f "len" &&biB W sc g "set" &&zt y&&a.chk W sc N mp m y
   |none=>false
  |none=>false
 |.lsetL a,e=>match un1 e with
  |some (f,_,x,_)=>match un1 x with
   |some (g,_,y,_)=>biB W sc f "len" &&biB W sc g "set" &&zt y&&a.chk W sc N mp m y
   |none=>false
  |none=>false
noncomputable def IL.chk(W:Wd)(sc:Scope)(N:List Str)(mp:List Nat)(m:Nat):IL->List Expr->Bool
 |.nil,[]=>true
 |.cons e a,x::xs=>zt x&&e.chk W sc N mp m x&&a.chk W sc N mp m xs
 |_,_=>false
noncomputable def IA.chk(W:Wd)(sc:Scope)(N:List Str)(mp:List Nat)(m:Nat):IA->List Expr->Bool
 |.nil,[]=>true
 |.cons e a,x::xs=>zt x&&e.chk W sc N mp m x&&a.chk W sc N mp m xs
 |.io s i a,x::xs=>okO (qA x) (fun z=>nmB sc N mp s i z.1)&&a.chk W sc N mp m xs
 |.tmp n,[x]=>zt x&&n.chk W sc N mp m x
 |_,_=>false
noncomputable def IN.chk(W:Wd)(sc:Scope)(N:List Str)(mp:List Nat)(m:Nat):IN->Expr->Bool
 |.lst a,e=>okO (zeH e) fun z=>a.chk W sc N mp m z.1
 |.cat a b,e=>okO (V7 e) fun z=>decide (z.2.1=.Add)&&a.chk W sc N mp m z.1&&b.chk W sc N mp m z.2.2.1
 |.list e,y=>match un1 y with
  |some (f,_,x,_)=>biB W sc f "list" &&zt x&&e.chk W sc N mp m x
  |none=>false
 |.sorted e,y=>match un1 y with
  |some (f,_,x,_)=>biB W sc f "sorted" &&zt x&&e.chk W sc N mp m x
  |none=>false
 |.comp n k ix N' t src c el,e=>match zf2 e with
  |some (elt,tg,iter,ifs,scope,_)=>decide (n=m)&&zcC sc N scope N' k ix&&decide (mpC mp n k ix).Nodup&&ix.all (fun i=>match mp[i]? with
   |some j=>decide (j<n)
   |none=>false)&&jL iter&&src.chk W sc N mp m iter tg&&Vj scope N' (mpC mp n k ix) n t tg&&c.chk W scope N' (mpC mp n k ix) (n+k) ifs&&el.chk W scope N' (mpC mp n k ix) (n+k) elt
  |none=>false
noncomputable def IP.chk(W:Wd)(sc:Scope)(N:List Str)(mp:List Nat)(m:Nat):IP->Option Expr->Bool
 |.non,none=>true
 |.one e,some x=>e.chk W sc N mp m x
 |_,_=>false
noncomputable def II.chk(W:Wd)(sc:Scope)(N:List Str)(mp:List Nat)(m:Nat):II->Expr->Expr->Bool
 |.list e,x,_=>e.chk W sc N mp m x
 |.tup e,x,_=>e.chk W sc N mp m x
 |.range e,y,_=>match un1 y with
  |some (f,_,x,_)=>biB W sc f "range" &&zt x&&e.chk W sc N mp m x
  |none=>false
 |.enum e,y,tg=>match un1 y with
  |some (f,_,x,_)=>zaN tg&&biB W sc f "enumerate" &&zt x&&e.chk W sc N mp m x
  |none=>false
noncomputable def IC.chk(W:Wd)(sc:Scope)(N:List Str)(mp:List Nat)(m:Nat):IC->List Expr->Bool
 |.yes,[]=>true
 |.one e,[x]=>e.chk W sc N mp m x
 |_,_=>false
noncomputable def IO.chk(W:Wd)(sc:Scope)(N:List Str)(mp:List Nat)(m:Nat):IO->Expr->Bool
 |.dat e,x=>e.chk W sc N mp m x
 |.own n,x=>n.chk W sc N mp m x
 |.call f n a,e=>match unN e with
  |some (g,_,xs,_)=>decide (f=g)&&VE sc f&&W.fl.contains (f,n)&& !(f==("__debug__" :Str))&&xs.all zt&&a.chk W sc N mp m xs
  |none=>false
 |.move s i,e=>okO (qA e) fun x=>nmB sc N mp s i x.1
noncomputable def IJ.chk(W:Wd)(sc:Scope)(N:List Str)(mp:List Nat)(m:Nat):IJ->List Expr->Bool
 |.nil,[]=>true
 |_,_=>false
end
end L3
set_option maxHeartbeats 4000000
namespace L3
open PySem PySem.Spec PyProof.Rows L2
structure XSc(X:Cx)(sc:Scope)(N:List Str):Prop where
 hN:X.N=N
 vis:∀ x,zbX sc x=true->Vis X.env.scope x
 loc:∀ x,sc.names.lookup x=some .local->X.env.scope.names.lookup x=some .local
 cel:∀ x,sc.names.lookup x=some .cell->X.env.scope.names.lookup x=some .cell/\X.fn x=true
 fre:∀ x,sc.names.lookup x=some .free->X.env.scope.names.lookup x=some .cell∨X.env.scope.names.lookup x=some .free
 glo:∀ x,VE sc x=true->Gl X x
structure XW(X:Cx)(cf:CF)(W:Wd)(k:Nat):Prop where
 bi:∀ x,W.bi.contains x=true->X.mg x=none
 gi:∀ x i,W.gi.contains (x,i)=true->∃ t,X.mg x=some (.int i t)
 gs:∀ x i,W.gs.contains (x,i)=true->∃ t,X.mg x=some (.str i t)
 fn:∀ x n,W.fl.contains (x,n)=true->Kn X.prog X.w X.K X.mg X.base CX0 x k (spI n (cf x))/\∀ args r outs,cf x args=.ok r outs->args.length=n
 rm:Room k X.A
 hk:1<=k
 calm:X.calm=true
 fx:∀ x n,W.fx.contains (x,n)=true->Kn X.prog X.w X.K X.mg X.base (CX1 X.prog X.w) x k (spX X.mg n (cf x))/\∀ args,cf x args≠ .bad->args.length=n
 ex:∀ x,W.ex.contains x=true->∃ C,X.mg x=some (.ref C)/\PySem.W.excIn X.K C bmV "ValueError.__new__" =true
 mr:∀ x C y C2,W.ex.contains x=true->X.mg x=some (.ref C)->W.ex.contains y=true->X.mg y=some (.ref C2)->(mroIn X.K C).contains (.ref C2)=decide (x=y)
theorem zw{e:Expr}{es:List Expr}{env:Env}(h:zt e=true):starEach (e::es) env=(false,eval e env)::starEach es env:=by
 cases e<;>first | rfl | (simp[zt]at h)
theorem VL{es:List Expr}{env:Env}:es.all zt=true->(starEach es env).any (·.1)=false:=by
 induction es with
 |nil=>intro;rfl
 |cons e es ih=>
  intro h
  rw[uH,xa]at h
  rw[zw h.1,uD,ih h.2];rfl
theorem ZK{pos:Pos}:∀ {l:List (Bool×Sem Value)},l.any (·.1)=false->(backTo pos l).any (·.1)=false
 |[],_=>rfl
 | (b,t)::r,h=>by
  rw[uD,Bool.or_eq_false_iff]at h
  show ((b,_)::backTo pos r).any (·.1)=false
  rw[uD,ZK h.2]
  have hb:b=false:=h.1
  rw[hb];rfl
theorem yM{e:Expr}(h:jy e=true):vj e:=fun o i=>by
 cases e<;>first | rfl | (simp[jy]at h)
theorem QR{e:Expr}{env:Env}(h:jL e=true)(x:Value):foldedSetIterable e env x=pure x:=by
 cases e<;>first | rfl | (simp[jL]at h)
theorem wa{e:Expr}(op:CmpOp)(h:jL e=true):behindInMarks op e=false:=by
 cases e<;>first | rfl | (simp[jL]at h)
theorem Wy{e b:Expr}(op op':CmpOp)(h:jL e=true):lastMarks [op,op'] [b,e]=false:=wa op' h
theorem Wi{x y:Str}(h:(!(x==y))=true):(x==y)=false:=by simpa using h
section
variable {X:Cx} {XP:XPT} {cf:CF} {W:Wd} {k:Nat} {sc:Scope} {N:List Str} {mp:List Nat} {m:Nat}
theorem JT{s i:Nat}{x:Str}(S:XSc X sc N)(h:nmB sc N mp s i x=true):NmK X mp s i x:=by
 unfold nmB at h
 simp only[xa,decide_eq_true_eq]at h
 obtain⟨⟨⟨⟨h1,h2⟩,h3⟩,h4⟩,h5⟩:=h
 exact⟨by rw[S.hN];exact h1,S.vis x h2,h3,Wi h4,Wi h5⟩
theorem qm {x y:Str}{v:Value}(S:XSc X sc N) (T:XW X cf W k) (h:biB W sc x y=true) (hb:bootBuiltins y=some v) (hn:y≠ "__name__") (hd:(y==("__debug__" :Str))=false):BiK X x v:=by
 unfold biB at h
 simp only[xa,decide_eq_true_eq]at h
 obtain⟨⟨h1,h2⟩,h3⟩:=h
 subst h1
 exact⟨S.glo x h2,T.bi x h3,hb,hn,hd⟩
theorem Jh{f:Str->NameKind->NameKind}:∀ {names:List (Str×NameKind)}{x:Str},(names.map fun (n,k)=>(n,f n k)).lookup x=(names.lookup x).map (f x)
 |[],_=>rfl
 | (n,k)::r,x=>by
  rw[xK]
  cases hx:x==n with
  |true=>rw[xC,xC,hx];rw[eq_of_beq hx];rfl
  |false=>rw[xC,xC,hx];exact Jh
theorem qG{scope:Scope}{env:Env}{x:Str}:(relabel scope env).names.lookup x=(scope.names.lookup x).map fun k=>if (k==.free&&env.scope.kind==ScopeKind.function&&env.kindOf x==some NameKind.cell) then .cell else k:=by
 unfold relabel
 have e:(scope.names.map fun (n,k)=>if (k==NameKind.free&&env.scope.kind==ScopeKind.function&&env.kindOf n==some NameKind.cell) then (n,NameKind.cell) else (n,k)) =
   scope.names.map fun (n,k)=>(n,(fun n k=>if (k==NameKind.free&&env.scope.kind==ScopeKind.function&&env.kindOf n==some NameKind.cell) then NameKind.cell else k) n k):=by
  apply ul
  rintro⟨n,k⟩ _
  dsimp only
  split<;>rfl
 rw[e]
 exact Jh (f:=fun n k=>if (k==NameKind.free&&env.scope.kind==ScopeKind.function&&env.kindOf n==some NameKind.cell) then NameKind.cell else k)
theorem XSc.comp{scope:Scope}{N':List Str}{k:Nat}{ix:List Nat}{psc:Scope}(S:CSc psc N scope N' k ix)(cl:List (Str×Addr))(C:Addr)(s2:Shared)(H2:Hp)(fp:List Addr):XSc (X.comp N' scope cl C s2 H2 fp) scope N' where
 hN:=rfl
 vis x h:=by
  unfold zbX at h
  simp only[xM,decide_eq_true_eq]at h
  show Vis (relabel scope X.env) x
  unfold Vis
  rw[qG]
  rcases h with (h | h) | h
  ·rw[h];exact .inl rfl
  ·rw[h];exact .inr (.inl rfl)
  ·rw[h]
   simp only[ut]
   split
   ·exact .inr (.inl rfl)
   ·exact .inr (.inr rfl)
 loc x h:=by
  show (relabel scope X.env).names.lookup x=_
  rw[qG,h];rfl
 cel x h:=by
  refine⟨?_,decide_eq_true h⟩
  show (relabel scope X.env).names.lookup x=_
  rw[qG,h];rfl
 fre x h:=by
  show (relabel scope X.env).names.lookup x=_∨(relabel scope X.env).names.lookup x=_
  rw[qG,h]
  simp only[ut]
  split
  ·exact .inl rfl
  ·exact .inr rfl
 glo x h:=by
  unfold VE at h
  simp only[decide_eq_true_eq]at h
  show (relabel scope X.env).names.lookup x=_
  rw[qG,h];rfl
theorem XW.comp(T:XW X cf W k){N':List Str}{scope:Scope}(cl:List (Str×Addr))(C:Addr)(s2:Shared)(H2:Hp)(fp:List Addr):XW (X.comp N' scope cl C s2 H2 fp) cf W k:=⟨T.bi,T.gi,T.gs,T.fn,T.rm,T.hk,T.calm,T.fx,T.ex,T.mr⟩
theorem zgL{scope:Scope}{N':List Str}{k:Nat}{ix:List Nat}(S:XSc X sc N)(h:CSc sc N scope N' k ix):CSc X.env.scope X.N scope N' k ix :=
 ⟨h.kind,h.cel,h.loc,fun y hy e=>by
  rcases h.fre y hy e with z | z
  ·exact .inl (S.cel _ z).1
  ·exact S.fre _ z,h.len,h.nd,fun j i e=>by
  rw[S.hN];exact h.cap j i e⟩
theorem Room.at1(T:XW X cf W k):Room 1 X.A:=T.rm.mono T.hk
theorem Room.atk(T:XW X cf W k):Room k X.A:=T.rm
theorem Ya{es:List Expr}{env:Env}:(assignEach es env).length=es.length:=by
 induction es with
 |nil=>rfl
 |cons e es ih=>cases e<;>simp[assignEach,ih]
theorem Jm{e:Expr}{es:List Expr}{env:Env}(h:zt e=true):assignEach (e::es) env=(false,assign e env)::assignEach es env:=by
 cases e<;>first | rfl | (simp[zt]at h)
mutual
theorem JD{kp:Nat->Prop}{lo:Nat}(S:XSc X sc N)(hN:N.Nodup)(hn:mp.Nodup)(hc:X.calm=true)(hk:∀ i,lo<=i->¬ kp i):∀ (t:IT) (e:Expr),Vj sc N mp lo t e=true->SG X mp kp e t
  |.nm s i,e,h=>by
   cases e with
   |Name x p=>
    simp only[Vj,xa,xM,decide_eq_true_eq]at h
    obtain⟨⟨⟨h1,h2⟩,h3⟩,h4⟩:=h
    refine zdg (by rw[S.hN];exact hN) hn (by rw[S.hN];exact h1) h2 (hk i h3) ?_ ?_
    · rcases h4 with h4 | h4
      · exact .inl (S.loc x h4)
      · exact .inr (S.cel x h4).1
    · rcases h4 with h4 | h4
      · exact .inr (S.loc x h4)
      · exact .inl (S.cel x h4).2
   |_=>simp[Vj]at h
  |.tp ts,e,h=>by
   cases e with
   |Tuple es n p=>
    simp only[Vj]at h
    obtain⟨h1,h2,h3⟩:=VN S hN hn hc hk ts es h
    exact ze7 hc h1 (by rw[Ya];exact h2) h3
   |_=>simp[Vj]at h
theorem VN{kp:Nat->Prop}{lo:Nat}(S:XSc X sc N)(hN:N.Nodup)(hn:mp.Nodup)(hc:X.calm=true)(hk:∀ i,lo<=i->¬ kp i):∀ (ts:ITs) (es:List Expr),Wh sc N mp lo ts es=true->SGs X mp kp es ts/\ts.len=es.length/\(assignEach es X.env).findIdx? (·.1)=none
  |.nil,[],h=>⟨zdY,rfl,rfl⟩
  |.cons t ts,e::es,h=>by
    simp only[Wh,xa]at h
    obtain⟨⟨h1,h2⟩,h3⟩:=h
    have ih1:=JD S hN hn hc hk t e h2
    obtain⟨i1,i2,i3⟩:=VN S hN hn hc hk ts es h3
    refine⟨zcs ih1 i1 (by rw[Jm h1];rfl),by rw[ITs.len,i2];rfl,?_⟩
    rw[Jm h1,List.findIdx?_cons]
    simp[i3]
  |.nil,_::_,h=>by simp[Wh]at h
  |.cons ..,[],h=>by simp[Wh]at h
end
noncomputable def zaM(X:Cx)(XP:XPT)(mp:List Nat)(e:Expr)(f:EM (List PyData)):Prop:=∀ elt gens scope pos,e=.ListComp elt gens scope pos->∃ tg iter ifs N' k ix,gens= [⟨tg,iter,ifs,0⟩]/\CSc X.env.scope X.N scope N' k ix/\(∀ x,foldedSetIterable iter X.env x=pure x) /\
 SNt XP mp (Ww k ix (wpI X tg iter) (gU X N' scope tg) (fU X N' scope ifs) (eU X N' scope elt)) f
theorem Vt{X:Cx}{XP:XPT}{mp:List Nat}{e:Expr}{f:EM (List PyData)}(h:∀ elt gens scope pos,e≠ .ListComp elt gens scope pos):zaM X XP mp e f:=fun a b c d q=>absurd q (h a b c d)
theorem Ka{e:Expr}{env:Env}(h:Qy e=true)(whole:Sem Value):isTrue e env whole=(do let v<-whole;standAt e.pos;holding [v] (truthy v)):=by
 cases e<;>first | rfl | (simp[Qy]at h;done) | skip
 rename_i op x p
 cases op<;>first | rfl | (simp[Qy]at h)
theorem qE{X:Cx}{XP:XPT}{mp:List Nat}{e:Expr}{fa:EM FV}(h:SE X XP mp e fa)(hp:Qy e=true):SE X XP mp e fa/\ST X XP mp e (fTru fa):=⟨h,zcU h (Ka hp)⟩
theorem V0{X:Cx}{XP:XPT}{mp:List Nat}{op:BoolOp}{vs:List Expr}{p:Pos}{t:EM Bool}(h:ST X XP mp (.BoolOp op vs p) t):SW X XP mp (.BoolOp op vs p) t:=fun M0 F Γ ν σ H Q rs hs hp whole pins s I=>h M0 F Γ ν σ H Q rs hs hp pins s I
theorem Vv:bootBuiltins "sorted" =some (.builtin "sorted"):=by decide +kernel
theorem VY:bootBuiltins "range" =some (.type "range"):=by decide +kernel
theorem Zq:bootBuiltins "len" =some (.builtin "len"):=by decide +kernel
theorem zar:bootBuiltins "min" =some (.builtin "min"):=by decide +kernel
theorem zao:bootBuiltins "max" =some (.builtin "max"):=by decide +kernel
theorem zaa:bootBuiltins "str" =some (.type "str"):=by decide +kernel
theorem K8:bootBuiltins "isinstance" =some (.builtin "isinstance"):=by decide +kernel
noncomputable abbrev QE(cf:CF)(W:Wd)(a:IE):Prop:=∀ (X:Cx) (XP:XPT) (k:Nat) (sc:Scope) (N:List Str) (mp:List Nat) (m:Nat),XSc X sc N->XW X cf W k->∀ (e:Expr),a.chk W sc N mp m e=true->SE X XP mp e (a.ev cf).1/\ST X XP mp e (a.ev cf).2
noncomputable abbrev QL(cf:CF)(W:Wd)(a:IL):Prop:=∀ (X:Cx) (XP:XPT) (k:Nat) (sc:Scope) (N:List Str) (mp:List Nat) (m:Nat),XSc X sc N->XW X cf W k->∀ (e:List Expr),a.chk W sc N mp m e=true->SL X XP mp e (a.ev cf)
noncomputable abbrev QA(cf:CF)(W:Wd)(a:IA):Prop:=∀ (X:Cx) (XP:XPT) (k:Nat) (sc:Scope) (N:List Str) (mp:List Nat) (m:Nat),XSc X sc N->XW X cf W k->∀ (e:List Expr),a.chk W sc N mp m e=true->SA X XP mp e (a.ev cf)
noncomputable abbrev QN(cf:CF)(W:Wd)(a:IN):Prop:=∀ (X:Cx) (XP:XPT) (k:Nat) (sc:Scope) (N:List Str) (mp:List Nat) (m:Nat),XSc X sc N->XW X cf W k->∀ (e:Expr),a.chk W sc N mp m e=true->SN X XP mp e (a.ev cf)/\zaM X XP mp e (a.ev cf)
noncomputable abbrev QP(cf:CF)(W:Wd)(a:IP):Prop:=∀ (X:Cx) (XP:XPT) (k:Nat) (sc:Scope) (N:List Str) (mp:List Nat) (m:Nat),XSc X sc N->XW X cf W k->∀ (e:Option Expr),a.chk W sc N mp m e=true->SOp X XP mp e (a.ev cf)
noncomputable abbrev QI(cf:CF)(W:Wd)(a:II):Prop:=∀ (X:Cx) (XP:XPT) (k:Nat) (sc:Scope) (N:List Str) (mp:List Nat) (m:Nat),XSc X sc N->XW X cf W k->∀ (tg e:Expr),a.chk W sc N mp m e tg=true->SI X XP mp tg e (a.ev cf)
noncomputable abbrev QC(cf:CF)(W:Wd)(a:IC):Prop:=∀ (X:Cx) (XP:XPT) (k:Nat) (sc:Scope) (N:List Str) (mp:List Nat) (m:Nat),XSc X sc N->XW X cf W k->∀ (e:List Expr),a.chk W sc N mp m e=true->SF X XP mp e (a.ev cf)
noncomputable abbrev QO(cf:CF)(W:Wd)(a:IO):Prop:=∀ (X:Cx) (XP:XPT) (k:Nat) (sc:Scope) (N:List Str) (mp:List Nat) (m:Nat),XSc X sc N->XW X cf W k->∀ (e:Expr),a.chk W sc N mp m e=true->SO X XP mp e (a.ev cf)
noncomputable abbrev QJ(cf:CF)(W:Wd)(a:IJ):Prop:=∀ (X:Cx) (XP:XPT) (k:Nat) (sc:Scope) (N:List Str) (mp:List Nat) (m:Nat),XSc X sc N->XW X cf W k->∀ (e:List Expr),a.chk W sc N mp m e=true->SJ X XP mp e (a.ev cf)
theorem vh{cf:CF}{W:Wd}(s i:Nat):QE cf W (.var s i):=by
 intro X XP k sc N mp m S T e g0
 simp only[IE.chk]at g0
 obtain⟨⟨x,p⟩,eu,h⟩:=zf g0
 cases zR eu
 have n:=JT S h
 exact qE (zgK n.hN n.hv n.hm n.hd n.hcd) rfl
theorem vD{cf:CF}{W:Wd}(s i:Nat):QE cf W (.frz s i):=by
 intro X XP k sc N mp m S T e g0
 simp only[IE.chk]at g0
 obtain⟨⟨x,p⟩,eu,h⟩:=zf g0
 cases zR eu
 have n:=JT S h
 exact qE (zf0 n.hN n.hv n.hm n.hd n.hcd) rfl
theorem Ju{cf:CF}{W:Wd}(i:Int):QE cf W (.cint i):=by
 intro X XP k sc N mp m S T e g0
 simp only[IE.chk]at g0
 obtain⟨⟨c,j,p⟩,eu,h⟩:=zf g0
 obtain⟨z,ez,h⟩:=zf h
 cases jB eu
 cases zbo ez
 cases of_decide_eq_true h
 exact qE zfH rfl
theorem Jx{cf:CF}{W:Wd}(i:Str):QE cf W (.cstr i):=by
 intro X XP k sc N mp m S T e g0
 simp only[IE.chk]at g0
 obtain⟨⟨c,j,p⟩,eu,h⟩:=zf g0
 obtain⟨z,ez,h⟩:=zf h
 cases jB eu
 cases ye ez
 cases of_decide_eq_true h
 exact qE zfy rfl
theorem Qt{cf:CF}{W:Wd}(i:Bool):QE cf W (.cbool i):=by
 intro X XP k sc N mp m S T e g0
 simp only[IE.chk]at g0
 obtain⟨⟨c,j,p⟩,eu,h⟩:=zf g0
 obtain⟨z,ez,h⟩:=zf h
 cases jB eu
 cases Kp ez
 cases of_decide_eq_true h
 exact qE zdl rfl
theorem Qr{cf:CF}{W:Wd}  :QE cf W (.cnone):=by
 intro X XP k sc N mp m S T e g0
 simp only[IE.chk]at g0
 obtain⟨⟨c,j,p⟩,eu,h⟩:=zf g0
 cases jB eu
 cases KA h
 exact qE zdo rfl
theorem W7{cf:CF}{W:Wd}(a:IL)(ih_a:QL cf W a):QE cf W (.tup a):=by
 intro X XP k sc N mp m S T e g0
 simp only[IE.chk]at g0
 obtain⟨⟨es,j,p⟩,eu,h⟩:=zf g0
 cases Wc eu
 exact qE (zgf (ih_a _ _ _ _ _ _ _ S T es h)) rfl
theorem vC{cf:CF}{W:Wd}(n:IN)(ih_n:QN cf W n):QE cf W (.new n):=by
 intro X XP k sc N mp m S T e h
 simp only[IE.chk,xa]at h
 exact qE (SN.se (ih_n _ _ _ _ _ _ _ S T e h.2).1) h.1
theorem vG{cf:CF}{W:Wd}(op:Operator)(a b:IE)(ih_a:QE cf W a)(ih_b:QE cf W b):QE cf W (.bin op a b):=by
 intro X XP k sc N mp m S T e g0
 simp only[IE.chk]at g0
 obtain⟨⟨x,op',y,p⟩,eu,h⟩:=zf g0
 cases Q9 eu
 simp only[xa,decide_eq_true_eq]at h
 obtain⟨⟨h1,h2⟩,h3⟩:=h
 subst h1
 exact qE (zgD (zfM op) (ih_a _ _ _ _ _ _ _ S T x h2).1 (ih_b _ _ _ _ _ _ _ S T y h3).1) rfl
theorem WV{cf:CF}{W:Wd}(op:CmpOp)(a b:IE)(ih_a:QE cf W a)(ih_b:QE cf W b):QE cf W (.cmp op a b):=by
 intro X XP k sc N mp m S T e g0
 simp only[IE.chk]at g0
 obtain⟨⟨x,ops,ys,p⟩,eu,g1⟩:=zf g0
 obtain⟨op',eo,h⟩:=zf g1
 obtain⟨y,ey,h⟩:=zf h
 cases WP eu
 cases jF eo
 cases jF ey
 simp only[xa,decide_eq_true_eq]at h
 obtain⟨⟨⟨h1,h2⟩,h3⟩,h4⟩:=h
 subst h1
 have ha:=(ih_a _ XP _ _ _ _ _ S T x h3).1
 have hb:=(ih_b _ XP _ _ _ _ _ S T y h4).1
 exact⟨zgy (QU (Room.at1 T) op) ha hb (wa op h2),ze5 (QU (Room.at1 T) op) ha hb (wa op h2)⟩
theorem Qg{cf:CF}{W:Wd}(op1 op2:CmpOp)(a b c:IE)(ih_a:QE cf W a)(ih_b:QE cf W b)(ih_c:QE cf W c):QE cf W (.chain op1 op2 a b c):=by
 intro X XP k sc N mp m S T e g0
 simp only[IE.chk]at g0
 obtain⟨⟨x,ops,ys,p⟩,eu,g1⟩:=zf g0
 obtain⟨⟨o1,o2⟩,eo,h⟩:=zf g1
 obtain⟨⟨y,z⟩,ey,h⟩:=zf h
 cases WP eu
 cases Qd eo
 cases Qd ey
 simp only[xa,decide_eq_true_eq]at h
 obtain⟨⟨⟨⟨⟨h1,h2⟩,h3⟩,h4⟩,h5⟩,h6⟩:=h
 subst h1 h2
 have ha:=(ih_a _ XP _ _ _ _ _ S T x h4).1
 have hb:=(ih_b _ XP _ _ _ _ _ S T y h5).1
 have hc:=(ih_c _ XP _ _ _ _ _ S T z h6).1
 exact⟨zaK (QU (Room.at1 T) op1) (QU (Room.at1 T) op2) ha hb hc (Wy op1 op2 h3),zcJ (QU (Room.at1 T) op1) (QU (Room.at1 T) op2) ha hb hc (Wy op1 op2 h3)⟩
theorem vQ{cf:CF}{W:Wd}(a:IE)(ih_a:QE cf W a):QE cf W (.not a):=by
 intro X XP k sc N mp m S T e g0
 simp only[IE.chk]at g0
 obtain⟨⟨op,x,p⟩,eu,h⟩:=zf g0
 cases yq eu
 simp only[xa,decide_eq_true_eq]at h
 cases h.1
 have hh:=ih_a _ XP _ _ _ _ _ S T x h.2
 exact⟨zfP hh.1,zfe hh.2⟩
theorem Vm{cf:CF}{W:Wd}(a:IE)(ih_a:QE cf W a):QE cf W (.neg a):=by
 intro X XP k sc N mp m S T e g0
 simp only[IE.chk]at g0
 obtain⟨⟨op,x,p⟩,eu,h⟩:=zf g0
 cases yq eu
 simp only[xa,decide_eq_true_eq]at h
 cases h.1
 exact qE (zfB (ih_a _ _ _ _ _ _ _ S T x h.2).1) rfl
theorem W1{cf:CF}{W:Wd}(a b:IE)(ih_a:QE cf W a)(ih_b:QE cf W b):QE cf W (.and a b):=by
 intro X XP k sc N mp m S T e g0
 simp only[IE.chk]at g0
 obtain⟨⟨x,z⟩,eu,h⟩:=zf g0
 rw[xa]at h
 have ha:=ih_a _ XP _ _ _ _ _ S T x h.1
 have hb:=ih_b _ XP _ _ _ _ _ S T z h.2
 rcases Wa eu with ⟨p,rfl⟩ | ⟨y,w,r,p,rfl,rfl⟩
 ·exact⟨zcH ha.1 (zaY hb.1),(za2 ha.2 (zef hb.2)).st⟩
 ·exact⟨zcH ha.1 hb.1,(za2 ha.2 (V0 hb.2)).st⟩
theorem kI{cf:CF}{W:Wd}(a b:IE)(ih_a:QE cf W a)(ih_b:QE cf W b):QE cf W (.or a b):=by
 intro X XP k sc N mp m S T e g0
 simp only[IE.chk]at g0
 obtain⟨⟨x,z⟩,eu,h⟩:=zf g0
 rw[xa]at h
 have ha:=ih_a _ XP _ _ _ _ _ S T x h.1
 have hb:=ih_b _ XP _ _ _ _ _ S T z h.2
 rcases Wa eu with ⟨p,rfl⟩ | ⟨y,w,r,p,rfl,rfl⟩
 ·exact⟨zeP ha.1 (zaY hb.1),(zeN ha.2 (zdK hb.2)).st⟩
 ·exact⟨zeP ha.1 hb.1,(zeN ha.2 (V0 hb.2)).st⟩
theorem vP{cf:CF}{W:Wd}(c a b:IE)(ih_c:QE cf W c)(ih_a:QE cf W a)(ih_b:QE cf W b):QE cf W (.ite c a b):=by
 intro X XP k sc N mp m S T e g0
 simp only[IE.chk]at g0
 obtain⟨⟨z,x,y,p⟩,eu,h⟩:=zf g0
 cases KZ eu
 simp only[xa]at h
 obtain⟨⟨h1,h2⟩,h3⟩:=h
 exact⟨zhk (ih_c _ _ _ _ _ _ _ S T z h1).2 (ih_a _ _ _ _ _ _ _ S T x h2).1 (ih_b _ _ _ _ _ _ _ S T y h3).1,fun M0 F Γ ν σ H Q rs hs hp=>hp.elim⟩
theorem ku{cf:CF}{W:Wd}(a b:IE)(ih_a:QE cf W a)(ih_b:QE cf W b):QE cf W (.ix a b):=by
 intro X XP k sc N mp m S T e g0
 simp only[IE.chk]at g0
 obtain⟨⟨x,y,p⟩,eu,h⟩:=zf g0
 cases Wu eu
 simp only[xa]at h
 obtain⟨⟨h1,h2⟩,h3⟩:=h
 exact qE (zhb (ih_a _ _ _ _ _ _ _ S T x h2).1 (ih_b _ _ _ _ _ _ _ S T y h3).1 (yM h1)) rfl
theorem vg{cf:CF}{W:Wd}(a:IE)(ih_a:QE cf W a):QE cf W (.len a):=by
 intro X XP k sc N mp m S T e h
 simp only[IE.chk]at h
 split at h
 ·rename_i f p x q eu
  cases zW eu
  simp only[xa]at h
  obtain⟨⟨h1,h2⟩,h3⟩:=h
  exact qE (zbu zgJ (qm S T h1 Zq (by decide) (by decide)) (ih_a _ _ _ _ _ _ _ S T x h3).1 (zw h2)) rfl
 ·cases h
theorem Vw{cf:CF}{W:Wd}(a:IE)(ih_a:QE cf W a):QE cf W (.int a):=by
 intro X XP k sc N mp m S T e h
 simp only[IE.chk]at h
 split at h
 ·rename_i f p x q eu
  cases zW eu
  simp only[xa]at h
  obtain⟨⟨h1,h2⟩,h3⟩:=h
  exact qE (zhu zfq (qm S T h1 Wt (by decide) (by decide)) (ih_a _ _ _ _ _ _ _ S T x h3).1 (zw h2)) rfl
 ·cases h
theorem Vk{cf:CF}{W:Wd}(a:IE)(ih_a:QE cf W a):QE cf W (.all a):=by
 intro X XP k sc N mp m S T e h
 simp only[IE.chk]at h
 split at h
 ·rename_i f p x q eu
  cases zW eu
  simp only[xa]at h
  obtain⟨⟨h1,h2⟩,h3⟩:=h
  exact qE (zbu (zgc T.calm) (qm S T h1 Km (by decide) (by decide)) (ih_a _ _ _ _ _ _ _ S T x h3).1 (zw h2)) rfl
 ·cases h
theorem vx{cf:CF}{W:Wd}(a:IE)(ih_a:QE cf W a):QE cf W (.any a):=by
 intro X XP k sc N mp m S T e h
 simp only[IE.chk]at h
 split at h
 ·rename_i f p x q eu
  cases zW eu
  simp only[xa]at h
  obtain⟨⟨h1,h2⟩,h3⟩:=h
  exact qE (zbu (ze8 T.calm) (qm S T h1 KE (by decide) (by decide)) (ih_a _ _ _ _ _ _ _ S T x h3).1 (zw h2)) rfl
 ·cases h
theorem Qh{cf:CF}{W:Wd}(a:IE)(ih_a:QE cf W a):QE cf W (.tuple a):=by
 intro X XP k sc N mp m S T e h
 simp only[IE.chk]at h
 split at h
 ·rename_i f p x q eu
  cases zW eu
  simp only[xa]at h
  obtain⟨⟨h1,h2⟩,h3⟩:=h
  exact qE (zbj (qm S T h1 Jl (by decide) (by decide)) (ih_a _ _ _ _ _ _ _ S T x h3).1 (zw h2)) rfl
 ·cases h
theorem vA{cf:CF}{W:Wd}(TT:String)(a:IE)(ih_a:QE cf W a):QE cf W (.isi TT a):=by
 intro X XP k sc N mp m S T e h
 simp only[IE.chk]at h
 split at h
 ·rename_i f p x y q eu
  cases Vg eu
  simp only[xa,xM,beq_iff_eq]at h
  obtain⟨⟨⟨⟨h1,h2⟩,h3⟩,h4⟩,h5⟩:=h
  obtain⟨⟨y,p2⟩,ey,h4⟩:=zf h4
  cases zR ey
  have B:=qm S T h1 K8 (by decide) (by decide)
  have ha:=(ih_a _ XP _ _ _ _ _ S T x h5).1
  rcases h3 with (((rfl | rfl) | rfl) | rfl) | rfl
  ·exact qE (J3 B (qm S T h4 Wt (by decide) (by decide)) ha (zw h2)) rfl
  ·exact qE (J3 B (qm S T h4 Yy (by decide) (by decide)) ha (zw h2)) rfl
  ·exact qE (J3 B (qm S T h4 ZJ (by decide) (by decide)) ha (zw h2)) rfl
  ·exact qE (J3 B (qm S T h4 Jl (by decide) (by decide)) ha (zw h2)) rfl
  ·exact qE (J3 B (qm S T h4 zaa (by decide) (by decide)) ha (zw h2)) rfl
 ·cases h
theorem W3{cf:CF}{W:Wd}(a b:IE)(ih_a:QE cf W a)(ih_b:QE cf W b):QE cf W (.min a b):=by
 intro X XP k sc N mp m S T e h
 simp only[IE.chk]at h
 split at h
 ·rename_i f p x y q eu
  cases Vg eu
  simp only[xa]at h
  obtain⟨⟨⟨⟨h1,h2⟩,h3⟩,h4⟩,h5⟩:=h
  exact qE (zdi T.calm (qm S T h1 zar (by decide) (by decide)) (ih_a _ _ _ _ _ _ _ S T x h4).1 (ih_b _ _ _ _ _ _ _ S T y h5).1 (zw h2) (zw h3)) rfl
 ·cases h
theorem vz{cf:CF}{W:Wd}(a b:IE)(ih_a:QE cf W a)(ih_b:QE cf W b):QE cf W (.max a b):=by
 intro X XP k sc N mp m S T e h
 simp only[IE.chk]at h
 split at h
 ·rename_i f p x y q eu
  cases Vg eu
  simp only[xa]at h
  obtain⟨⟨⟨⟨h1,h2⟩,h3⟩,h4⟩,h5⟩:=h
  exact qE (zdJ T.calm (qm S T h1 zao (by decide) (by decide)) (ih_a _ _ _ _ _ _ _ S T x h4).1 (ih_b _ _ _ _ _ _ _ S T y h5).1 (zw h2) (zw h3)) rfl
 ·cases h
theorem JA{cf:CF}{W:Wd}(a b:IE)(ih_a:QE cf W a)(ih_b:QE cf W b):QE cf W (.less a b):=by
 intro X XP k sc N mp m S T e h
 simp only[IE.chk]at h
 split at h
 ·rename_i f g h2 x y rest eu
  obtain⟨p1,p2,p3,q1,q2,q3,pb⟩:=rest
  cases Yq eu
  simp only[xa]at h
  obtain⟨⟨⟨⟨⟨⟨h1,h2'⟩,h3⟩,h4⟩,h5⟩,h6⟩,h7⟩:=h
  have nm:∀ {z t:Str},biB W sc z t=true->z=t:=fun {z t} hz=>by
   unfold biB at hz
   simp only[xa,decide_eq_true_eq]at hz
   exact hz.1.1
  have B1:=qm S T h1 Zq (by decide) (by decide)
  have B2:=qm S T h2' L2.boot_setW (by decide) (by decide)
  have e1:=nm h1
  have e2:=nm h2'
  have e3:=nm h3
  subst e1 e2 e3
  exact qE (zc5 T.calm B1.gl B1.mg B2.gl B2.mg (ih_a _ _ _ _ _ _ _ S T x h6).1 (ih_b _ _ _ _ _ _ _ S T y h7).1 (zw h4) (zw h5)) rfl
 ·cases h
theorem Jy{cf:CF}{W:Wd}(o:IO)(ih_o:QO cf W o):QE cf W (.call o):=by
 intro X XP k sc N mp m S T e h
 simp only[IE.chk,xa]at h
 exact qE (ih_o _ _ _ _ _ _ _ S T e h.2).se h.1
theorem Qm{cf:CF}{W:Wd}(g:Str)(n:Nat)(a:IL)(ih_a:QL cf W a):QE cf W (.callw g n a):=by
 intro X XP k sc N mp m S T e h
 simp only[IE.chk]at h
 split at h
 ·rename_i f p xs q eu
  cases JB eu
  simp only[xa,decide_eq_true_eq]at h
  obtain⟨⟨⟨⟨⟨⟨h1,h2⟩,h3⟩,h4⟩,h0⟩,h5⟩,h6⟩:=h
  subst h1
  obtain⟨kn,hrun⟩:=T.fn _ _ h3
  obtain⟨x,xs,rfl⟩:∃ y ys,xs=y::ys:=by
   cases xs with
   |nil=>cases h0
   |cons y ys=>exact⟨y,ys,rfl⟩
  rw[uH,xa]at h5
  exact qE (zbN kn (Room.atk T) (S.glo _ h2) hrun (ih_a _ _ _ _ _ _ _ S T (x::xs) h6) (Wi h4) (zw h5.1) (ZK (VL h5.2))) rfl
 ·cases h
theorem vB{cf:CF}{W:Wd}(a:IL)(ih_a:QL cf W a):QN cf W (.lst a):=by
 intro X XP k sc N mp m S T e g0
 simp only[IN.chk]at g0
 obtain⟨⟨es,p⟩,eu,h⟩:=zf g0
 cases KL eu
 exact⟨zgF (ih_a _ _ _ _ _ _ _ S T es h),Vt (fun _ _ _ _ q=>nomatch q)⟩
theorem W6{cf:CF}{W:Wd}(a b:IE)(ih_a:QE cf W a)(ih_b:QE cf W b):QN cf W (.cat a b):=by
 intro X XP k sc N mp m S T e g0
 simp only[IN.chk]at g0
 obtain⟨⟨x,op,y,p⟩,eu,h⟩:=zf g0
 cases Q9 eu
 simp only[xa,decide_eq_true_eq]at h
 obtain⟨⟨h0,h1⟩,h2⟩:=h
 cases h0
 exact⟨zfc (ih_a _ _ _ _ _ _ _ S T x h1).1 (ih_b _ _ _ _ _ _ _ S T y h2).1,Vt (fun _ _ _ _ q=>nomatch q)⟩
theorem JK{cf:CF}{W:Wd}(a:IE)(ih_a:QE cf W a):QN cf W (.list a):=by
 intro X XP k sc N mp m S T e h
 simp only[IN.chk]at h
 split at h
 ·rename_i f p x q eu
  cases zW eu
  simp only[xa]at h
  obtain⟨⟨h1,h2⟩,h3⟩:=h
  exact⟨zdH (qm S T h1 ZJ (by decide) (by decide)) (ih_a _ _ _ _ _ _ _ S T x h3).1 (zw h2),Vt (fun _ _ _ _ q=>nomatch q)⟩
 ·cases h
theorem Zo{cf:CF}{W:Wd}(a:IE)(ih_a:QE cf W a):QN cf W (.sorted a):=by
 intro X XP k sc N mp m S T e h
 simp only[IN.chk]at h
 split at h
 ·rename_i f p x q eu
  cases zW eu
  simp only[xa]at h
  obtain⟨⟨h1,h2⟩,h3⟩:=h
  exact⟨zak (qm S T h1 Vv (by decide) (by decide)) (ih_a _ _ _ _ _ _ _ S T x h3).1 (zw h2),Vt (fun _ _ _ _ q=>nomatch q)⟩
 ·cases h
theorem JG{cf:CF}{W:Wd}(n kk:Nat)(ix:List Nat)(N':List Str)(t:IT)(src:II)(c:IC)(el:IE)(ih_src:QI cf W src)(ih_c:QC cf W c)(ih_el:QE cf W el):QN cf W (.comp n kk ix N' t src c el):=by
 intro X XP k sc N mp m S T e h
 simp only[IN.chk]at h
 split at h
 ·rename_i elt tg iter ifs scope p eu
  cases zch eu
  simp only[xa,decide_eq_true_eq]at h
  obtain⟨⟨⟨⟨⟨⟨⟨⟨h1,h3⟩,h4⟩,h5⟩,h6⟩,h7⟩,h8⟩,h9⟩,h10⟩:=h
  subst h1
  have C0:CSc sc N scope N' kk ix:=CSc.of h3
  have C1:=zgL S C0
  have hm:∀ j i:Nat,ix[j]?=some i->∃ m,mp[i]?=some m/\m<n:=fun j i e=>by
   have:=xD.mp h5 i (xF e)
   split at this
   ·rename_i q eq;exact⟨q,eq,by simpa using this⟩
   ·cases this
  have hi:=ih_src _ XP _ _ _ _ _ S T tg iter h7
  have hg:∀ cl C s2 H2 fp,SG (X.comp N' scope cl C s2 H2 fp) (mpC mp n kk ix) (·<n) tg t:=fun cl C s2 H2 fp=>JD (XSc.comp C0 cl C s2 H2 fp) C0.nd h4 T.calm (fun i h=>by omega) t tg h8
  have hc:∀ cl C s2 H2 fp,SF (X.comp N' scope cl C s2 H2 fp) XP0 (mpC mp n kk ix) ifs (c.ev cf):=fun cl C s2 H2 fp=>ih_c _ _ _ _ _ _ _ (XSc.comp C0 cl C s2 H2 fp) (T.comp cl C s2 H2 fp) ifs h9
  have he:∀ cl C s2 H2 fp,SE (X.comp N' scope cl C s2 H2 fp) XP0 (mpC mp n kk ix) elt (el.ev cf).1:=fun cl C s2 H2 fp=>(ih_el _ _ _ _ _ _ _ (XSc.comp C0 cl C s2 H2 fp) (T.comp cl C s2 H2 fp) elt h10).1
  refine⟨zdM T.calm C1 hm hi hg hc he (QR h6),fun a b c' d q=>?_⟩
  cases q
  exact⟨tg,iter,ifs,N',kk,ix,rfl,C1,QR h6,VB C1 hm hi hg hc he⟩
 ·cases h
theorem JH{cf:CF}{W:Wd}(a:IE)(ih_a:QE cf W a):QI cf W (.list a):=by
 intro X XP k sc N mp m S T tg e h
 exact zdf (ih_a _ _ _ _ _ _ _ S T e h).1
theorem Vl{cf:CF}{W:Wd}(a:IE)(ih_a:QE cf W a):QI cf W (.tup a):=by
 intro X XP k sc N mp m S T tg e h
 exact zgB (ih_a _ _ _ _ _ _ _ S T e h).1
theorem Z3{cf:CF}{W:Wd}(a:IE)(ih_a:QE cf W a):QI cf W (.range a):=by
 intro X XP k sc N mp m S T tg e h
 simp only[II.chk]at h
 split at h
 ·rename_i f p x q eu
  cases zW eu
  simp only[xa]at h
  obtain⟨⟨h1,h2⟩,h3⟩:=h
  have ef:f= "range" :=by
   unfold biB at h1
   simp only[xa,decide_eq_true_eq]at h1
   exact h1.1.1
  exact zbW (qm S T h1 VY (by decide) (by decide)) ef (ih_a _ _ _ _ _ _ _ S T x h3).1 (zw h2)
 ·cases h
theorem JC{cf:CF}{W:Wd}(a:IE)(ih_a:QE cf W a):QI cf W (.enum a):=by
 intro X XP k sc N mp m S T tg e h
 simp only[II.chk]at h
 split at h
 ·rename_i f p x q eu
  cases zW eu
  simp only[xa]at h
  obtain⟨⟨⟨h0,h1⟩,h2⟩,h3⟩:=h
  have ef:f= "enumerate" :=by
   unfold biB at h1
   simp only[xa,decide_eq_true_eq]at h1
   exact h1.1.1
  cases tg with
  |Tuple es x1 pt=>exact zdD (qm S T h1 L2.boot_enumW (by decide) (by decide)) ef (ih_a _ _ _ _ _ _ _ S T x h3).1 (zw h2)
  |_=>simp[zaN]at h0
 ·cases h
theorem vw{cf:CF}{W:Wd}(a:IE)(ih_a:QE cf W a):QO cf W (.dat a):=by
 intro X XP k sc N mp m S T e h
 exact (ih_a _ _ _ _ _ _ _ S T e h).1.so
theorem W4{cf:CF}{W:Wd}(n:IN)(ih_n:QN cf W n):QO cf W (.own n):=by
 intro X XP k sc N mp m S T e h
 exact (ih_n _ _ _ _ _ _ _ S T e h).1.so
theorem JJ{cf:CF}{W:Wd}(g:Str)(n:Nat)(a:IA)(ih_a:QA cf W a):QO cf W (.call g n a):=by
 intro X XP k sc N mp m S T e h
 simp only[IO.chk]at h
 split at h
 ·rename_i f p xs q eu
  cases JB eu
  simp only[xa,decide_eq_true_eq]at h
  obtain⟨⟨⟨⟨⟨h1,h2⟩,h3⟩,h4⟩,h5⟩,h6⟩:=h
  subst h1
  obtain⟨kn,hrun⟩:=T.fn _ _ h3
  cases xs with
  |nil=>
   cases a with
   |nil=>exact zbp kn (Room.atk T) (S.glo _ h2) hrun (Wi h4)
   |cons _ _=>cases h6
   |io _ _ _=>cases h6
   |tmp _=>cases h6
  |cons x xs=>
   rw[uH,xa]at h5
   exact zee kn (Room.atk T) (S.glo _ h2) hrun (ih_a _ _ _ _ _ _ _ S T (x::xs) h6) (Wi h4) (zw h5.1) (ZK (VL h5.2))
 ·cases h
theorem Jw{cf:CF}{W:Wd}(s i:Nat):QO cf W (.move s i):=by
 intro X XP k sc N mp m S T e g0
 obtain⟨⟨x,p⟩,eu,h⟩:=zf g0
 cases zR eu
 have n:=JT S h
 exact zc1 n.hN n.hv n.hm n.hd n.hcd
theorem Jv{cf:CF}{W:Wd}(a:IE)(ih_a:QE cf W a):QE cf W (.lset a):=by
 intro X XP k sc N mp m S T e h
 simp only[IE.chk]at h
 split at h
 ·rename_i f p x q eu
  split at h
  ·rename_i g p2 y q2 eu2
   cases zW eu
   cases zW eu2
   simp only[xa]at h
   obtain⟨⟨⟨h1,h2⟩,h3⟩,h4⟩:=h
   have ef:f= "len" :=by
    unfold biB at h1
    simp only[xa,decide_eq_true_eq]at h1
    exact h1.1.1
   have eg:g= "set" :=by
    unfold biB at h2
    simp only[xa,decide_eq_true_eq]at h2
    exact h2.1.1
   subst ef eg
   have B1:=qm S T h1 Zq (by decide) (by decide)
   have B2:=qm S T h2 boot_setW (by decide) (by decide)
   exact qE (zev T.calm B1.gl B1.mg B2.gl B2.mg (ih_a _ _ _ _ _ _ _ S T y h4).1 (zw h3)) rfl
  ·cases h
 ·cases h
theorem Qb{cf:CF}{W:Wd}(a:IE)(ih_a:QE cf W a):QE cf W (.lsetL a):=by
 intro X XP k sc N mp m S T e h
 simp only[IE.chk]at h
 split at h
 ·rename_i f p x q eu
  split at h
  ·rename_i g p2 y q2 eu2
   cases zW eu
   cases zW eu2
   simp only[xa]at h
   obtain⟨⟨⟨h1,h2⟩,h3⟩,h4⟩:=h
   have ef:f= "len" :=by
    unfold biB at h1
    simp only[xa,decide_eq_true_eq]at h1
    exact h1.1.1
   have eg:g= "set" :=by
    unfold biB at h2
    simp only[xa,decide_eq_true_eq]at h2
    exact h2.1.1
   subst ef eg
   have B1:=qm S T h1 Zq (by decide) (by decide)
   have B2:=qm S T h2 boot_setW (by decide) (by decide)
   exact qE (zcI T.calm B1.gl B1.mg B2.gl B2.mg (ih_a _ _ _ _ _ _ _ S T y h4).1 (zw h3)) rfl
  ·cases h
 ·cases h
theorem v7{cf:CF}{W:Wd}:QL cf W .nil:=by
 intro X XP k sc N mp m S T es h
 cases es with
 |nil=>exact zgg
 |cons _ _=>cases h
theorem Jz{cf:CF}{W:Wd}(e:IE)(a:IL)(ih_e:QE cf W e)(ih_a:QL cf W a):QL cf W (.cons e a):=by
 intro X XP k sc N mp m S T es h
 cases es with
 |nil=>cases h
 |cons x xs=>
  simp only[IL.chk,xa]at h
  obtain⟨⟨h1,h2⟩,h3⟩:=h
  exact zdy (ih_e _ _ _ _ _ _ _ S T x h2).1 (ih_a _ _ _ _ _ _ _ S T xs h3) (zw h1)
theorem vT{cf:CF}{W:Wd}:QA cf W .nil:=by
 intro X XP k sc N mp m S T es h
 cases es with
 |nil=>exact zfk
 |cons _ _=>cases h
theorem JM{cf:CF}{W:Wd}(e:IE)(a:IA)(ih_e:QE cf W e)(ih_a:QA cf W a):QA cf W (.cons e a):=by
 intro X XP k sc N mp m S T es h
 cases es with
 |nil=>cases h
 |cons x xs=>
  simp only[IA.chk,xa]at h
  obtain⟨⟨h1,h2⟩,h3⟩:=h
  exact zd5 (ih_e _ _ _ _ _ _ _ S T x h2).1 (ih_a _ _ _ _ _ _ _ S T xs h3) (zw h1)
theorem kl{cf:CF}{W:Wd}(s i:Nat)(a:IA)(ih_a:QA cf W a):QA cf W (.io s i a):=by
 intro X XP k sc N mp m S T es h
 cases es with
 |nil=>cases h
 |cons e xs=>
  simp only[IA.chk,xa]at h
  obtain⟨⟨x,p⟩,eu,h1⟩:=zf h.1
  cases zR eu
  have n:=JT S h1
  exact zhK n.hN n.hv n.hm n.hd n.hcd (ih_a _ _ _ _ _ _ _ S T xs h.2) rfl
theorem vy{cf:CF}{W:Wd}(n:IN)(ih_n:QN cf W n):QA cf W (.tmp n):=by
 intro X XP k sc N mp m S T es h
 match es,h with
 |[],h=>nomatch h
 |[x],h=>
  simp only[IA.chk,xa]at h
  exact zfD (ih_n _ _ _ _ _ _ _ S T x h.2).1 (zw h.1)
 |_::_::_,h=>nomatch h
theorem Vc{cf:CF}{W:Wd}:QP cf W .non:=by
 intro X XP k sc N mp m S T e h
 cases e with
 |none=>exact zd1
 |some _=>cases h
theorem vO{cf:CF}{W:Wd}(a:IE)(ih_a:QE cf W a):QP cf W (.one a):=by
 intro X XP k sc N mp m S T e h
 cases e with
 |none=>cases h
 |some x=>exact zdp (ih_a _ _ _ _ _ _ _ S T x h).1
theorem vm{cf:CF}{W:Wd}:QC cf W .yes:=by
 intro X XP k sc N mp m S T es h
 cases es with
 |nil=>exact zgH
 |cons _ _=>cases h
theorem Vh{cf:CF}{W:Wd}(a:IE)(ih_a:QE cf W a):QC cf W (.one a):=by
 intro X XP k sc N mp m S T es h
 match es,h with
 |[],h=>nomatch h
 |[x],h=>exact zgN (ih_a _ _ _ _ _ _ _ S T x h).2
 |_::_::_,h=>nomatch h
theorem Vb{cf:CF}{W:Wd}:QJ cf W .nil:=by
 intro X XP k sc N mp m S T e h
 cases e with
 |nil=>exact zfA
 |cons _ _=>simp[IJ.chk]at h
theorem Qn(cf:CF)(W:Wd)(a:IE):QE cf W a:=IE.rec (motive_1:=QE cf W) (motive_2:=QL cf W) (motive_3:=QA cf W) (motive_4:=QN cf W) (motive_5:=QP cf W) (motive_6:=QI cf W) (motive_7:=QC cf W) (motive_8:=QO cf W) (motive_9:=QJ cf W) vh vD Ju Jx Qt Qr W7 vC vG WV Qg vQ Vm W1 kI vP ku vg Vw Vk vx Qh vA W3 vz JA Jy Qm Jv Qb v7 Jz vT JM kl vy vB W6 JK Zo JG Vc vO JH Vl Z3 JC vm Vh vw W4 JJ Jw Vb a
theorem zhD(cf:CF)(W:Wd)(a:IN):QN cf W a:=IN.rec (motive_1:=QE cf W) (motive_2:=QL cf W) (motive_3:=QA cf W) (motive_4:=QN cf W) (motive_5:=QP cf W) (motive_6:=QI cf W) (motive_7:=QC cf W) (motive_8:=QO cf W) (motive_9:=QJ cf W) vh vD Ju Jx Qt Qr W7 vC vG WV Qg vQ Vm W1 kI vP ku vg Vw Vk vx Qh vA W3 vz JA Jy Qm Jv Qb v7 Jz vT JM kl vy vB W6 JK Zo JG Vc vO JH Vl Z3 JC vm Vh vw W4 JJ Jw Vb a
theorem zhg(cf:CF)(W:Wd)(a:II):QI cf W a:=II.rec (motive_1:=QE cf W) (motive_2:=QL cf W) (motive_3:=QA cf W) (motive_4:=QN cf W) (motive_5:=QP cf W) (motive_6:=QI cf W) (motive_7:=QC cf W) (motive_8:=QO cf W) (motive_9:=QJ cf W) vh vD Ju Jx Qt Qr W7 vC vG WV Qg vQ Vm W1 kI vP ku vg Vw Vk vx Qh vA W3 vz JA Jy Qm Jv Qb v7 Jz vT JM kl vy vB W6 JK Zo JG Vc vO JH Vl Z3 JC vm Vh vw W4 JJ Jw Vb a
theorem zeX(cf:CF)(W:Wd)(a:IO):QO cf W a:=IO.rec (motive_1:=QE cf W) (motive_2:=QL cf W) (motive_3:=QA cf W) (motive_4:=QN cf W) (motive_5:=QP cf W) (motive_6:=QI cf W) (motive_7:=QC cf W) (motive_8:=QO cf W) (motive_9:=QJ cf W) vh vD Ju Jx Qt Qr W7 vC vG WV Qg vQ Vm W1 kI vP ku vg Vw Vk vx Qh vA W3 vz JA Jy Qm Jv Qb v7 Jz vT JM kl vy vB W6 JK Zo JG Vc vO JH Vl Z3 JC vm Vh vw W4 JJ Jw Vb a
end
end L3
set_option maxHeartbeats 4000000
namespace L3
open PySem PySem.Spec PyProof.Rows L2
mutual
inductive IS where
 |pass
 |bad
 |asg (s i:Nat) (o:IO)
 |asgT (t:IT) (e:IE)
 |expr (e:IE)
 |ite (c:IE) (a b:IB)
 |loop (t:IT) (src:II) (b:IB)
 |wh (n:Nat) (c:IE) (b:IB)
 |ret (o:IO)
 |app (s i:Nat) (e:IE)
 |set (s i:Nat) (ie ve:IE)
 |raise (x:Str)
 |aug (s i:Nat) (e:IE)
 |star (s i t j:Nat) (e:IE)
inductive IB where
 |nil
 |cons (s:IS) (b:IB)
end
mutual
noncomputable def IS.ex(cf:CF)(io:List Nat):IS->SM
 |.pass=>sNext
 |.bad=>zhI
 |.asg _ i o=>sAsg io i (o.ev cf)
 |.asgT t e=>sAsgT t (e.ev cf).1
 |.expr e=>sExpr (e.ev cf).1
 |.ite c a b=>sIf (c.ev cf).2 (a.ex cf io) (b.ex cf io)
 |.loop t src b=>sFor t (src.ev cf) (b.ex cf io)
 |.wh n c b=>y4 n (c.ev cf).2 (b.ex cf io)
 |.ret o=>sRet (o.ev cf)
 |.app _ i e=>sApp i (e.ev cf).1
 |.set _ i ie ve=>sSet i (ie.ev cf).1 (ve.ev cf).1
 |.raise x=>vb x
 |.aug _ i e=>zdt i (e.ev cf).1
 |.star _ i _ j e=>kO io i j (e.ev cf).1
noncomputable def IB.ex(cf:CF)(io:List Nat):IB->SM
 |.nil=>sNext
 |.cons s .nil=>s.ex cf io
 |.cons s b=>sSeq (s.ex cf io) (b.ex cf io)
end
noncomputable def Jt:IO->Option IN
 |.own n=>some n
 |.dat (.new n)=>some n
 |_=>none
noncomputable def J4(o:IO):Expr->Bool
 |.ListComp .. =>(Jt o).isSome
 |.SetComp .. =>false
 |.DictComp .. =>false
 |_=>true
noncomputable def zaA:Stmt->Option Pos
 |.Pass p=>some p
 |_=>none
noncomputable def W5:Stmt->Option (Expr×Pos)
 |.Expr x p=>some (x,p)
 |_=>none
noncomputable def zhl:Stmt->Option (Expr×List Stmt×List Stmt×Pos)
 |.If x xs ys p=>some (x,xs,ys,p)
 |_=>none
noncomputable def zeM:Stmt->Option (Expr×Expr×List Stmt×List Stmt×Pos)
 |.For tg it b e p=>some (tg,it,b,e,p)
 |_=>none
noncomputable def Y4:Stmt->Option (Expr×List Stmt×List Stmt×Pos)
 |.While x b e p=>some (x,b,e,p)
 |_=>none
noncomputable def zeW:Stmt->Option (Option Expr×Pos)
 |.Return x p=>some (x,p)
 |_=>none
noncomputable def zcz:Stmt->Option (List Expr×Expr×Pos)
 |.Assign ts e p=>some (ts,e,p)
 |_=>none
theorem Yr{e:Stmt}{p:Pos}(h:zaA e=some p):e=.Pass p:=by cases e<;>cases h<;>rfl
theorem wA{e:Stmt}{x:Expr}{p:Pos}(h:W5 e=some (x,p)):e=.Expr x p:=by cases e<;>cases h<;>rfl
theorem zbi{e:Stmt}{x:Expr}{xs ys:List Stmt}{p:Pos}(h:zhl e=some (x,xs,ys,p)):e=.If x xs ys p:=by cases e<;>cases h<;>rfl
theorem zap{e:Stmt}{x y:Expr}{xs ys:List Stmt}{p:Pos}(h:zeM e=some (x,y,xs,ys,p)):e=.For x y xs ys p:=by cases e<;>cases h<;>rfl
theorem yt{e:Stmt}{x:Expr}{xs ys:List Stmt}{p:Pos}(h:Y4 e=some (x,xs,ys,p)):e=.While x xs ys p:=by cases e<;>cases h<;>rfl
theorem Ko{e:Stmt}{x:Option Expr}{p:Pos}(h:zeW e=some (x,p)):e=.Return x p:=by cases e<;>cases h<;>rfl
theorem kX{e:Stmt}{ts:List Expr}{x:Expr}{p:Pos}(h:zcz e=some (ts,x,p)):e=.Assign ts x p:=by cases e<;>cases h<;>rfl
noncomputable def zba(s:Stmt):Option (Str×Pos×Str×Pos×List Expr×Pos×Pos):=(W5 s).bind fun (e,q2)=>(zdu e).map fun (x,p,f,p2,xs,q)=>(x,p,f,p2,xs,q,q2)
theorem KI{st:Stmt}{x f:Str}{p p2 q q2:Pos}{xs:List Expr}(h:zba st=some (x,p,f,p2,xs,q,q2)):st=.Expr (.Call (.Attribute (.Name x p) f p2) xs [] q) q2:=by
 unfold zba at h
 cases e1:W5 st with
 |none=>rw[e1]at h;cases h
 |some z=>
  obtain⟨e,q3⟩:=z
  cases e2:zdu e with
  |none=>simp[e1,e2]at h
  |some z=>
   obtain⟨a1,a2,a3,a4,a5,a6⟩:=z
   simp[e1,e2]at h
   obtain⟨rfl,rfl,rfl,rfl,rfl,rfl,rfl⟩:=h
   rw[wA e1,zb6 e2]
noncomputable def w6(s:Stmt):Option (Expr×Expr×Pos):=(zcz s).bind fun (ts,e,q)=>(wW ts).map fun t=>(t,e,q)
theorem Zp{st:Stmt}{t e:Expr}{q:Pos}(h:w6 st=some (t,e,q)):st=.Assign [t] e q:=by
 unfold w6 at h
 cases e1:zcz st with
 |none=>rw[e1]at h;cases h
 |some z=>
  obtain⟨ts,e',q'⟩:=z
  cases e2:wW ts with
  |none=>simp[e1,e2]at h
  |some t'=>
   simp[e1,e2]at h
   obtain⟨rfl,rfl,rfl⟩:=h
   rw[kX e1,jF e2]
noncomputable def kj:Stmt->Option (Option Expr×Option Expr×Pos)
 |.Raise x y p=>some (x,y,p)
 |_=>none
theorem Vy{e:Stmt}{x y:Option Expr}{p:Pos}(h:kj e=some (x,y,p)):e=.Raise x y p:=by cases e<;>cases h<;>rfl
noncomputable def zb1(sc:Scope)(x:Str):Bool:=decide (sc.names.lookup x=some .local)||decide (sc.names.lookup x=some .cell)
noncomputable def zgl (W:Wd) (sc:Scope) (x:Str):Bool:=VE sc x&&W.ex.contains x&& !(x==("__debug__" :Str))
noncomputable def zeJ:Stmt->Option (Expr×Operator×Expr×Pos)
 |.AugAssign t op e p=>some (t,op,e,p)
 |_=>none
noncomputable def zeU:Expr->Option (Expr×Pos)
 |.Starred x p=>some (x,p)
 |_=>none
theorem K6{st:Stmt}{t e:Expr}{op:Operator}{p:Pos}(h:zeJ st=some (t,op,e,p)):st=.AugAssign t op e p:=by cases st<;>cases h<;>rfl
theorem Kb{e x:Expr}{p:Pos}(h:zeU e=some (x,p)):e=.Starred x p:=by cases e<;>cases h<;>rfl
noncomputable def vn:Expr->Bool
 |.ListComp .. =>false
 |.SetComp .. =>false
 |.DictComp .. =>false
 |_=>true
noncomputable def qp:Expr->Bool
 |.Tuple .. =>false
 |.ListComp .. =>false
 |.SetComp .. =>false
 |.DictComp .. =>false
 |_=>true
mutual
noncomputable def IS.chk(W:Wd)(sc:Scope)(N:List Str)(mp:List Nat)(m np:Nat):IS->Stmt->Bool
 |.pass,st=>okO (zaA st) fun _=>true
 |.bad,_=>true
 |.asg s i o,st=>okO (w6 st) fun z=>okO (qA z.1) fun x=>decide (N[s]?=some x.1)&&decide (mp[s]?=some i)&&(decide (sc.names.lookup x.1=some .local)||decide (sc.names.lookup x.1=some .cell))&&J4 o z.2.1&&o.chk W sc N mp m z.2.1
 |.asgT t e,st=>okO (w6 st) fun z=>zaN z.1&&qp z.2.1&&Vj sc N mp np t z.1&&e.chk W sc N mp m z.2.1
 |.expr e,st=>okO (W5 st) fun z=>qp z.1&&e.chk W sc N mp m z.1
 |.ite c a b,st=>okO (zhl st) fun z=>c.chk W sc N mp m z.1&&a.chk W sc N mp m np z.2.1&&b.chk W sc N mp m np z.2.2.1
 |.loop t src b,st=>okO (zeM st) fun z=>z.2.2.2.1.isEmpty&&jL z.2.1&&Vj sc N mp np t z.1&&src.chk W sc N mp m z.2.1 z.1&&b.chk W sc N mp m np z.2.2.1
 |.wh _ c b,st=>okO (Y4 st) fun z=>z.2.2.1.isEmpty&&c.chk W sc N mp m z.1&&b.chk W sc N mp m np z.2.1
 |.ret o,st=>okO (zeW st) fun z=>okO z.1 fun x=>o.chk W sc N mp m x
 |.app s i e,st=>okO (zba st) fun (x,_,f,p2,xs,q,_)=>okO (wW xs) fun a=>nmB sc N mp s i x&&decide (f= "append")&&zt a&&(p2.endLine==q.line)&&e.chk W sc N mp m a
 |.set s i ie ve,st=>okO (w6 st) fun z=>okO (zcv z.1) fun y=>okO (qA y.1) fun x=>nmB sc N mp s i x.1&&jy y.2.1&&vn z.2.1&&ie.chk W sc N mp m y.2.1&&ve.chk W sc N mp m z.2.1
 |.raise x,st=>okO (kj st) fun z=>z.2.1.isNone&&okO z.1 fun e=>okO (un1 e) fun (f,_,a,_)=>decide (f=x)&&zgl W sc x&&okO (WA a) fun c=>okO (zfa c.1) fun _=>true
 |.aug s i e,st=>okO (zeJ st) fun z=>okO (qA z.1) fun x=>decide (z.2.1=.Add)&&nmB sc N mp s i x.1&&zb1 sc x.1&&e.chk W sc N mp m z.2.2.1
 |.star s i t j e,st=>okO (w6 st) fun z=>okO (zb9 z.1) fun w=>okO (Kh w.1) fun ab=>okO (qA ab.1) fun x=>okO (zeU ab.2) fun c=>okO (qA c.1) fun y=>decide (N[s]?=some x.1)&&decide (mp[s]?=some i)&&zb1 sc x.1&&decide (N[t]?=some y.1)&&decide (mp[t]?=some j)&&zb1 sc y.1&&qp z.2.1&&e.chk W sc N mp m z.2.1
noncomputable def IB.chk(W:Wd)(sc:Scope)(N:List Str)(mp:List Nat)(m np:Nat):IB->List Stmt->Bool
 |.nil,[]=>true
 |.cons s b,x::xs=>s.chk W sc N mp m np x&&b.chk W sc N mp m np xs
 |_,_=>false
end
theorem wf{e:Expr}{t:Option Expr}{l:Nat}{env:Env}(h:qp e=true):swapsWith e t l env=pure false:=by
 cases e<;>first | rfl | (simp[qp]at h)
theorem ZI{t e:Expr}{l:Nat}{env:Env}(h:qp e=true):swapsWithSole [t] e l env=pure false:=wf (t:=some t) h
theorem jZ{t e:Expr}{env:Env}(h:qp e=true):swappedStores [t] e env=pure none:=by
 cases e<;>first | (cases t<;>rfl) | (simp[qp]at h)
theorem WM{x y e:Expr}{p:Pos}{l:Nat}{env:Env}(h:vn e=true):swapsWithSole [.Subscript x y p] e l env=pure false:=by
 show swapsWith e (some (.Subscript x y p)) l env=pure false
 cases e<;>first | rfl | (simp[vn]at h)
theorem JP{x y e:Expr}{p:Pos}{env:Env}:swappedStores [.Subscript x y p] e env=pure none:=by
 cases e<;>rfl
theorem kY{o:IO}{e:Expr}{x:Str}{p:Pos}{l:Nat}{env:Env}(h:J4 o e=true)(hn:∀ a b c d,e≠ .ListComp a b c d):swapsWith e (some (.Name x p)) l env=pure false:=by
 cases e with
 |ListComp a b c d=>exact absurd rfl (hn a b c d)
 |SetComp=>simp[J4]at h
 |DictComp=>simp[J4]at h
 |_=>rfl
theorem YA{elt:Expr}{gens:List Comprehension}{scope:Scope}{q:Pos}{x:Str}{p:Pos}{l:Nat}{env:Env}:∃ b:Bool,swapsWith (.ListComp elt gens scope q) (some (.Name x p)) l env=pure b:=⟨_,rfl⟩
theorem YO{o b:Expr}{p:Pos}{env:Env}(h:jy b=true)(v:Value):assign (.Subscript o b p) env v=(do
  let ov<-holding [v] (eval o env)
  let iv<-holding [v,ov] (eval b env)
  standAt p
  holding [v,ov,iv] (setItem ov iv v)
  release [v,ov,iv] []):=by
 cases b<;>first | rfl | (simp[jy]at h)
structure XB(X:Cx)(XP:XPT)(mp io:List Nat)(np:Nat):Prop where
 po:PassesOwn (model X.prog X.w) X.A X.env X.xe
 nd:X.N.Nodup
 mn:mp.Nodup
 io:∀ i∈io,i<np
 rz:zhz X XP
 sk:X.stack=X.env::X.outer
 fr:X.env.frame=some X.env.locals
noncomputable abbrev QS(cf:CF)(W:Wd)(a:IS):Prop:=∀ (X:Cx) (XP:XPT) (k:Nat) (sc:Scope) (N:List Str) (mp:List Nat) (m np:Nat) (io:List Nat),XSc X sc N->XW X cf W k->XB X XP mp io np->∀ (e:Stmt),a.chk W sc N mp m np e=true->SS X XP mp io e (a.ex cf io)
noncomputable abbrev QB(cf:CF)(W:Wd)(a:IB):Prop:=∀ (X:Cx) (XP:XPT) (k:Nat) (sc:Scope) (N:List Str) (mp:List Nat) (m np:Nat) (io:List Nat),XSc X sc N->XW X cf W k->XB X XP mp io np->∀ (e:List Stmt),a.chk W sc N mp m np e=true->SB X XP mp io e (a.ex cf io)
section
variable {cf:CF} {W:Wd}
theorem zeb:QS cf W .pass:=by
 intro X XP k sc N mp m np io S T B e g0
 simp only[IS.chk]at g0
 obtain⟨p,eu,_⟩:=zf g0
 cases Yr eu
 exact zcY
theorem zfz:QS cf W .bad:=fun X XP k sc N mp m np io S T B e h=>zfw
theorem zgI(s i:Nat)(o:IO):QS cf W (.asg s i o):=by
 intro X XP k sc N mp m np io S T B st g0
 simp only[IS.chk]at g0
 obtain⟨⟨tx,e,q⟩,eu,g1⟩:=zf g0
 obtain⟨⟨x,p⟩,ex,h⟩:=zf g1
 ·cases Zp eu
  cases zR ex
  simp only[xa,xM,decide_eq_true_eq]at h
  obtain⟨⟨⟨⟨h1,h2⟩,h3⟩,h4⟩,h5⟩:=h
  have hi:X.N[s]?=some x:=by rw[S.hN];exact h1
  have hx:Loc X.env.scope x:=by
   rcases h3 with h3 | h3
   ·exact .inl (S.loc x h3)
   ·exact .inr (S.cel x h3).1
  have hf:X.fn x=true∨X.env.scope.names.lookup x=some .local:=by
   rcases h3 with h3 | h3
   ·exact .inr (S.loc x h3)
   ·exact .inl (S.cel x h3).2
  have plain:swapsWith e (some (.Name x p)) q.line X.env=pure false->SS X XP mp io (.Assign [.Name x p] e q) (sAsg io i (o.ev cf)):=fun hsw=>
   zfZ B.nd hi hx hf B.mn h2 (zeX cf W o _ XP _ _ _ _ _ S T e h5) hsw
  by_cases hl:∃ a b c d,e=.ListComp a b c d
  ·obtain⟨elt,gens,scope,pc,rfl⟩:=hl
   obtain⟨bb,hb⟩:=YA (elt:=elt) (gens:=gens) (scope:=scope) (q:=pc) (x:=x) (p:=p) (l:=q.line) (env:=X.env)
   cases bb with
   |false=>exact plain hb
   |true=>
    have go:∀ (n:IN),n.chk W sc N mp m (.ListComp elt gens scope pc)=true->∀ (fo:EM OV),(∀ t,SNt XP mp t (n.ev cf)->SOt XP mp t fo)->SS X XP mp io (.Assign [.Name x p] (.ListComp elt gens scope pc) q) (sAsg io i fo):=fun n hn fo hfo=>by
     obtain⟨tg,iter,ifs,N',kk,ix,rfl,C,hfold,hs⟩:=(zhD cf W n _ XP _ _ _ _ _ S T _ hn).2 elt gens scope pc rfl
     exact kN (zd4 B.nd hi hx T.calm C hb hfold hf) B.mn h2 (xc.mp hi).1 (hfo _ hs)
    cases o with
    |own n=>exact go n h5 _ fun t ht=>ht.so
    |dat a=>
     cases a with
     |new n=>exact go n (by simp only[IO.chk,IE.chk,xa]at h5;exact h5.2) _ fun t ht=>ht.sd
     |_=>simp[J4,Jt]at h4
    |call _ _ _=>simp[J4,Jt]at h4
    |move _ _=>simp[J4,Jt]at h4
  ·exact plain (kY h4 fun a b c d z=>hl ⟨a,b,c,d,z⟩)
theorem zdz(t:IT)(e:IE):QS cf W (.asgT t e):=by
 intro X XP k sc N mp m np io S T B st g0
 simp only[IS.chk]at g0
 obtain⟨⟨tx,x,q⟩,eu,h⟩:=zf g0
 simp only[xa]at h
 obtain⟨⟨⟨h0,h1⟩,h2⟩,h3⟩:=h
 cases Zp eu
 cases tx with
 |Tuple ts n p=>
  have hg:=JD (kp:=(·∈io)) S (by rw[<- S.hN];exact B.nd) B.mn T.calm (fun i hi hm=>absurd (B.io i hm) (by omega)) t _ h2
  exact zbM (Qn cf W e _ XP _ _ _ _ _ S T x h3).1 hg (ZI h1) (jZ h1) (yW zg vS (ZI h1) (jZ h1))
 |_=>cases h0
theorem zez(a:IE):QS cf W (.expr a):=by
 intro X XP k sc N mp m np io S T B e g0
 simp only[IS.chk]at g0
 obtain⟨⟨x,p⟩,eu,h⟩:=zf g0
 cases wA eu
 rw[xa]at h
 exact zek (Qn cf W a _ XP _ _ _ _ _ S T x h.2).1 (wf h.1)
theorem zga(c:IE)(a b:IB)(ih_a:QB cf W a)(ih_b:QB cf W b):QS cf W (.ite c a b):=by
 intro X XP k sc N mp m np io S T B e g0
 simp only[IS.chk]at g0
 obtain⟨⟨x,xs,ys,p⟩,eu,h⟩:=zf g0
 cases zbi eu
 simp only[xa]at h
 obtain⟨⟨h1,h2⟩,h3⟩:=h
 exact zg6 (Qn cf W c _ XP _ _ _ _ _ S T x h1).2 (ih_a _ XP _ _ _ _ _ _ _ S T B xs h2) (ih_b _ XP _ _ _ _ _ _ _ S T B ys h3)
theorem zd2(t:IT)(src:II)(b:IB)(ih_b:QB cf W b):QS cf W (.loop t src b):=by
 intro X XP k sc N mp m np io S T B e g0
 simp only[IS.chk]at g0
 obtain⟨⟨tg,iter,body,els,p⟩,eu,h⟩:=zf g0
 cases zap eu
 simp only[xa]at h
 obtain⟨⟨⟨⟨h0,h1⟩,h2⟩,h3⟩,h4⟩:=h
 cases els with
 |cons _ _=>cases h0
 |nil=>
  have hg:=JD (kp:=(·∈io)) S (by rw[<- S.hN];exact B.nd) B.mn T.calm (fun i hi hm=>absurd (B.io i hm) (by omega)) t _ h2
  exact ze4 B.po T.calm (zhg cf W src _ XP _ _ _ _ _ S T tg iter h3) hg (ih_b _ XP _ _ _ _ _ _ _ S T B body h4) (QR h1)
theorem zg2(n:Nat)(c:IE)(b:IB)(ih_b:QB cf W b):QS cf W (.wh n c b):=by
 intro X XP k sc N mp m np io S T B e g0
 simp only[IS.chk]at g0
 obtain⟨⟨x,body,els,p⟩,eu,h⟩:=zf g0
 cases yt eu
 simp only[xa]at h
 obtain⟨⟨h0,h1⟩,h2⟩:=h
 cases els with
 |cons _ _=>cases h0
 |nil=>exact zce B.po (Qn cf W c _ XP _ _ _ _ _ S T x h1).2 (ih_b _ XP _ _ _ _ _ _ _ S T B body h2)
theorem zgw(o:IO):QS cf W (.ret o):=by
 intro X XP k sc N mp m np io S T B e g0
 simp only[IS.chk]at g0
 obtain⟨⟨x,p⟩,eu,g1⟩:=zf g0
 obtain⟨y,ey,h⟩:=zf g1
 cases Ko eu
 cases ey
 exact zgC (zeX cf W o _ XP _ _ _ _ _ S T y h)
theorem zgr(s i:Nat)(e:IE):QS cf W (.app s i e):=by
 intro X XP k sc N mp m np io S T B st g0
 simp only[IS.chk]at g0
 obtain⟨⟨x,p,f,p2,xs,q,q2⟩,eu,g1⟩:=zf g0
 obtain⟨a,ea,h⟩:=zf g1
 cases KI eu
 cases jF ea
 simp only[xa,decide_eq_true_eq]at h
 obtain⟨⟨⟨⟨h1,h2⟩,h3⟩,h4⟩,h5⟩:=h
 subst h2
 exact zfO (JT S h1) (Qn cf W e _ XP _ _ _ _ _ S T a h5).1 (zw h3) h4
theorem zfT(s i:Nat)(ie ve:IE):QS cf W (.set s i ie ve):=by
 intro X XP k sc N mp m np io S T B st g0
 simp only[IS.chk]at g0
 obtain⟨⟨tx,a,q⟩,eu,g1⟩:=zf g0
 obtain⟨⟨tn,b,p2⟩,et,g2⟩:=zf g1
 obtain⟨⟨x,p⟩,ex,h⟩:=zf g2
 cases Zp eu
 cases Wu et
 cases zR ex
 simp only[xa]at h
 obtain⟨⟨⟨⟨h1,h2⟩,h3⟩,h4⟩,h5⟩:=h
 exact zgj (JT S h1) (Qn cf W ie _ XP _ _ _ _ _ S T b h4).1 (Qn cf W ve _ XP _ _ _ _ _ S T a h5).1 (WM h3) JP (fun he hg=>yW he hg (WM h3) JP) (fun ho hi hs=>zfh ho hi hs (YO h2))
theorem Yd{X:Cx}{sc:Scope}{N:List Str}{x:Str}(S:XSc X sc N)(h:zb1 sc x=true):Loc X.env.scope x/\(X.fn x=true∨X.env.scope.names.lookup x=some .local):=by
 unfold zb1 at h
 simp only[xM,decide_eq_true_eq]at h
 rcases h with h | h
 ·exact⟨.inl (S.loc x h),.inr (S.loc x h)⟩
 ·exact⟨.inr (S.cel x h).1,.inl (S.cel x h).2⟩
theorem ze3{X:Cx}{sc:Scope}{N:List Str}{x:Str}{k:Nat}(S:XSc X sc N)(T:XW X cf W k)(h:zgl W sc x=true):∃ C,Kq X x C/\W.ex.contains x=true:=by
 unfold zgl at h
 simp only[xa]at h
 obtain⟨⟨h1,h2⟩,h3⟩:=h
 obtain⟨C,e1,e2⟩:=T.ex x h2
 exact⟨C,⟨S.glo x h1,e1,e2,Wi h3⟩,h2⟩
theorem zbK(x:Str):QS cf W (.raise x):=by
 intro X XP k sc N mp m np io S T B st g0
 simp only[IS.chk]at g0
 obtain⟨⟨ee,cz,p⟩,eu,g1⟩:=zf g0
 simp only[xa]at g1
 obtain⟨g1,g2⟩:=g1
 obtain⟨e,ee1,g3⟩:=zf g2
 obtain⟨⟨f,p1,a,p2⟩,ea,g4⟩:=zf g3
 simp only[xa,decide_eq_true_eq]at g4
 obtain⟨⟨h1,h2⟩,g5⟩:=g4
 obtain⟨⟨c,j,p3⟩,ec,g6⟩:=zf g5
 obtain⟨z,ez,_⟩:=zf g6
 cases Vy eu
 cases ee1
 cases zW ea
 cases jB ec
 cases ye ez
 subst h1
 cases cz with
 |some _=>cases g1
 |none=>
  obtain⟨C,k,_⟩:=ze3 S T h2
  exact zcK k T.calm B.rz
theorem XW.tried{X:Cx}{k:Nat}(T:XW X cf W k)(pins:List (Addr×Obj))(E:Value->Shared->Prop):XW (X.tried pins E) cf W k:=⟨T.bi,T.gi,T.gs,T.fn,T.rm,T.hk,T.calm,T.fx,T.ex,T.mr⟩
theorem XSc.tried{X:Cx}{sc:Scope}{N:List Str}(S:XSc X sc N)(pins:List (Addr×Obj))(E:Value->Shared->Prop):XSc (X.tried pins E) sc N:=⟨S.hN,S.vis,S.loc,S.cel,S.fre,S.glo⟩
theorem zfx(s i:Nat)(e:IE):QS cf W (.aug s i e):=by
 intro X XP k sc N mp m np io S T B st g0
 simp only[IS.chk]at g0
 obtain⟨⟨t,op,v,p⟩,eu,g1⟩:=zf g0
 obtain⟨⟨x,px⟩,ex,h⟩:=zf g1
 simp only[xa,decide_eq_true_eq]at h
 obtain⟨⟨⟨h1,h2⟩,h3⟩,h4⟩:=h
 cases K6 eu
 cases zR ex
 subst h1
 obtain⟨l1,l2⟩:=Yd S h3
 exact zgn (JT S h2) B.nd l1 l2 (Qn cf W e _ XP _ _ _ _ _ S T v h4).1
theorem zed(s i t j:Nat)(e:IE):QS cf W (.star s i t j e):=by
 intro X XP k sc N mp m np io S T B st g0
 simp only[IS.chk]at g0
 obtain⟨⟨tg,v,p⟩,eu,g1⟩:=zf g0
 obtain⟨⟨es,kk,p2⟩,et,g2⟩:=zf g1
 obtain⟨⟨a,b⟩,eab,g3⟩:=zf g2
 obtain⟨⟨x,px⟩,ex,g4⟩:=zf g3
 obtain⟨⟨c,pc⟩,ec,g5⟩:=zf g4
 obtain⟨⟨y,py⟩,ey,h⟩:=zf g5
 simp only[xa,decide_eq_true_eq]at h
 obtain⟨⟨⟨⟨⟨⟨⟨h1,h2⟩,h3⟩,h4⟩,h5⟩,h6⟩,h7⟩,h8⟩:=h
 cases Zp eu
 cases Wc et
 cases Qd eab
 cases zR ex
 cases Kb ec
 cases zR ey
 obtain⟨l1,l2⟩:=Yd S h3
 obtain⟨l3,l4⟩:=Yd S h6
 exact zdL T.calm B.nd B.mn (by rw[S.hN];exact h1) l1 l2 h2 (by rw[S.hN];exact h4) l3 l4 h5 (Qn cf W e _ XP _ _ _ _ _ S T v h8).1 (ZI h7) (jZ h7)
theorem zfn:QB cf W .nil:=by
 intro X XP k sc N mp m np io S T B e h
 cases e with
 |nil=>exact zfR
 |cons _ _=>simp[IB.chk]at h
theorem zgG{X:Cx}{XP:XPT}{mp io:List Nat}{st:Stmt}{f:SM}(h:SS X XP mp io st f):SB X XP mp io [st] f:=fun M0 F Γ ν σ H D rs hs hl hp=>(vF kF).wp (h M0 F Γ ν σ H D rs hs hl hp)
theorem zd7(s:IS)(b:IB)(ih_s:QS cf W s)(ih_b:QB cf W b):QB cf W (.cons s b):=by
 intro X XP k sc N mp m np io S T B e h
 cases e with
 |nil=>simp[IB.chk]at h
 |cons x xs=>
  simp only[IB.chk,xa]at h
  have h1:=ih_s _ XP _ _ _ _ _ _ _ S T B x h.1
  have h2:=ih_b _ XP _ _ _ _ _ _ _ S T B xs h.2
  cases b with
  |nil=>
   cases xs with
   |nil=>exact zgG h1
   |cons _ _=>simp[IB.chk]at h
  |cons s' b'=>exact zd8 h1 h2
theorem zaC(cf:CF)(W:Wd)(a:IB):QB cf W a :=
 IB.rec (motive_1:=QS cf W) (motive_2:=QB cf W) zeb zfz zgI zdz zez zga zd2 zg2 zgw zgr zfT zbK zfx zed zfn zd7 a
end
end L3
set_option maxHeartbeats 4000000
namespace L3
open PySem PySem.Spec PyProof.Rows L2
structure DefI where
 name:Str
 st:Stmt
 ps:List Str
 N:List Str
 mask:List Bool
 io:List Nat
 body:IB
noncomputable def outs:List Bool->Gv->List (Option OV)
 |[],_=> []
 |_::bs,[]=>none::outs bs []
 |b::bs,x::Γ=>(if b then x else none)::outs bs Γ
theorem wI:∀ (bs:List Bool) (Γ:Gv),(outs bs Γ).length=bs.length
 |[],_=>rfl
 |_::bs,[]=>by rw[outs,xl,wI,xl]
 |b::bs,x::Γ=>by rw[outs,xl,wI,xl]
theorem wF:∀ {bs:List Bool}{Γ:Gv}{j:Nat}{o:OV},(outs bs Γ)[j]?=some (some o)->bs[j]?=some true/\Γ[j]?=some (some o)
 |[],_,_,_,h=>by simp[outs]at h
 |b::bs,[],0,_,h=>by simp[outs]at h
 |b::bs,[],j+1,o,h=>by
  have:=wF (bs:=bs) (Γ:= []) (j:=j) (o:=o) (by simpa [outs] using h)
  simp at this
 |b::bs,x::Γ,0,o,h=>by
  simp only[outs,List.getElem?_cons_zero,Option.some.injEq]at h
  split at h
  ·rename_i hb;subst h;exact⟨by simp[hb],rfl⟩
  ·cases h
 |b::bs,x::Γ,j+1,o,h=>by
  have:=wF (bs:=bs) (Γ:=Γ) (j:=j) (o:=o) (by simpa [outs] using h)
  simpa using this
noncomputable def fin(mask:List Bool):R (FL×Gv)->RF
 |.ok (.ret o,Γ)=>.ok o (outs mask Γ)
 |.ok (.next,Γ)=>.ok (.d .none) (outs mask Γ)
 |.exc x _=>.exc x []
 |_=>.bad
noncomputable def DefI.run(d:DefI)(cf:CF)(args:List OV):RF:=if args.length=d.mask.length then fin d.mask (d.body.ex cf d.io (args.map some++List.replicate (d.N.length-d.mask.length) none)) else .bad
theorem DefI.run_len{d:DefI}{cf:CF}{args:List OV}{r:OV}{o:List (Option OV)}(h:d.run cf args=.ok r o):args.length=d.mask.length:=by
 unfold DefI.run at h
 split at h
 ·assumption
 ·cases h
theorem DefI.run_lenX{d:DefI}{cf:CF}{args:List OV}(h:d.run cf args≠ .bad):args.length=d.mask.length:=by
 unfold DefI.run at h
 split at h
 ·assumption
 ·exact absurd rfl h
noncomputable def ze(defs:List DefI):Nat->CF
 |0,_,_=>.bad
 |n+1,x,args=>match defs.find? fun d=>decide (d.name=x) with
  |some d=>d.run (ze defs n) args
  |none=>.bad
section
variable {M0:Addr->Prop} {F:Fp} {Γ:Gv} {ν:Nu} {H:Hp}
theorem RS.outs{o:OV}{v:V}{mask:List Bool}{us:List V}(r:RS M0 F (Γ++ [some o]) (ν++ [some v]) H)(hu:us.length=mask.length)(hν:∀ j:Nat,mask[j]?=some true->ν[j]?=(us[j]?).map some) :
  ∃ F',RS M0 F' (outs mask Γ++ [some o]) (us.map some++ [some v]) H/\Stp F H F' H:=by
 have hνl:ν.length=Γ.length:=by have:=r.len;simpa using this
 have hjl:∀ j:Nat,mask[j]?=some true->j<Γ.length:=fun j hj=>by
  have h1:j<us.length:=by rw[hu];exact (xc.mp hj).1
  have h2:=hν j hj
  rw[xb h1]at h2
  have:=(xc.mp h2).1
  omega
 let n:=mask.length
 let F':Fp:=fun j=>if j<n then (if mask[j]?=some true then F j else []) else if j=n then F Γ.length else []
 have g1:∀ j,j<n->mask[j]?=some true->F' j=F j:=fun j h1 h2=>by show (if j<n then _ else _)=_;rw[if_pos h1,if_pos h2]
 have g2:∀ j,j<n->mask[j]?≠some true->F' j= []:=fun j h1 h2=>by show (if j<n then _ else _)=_;rw[if_pos h1,if_neg h2]
 have g3:F' n=F Γ.length:=by show (if n<n then _ else _)=_;rw[if_neg (ue _),if_pos rfl]
 have g4:∀ j,n<j->F' j= []:=fun j h=>by show (if j<n then _ else _)=_;rw[if_neg (by omega),if_neg (by omega)]
 have cls:∀ j a,a∈F' j->(j<n/\mask[j]?=some true/\a∈F j)∨(j=n/\a∈F Γ.length):=fun j a h=>by
  by_cases h1:j<n
  ·by_cases h2:mask[j]?=some true
   ·rw[g1 j h1 h2]at h;exact .inl ⟨h1,h2,h⟩
   ·rw[g2 j h1 h2]at h;cases h
  ·by_cases h2:j=n
   ·subst h2;rw[g3]at h;exact .inr ⟨rfl,h⟩
   ·rw[g4 j (by omega)]at h;cases h
 have st:Stp F H F' H:=Zs fun j a h=>by
  rcases cls j a h with ⟨_,_,h⟩ | ⟨_,h⟩
  ·exact⟨_,h⟩
  ·exact⟨_,h⟩
 have hol:(L3.outs mask Γ).length=n:=wI _ _
 refine⟨F',⟨r.al0,fun j a h=>?_,fun j=>?_,fun j k a h1 h2=>?_,fun j p e=>?_,fun j h=>?_,by simp[hol,hu,n]⟩,st⟩
 ·rcases cls j a h with ⟨_,_,h⟩ | ⟨_,h⟩
  ·exact r.dis0 _ a h
  ·exact r.dis0 _ a h
 ·by_cases h1:j<n
  ·by_cases h2:mask[j]?=some true
   ·rw[g1 j h1 h2];exact r.nd _
   ·rw[g2 j h1 h2];exact .nil
  ·by_cases h2:j=n
   ·subst h2;rw[g3];exact r.nd _
   ·rw[g4 j (by omega)];exact .nil
 ·rcases cls j a h1 with ⟨l1,m1,z1⟩ | ⟨rfl,z1⟩
  ·rcases cls k a h2 with ⟨l2,m2,z2⟩ | ⟨rfl,z2⟩
   ·exact r.dis _ _ a z1 z2
   ·have:=r.dis _ _ a z1 z2;have:=hjl _ m1;omega
  ·rcases cls k a h2 with ⟨l2,m2,z2⟩ | ⟨rfl,z2⟩
   ·have:=r.dis _ _ a z1 z2;have:=hjl _ m2;omega
   ·rfl
 ·by_cases hj:j<n
  ·rw[xf (by omega)]at e
   obtain⟨hm,hg⟩:=wF e
   have hjj:=hjl j hm
   obtain⟨w,ew,q⟩:=r.at' j p (by rw[xf (by omega)];exact hg)
   rw[xf (by omega),hν j hm]at ew
   refine⟨w,?_,?_⟩
   ·rw[xf (by simp[hu];exact hj),xg];exact ew
   ·rw[g1 j hj hm];exact q.go (fun _ _ x=>zJ st r.al0 x) fun _ _=>rfl
  ·have hjn:j=n:=by
    have:=(xc.mp e).1
    simp[hol]at this;omega
   subst hjn
   rw[xh (by omega),hol]at e
   have:o=p:=by simpa using e
   subst this
   obtain⟨w,ew,q⟩:=r.at' Γ.length o (by rw[xh (xn _)];simp)
   rw[xh (by omega),hνl]at ew
   have:v=w:=by simpa using ew
   subst this
   refine⟨v,?_,?_⟩
   ·rw[xh (by simp[hu,n]),xk,hu];simp[n]
   ·rw[g3];exact q.go (fun _ _ x=>zJ st r.al0 x) fun _ _=>rfl
 ·by_cases hj:j<n
  ·by_cases hm:mask[j]?=some true
   ·rw[g1 j hj hm]
    have hjj:=hjl j hm
    refine r.emp j fun p ep=>?_
    rw[xf (by omega)]at ep
    refine h p ?_
    rw[xf (by omega)]
    exact outs_put hm ep
   ·exact g2 j hj hm
  ·by_cases hjn:j=n
   ·subst hjn
    exact absurd (by rw[xh (by omega),hol];simp[n]) (h o)
   ·exact g4 j (by omega)
where
 outs_put:∀ {bs:List Bool} {Γ:Gv} {j:Nat} {o:OV},bs[j]?=some true->Γ[j]?=some (some o)->(L3.outs bs Γ)[j]?=some (some o)
  |[],_,_,_,h,_=>by simp at h
  |b::bs,[],_,_,_,h=>by simp at h
  |b::bs,x::Γ,0,o,h,e=>by
   simp at h e
   subst h e
   simp[L3.outs]
  |b::bs,x::Γ,j+1,o,h,e=>by
   have:=outs_put (bs:=bs) (Γ:=Γ) (j:=j) (o:=o) (by simpa using h) (by simpa using e)
   simpa [L3.outs] using this
end
noncomputable def JW(N ps:List Str)(sc:Scope):Bool:=decide (sc.kind=.function)&& !sc.isCoroutine&& !sc.isGenerator&&decide N.Nodup&&decide (N.take ps.length=ps)&&ps.all (fun x=>decide (sc.names.lookup x=some .local)||decide (sc.names.lookup x=some .cell))&&sc.names.all (fun y=>decide (y.2≠ .free))
theorem jY{N ps:List Str}{sc:Scope}(h:JW N ps sc=true):qN N ps sc:=by
 unfold JW at h
 simp only[xa,decide_eq_true_eq,xD,xM,Bool.not_eq_true']at h
 obtain⟨⟨⟨⟨⟨⟨h1,h2⟩,h3⟩,h4⟩,h5⟩,h6⟩,h7⟩:=h
 exact⟨h1,h2,h3,h4,h5,h6,h7⟩
noncomputable def DefI.ok(W:Wd)(d:DefI):Bool:=JW d.N d.ps (defScope d.st)&&decide (d.ps.length=d.mask.length)&&d.io.all (fun i=>decide (d.mask[i]?=some true))&&(List.range d.mask.length).all (fun j=>decide (d.mask[j]?≠some true)||d.io.contains j)
 && d.body.chk W (defScope d.st) d.N (List.range d.N.length) d.N.length d.mask.length (defBody d.st)
structure WK(P:Program)(w:World)(K:PySem.W.Frag)(mg:Str->Option Value)(base:Heap)(cf:CF)(W:Wd)(k:Nat):Prop where
 bi:∀ x,W.bi.contains x=true->mg x=none
 gi:∀ x i,W.gi.contains (x,i)=true->∃ t,mg x=some (.int i t)
 gs:∀ x i,W.gs.contains (x,i)=true->∃ t,mg x=some (.str i t)
 fn:∀ x n,W.fl.contains (x,n)=true->Kn P w K mg base CX0 x k (spI n (cf x))/\∀ args r outs,cf x args=.ok r outs->args.length=n
 fx:∀ x n,W.fx.contains (x,n)=true->Kn P w K mg base (CX1 P w) x k (spX mg n (cf x))/\∀ args,cf x args≠ .bad->args.length=n
 ex:∀ x,W.ex.contains x=true->∃ C,mg x=some (.ref C)/\PySem.W.excIn K C bmV "ValueError.__new__" =true
 mr:∀ x C y C2,W.ex.contains x=true->mg x=some (.ref C)->W.ex.contains y=true->mg y=some (.ref C2)->(mroIn K C).contains (.ref C2)=decide (x=y)
section
variable {P:Program} {w:World} {K:PySem.W.Frag} {mg:Str->Option Value} {base:Heap} {cf:CF} {W:Wd} {k:Nat}
theorem zcm{N:List Str}{x:Str}{sc:Scope}{f:Addr}{cdv:Value}{A:Around}{outer:List Env}{s:Shared}{H:Hp}{E:XK}:XSc (ZN CX0 P w K mg base N x sc f cdv A outer s H E).nox sc N where
 hN:=rfl
 vis x h:=by
  unfold zbX at h
  simp only[xM,decide_eq_true_eq]at h
  rcases h with (h | h) | h
  ·exact .inl h
  ·exact .inr (.inl h)
  ·exact .inr (.inr h)
 loc x h:=h
 cel x h:=⟨h,rfl⟩
 fre x h:=.inr h
 glo x h:=by
  unfold VE at h
  simp only[decide_eq_true_eq]at h
  exact h
theorem zdh{N:List Str}{x:Str}{sc:Scope}{f:Addr}{cdv:Value}{A:Around}{outer:List Env}{s:Shared}{H:Hp}{E:XK}:XSc (ZN (CX1 P w) P w K mg base N x sc f cdv A outer s H E) sc N where
 hN:=rfl
 vis x h:=by
  unfold zbX at h
  simp only[xM,decide_eq_true_eq]at h
  rcases h with (h | h) | h
  ·exact .inl h
  ·exact .inr (.inl h)
  ·exact .inr (.inr h)
 loc x h:=h
 cel x h:=⟨h,rfl⟩
 fre x h:=.inr h
 glo x h:=by
  unfold VE at h
  simp only[decide_eq_true_eq]at h
  exact h
theorem Y9{n:Nat}{ν:Nu}:Sees (List.range n) ν ν:=fun s i v e1 e2=>by
 have hs:s<n:=by
  have:=(xc.mp e1).1
  simpa using this
 rw[xY hs]at e1
 cases e1
 exact e2
theorem zf1{d:DefI}(D:Df K mg d.name d.st d.ps)(hok:d.ok W=true)(T:WK P w K mg base cf W k)(hk:1<=k):Kn P w K mg base CX0 d.name (k+1) (spI d.mask.length (d.run cf)):=by
 unfold DefI.ok at hok
 simp only[xa,decide_eq_true_eq,xD,xM]at hok
 obtain⟨⟨⟨⟨h1,h2⟩,h3⟩,h4⟩,h5⟩:=hok
 have S:=jY h1
 have hNl:d.mask.length<=d.N.length:=by
  have:=congrArg List.length S.pre
  rw[xW]at this;omega
 refine D.kn S (fun vs H Q E h=>by rw[h.1,h2]) fun f cdv A outer s H vs Q E hr hsp=>?_
 obtain⟨hv,M0,F,args,rs,hm⟩:=hsp
 have hal:args.length=d.mask.length:=by have:=rs.len;simpa [hv] using this.symm
 have rs1:=rs.ext (d.N.length-d.mask.length)
 have hst:L2.start d.N vs=vs.map some++List.replicate (d.N.length-d.mask.length) none:=by unfold L2.start;rw[hv]
 rw[hst]
 have hsl:(vs.map some++List.replicate (d.N.length-d.mask.length) none:L2.St).length=d.N.length:=by simp[hv];omega
 refine zaC cf W d.body (ZN CX0 P w K mg base d.N d.name (defScope d.st) f cdv A outer s H E).nox XP0 k (defScope d.st) d.N (List.range d.N.length) d.N.length d.mask.length d.io zcm
  ⟨T.bi,T.gi,T.gs,T.fn,hr,hk,rfl,T.fx,T.ex,T.mr⟩ ⟨PassesOwn.never,S.nd,uT,fun i hi=>?_,(fun _ _ _ _ _ _ h=>h.elim),rfl,rfl⟩ (defBody d.st) h5 M0 F _ _ _ H _ rs1 Y9 hsl ?_
 ·exact (xc.mp (h3 i hi)).1
 ·have back:∀ {F':Fp} {Γ':Gv} {ν':Nu} {o:OV} {v:V} {H':Hp},RS M0 F' (Γ'++ [some o]) (ν'++ [some v]) H'->(∀ i∈d.io,ν'[i]?=(vs.map some++List.replicate (d.N.length-d.mask.length) none:Nu)[i]?)->Stp F H F' H' ->
    (∀ F' v H',RS M0 F' (outs d.mask Γ'++ [some o]) (vs.map some++ [some v]) H'->Stp F H F' H'->Q v H')->Q v H':=fun {F' Γ' ν' o v H'} r' hn s' hq=>by
   obtain⟨F2,r2,s2⟩:=r'.outs hv fun j hj=>by
    have hjl:j<d.mask.length:=(xc.mp hj).1
    have hjm:j∈d.io:=by
     rcases h4 j (xE.mpr hjl)with z | z
     ·exact absurd hj z
     ·simpa using z
    rw[hn j hjm,xf (by simp[hv];exact hjl),xg]
   exact hq F2 v H' r2 (s'.trans s2)
  unfold DefI.run at hm
  rw[if_pos hal]at hm
  generalize d.body.ex cf d.io (args.map some++List.replicate (d.N.length-d.mask.length) none)=rr at hm
  cases rr with
  |bad=>exact hm.elim
  |exc x y=>exact hm.elim
  |ok z=>
   obtain⟨fl,Γ'⟩:=z
   cases fl with
   |brk=>exact hm.elim
   |cnt=>exact hm.elim
   |next=>
    intro F' ν' σ' H' r' s' hs' hl' hn
    exact back (r'.newD .none) hn s' hm
   |ret o=>
    intro F' ν' v H' r' s' hn
    exact back r' hn s' hm
theorem zei{d:DefI}(D:Df K mg d.name d.st d.ps)(hok:d.ok W=true)(T:WK P w K mg base cf W k)(hk:1<=k):Kn P w K mg base (CX1 P w) d.name (k+1) (spX mg d.mask.length (d.run cf)):=by
 unfold DefI.ok at hok
 simp only[xa,decide_eq_true_eq,xD,xM]at hok
 obtain⟨⟨⟨⟨h1,h2⟩,h3⟩,h4⟩,h5⟩:=hok
 have S:=jY h1
 have hNl:d.mask.length<=d.N.length:=by
  have:=congrArg List.length S.pre
  rw[xW]at this;omega
 refine D.knX S (fun vs H Q E h=>by rw[h.1,h2]) fun f cdv A outer s H vs Q E hr hsp=>?_
 obtain⟨hv,M0,F,args,rs,hm⟩:=hsp
 have hal:args.length=d.mask.length:=by have:=rs.len;simpa [hv] using this.symm
 have rs1:=rs.ext (d.N.length-d.mask.length)
 have hst:L2.start d.N vs=vs.map some++List.replicate (d.N.length-d.mask.length) none:=by unfold L2.start;rw[hv]
 rw[hst]
 have hsl:(vs.map some++List.replicate (d.N.length-d.mask.length) none:L2.St).length=d.N.length:=by simp[hv];omega
 refine zaC cf W d.body (ZN (CX1 P w) P w K mg base d.N d.name (defScope d.st) f cdv A outer s H E) (fun x _ _ _ _ H'=>∀ C,mg x.cls=some (.ref C)->E (.ref C) none H') k (defScope d.st) d.N (List.range d.N.length) d.N.length d.mask.length d.io zdh
  ⟨T.bi,T.gi,T.gs,T.fn,hr,hk,rfl,T.fx,T.ex,T.mr⟩ ⟨PassesOwn.leaving,S.nd,uT,fun i hi=>?_,(fun x Γ F ν σ H' h C hC pins s1 I h' ea args hm=>VM I rfl rfl rfl hm (h C hC)),rfl,rfl⟩ (defBody d.st) h5 M0 F _ _ _ H _ rs1 Y9 hsl ?_
 ·exact (xc.mp (h3 i hi)).1
 ·have back:∀ {F':Fp} {Γ':Gv} {ν':Nu} {o:OV} {v:V} {H':Hp},RS M0 F' (Γ'++ [some o]) (ν'++ [some v]) H'->(∀ i∈d.io,ν'[i]?=(vs.map some++List.replicate (d.N.length-d.mask.length) none:Nu)[i]?)->Stp F H F' H' ->
    (∀ F' v H',RS M0 F' (outs d.mask Γ'++ [some o]) (vs.map some++ [some v]) H'->Stp F H F' H'->Q v H')->Q v H':=fun {F' Γ' ν' o v H'} r' hn s' hq=>by
   obtain⟨F2,r2,s2⟩:=r'.outs hv fun j hj=>by
    have hjl:j<d.mask.length:=(xc.mp hj).1
    have hjm:j∈d.io:=by
     rcases h4 j (xE.mpr hjl)with z | z
     ·exact absurd hj z
     ·simpa using z
    rw[hn j hjm,xf (by simp[hv];exact hjl),xg]
   exact hq F2 v H' r2 (s'.trans s2)
  unfold DefI.run at hm
  rw[if_pos hal]at hm
  generalize d.body.ex cf d.io (args.map some++List.replicate (d.N.length-d.mask.length) none)=rr at hm
  cases rr with
  |bad=>exact hm.elim
  |exc x y=>exact fun F' ν' σ' H' r' s' _ _ _ C hC=>hm C hC F' H' s'
  |ok z=>
   obtain⟨fl,Γ'⟩:=z
   cases fl with
   |brk=>exact hm.elim
   |cnt=>exact hm.elim
   |next=>
    intro F' ν' σ' H' r' s' hs' hl' hn
    exact back (r'.newD .none) hn s' hm
   |ret o=>
    intro F' ν' v H' r' s' hn
    exact back r' hn s' hm
theorem zgM{d:DefI}(D:Df K mg d.name d.st d.ps)(S:qN d.N d.ps (defScope d.st))(h2:d.ps.length=d.mask.length):Kn P w K mg base CX0 d.name 1 (spI d.mask.length fun _=>.bad) :=
 D.kn (k:=0) S (fun vs H Q E h=>by rw[h.1,h2]) fun f cdv A outer s H vs Q E hr hsp=>by
  obtain⟨hv,M0,F,args,rs,hm⟩:=hsp
  exact hm.elim
theorem zey{d:DefI}(D:Df K mg d.name d.st d.ps)(S:qN d.N d.ps (defScope d.st))(h2:d.ps.length=d.mask.length):Kn P w K mg base (CX1 P w) d.name 1 (spX mg d.mask.length fun _=>.bad) :=
 D.knX (k:=0) S (fun vs H Q E h=>by rw[h.1,h2]) fun f cdv A outer s H vs Q E hr hsp=>by
  obtain⟨hv,M0,F,args,rs,hm⟩:=hsp
  exact hm.elim
theorem wk_all{defs:List DefI}(hd:∀ d∈defs,Df K mg d.name d.st d.ps/\d.ok W=true)(hfl:∀ x n,W.fl.contains (x,n)=true->∃ d,defs.find? (fun d=>decide (d.name=x))=some d/\d.mask.length=n)(hbi:∀ x,W.bi.contains x=true->mg x=none)
  (hgi:∀ x i,W.gi.contains (x,i)=true->∃ t,mg x=some (.int i t)) (hgs:∀ x i,W.gs.contains (x,i)=true->∃ t,mg x=some (.str i t)) (hfx:∀ x n,W.fx.contains (x,n)=true->∃ d,defs.find? (fun d=>decide (d.name=x))=some d/\d.mask.length=n)
  (hex:∀ x,W.ex.contains x=true->∃ C,mg x=some (.ref C)/\PySem.W.excIn K C bmV "ValueError.__new__" =true) (hmr:∀ x C y C2,W.ex.contains x=true->mg x=some (.ref C)->W.ex.contains y=true->mg y=some (.ref C2)->(mroIn K C).contains (.ref C2)=decide (x=y)):∀ n,WK P w K mg base (ze defs n) W (n+1)
 |0=>⟨hbi,hgi,hgs,fun x n h=>by
   obtain⟨d,e,hl⟩:=hfl x n h
   have hmem:=ur e
   have hnm:d.name=x:=by simpa using uJ e
   subst hnm hl
   obtain⟨D,ok⟩:=hd d hmem
   unfold DefI.ok at ok
   simp only[xa,decide_eq_true_eq]at ok
   exact⟨zgM D (jY ok.1.1.1.1) ok.1.1.1.2,fun args r outs e=>by cases e⟩,fun x n h=>by
   obtain⟨d,e,hl⟩:=hfx x n h
   have hmem:=ur e
   have hnm:d.name=x:=by simpa using uJ e
   subst hnm hl
   obtain⟨D,ok⟩:=hd d hmem
   unfold DefI.ok at ok
   simp only[xa,decide_eq_true_eq]at ok
   exact⟨zey D (jY ok.1.1.1.1) ok.1.1.1.2,fun args e=>absurd rfl e⟩,hex,hmr⟩
 |n+1=>⟨hbi,hgi,hgs,fun x m h=>by
   obtain⟨d,e,hl⟩:=hfl x m h
   have hmem:=ur e
   have hnm:d.name=x:=by simpa using uJ e
   obtain⟨D,ok⟩:=hd d hmem
   have ih:=wk_all hd hfl hbi hgi hgs hfx hex hmr n
   have ec:ze defs (n+1) x=d.run (ze defs n):=by
    funext args
    rw[ze,e]
   subst hnm hl
   rw[ec]
   exact⟨zf1 D ok ih (Nat.le_add_left 1 n),fun args r outs e=>DefI.run_len e⟩,fun x m h=>by
   obtain⟨d,e,hl⟩:=hfx x m h
   have hmem:=ur e
   have hnm:d.name=x:=by simpa using uJ e
   obtain⟨D,ok⟩:=hd d hmem
   have ih:=wk_all hd hfl hbi hgi hgs hfx hex hmr n
   have ec:ze defs (n+1) x=d.run (ze defs n):=by
    funext args
    rw[ze,e]
   subst hnm hl
   rw[ec]
   exact⟨zei D ok ih (Nat.le_add_left 1 n),fun args e=>DefI.run_lenX e⟩,hex,hmr⟩
noncomputable def Zy(cells:List Int)(i l t s:Int):OV:=.l [.d (.list (cells.map .int)),.d (.int i),.d (.int l),.d (.int t),.d (.int s)]
theorem law_ok {st:Stmt}{fa:Addr}{fd:FuncData}{N:List Str}{x:Str}{kb:Nat}{body:IB}{rest:List Stmt}{pos' p3 p2 p pos:Pos}(Fn:Fun K "law" "law" st fa fd) (hS:JW N ["_law_script"] (defScope st)=true) (hkb:Kn P w K mg base CX0 "_law_box" kb (zay K)) (hkb2:kb<=k) (T:WK P w K mg base cf W k) (hk:1<=k)
  (hb:defBody st=.Assign [.Name x pos'] (.Call (.Name "_law_box" p3) [.Name "_law_script" p2] [] p) pos::rest) (hN0:N[0]?=some ("_law_script" :Str)) (hN1:N[1]?=some x) (hv0:(defScope st).names.lookup ("_law_script" :Str)=some .local) (hx:Loc (defScope st) x) (hg:(defScope st).names.lookup ("_law_box" :Str)=some .globalImplicit)
  (hchk:body.chk W (defScope st) N (List.range N.length) N.length 0 rest=true)
  (hrun:∀ (cells:List Int) (i l t s:Int),0<=i->∃ Γ',body.ex cf [] (none::some (Zy cells i l t s)::List.replicate (N.length-2) none)=.ok (.ret (.d (.bool true)),Γ')):we P w K mg base CX0 (k+1) fa fd ["_law_script"] (Y8 K):=by
 have S:=jY hS
 refine Fn.law S fun cdv A outer s H Q E a ns hr hSq hlen kk=>?_
 have hl2:2<=N.length:=by have:=(xc.mp hN1).1;omega
 rw[hb]
 refine zfW (X:=(ZN CX0 P w K mg base N "law" (defScope st) fa cdv A outer s H E).nox) (N:=N) S.nd hkb (hr.mono hkb2) hSq hlen (fun b σ1 H1 s1 nb hB rs1 l1=>?_) rfl hN0 hN1 (.inl hv0) hx (.inl rfl) hg rfl rfl
 obtain⟨c,cells,i,l,t,sd,B⟩:=hB
 have hσ:σ1[1]?=some (some (.ref b)):=rs1.av 1 (.ref b) (by
  rw[xt]
  simp
  exact hl2)
 have hF:∀ j a,a∈jz (fun _=> []) 1 [b] j->j=1/\a=b:=fun j a h=>by
  by_cases hj:j=1
  ·subst hj;rw[zF]at h;exact⟨rfl,by simpa using h⟩
  ·rw[zN hj]at h;cases h
 have hM:∀ a,MM zC (jz (fun _=> []) 1 [b]) a->a=b:=fun a h=>by
  rcases h with h | ⟨j,h⟩
  ·exact h.elim
  ·exact (hF j a h).2
 have rs:RS zC (jz (fun _=> []) 1 [b]) (none::some (Zy cells i l t sd)::List.replicate (N.length-2) none) (none::some (.ref b)::List.replicate (N.length-2) none) H1:=by
  refine⟨fun a h=>h.elim,fun j a h z=>z,fun j=>?_,fun j k a h1 h2=>by rw[(hF j a h1).1,(hF k a h2).1],fun j o e=>?_,fun j h=>?_,by simp⟩
  ·by_cases hj:j=1
   ·subst hj;rw[zF];exact xB.mpr ⟨(fun z=>nomatch z),.nil⟩
   ·rw[zN hj];exact .nil
  ·match j,e with
   |0,e=>simp at e
   |1,e=>
    have e':Zy cells i l t sd=o:=by simpa using e
    subst e'
    refine⟨.ref b,rfl,?_⟩
    rw[zF]
    refine .l B.hb (.cons (A:= []) (.d (B.hc.less fun a ha _=>hM a ha)) (.cons (A:= []) (.d (.int _)) (.cons (A:= []) (.d (.int _)) (.cons (A:= []) (.d (.int _)) (.cons (A:= []) (.d (.int _)) .nil)))))
   |j+2,e=>
    rw[ux,ux,xS]at e
    split at e<;>cases e
  ·by_cases hj:j=1
   ·subst hj;exact absurd rfl (h (Zy cells i l t sd))
   ·rw[zN hj]
 have sees:Sees (List.range N.length) (none::some (.ref b)::List.replicate (N.length-2) none) σ1:=fun s' j v e1 e2=>by
  have hs:s'<N.length:=by
   have:=(xc.mp e1).1
   simpa using this
  rw[xY hs]at e1
  cases e1
  match s',e2 with
  |0,e2=>simp at e2
  |1,e2=>
   have:V.ref b=v:=by simpa using e2
   subst this;exact hσ
  |j+2,e2=>
   rw[ux,ux,xS]at e2
   split at e2<;>cases e2
 obtain⟨Γ',er⟩:=hrun cells i l t sd B.hi
 refine zaC cf W body (ZN CX0 P w K mg base N "law" (defScope st) fa cdv A outer s H E).nox XP0 k (defScope st) N (List.range N.length) N.length 0 [] zcm ⟨T.bi,T.gi,T.gs,T.fn,hr,hk,rfl,T.fx,T.ex,T.mr⟩ ⟨PassesOwn.never,S.nd,uT,(fun i hi=>nomatch hi),(fun _ _ _ _ _ _ h=>h.elim),rfl,rfl⟩ rest hchk zC _ _ _ σ1 H1 _ rs sees l1 ?_
 rw[er]
 intro F' ν' v H' r' s' hn
 obtain⟨w',ew,q⟩:=r'.at' Γ'.length (.d (.bool true)) (by rw[xh (xn _)];simp)
 have hlen:=r'.len
 have hνl:ν'.length=Γ'.length:=by simpa using hlen
 rw[xh (by omega),hνl]at ew
 have:v=w':=by simpa using ew
 subst this
 generalize F' Γ'.length=Az at q
 cases q with
 |d q=>cases q;exact kk H'
end
end L3
namespace Wx
open PySem L2 L3
noncomputable def p_lacking_1:IC:=(.one (.cmp .Gt (.ix (.var 3 5) (.var 4 1)) (.ix (.var 1 3) (.var 4 1))))
noncomputable def p_lacking_2:IE:=(.var 0 2)
noncomputable def QK:IB:=(.cons (.ret (.own (.comp 2 4 [1] ["at","stain","waxed","wish","dye"] (.tp (.cons (.nm 0 2) (.cons (.tp (.cons (.nm 1 3) (.cons (.nm 2 4) (.cons (.nm 3 5) .nil)))) .nil))) (.enum (.var 0 0)) p_lacking_1 p_lacking_2))) .nil)
noncomputable def p_needed_1:IC:=(.one (.call (.call "lacking" 2 (.cons (.var 1 0) (.cons (.var 0 2) .nil)))))
noncomputable def p_needed_2:IE:=(.var 0 2)
noncomputable def Qc:IB:=(.cons (.ite (.not (.var 0 0)) (.cons (.ret (.own (.lst .nil))) .nil) .nil) (.cons (.asg 1 1 (.dat (.len (.ix (.ix (.var 0 0) (.cint 0)) (.cint 0))))) (.cons (.ret (.own (.comp 2 1 [0] ["dye","bolt"] (.nm 0 2) (.range (.var 1 1)) p_needed_1 p_needed_2))) .nil)))
noncomputable def Ze:IB:=(.cons (.ret (.dat (.and (.isi "int" (.var 0 0)) (.not (.isi "bool" (.var 0 0)))))) .nil)
noncomputable def b_law_wholes_1:IE:=(.call (.call "_law_whole" 1 (.cons (.var 0 1) .nil)))
noncomputable def jN:IB:=(.cons (.ret (.dat (.and (.isi "list" (.var 0 0)) (.all (.new (.comp 1 1 [] ["_law_one"] (.nm 0 1) (.list (.var 0 0)) .yes b_law_wholes_1)))))) .nil)
noncomputable def j2:IB:=(.cons (.asg 2 2 (.dat (.bin .Mod (.bin .Add (.bin .Add (.bin .Mult (.var 0 0) (.cint 48271)) (.bin .Mult (.var 1 1) (.cint 69621))) (.cint 12345)) (.cint 2147483647)))) (.cons (.asg 3 3 (.dat (.bin .Mod (.bin .Add (.bin .Add (.bin .Mult (.var 2 2) (.bin .Add (.bin .Mod (.var 2 2) (.cint 65521)) (.cint 7))) (.bin .Mult (.var 1 1) (.cint 40692))) (.bin .Mod (.var 0 0) (.cint 104729))) (.cint 998244353)))) (.cons (.ret (.dat (.bin .FloorDiv (.var 3 3) (.cint 7)))) .nil)))
noncomputable def qL:IB:=(.cons (.set 0 0 (.cint 3) (.bin .Add (.ix (.var 0 0) (.cint 3)) (.cint 1))) (.cons (.ite (.cmp .Gt (.ix (.var 0 0) (.cint 2)) (.cint 0)) (.cons (.asg 2 2 (.dat (.ix (.var 0 0) (.cint 2)))) (.cons (.set 0 0 (.cint 2) (.bin .FloorDiv (.var 2 2) (.var 1 1))) (.cons (.ret (.dat (.bin .Mod (.var 2 2) (.var 1 1)))) .nil))) .nil) (.cons (.ite (.cmp .GtE (.ix (.var 0 0) (.cint 1)) (.len (.ix (.var 0 0) (.cint 0)))) (.cons (.ret (.dat (.bin .Mod (.call (.call "_law_mixed" 2 (.cons (.ix (.var 0 0) (.cint 4)) (.cons (.ix (.var 0 0) (.cint 3)) .nil)))) (.var 1 1)))) .nil) .nil) (.cons (.asg 3 3 (.dat (.ix (.ix (.var 0 0) (.cint 0)) (.ix (.var 0 0) (.cint 1))))) (.cons (.set 0 0 (.cint 1) (.bin .Add (.ix (.var 0 0) (.cint 1)) (.cint 1))) (.cons (.ite (.cmp .Lt (.var 3 3) (.bin .Pow (.cint 10) (.cint 18))) (.cons (.ret (.dat (.bin .Mod (.call (.call "_law_mixed" 2 (.cons (.var 3 3) (.cons (.ix (.var 0 0) (.cint 3)) .nil)))) (.var 1 1)))) .nil) .nil) (.cons (.set 0 0 (.cint 2) (.bin .FloorDiv (.var 3 3) (.var 1 1))) (.cons (.ret (.dat (.bin .Mod (.var 3 3) (.var 1 1)))) .nil))))))))
noncomputable def b_law_lacks_1:IE:=(.tup (.cons (.call (.call "_law_take" 2 (.io 1 0 (.cons (.bin .Add (.var 2 2) (.cint 1)) .nil)))) (.cons (.call (.call "_law_take" 2 (.io 1 0 (.cons (.bin .Add (.var 2 2) (.cint 1)) .nil)))) .nil)))
noncomputable def b_law_lacks_2:IB:=(.cons (.ite (.cmp .Eq (.var 3 3) (.cint 0)) (.cons (.app 7 7 (.cmp .Eq (.call (.call "_law_take" 2 (.io 0 0 (.cons (.cint 2) .nil)))) (.cint 1))) .nil) (.cons (.ite (.cmp .Eq (.var 3 3) (.cint 1)) (.cons (.app 7 7 (.chain .LtE .Lt (.min (.var 8 8) (.var 9 9)) (.var 6 6) (.max (.var 8 8) (.var 9 9)))) .nil) (.cons (.ite (.cmp .Eq (.var 3 3) (.cint 2)) (.cons (.app 7 7 (.cmp .Lt (.var 6 6) (.var 8 8))) .nil) (.cons (.app 7 7 (.cmp .NotEq (.cmp .Lt (.var 6 6) (.var 8 8)) (.cmp .Eq (.var 6 6) (.var 9 9)))) .nil)) .nil)) .nil)) .nil)
noncomputable def b_law_lacks_3:IB:=(.cons (.asg 7 7 (.own (.lst .nil))) (.cons (.loop (.tp (.cons (.nm 8 8) (.cons (.nm 9 9) .nil))) (.list (.var 4 4)) b_law_lacks_2) (.cons (.app 5 5 (.frz 7 7)) .nil)))
noncomputable def Zh:IB:=(.cons (.asg 3 3 (.dat (.call (.call "_law_take" 2 (.io 0 0 (.cons (.cint 4) .nil)))))) (.cons (.asg 4 4 (.dat (.new (.comp 10 1 [0,2] ["_law_dye","_law_box_here","_law_size"] (.nm 0 10) (.range (.var 1 1)) .yes b_law_lacks_1)))) (.cons (.asg 5 5 (.own (.lst .nil))) (.cons (.loop (.nm 6 6) (.range (.var 2 2)) b_law_lacks_3) (.cons (.ret (.move 5 5)) .nil)))))
noncomputable def b_law_cell_1:IB:=(.cons (.asg 7 7 (.dat (.call (.call "_law_take" 2 (.io 0 0 (.cons (.cint 9) .nil)))))) (.cons (.app 4 4 (.var 7 7)) (.cons (.app 5 5 (.bin .Add (.var 7 7) (.int (.var 6 6)))) (.cons (.ite (.and (.cmp .Gt (.var 2 2) (.cint 0)) (.cmp .Eq (.call (.call "_law_take" 2 (.io 0 0 (.cons (.var 2 2) .nil)))) (.cint 0))) (.cons (.set 4 4 (.neg (.cint 1)) (.call (.call "_law_take" 2 (.io 0 0 (.cons (.cint 10) .nil))))) (.cons (.set 5 5 (.neg (.cint 1)) (.call (.call "_law_take" 2 (.io 0 0 (.cons (.cint 10) .nil))))) .nil)) .nil) .nil))))
noncomputable def jS:IB:=(.cons (.asg 4 4 (.own (.lst .nil))) (.cons (.asg 5 5 (.own (.lst .nil))) (.cons (.loop (.nm 6 6) (.list (.var 1 1)) b_law_cell_1) (.cons (.ret (.dat (.tup (.cons (.tuple (.var 4 4)) (.cons (.and (.cmp .Gt (.var 3 3) (.cint 0)) (.cmp .Lt (.call (.call "_law_take" 2 (.io 0 0 (.cons (.cint 5) .nil)))) (.var 3 3))) (.cons (.tuple (.var 5 5)) .nil)))))) .nil))))
noncomputable def b_law_bolt_1:IE:=(.call (.call "_law_cell" 4 (.io 1 0 (.cons (.var 0 6) (.cons (.var 2 3) (.cons (.var 3 4) .nil))))))
noncomputable def ZV:IB:=(.cons (.asg 4 4 (.dat (.call (.call "_law_take" 2 (.io 0 0 (.cons (.cint 4) .nil)))))) (.cons (.asg 5 5 (.dat (.call (.call "_law_lacks" 3 (.io 0 0 (.cons (.var 1 1) (.cons (.var 2 2) .nil))))))) (.cons (.ret (.own (.comp 6 1 [0,3,4] ["_law_row","_law_box_here","_law_loose","_law_wet"] (.nm 0 6) (.list (.var 5 5)) .yes b_law_bolt_1))) .nil)))
noncomputable def jo:IB:=(.cons (.ite (.cmp .Eq (.call (.call "_law_take" 2 (.io 0 0 (.cons (.cint 8) .nil)))) (.cint 0)) (.cons (.ret (.dat (.tup (.cons (.call (.call "_law_take" 2 (.io 0 0 (.cons (.cint 13) .nil)))) (.cons (.call (.call "_law_take" 2 (.io 0 0 (.cons (.cint 41) .nil)))) .nil))))) .nil) .nil) (.cons (.ret (.dat (.tup (.cons (.call (.call "_law_take" 2 (.io 0 0 (.cons (.cint 7) .nil)))) (.cons (.call (.call "_law_take" 2 (.io 0 0 (.cons (.cint 9) .nil)))) .nil))))) .nil))
noncomputable def b_law_lack_1:IC:=(.one (.cmp .Gt (.ix (.ix (.ix (.var 1 0) (.var 0 2)) (.cint 2)) (.var 2 1)) (.ix (.ix (.ix (.var 1 0) (.var 0 2)) (.cint 0)) (.var 2 1))))
noncomputable def b_law_lack_2:IE:=(.var 0 2)
noncomputable def ZO:IB:=(.cons (.ret (.own (.comp 2 1 [0,1] ["_law_at","_law_rows","_law_dye"] (.nm 0 2) (.range (.len (.var 0 0))) b_law_lack_1 b_law_lack_2))) .nil)
noncomputable def b_law_need_1:IC:=(.one (.cmp .Gt (.len (.call (.call "_law_lack" 2 (.cons (.var 1 0) (.cons (.var 0 2) .nil))))) (.cint 0)))
noncomputable def b_law_need_2:IE:=(.var 0 2)
noncomputable def ZW:IB:=(.cons (.ret (.own (.comp 2 1 [0] ["_law_dye","_law_rows"] (.nm 0 2) (.range (.var 1 1)) b_law_need_1 b_law_need_2))) .nil)
noncomputable def p_bars_1:IB:=(.cons (.asg 8 8 (.dat (.call (.call "bar_word" 2 (.cons (.bin .Sub (.ix (.var 6 6) (.var 7 7)) (.ix (.var 4 4) (.var 7 7))) (.cons (.ix (.var 1 1) (.var 7 7)) .nil)))))) (.cons (.ite (.cmp .IsNot (.var 8 8) .cnone) (.cons (.app 2 2 (.tup (.cons (.var 8 8) (.cons (.var 3 3) (.cons (.var 7 7) .nil))))) .nil) .nil) .nil))
noncomputable def p_bars_2:IB:=(.cons (.loop (.nm 7 7) (.range (.len (.var 4 4))) p_bars_1) .nil)
noncomputable def yN:IB:=(.cons (.asg 2 2 (.own (.lst .nil))) (.cons (.loop (.tp (.cons (.nm 3 3) (.cons (.tp (.cons (.nm 4 4) (.cons (.nm 5 5) (.cons (.nm 6 6) .nil)))) .nil))) (.enum (.var 0 0)) p_bars_2) (.cons (.ret (.move 2 2)) .nil)))
noncomputable def qJ:IB:=(.cons (.ite (.cmp .Lt (.var 0 0) (.cint 0)) (.cons (.ret (.dat (.cstr "spare"))) .nil) .nil) (.cons (.ite (.cmp .Gt (.var 0 0) (.cint 1)) (.cons (.ret (.dat (.cstr "deep"))) .nil) .nil) (.cons (.ite (.and (.cmp .Eq (.var 0 0) (.cint 1)) (.not (.var 1 1))) (.cons (.ret (.dat (.cstr "spent"))) .nil) .nil) (.cons (.ret (.dat .cnone)) .nil))))
noncomputable def b_law_met_1:IE:=(.cmp .Eq (.ix (.var 0 1) (.cint 0)) (.ix (.var 0 1) (.cint 2)))
noncomputable def QT:IB:=(.cons (.ret (.dat (.all (.new (.comp 1 1 [] ["_law_cell_here"] (.nm 0 1) (.list (.var 0 0)) .yes b_law_met_1))))) .nil)
noncomputable def jH:IB:=(.cons (.asgT (.tp (.cons (.nm 2 2) (.cons (.nm 3 3) .nil))) (.var 0 0)) (.cons (.asgT (.tp (.cons (.nm 4 4) (.cons (.nm 5 5) .nil))) (.var 1 1)) (.cons (.ite (.cmp .Eq (.var 3 3) (.var 5 5)) (.cons (.ret (.dat (.cmp .Gt (.var 2 2) (.var 4 4)))) .nil) .nil) (.cons (.ret (.dat (.cmp .Eq (.less (.var 3 3) (.var 5 5)) (.cint 0)))) .nil))))
noncomputable def p_lacking_under_wax_1:IC:=(.one (.ix (.ix (.var 1 0) (.var 0 2)) (.cint 1)))
noncomputable def p_lacking_under_wax_2:IE:=(.var 0 2)
noncomputable def qv:IB:=(.cons (.ret (.own (.comp 2 1 [0] ["at","bolt"] (.nm 0 2) (.list (.call (.call "lacking" 2 (.cons (.var 0 0) (.cons (.var 1 1) .nil))))) p_lacking_under_wax_1 p_lacking_under_wax_2))) .nil)
noncomputable def p_with_cells_1:IE:=(.tup (.cons (.var 0 2) (.cons (.call (.call "lacking" 2 (.cons (.var 1 0) (.cons (.var 0 2) .nil)))) .nil)))
noncomputable def jI:IB:=(.cons (.ret (.own (.comp 2 1 [0] ["dye","bolt"] (.nm 0 2) (.list (.new (.sorted (.var 1 1)))) .yes p_with_cells_1))) .nil)
noncomputable def p_stretches_1:IC:=(.one (.cmp .NotIn (.var 0 4) (.var 1 2)))
noncomputable def p_stretches_2:IE:=(.new (.cat (.new (.lst (.cons (.ix (.var 2 1) (.var 0 4)) .nil))) (.call (.call "row_behind" 3 (.cons (.var 2 1) (.cons (.var 1 2) (.cons (.var 0 4) .nil)))))))
noncomputable def j9:IB:=(.cons (.asg 1 1 (.dat (.call (.call "needed" 1 (.cons (.var 0 0) .nil))))) (.cons (.asg 2 2 (.dat (.call (.call "followers" 1 (.cons (.call (.call "places_above" 2 (.cons (.var 0 0) (.cons (.var 1 1) .nil)))) .nil))))) (.cons (.asg 3 3 (.dat (.call (.call "row_behind" 3 (.cons (.var 1 1) (.cons (.var 2 2) (.cons (.len (.var 1 1)) .nil))))))) (.cons (.ret (.own (.cat (.new (.lst (.cons (.var 3 3) .nil))) (.new (.comp 4 1 [2,1] ["at","follower","dyes"] (.nm 0 4) (.range (.len (.var 1 1))) p_stretches_1 p_stretches_2))))) .nil))))
noncomputable def p_places_above_1:IC:=(.one (.call (.call "is_lower" 2 (.cons (.var 2 4) (.cons (.var 1 7) .nil)))))
noncomputable def p_places_above_2:IE:=(.var 0 6)
noncomputable def p_places_above_3:IB:=(.cons (.asg 5 5 (.own (.comp 6 2 [4] ["at","other","one"] (.tp (.cons (.nm 0 6) (.cons (.nm 1 7) .nil))) (.enum (.var 2 2)) p_places_above_1 p_places_above_2))) (.cons (.ite (.not (.call (.call "lacking_under_wax" 2 (.cons (.var 0 0) (.cons (.ix (.var 4 4) (.cint 0)) .nil))))) (.cons (.app 5 5 (.len (.var 2 2))) .nil) .nil) (.cons (.app 3 3 (.frz 5 5)) .nil)))
noncomputable def qW:IB:=(.cons (.asg 2 2 (.dat (.call (.call "with_cells" 2 (.cons (.var 0 0) (.cons (.var 1 1) .nil)))))) (.cons (.asg 3 3 (.own (.lst .nil))) (.cons (.loop (.nm 4 4) (.list (.var 2 2)) p_places_above_3) (.cons (.ret (.own (.cat (.var 3 3) (.new (.lst (.cons (.new (.lst .nil)) .nil)))))) .nil))))
noncomputable def p_followers_1:IE:=.cnone
noncomputable def p_followers_2:IB:=(.cons (.expr (.call (.call "settle" 4 (.cons (.var 2 2) (.cons (.var 0 0) (.io 1 1 (.tmp (.lst .nil)))))))) .nil)
noncomputable def jl:IB:=(.cons (.asg 1 1 (.own (.comp 3 1 [] ["places"] (.nm 0 3) (.list (.var 0 0)) .yes p_followers_1))) (.cons (.loop (.nm 2 2) (.range (.len (.var 0 0))) p_followers_2) (.cons (.ret (.move 1 1)) .nil)))
noncomputable def p_settle_1:IB:=(.cons (.ite (.cmp .NotIn (.var 4 4) (.var 3 3)) (.cons (.app 3 3 (.var 4 4)) (.cons (.ite (.or (.cmp .Is (.ix (.var 2 2) (.var 4 4)) .cnone) (.call (.call "settle" 4 (.cons (.ix (.var 2 2) (.var 4 4)) (.cons (.var 1 1) (.io 2 2 (.io 3 3 .nil))))))) (.cons (.set 2 2 (.var 4 4) (.var 0 0)) (.cons (.ret (.dat (.cbool true))) .nil)) .nil) .nil)) .nil) .nil)
noncomputable def Zd:IB:=(.cons (.loop (.nm 4 4) (.list (.ix (.var 1 1) (.var 0 0))) p_settle_1) (.cons (.ret (.dat (.cbool false))) .nil))
noncomputable def p_row_behind_1:IB:=(.cons (.app 3 3 (.ix (.var 0 0) (.var 2 2))) (.cons (.asg 2 2 (.dat (.ix (.var 1 1) (.var 2 2)))) .nil))
noncomputable def jK:IB:=(.cons (.asg 3 3 (.own (.lst .nil))) (.cons (.asg 2 2 (.dat (.ix (.var 1 1) (.var 2 2)))) (.cons (.wh 1000000 (.cmp .IsNot (.var 2 2) .cnone) p_row_behind_1) (.cons (.ret (.move 3 3)) .nil))))
noncomputable def ZP:IB:=(.cons (.asgT (.tp (.cons (.nm 2 2) (.cons (.nm 3 3) .nil))) (.call (.call "_law_sizes" 1 (.io 0 0 .nil)))) (.cons (.ret (.dat (.tup (.cons (.var 2 2) (.cons (.call (.call "_law_bolt" 4 (.io 0 0 (.cons (.var 2 2) (.cons (.var 3 3) (.cons (.var 1 1) .nil)))))) .nil))))) .nil))
noncomputable def b_law_boil_1:IE:=(.tup (.cons (.ix (.ix (.var 1 0) (.var 0 1)) (.cint 0)) (.cons (.cbool false) (.cons (.ix (.ix (.var 1 0) (.var 0 1)) (.cint 2)) .nil))))
noncomputable def ZH:IB:=(.cons (.ret (.own (.comp 1 1 [0] ["_law_at","_law_rows"] (.nm 0 1) (.range (.len (.var 0 0))) .yes b_law_boil_1))) .nil)
noncomputable def p_with_wax_1:IE:=(.call (.call "has_cell" 2 (.cons (.var 1 0) (.cons (.var 0 2) .nil))))
noncomputable def p_with_wax_2:IE:=(.tup (.cons (.var 1 3) (.cons (.or (.var 2 4) (.cmp .In (.var 0 2) (.var 4 1))) (.cons (.var 3 5) .nil))))
noncomputable def je:IB:=(.cons (.ite (.not (.all (.new (.comp 2 1 [0] ["at","bolt"] (.nm 0 2) (.tup (.var 1 1)) .yes p_with_wax_1)))) (.cons (.raise "NoCell") .nil) .nil) (.cons (.ite (.cmp .NotEq (.lset (.var 1 1)) (.len (.var 1 1))) (.cons (.raise "Twice") .nil) .nil) (.cons (.ret (.own (.comp 2 4 [1] ["at","stain","waxed","wish","cells"] (.tp (.cons (.nm 0 2) (.cons (.tp (.cons (.nm 1 3) (.cons (.nm 2 4) (.cons (.nm 3 5) .nil)))) .nil))) (.enum (.var 0 0)) .yes p_with_wax_2))) .nil)))
noncomputable def qV:IB:=(.cons (.ret (.dat (.chain .LtE .Lt (.cint 0) (.var 1 1) (.len (.var 0 0))))) .nil)
noncomputable def b_law_wax_1:IE:=(.tup (.cons (.ix (.ix (.var 1 0) (.var 0 2)) (.cint 0)) (.cons (.or (.ix (.ix (.var 1 0) (.var 0 2)) (.cint 1)) (.cmp .In (.var 0 2) (.var 2 1))) (.cons (.ix (.ix (.var 1 0) (.var 0 2)) (.cint 2)) .nil))))
noncomputable def jE:IB:=(.cons (.ret (.own (.comp 2 1 [0,1] ["_law_at","_law_rows","_law_cells"] (.nm 0 2) (.range (.len (.var 0 0))) .yes b_law_wax_1))) .nil)
noncomputable def b_law_dip_1:IE:=(.bin .Add (.ix (.var 1 3) (.var 0 6)) (.int (.cmp .Eq (.var 0 6) (.var 2 1))))
noncomputable def b_law_dip_2:IB:=(.cons (.ite (.not (.var 4 4)) (.cons (.asg 3 3 (.dat (.tuple (.new (.comp 6 1 [3,1] ["_law_k","_law_stain","_law_dye"] (.nm 0 6) (.range (.len (.var 3 3))) .yes b_law_dip_1))))) .nil) .nil) (.cons (.app 2 2 (.tup (.cons (.var 3 3) (.cons (.var 4 4) (.cons (.var 5 5) .nil))))) .nil))
noncomputable def jx:IB:=(.cons (.asg 2 2 (.own (.lst .nil))) (.cons (.loop (.tp (.cons (.nm 3 3) (.cons (.nm 4 4) (.cons (.nm 5 5) .nil)))) (.list (.var 0 0)) b_law_dip_2) (.cons (.ret (.move 2 2)) .nil)))
noncomputable def b_law_full_1:IE:=(.and (.not (.ix (.var 0 2) (.cint 1))) (.cmp .Eq (.ix (.ix (.var 0 2) (.cint 0)) (.var 1 1)) (.cint 9)))
noncomputable def ja:IB:=(.cons (.ret (.dat (.any (.new (.comp 2 1 [1] ["_law_cell_here","_law_dye"] (.nm 0 2) (.list (.var 0 0)) .yes b_law_full_1))))) .nil)
noncomputable def p_boiled_1:IE:=(.tup (.cons (.var 0 1) (.cons (.cbool false) (.cons (.var 2 3) .nil))))
noncomputable def ww:IB:=(.cons (.ret (.own (.comp 1 3 [] ["stain","waxed","wish"] (.tp (.cons (.nm 0 1) (.cons (.nm 1 2) (.cons (.nm 2 3) .nil)))) (.list (.var 0 0)) .yes p_boiled_1))) .nil)
noncomputable def p_plan_1:IB:=(.cons (.app 5 5 (.tup (.cons (.cstr "boil") .nil))) (.cons (.aug 5 5 (.call (.call "stretch_moves" 2 (.cons (.var 6 6) (.cons (.var 7 7) .nil))))) .nil))
noncomputable def YC:IB:=(.cons (.asg 2 2 (.dat (.call (.call "bars" 2 (.cons (.var 0 0) (.cons (.var 1 1) .nil)))))) (.cons (.ite (.var 2 2) (.cons .bad .nil) .nil) (.cons (.star 3 3 4 4 (.call (.call "stretches" 1 (.cons (.var 0 0) .nil)))) (.cons (.asg 5 5 (.call "stretch_moves" 2 (.cons (.var 0 0) (.cons (.var 3 3) .nil)))) (.cons (.asg 6 6 (.dat (.call (.call "boiled" 1 (.cons (.var 0 0) .nil))))) (.cons (.loop (.nm 7 7) (.list (.var 4 4)) p_plan_1) (.cons (.ret (.move 5 5)) .nil)))))))
noncomputable def p_stretch_moves_1:IB:=(.cons (.asg 4 4 (.dat (.call (.call "to_keep_off" 2 (.cons (.var 0 0) (.cons (.var 3 3) .nil)))))) (.cons (.ite (.var 4 4) (.cons (.app 2 2 (.tup (.cons (.cstr "wax") (.cons (.var 4 4) .nil)))) (.cons (.asg 0 0 (.dat (.call (.call "with_wax" 2 (.cons (.var 0 0) (.cons (.var 4 4) .nil)))))) .nil)) .nil) (.cons (.app 2 2 (.tup (.cons (.cstr "dip") (.cons (.var 3 3) .nil)))) .nil)))
noncomputable def qP:IB:=(.cons (.asg 2 2 (.own (.lst .nil))) (.cons (.loop (.nm 3 3) (.list (.var 1 1)) p_stretch_moves_1) (.cons (.ret (.move 2 2)) .nil)))
noncomputable def p_to_keep_off_1:IC:=(.one (.and (.not (.var 2 4)) (.cmp .LtE (.ix (.var 3 5) (.var 4 1)) (.ix (.var 1 3) (.var 4 1)))))
noncomputable def p_to_keep_off_2:IE:=(.var 0 2)
noncomputable def jt:IB:=(.cons (.ret (.dat (.tuple (.new (.comp 2 4 [1] ["at","stain","waxed","wish","dye"] (.tp (.cons (.nm 0 2) (.cons (.tp (.cons (.nm 1 3) (.cons (.nm 2 4) (.cons (.nm 3 5) .nil)))) .nil))) (.enum (.var 0 0)) p_to_keep_off_1 p_to_keep_off_2))))) .nil)
noncomputable def b_law_wax_good_1:IE:=(.and (.chain .LtE .Lt (.cint 0) (.var 0 3) (.len (.var 1 1))) (.not (.ix (.ix (.var 1 1) (.var 0 3)) (.cint 1))))
noncomputable def q8:IB:=(.cons (.ite (.or (.cmp .NotEq (.len (.var 0 0)) (.cint 2)) (.or (.not (.isi "tuple" (.ix (.var 0 0) (.cint 1)))) (.or (.not (.call (.call "_law_wholes" 1 (.cons (.new (.list (.ix (.var 0 0) (.cint 1)))) .nil)))) (.cmp .Eq (.len (.ix (.var 0 0) (.cint 1))) (.cint 0))))) (.cons (.ret (.dat (.cbool false))) .nil) .nil) (.cons (.asg 2 2 (.dat (.new (.list (.ix (.var 0 0) (.cint 1)))))) (.cons (.ite (.or (.cmp .NotEq (.var 2 2) (.new (.sorted (.var 2 2)))) (.cmp .Lt (.lsetL (.var 2 2)) (.len (.var 2 2)))) (.cons (.ret (.dat (.cbool false))) .nil) .nil) (.cons (.ret (.dat (.all (.new (.comp 3 1 [1] ["_law_at","_law_rows"] (.nm 0 3) (.list (.var 2 2)) .yes b_law_wax_good_1))))) .nil))))
noncomputable def qZ:IB:=(.cons (.ite (.or (.cmp .NotEq (.len (.var 0 0)) (.cint 2)) (.or (.not (.call (.call "_law_whole" 1 (.cons (.ix (.var 0 0) (.cint 1)) .nil)))) (.or (.cmp .Lt (.ix (.var 0 0) (.cint 1)) (.cint 0)) (.cmp .GtE (.ix (.var 0 0) (.cint 1)) (.len (.var 2 2)))))) (.cons (.ret (.dat (.cbool false))) .nil) .nil) (.cons (.ret (.dat (.and (.ix (.var 2 2) (.ix (.var 0 0) (.cint 1))) (.and (.cmp .NotIn (.ix (.var 0 0) (.cint 1)) (.var 3 3)) (.not (.call (.call "_law_full" 2 (.cons (.var 1 1) (.cons (.ix (.var 0 0) (.cint 1)) .nil))))))))) .nil))
noncomputable def b_law_walk_1:IB:=(.cons (.ite (.or (.not (.isi "tuple" (.var 5 5))) (.or (.cmp .Eq (.len (.var 5 5)) (.cint 0)) (.not (.isi "str" (.ix (.var 5 5) (.cint 0)))))) (.cons (.ret (.dat .cnone)) .nil) .nil) (.cons (.ite (.and (.cmp .Eq (.ix (.var 5 5) (.cint 0)) (.cstr "wax")) (.call (.call "_law_wax_good" 2 (.cons (.var 5 5) (.cons (.var 0 0) .nil))))) (.cons (.asg 0 0 (.dat (.call (.call "_law_wax" 2 (.cons (.var 0 0) (.cons (.ix (.var 5 5) (.cint 1)) .nil)))))) .nil) (.cons (.ite (.and (.cmp .Eq (.ix (.var 5 5) (.cint 0)) (.cstr "dip")) (.callw "_law_dip_good" 4 (.cons (.var 5 5) (.cons (.var 0 0) (.cons (.var 1 1) (.cons (.var 3 3) .nil)))))) (.cons (.asg 0 0 (.dat (.call (.call "_law_dip" 2 (.cons (.var 0 0) (.cons (.ix (.var 5 5) (.cint 1)) .nil)))))) (.cons (.app 3 3 (.ix (.var 5 5) (.cint 1))) .nil)) (.cons (.ite (.cmp .Eq (.var 5 5) (.tup (.cons (.cstr "boil") .nil))) (.cons (.asg 0 0 (.dat (.call (.call "_law_boil" 1 (.cons (.var 0 0) .nil))))) (.cons (.asg 4 4 (.dat (.bin .Add (.var 4 4) (.cint 1)))) .nil)) (.cons (.ret (.dat .cnone)) .nil)) .nil)) .nil)) .nil))
noncomputable def ZG:IB:=(.cons (.ite (.not (.isi "list" (.var 2 2))) (.cons (.ret (.dat .cnone)) .nil) .nil) (.cons (.asg 3 3 (.own (.lst .nil))) (.cons (.asg 4 4 (.dat (.cint 0))) (.cons (.loop (.nm 5 5) (.list (.var 2 2)) b_law_walk_1) (.cons (.ret (.dat (.tup (.cons (.var 0 0) (.cons (.frz 3 3) (.cons (.var 4 4) .nil)))))) .nil)))))
noncomputable def b_law_pans_1:IE:=(.or (.cmp .Gt (.len (.call (.call "_law_lack" 2 (.cons (.var 1 1) (.cons (.var 0 3) .nil))))) (.cint 0)) (.cmp .Eq (.call (.call "_law_take" 2 (.io 2 0 (.cons (.cint 2) .nil)))) (.cint 0)))
noncomputable def ZS:IB:=(.cons (.ret (.own (.comp 3 1 [1,0] ["_law_dye","_law_rows","_law_box_here"] (.nm 0 3) (.range (.var 2 2)) .yes b_law_pans_1))) .nil)
noncomputable def wT:IE:=(.call (.call "_law_cell" 4 (.io 1 0 (.cons (.var 0 6) (.cons (.var 2 3) (.cons (.var 3 4) .nil))))))
noncomputable def jW:IB:=(.cons (.asg 4 4 (.dat (.call (.call "_law_take" 2 (.io 0 0 (.cons (.cint 4) .nil)))))) (.cons (.asg 5 5 (.dat (.call (.call "_law_lacks" 3 (.io 0 0 (.cons (.var 1 1) (.cons (.var 2 2) .nil))))))) (.cons (.ret (.own (.comp 6 1 [0,3,4] ["_law_row_here","_law_box_here","_law_loose","_law_wet"] (.nm 0 6) (.list (.var 5 5)) .yes wT))) .nil)))
noncomputable def b_law_ready_1:IE:=(.ix (.ix (.var 1 0) (.var 0 3)) (.cint 1))
noncomputable def b_law_ready_2:IC:=(.one (.not (.any (.new (.comp 3 1 [1] ["_law_at","_law_rows"] (.nm 0 3) (.list (.call (.call "_law_lack" 2 (.cons (.var 1 0) (.cons (.var 0 2) .nil))))) .yes b_law_ready_1)))))
noncomputable def b_law_ready_3:IE:=(.var 0 2)
noncomputable def Zk:IB:=(.cons (.ret (.own (.comp 2 1 [0] ["_law_dye","_law_rows"] (.nm 0 2) (.list (.var 1 1)) b_law_ready_2 b_law_ready_3))) .nil)
noncomputable def b_law_row_1:IC:=(.one (.cmp .NotIn (.var 0 9) (.var 1 8)))
noncomputable def b_law_row_2:IE:=(.var 0 9)
noncomputable def b_law_row_3:IC:=(.one (.cmp .NotEq (.var 0 9) (.var 1 7)))
noncomputable def b_law_row_4:IE:=(.var 0 9)
noncomputable def b_law_row_5:IB:=(.cons (.asg 6 6 (.dat (.call (.call "_law_ready" 2 (.cons (.var 1 1) (.cons (.var 2 2) .nil)))))) (.cons (.ite (.and (.cmp .Gt (.len (.var 2 2)) (.cint 0)) (.or (.cmp .Eq (.len (.var 6 6)) (.cint 0)) (.and (.cmp .Gt (.var 4 4) (.cint 0)) (.cmp .Eq (.call (.call "_law_take" 2 (.io 0 0 (.cons (.cint 6) .nil)))) (.cint 0))))) (.cons (.asg 1 1 (.dat (.call (.call "_law_boil" 1 (.cons (.var 1 1) .nil))))) (.cons (.asg 3 3 (.dat (.bin .Add (.var 3 3) (.cint 1)))) (.cons (.asg 4 4 (.dat (.bin .Sub (.var 4 4) (.int (.cmp .Gt (.len (.var 6 6)) (.cint 0)))))) .nil))) (.cons (.ite (.cmp .Gt (.len (.var 2 2)) (.cint 0)) (.cons (.asg 7 7 (.dat (.ix (.var 6 6) (.call (.call "_law_take" 2 (.io 0 0 (.cons (.len (.var 6 6)) .nil))))))) (.cons (.asg 8 8 (.dat (.call (.call "_law_lack" 2 (.cons (.var 1 1) (.cons (.var 7 7) .nil)))))) (.cons (.asg 1 1 (.dat (.call (.call "_law_dip" 2 (.cons (.call (.call "_law_wax" 2 (.cons (.var 1 1) (.cons (.new (.comp 9 1 [8] ["_law_at","_law_mine"] (.nm 0 9) (.range (.len (.var 1 1))) b_law_row_1 b_law_row_2)) .nil)))) (.cons (.var 7 7) .nil)))))) (.cons (.asg 2 2 (.dat (.new (.comp 9 1 [7] ["_law_other","_law_dye"] (.nm 0 9) (.list (.var 2 2)) b_law_row_3 b_law_row_4)))) .nil)))) .nil) .nil)) .nil))
noncomputable def WS:IB:=(.cons (.asg 3 3 (.dat (.cint 0))) (.cons (.asg 4 4 (.dat (.call (.call "_law_take" 2 (.io 0 0 (.cons (.cint 4) .nil)))))) (.cons (.loop (.nm 5 5) (.range (.bin .Add (.bin .Mult (.cint 2) (.len (.var 2 2))) (.cint 4))) b_law_row_5) (.cons (.ret (.dat (.tup (.cons (.var 1 1) (.cons (.var 2 2) (.cons (.var 3 3) .nil)))))) .nil))))
end Wx
set_option maxHeartbeats 4000000
namespace Wx
open PySem L2 L3
noncomputable def runI(n:Nat)(mask:List Bool)(io:List Nat)(body:IB)(cf:CF)(args:List OV):RF:=if args.length=mask.length then fin mask (body.ex cf io (args.map some++List.replicate (n-mask.length) none)) else .bad
end Wx
local macro_rules
  | `(tactic| simp![$xs,*])=>`(tactic| simp[$xs,*,Wx.runI,L3.fin,L3.outs,L3.IB.ex,L3.IS.ex,L3.IE.ev,L3.IL.ev,L3.IA.ev,L3.IN.ev,L3.IP.ev,L3.II.ev,L3.IC.ev,L3.IO.ev,L3.sSeq,L3.sNext,L3.sAsg,L3.sIf,L3.sRet,L3.sRetN,L3.sSet,L3.sApp,L3.sFor,L3.sAsgT,L3.sExpr,L3.fVar,L3.fFrz,L3.fC,L3.fBin,L3.fCmp,L3.fB,L3.fTru,L3.fNotT,L3.fAndT,L3.fOrT,L3.fAndV,L3.fOrV,L3.fIf,L3.fIx,L3.f1,L3.f2,L3.fChain,L3.fTup,L3.fLst,L3.fCons,L3.fNil,L3.fNew,L3.fOwn,L3.fOD,L3.fD,L3.fMove,L3.fCall,L3.fCallW,L3.aNil,L3.aCons,L3.aIo,L3.toArg,L3.toArgs,L3.ios,L3.putBack,L3.derf,L3.derS,L3.derSs,L3.derL,L3.leaves,L3.derfs,L3.itemF,L3.binD,L3.cmpD,L3.truD,L3.R.bind,L3.isOwn,L3.fSeqL,L3.fSeqT,L3.fRange,L3.fEnum,L3.fYes,L3.fComp,L3.fListC,L3.fTupC,L3.gLen,L3.lenD,L3.gInt,L3.gAll,L3.gAny,L3.gMin,L3.gMax,L3.gNeg,L3.fIsi,L3.isiB,L2.tyD,L3.tgF,L3.tgFs,L2.noL])
namespace Wx
open PySem L2 L3
theorem zav(cf:CF)(a b:Int):∃ r,runI 4 [false,false] [] j2 cf [.d (.int a),.d (.int b)]=.ok (.d (.int r)) [none,none]:=by
 simp![j2,OV.view,OV.views,zA,ixN,atI]
 rw[if_pos]
 ·simp[outs]
 ·omega
noncomputable def kf (cf:CF):Prop:=∀ a b:Int,∃ r,cf "_law_mixed" [.d (.int a),.d (.int b)]=.ok (.d (.int r)) [none,none]
noncomputable def zu(b:OV):Prop:=∃ cells i l t s,0<=i/\b=Zy cells i l t s
noncomputable def zaz(b:OV)(n:Int)(x:RF):Prop:=∃ (r:Int) (b':OV),0<=r/\r<n/\zu b'/\x=.ok (.d (.int r)) [some b',none]
theorem zdN(cf:CF)(hm:kf cf){b:OV}(hb:zu b){n:Int}(h1:1<=n)(h2:n<1073741824):zaz b n (runI 4 [true,false] [0] qL cf [b,.d (.int n)]):=by
 obtain⟨cells,i,l,t,s,hi,rfl⟩:=hb
 have h0:0<n:=by omega
 have hp:((10:Int) ^ 18)=1000000000000000000:=by decide
 by_cases hl:0<l
 ·refine⟨l % n,Zy cells i (l / n) (t+1) s,uK _ (by omega),uA _ h0,⟨_,_,_,_,_,hi,rfl⟩,?_⟩
  simp![qL,Zy,hl,h0,h2,OV.view,OV.views,zA,ixN,atI]
 ·by_cases hc:(cells.length:Int)<=i
  ·obtain⟨r,er⟩:=hm s (t+1)
   refine⟨r % n,Zy cells i l (t+1) s,uK _ (by omega),uA _ h0,⟨_,_,_,_,_,hi,rfl⟩,?_⟩
   simp![qL,Zy,hl,hc,h0,h2,er,OV.view,OV.views,zA,ixN,atI]
  ·have hix:i.toNat<cells.length:=by omega
   have hlt:i<(cells.length:Int):=by omega
   have hg:cells[i.toNat]?=some cells[i.toNat]:=xb hix
   by_cases hs:cells[i.toNat]<1000000000000000000
   ·obtain⟨r,er⟩:=hm cells[i.toNat] (t+1)
    refine⟨r % n,Zy cells (i+1) l (t+1) s,uK _ (by omega),uA _ h0,⟨_,_,_,_,_,by omega,rfl⟩,?_⟩
    simp![qL,Zy,hl,hc,h0,h2,hi,hlt,hg,hs,hp,er,OV.view,OV.views,zA,ixN,atI]
   ·refine⟨cells[i.toNat] % n,Zy cells (i+1) (cells[i.toNat] / n) (t+1) s,uK _ (by omega),uA _ h0,⟨_,_,_,_,_,by omega,rfl⟩,?_⟩
    simp![qL,Zy,hl,hc,h0,h2,hi,hlt,hg,hs,hp,OV.view,OV.views,zA,ixN,atI]
theorem qF{t:IT}{body:SM}(I:List PyData->Gv->Prop){ds:List PyData}{Γ:Gv}(h0:I [] Γ)
  (hs:∀ pre d post,ds=pre++d::post->∀ Γ,I pre Γ->∃ Γ1 Γ2,tgF t d Γ=some Γ1/\body Γ1=.ok (.next,Γ2)/\I (pre++ [d]) Γ2):∃ Γ',zU t body ds Γ=.ok (.next,Γ')/\I ds Γ':=by
 suffices H:∀ post pre Γ,ds=pre++post->I pre Γ->∃ Γ',zU t body post Γ=.ok (.next,Γ')/\I ds Γ' from H ds [] Γ rfl h0
 intro post
 induction post with
 |nil=>intro pre Γ e h;rw[uf]at e;subst e;exact⟨Γ,rfl,h⟩
 |cons d post ih=>
  intro pre Γ e h
  obtain⟨Γ1,Γ2,e1,e2,h2⟩:=hs pre d post e Γ h
  obtain⟨Γ',e3,h3⟩:=ih (pre++ [d]) Γ2 (by rw[e];simp) h2
  exact⟨Γ',by rw[zU,e1];simp only[e2];exact e3,h3⟩
theorem qe{k:Nat}{t:IT}{cond:EM Bool}{elt:EM FV}(I:List PyData->List PyData->Gv->Prop){ds:List PyData}{Γ:Gv}(h0:I [] [] Γ)
  (hs:∀ pre d post,ds=pre++d::post->∀ ys Γ,I pre ys Γ->∃ Γ2 c Γ3,tgF t d (Γ++List.replicate k none)=some Γ2/\cond Γ2=.ok (c,Γ3)/\(c=true->∃ u Γ4 y,elt Γ3=.ok (u,Γ4)/\derS Γ4 u=some y/\I (pre++ [d]) (ys++ [y]) (Γ4.take Γ.length))/\(c=false->I (pre++ [d]) ys (Γ3.take Γ.length))) :
  ∃ ys Γ',qC k t cond elt ds [] Γ=.ok (ys,Γ')/\I ds ys Γ':=by
 suffices H:∀ post pre ys Γ,ds=pre++post->I pre ys Γ->∃ ys' Γ',qC k t cond elt post ys Γ=.ok (ys',Γ')/\I ds ys' Γ' from H ds [] [] Γ rfl h0
 intro post
 induction post with
 |nil=>intro pre ys Γ e h;rw[uf]at e;subst e;exact⟨ys,Γ,rfl,h⟩
 |cons d post ih=>
  intro pre ys Γ e h
  obtain⟨Γ2,c,Γ3,e1,e2,ht,hf⟩:=hs pre d post e ys Γ h
  cases c with
  |true=>
   obtain⟨u,Γ4,y,e3,e4,h5⟩:=ht rfl
   obtain⟨ys',Γ',e6,h6⟩:=ih (pre++ [d]) _ _ (by rw[e];simp) h5
   exact⟨ys',Γ',by rw[qC,e1];simp only[e2,e3,e4];exact e6,h6⟩
  |false=>
   obtain⟨ys',Γ',e6,h6⟩:=ih (pre++ [d]) _ _ (by rw[e];simp) (hf rfl)
   exact⟨ys',Γ',by rw[qC,e1];simp only[e2];exact e6,h6⟩
theorem zH{k:Nat}{t:IT}{cond:EM Bool}{elt:EM FV}(p:PyData->Bool)(f:PyData->PyData){ds:List PyData}{Γ:Gv}
  (hs:∀ d∈ds,∃ Γ2 Γ3,tgF t d (Γ++List.replicate k none)=some Γ2/\cond Γ2=.ok (p d,Γ3)/\Γ3.take Γ.length=Γ/\(p d=true->∃ u Γ4,elt Γ3=.ok (u,Γ4)/\derS Γ4 u=some (f d)/\Γ4.take Γ.length=Γ)) :
  qC k t cond elt ds [] Γ=.ok ((ds.filter p).map f,Γ):=by
 obtain⟨ys,Γ',e,hy,rfl⟩:=qe (k:=k) (t:=t) (cond:=cond) (elt:=elt) (fun pre ys Γ'=>ys=(pre.filter p).map f/\Γ'=Γ) (ds:=ds) (Γ:=Γ) ⟨rfl,rfl⟩ (by
  rintro pre d post e ys Γ' ⟨rfl,rfl⟩
  obtain⟨Γ2,Γ3,e1,e2,e3,h⟩:=hs d (by rw[e];simp)
  refine⟨Γ2,p d,Γ3,e1,e2,fun hp=>?_,fun hp=>⟨by simp[xP,hp],e3⟩⟩
  obtain⟨u,Γ4,e4,e5,e6⟩:=h hp
  exact⟨u,Γ4,_,e4,e5,by simp[xP,hp],e6⟩)
 rw[e,hy]
noncomputable def js (cf:CF):Prop:=∀ b,zu b->∀ n:Int,1<=n->n<1073741824->zaz b n (cf "_law_take" [b,.d (.int n)])
theorem zcG(cf:CF)(ht:js cf){b:OV}(hb:zu b):∃ (p n:Int) (b':OV),0<=p/\p<=12/\0<=n/\n<=40/\zu b'/\runI 1 [true] [0] jo cf [b]=.ok (.d (.tuple [.int p,.int n])) [some b']:=by
 obtain⟨r1,b1,h1,h1',hb1,e1⟩:=ht b hb 8 (by decide) (by decide)
 by_cases hr:r1=0
 ·obtain⟨r2,b2,h2,h2',hb2,e2⟩:=ht b1 hb1 13 (by decide) (by decide)
  obtain⟨r3,b3,h3,h3',hb3,e3⟩:=ht b2 hb2 41 (by decide) (by decide)
  refine⟨r2,r3,b3,h2,by omega,h3,by omega,hb3,?_⟩
  simp![jo,e1,e2,e3,hr,lay,PyData.eqv,OV.view,OV.views,zA,ixN,atI]
 ·obtain⟨r2,b2,h2,h2',hb2,e2⟩:=ht b1 hb1 7 (by decide) (by decide)
  obtain⟨r3,b3,h3,h3',hb3,e3⟩:=ht b2 hb2 9 (by decide) (by decide)
  refine⟨r2,r3,b3,h2,by omega,h3,by omega,hb3,?_⟩
  simp![jo,e1,e2,e3,hr,lay,PyData.eqv,OV.view,OV.views,zA,ixN,atI]
end Wx
set_option maxHeartbeats 4000000
namespace Wx
open PySem L2 L3
theorem QF{ds pre post:List PyData}{d:PyData}(e:ds=pre++d::post):pre.length<ds.length:=by rw[e];simp
theorem j4{n:Nat}{pre post:List PyData}{d:PyData}(e:zo n=pre++d::post):d=.int pre.length/\pre.length<n:=by
 have h:(zo n)[pre.length]?=some d:=by rw[e];simp
 exact⟨(jd h).2,(jd h).1⟩
theorem Yc(cf:CF)(ht:js cf){b:OV}(hb:zu b){pots way:Int}{size n:Nat}(hs:size<=1000){o4 o5 o6 o7 o8 o9:Option OV} :
  ∃ (ps:List (Int×Int)) (b':OV),ps.length=n/\zu b'/\qC 1 (.nm 0 10) fYes (b_law_lacks_1.ev cf).1 (zo n) [] [some b,some (.d (.int pots)),some (.d (.int size)),some (.d (.int way)),o4,o5,o6,o7,o8,o9]=.ok (ps.map fun p=>.tuple [.int p.1,.int p.2],[some b',some (.d (.int pots)),some (.d (.int size)),some (.d (.int way)),o4,o5,o6,o7,o8,o9]):=by
 obtain⟨ys,Γ',e,⟨ps,b',hp,hb',rfl,rfl⟩⟩:=qe (k:=1) (t:=.nm 0 10) (cond:=fYes) (elt:=(b_law_lacks_1.ev cf).1) (ds:=zo n) (Γ:= [some b,some (.d (.int pots)),some (.d (.int size)),some (.d (.int way)),o4,o5,o6,o7,o8,o9])
  (fun pre ys Γ=>∃ (ps:List (Int×Int)) (b':OV),ps.length=pre.length/\zu b'/\ys=ps.map (fun p=>PyData.tuple [.int p.1,.int p.2])/\Γ= [some b',some (.d (.int pots)),some (.d (.int size)),some (.d (.int way)),o4,o5,o6,o7,o8,o9]) ⟨[],b,rfl,hb,rfl,rfl⟩ (by
   rintro pre d post e ys Γ ⟨ps,b1,hp,hb1,rfl,rfl⟩
   obtain⟨r2,b2,h2,h2',hb2,e2⟩:=ht b1 hb1 (size+1) (by omega) (by omega)
   obtain⟨r3,b3,h3,h3',hb3,e3⟩:=ht b2 hb2 (size+1) (by omega) (by omega)
   refine⟨_,true,_,by simp[tgF];rfl,rfl,fun _=>?_,fun z=>nomatch z⟩
   refine⟨.dat (.tuple [.int r2,.int r3]),[some b3,some (.d (.int pots)),some (.d (.int size)),some (.d (.int way)),o4,o5,o6,o7,o8,o9,some (.d d)],_,?_,rfl,ps++ [(r2,r3)],b3,by simp[hp],hb3,by simp,by simp⟩
   simp![b_law_lacks_1,e2,e3,OV.view,OV.views,zA,ixN,atI])
 rw[zi]at hp
 exact⟨ps,b',hp,hb',e⟩
theorem Ky(cf:CF)(ht:js cf){b:OV}(hb:zu b){pots way:Int}{size:Nat}{at_:Nat}(ps:List (Int×Int))(hps:ps.length<=1000){o4 o5 o8 o9:Option OV} :
  ∃ (bs:List Bool) (b':OV) (o8' o9':Option OV),bs.length=ps.length/\zu b'/\zU (.tp (.cons (.nm 8 8) (.cons (.nm 9 9) .nil))) (b_law_lacks_2.ex cf [0]) (ps.map fun p=>PyData.tuple [.int p.1,.int p.2]) [some b,some (.d (.int pots)),some (.d (.int size)),some (.d (.int way)),o4,o5,some (.d (.int at_)),some (.l []),o8,o9]
   = .ok (.next,[some b',some (.d (.int pots)),some (.d (.int size)),some (.d (.int way)),o4,o5,some (.d (.int at_)),some (.l (bs.map fun x=>.d (.bool x))),o8',o9']):=by
 obtain⟨Γ',e,⟨bs,b',o8',o9',hl,hb',rfl⟩⟩:=qF (t:=.tp (.cons (.nm 8 8) (.cons (.nm 9 9) .nil))) (body:=b_law_lacks_2.ex cf [0]) (ds:=ps.map fun p=>PyData.tuple [.int p.1,.int p.2]) (Γ:= [some b,some (.d (.int pots)),some (.d (.int size)),some (.d (.int way)),o4,o5,some (.d (.int at_)),some (.l []),o8,o9])
  (fun pre Γ=>∃ (bs:List Bool) (b':OV) (o8' o9':Option OV),bs.length=pre.length/\zu b'/\Γ= [some b',some (.d (.int pots)),some (.d (.int size)),some (.d (.int way)),o4,o5,some (.d (.int at_)),some (.l (bs.map fun x=>.d (.bool x))),o8',o9']) ⟨[],b,o8,o9,rfl,hb,rfl⟩ (by
   rintro pre d post e Γ ⟨bs,b1,o8',o9',hl,hb1,rfl⟩
   have hlt:=QF e
   rw[xk]at hlt
   obtain⟨p,-,rfl⟩:∃ p∈ps,PyData.tuple [.int p.1,.int p.2]=d:=by
    have:d∈ps.map fun p=>PyData.tuple [.int p.1,.int p.2]:=by rw[e];simp
    exact xo.mp this
   have hsz:bs.length<1000000:=by omega
   have key:∃ (x:Bool) (b2:OV),zu b2/\b_law_lacks_2.ex cf [0] [some b1,some (.d (.int pots)),some (.d (.int size)),some (.d (.int way)),o4,o5,some (.d (.int at_)),some (.l (bs.map fun x=>.d (.bool x))),some (.d (.int p.1)),some (.d (.int p.2))]
     = .ok (.next,[some b2,some (.d (.int pots)),some (.d (.int size)),some (.d (.int way)),o4,o5,some (.d (.int at_)),some (.l ((bs++ [x]).map fun x=>.d (.bool x))),some (.d (.int p.1)),some (.d (.int p.2))]):=by
    by_cases h0:way=0
    ·obtain⟨r2,b2,h2,h2',hb2,e2⟩:=ht b1 hb1 2 (by decide) (by decide)
     refine⟨r2==1,b2,hb2,?_⟩
     simp![b_law_lacks_2,h0,e2,hsz,lay,PyData.eqv,OV.view,OV.views,zA,ixN,atI]
    ·by_cases h1:way=1
     ·refine⟨decide ((if p.2<p.1 then p.2 else p.1)<=(at_:Int))&&decide ((at_:Int)<(if p.2>p.1 then p.2 else p.1)),b1,hb1,?_⟩
      by_cases h3:(if p.2<p.1 then p.2 else p.1)<=(at_:Int)
      ·simp![b_law_lacks_2,h0,h1,h3,hsz,lay,PyData.eqv,OV.view,OV.views,zA,ixN,atI]
      ·simp![b_law_lacks_2,h0,h1,h3,hsz,lay,PyData.eqv,OV.view,OV.views,zA,ixN,atI]
     ·by_cases h2:way=2
      ·refine⟨decide ((at_:Int)<p.1),b1,hb1,?_⟩
       simp![b_law_lacks_2,h0,h1,h2,hsz,lay,PyData.eqv,OV.view,OV.views,zA,ixN,atI]
      ·refine⟨!(decide ((at_:Int)<p.1)==((at_:Int)==p.2)),b1,hb1,?_⟩
       simp![b_law_lacks_2,h0,h1,h2,hsz,lay,PyData.eqv,OV.view,OV.views,zA,ixN,atI]
   obtain⟨x,b2,hb2,ek⟩:=key
   exact⟨_,_,by simp[tgF,tgFs],ek,bs++ [x],b2,_,_,by simp[hl],hb2,rfl⟩)
 refine⟨bs,b',o8',o9',by rw[hl,xk],hb',e⟩
noncomputable def zL(bs:List Bool):PyData:=.list (bs.map .bool)
theorem VV(bs:List Bool):OV.views (bs.map fun x=>.d (.bool x))=bs.map .bool:=by
 rw[OV.views_map,List.map_map];rfl
noncomputable def kD(pots size:Nat)(x:RF):Prop:=∃ (rows:List (List Bool)) (b':OV),rows.length=size/\(∀ r∈rows,r.length=pots)/\zu b'/\x=.ok (.l (rows.map fun r=>.d (zL r))) [some b',none,none]
theorem zcy(cf:CF)(ht:js cf){b:OV}(hb:zu b){pots size:Nat}(hp:pots<=1000)(hs:size<=1000):kD pots size (runI 10 [true,false,false] [0] Zh cf [b,.d (.int pots),.d (.int size)]):=by
 obtain⟨way,b1,h1,h1',hb1,e1⟩:=ht b hb 4 (by decide) (by decide)
 obtain⟨ps,b2,hpl,hb2,e2⟩:=Yc cf ht hb1 (pots:=pots) (way:=way) (size:=size) (n:=pots) hs (o4:=none) (o5:=none) (o6:=none) (o7:=none) (o8:=none) (o9:=none)
 obtain⟨Γ',e3,⟨rows,b3,o6,o7,o8,o9,hl,hr,hb3,rfl⟩⟩:=qF (t:=.nm 6 6) (body:=b_law_lacks_3.ex cf [0]) (ds:=zo size) (Γ:= [some b2,some (.d (.int pots)),some (.d (.int size)),some (.d (.int way)),some (.d (.list (ps.map fun p=>.tuple [.int p.1,.int p.2]))),some (.l []),none,none,none,none])
  (fun pre Γ=>∃ (rows:List (List Bool)) (b':OV) (o6 o7 o8 o9:Option OV),rows.length=pre.length/\(∀ r∈rows,r.length=pots)/\zu b'/\Γ= [some b',some (.d (.int pots)),some (.d (.int size)),some (.d (.int way)),some (.d (.list (ps.map fun p=>.tuple [.int p.1,.int p.2]))),some (.l (rows.map fun r=>.d (zL r))),o6,o7,o8,o9]) ⟨[],b2,_,_,_,_,rfl,(fun _ h=>nomatch h),hb2,rfl⟩ (by
   rintro pre d post e Γ ⟨rows,b3,o6,o7,o8,o9,hl,hr,hb3,rfl⟩
   obtain⟨rfl,hlt⟩:=j4 e
   obtain⟨bs,b4,o8',o9',hbl,hb4,e4⟩:=Ky cf ht hb3 (pots:=pots) (way:=way) (size:=size) (at_:=pre.length) ps (by omega) (o4:=some (.d (.list (ps.map fun p=>.tuple [.int p.1,.int p.2])))) (o5:=some (.l (rows.map fun r=>.d (zL r)))) (o8:=o8) (o9:=o9)
   refine⟨_,[some b4,some (.d (.int pots)),some (.d (.int size)),some (.d (.int way)),some (.d (.list (ps.map fun p=>.tuple [.int p.1,.int p.2]))),some (.l ((rows++ [bs]).map fun r=>.d (zL r))),some (.d (.int pre.length)),some (.d (zL bs)),o8',o9'],by simp[tgF];rfl,?_,rows++ [bs],b4,_,_,_,_,by simp[hl],?_,hb4,rfl⟩
   ·have hz:rows.length<1000000:=by omega
    simp![b_law_lacks_3,OV.view,OV.views,zA,ixN,atI]
    rw[e4]
    simp![hz,VV,zL,OV.view,OV.views,zA,ixN,atI]
   ·intro r h
    rcases xH.mp h with h | h
    ·exact hr r h
    ·have:r=bs:=by simpa using h
     subst this;rw[hbl,hpl])
 rw[zi]at hl
 refine⟨rows,b3,hl,hr,hb3,?_⟩
 have hp1: -1000000<=(pots:Int)/\(pots:Int)<=1000000:=by omega
 have hs1: -1000000<=(size:Int)/\(size:Int)<=1000000:=by omega
 have hp2:pots<=1000000:=by omega
 simp![Zh,e1,e2,e3,hp1,hs1,hp2,zi,OV.view,OV.views,zA,ixN,atI]
noncomputable def zc(xs:List Int):PyData:=.tuple (xs.map .int)
noncomputable def ql(st:List Int)(w:Bool)(wi:List Int):PyData:=.tuple [zc st,.bool w,zc wi]
noncomputable def In9(xs:List Int):Prop:=∀ x∈xs,0<=x/\x<=9
structure jf(pots:Nat)(st wi:List Int):Prop where
 sl:st.length=pots
 wl:wi.length=pots
 sn:In9 st
 wn:In9 wi
theorem In9.snoc{xs:List Int}{x:Int}(h:In9 xs)(h1:0<=x)(h2:x<=9):In9 (xs++ [x]):=by
 intro y hy
 rcases xH.mp hy with hy | hy
 ·exact h y hy
 ·have:y=x:=by simpa using hy
  subst this;exact⟨h1,h2⟩
theorem Jf(xs:List Int):leaves (xs.map fun x=>.d (.int x))=some (xs.map .int):=by
 induction xs with
 |nil=>rfl
 |cons x xs ih=>simp[leaves,ih]
noncomputable def Y2 (cf:CF):Prop:=∀ b,zu b->∀ (pots size:Nat),pots<=1000->size<=1000->kD pots size (cf "_law_lacks" [b,.d (.int pots),.d (.int size)])
structure Cl where
 st:List Int
 w:Bool
 wi:List Int
noncomputable def Cl.D(c:Cl):PyData:=ql c.st c.w c.wi
end Wx
set_option maxHeartbeats 4000000
namespace Wx
open PySem L2 L3
theorem zl(n:Nat)(i:Int):lay n (.int i)=true:=by cases n<;>rfl
theorem zbb{n:Nat}{xs:List PyData}(h:∀ x∈xs,lay n x=true):lay (n+1) (.list xs)=true:=by rw[lay];exact xD.mpr h
theorem zc6{n:Nat}{xs:List PyData}(h:∀ x∈xs,lay n x=true):lay (n+1) (.tuple xs)=true:=by rw[lay];exact xD.mpr h
theorem JQ(n:Nat)(xs:List Nat):lay (n+1) (.list (xs.map fun (i:Nat)=>.int (i:Int)))=true:=zbb fun x h=>by
 obtain⟨i,_,rfl⟩:=xo.mp h
 exact zl _ _
theorem zea{n:Nat}{d:PyData}(h:lay n d=true):PyData.eqv d d=true:=PySem.SeqAt.eqv_refl d (jb n d h).1
theorem zB(i j:Int):PyData.eqv (.int i) (.int j)=(i==j):=rfl
noncomputable def lk(cs:List Cl)(d i:Nat):Bool:=match cs[i]? with
 |some c=>decide (c.st.getD d 0<c.wi.getD d 0)
 |none=>false
noncomputable def zd(cs:List Cl)(d:Nat):List Nat:=(List.range cs.length).filter (lk cs d)
noncomputable def za(xs:List Nat):List PyData:=xs.map fun (i:Nat)=>.int (i:Int)
noncomputable def zh(xs:List Nat):OV:=.l (xs.map fun (i:Nat)=>.d (.int (i:Int)))
noncomputable def zb(cs:List Cl):PyData:=.list (cs.map Cl.D)
noncomputable def Bolt(pots:Nat)(cs:List Cl):Prop:=cs.length<=1000/\∀ c∈cs,jf pots c.st c.wi
theorem qM{xs:List Int}{d:Nat}(h:d<xs.length):atI (xs.map PyData.int) (d:Int)=some (.int (xs.getD d 0)):=by
 have e:(xs.map PyData.int)[d]?=some (.int (xs.getD d 0)):=by rw[xg,xb h,List.getD_eq_getElem?_getD,xb h];rfl
 unfold atI ixN
 rw[if_pos (by omega),if_pos (by rw[xk];omega)]
 simpa using e
theorem zcD{α:Type}(a b c:α):atI [a,b,c] 0=some a:=rfl
theorem ze1{α:Type}(a b c:α):atI [a,b,c] 1=some b:=rfl
theorem zbZ{α:Type}(a b c:α):atI [a,b,c] 2=some c:=rfl
theorem WQ(xs:List Nat):(xs.map fun (i:Nat)=>PyData.int (i:Int)).map OV.d=xs.map fun (i:Nat)=>OV.d (.int (i:Int)):=by rw[List.map_map];rfl
theorem JL{xs pre post:List PyData}{d:PyData}(e:qu xs=pre++d::post):∃ x,xs[pre.length]?=some x/\d=.tuple [.int pre.length,x]:=QY (by rw[e];simp)
theorem YJ(cf:CF){pots:Nat}{cs:List Cl}(hb:Bolt pots cs){d:Nat}(hd:d<pots):runI 2 [false,false] [] QK cf [.d (zb cs),.d (.int d)]=.ok (zh (zd cs d)) [none,none]:=by
 obtain⟨ys,Γ',e,rfl,rfl⟩:=qe (k:=4) (t:=.tp (.cons (.nm 0 2) (.cons (.tp (.cons (.nm 1 3) (.cons (.nm 2 4) (.cons (.nm 3 5) .nil)))) .nil))) (cond:=p_lacking_1.ev cf) (elt:=(p_lacking_2.ev cf).1) (ds:=qu (cs.map Cl.D)) (Γ:= [some (.d (zb cs)),some (.d (.int d))])
  (fun pre ys Γ=>ys=((List.range pre.length).filter (lk cs d)).map (fun (i:Nat)=>PyData.int (i:Int))/\Γ= [some (.d (zb cs)),some (.d (.int d))]) ⟨rfl,rfl⟩ (by
   rintro pre x post e ys Γ ⟨rfl,rfl⟩
   obtain⟨y,hy,rfl⟩:=JL e
   rw[xg]at hy
   cases hc:cs[pre.length]? with
   |none=>rw[hc]at hy;cases hy
   |some c=>
    rw[hc]at hy
    have:y=c.D:=by simpa using hy.symm
    subst this
    have ok:=hb.2 c (xF hc)
    have a1:=qM (xs:=c.st) (d:=d) (by rw[ok.sl];exact hd)
    have a2:=qM (xs:=c.wi) (d:=d) (by rw[ok.wl];exact hd)
    have hlk:lk cs d pre.length=decide (c.st.getD d 0<c.wi.getD d 0):=by unfold lk;rw[hc]
    refine⟨_,lk cs d pre.length,[some (.d (zb cs)),some (.d (.int d)),some (.d (.int pre.length)),some (.d (zc c.st)),some (.d (.bool c.w)),some (.d (zc c.wi))],by simp[tgF,tgFs,Cl.D,ql];rfl,?_,fun h=>⟨.dat (.int pre.length),[some (.d (zb cs)),some (.d (.int d)),some (.d (.int pre.length)),some (.d (zc c.st)),some (.d (.bool c.w)),some (.d (zc c.wi))],.int pre.length,by simp![p_lacking_2,OV.view,OV.views,zA,ixN,atI],rfl,?_,by simp⟩,fun h=>⟨?_,by simp⟩⟩
    ·rw[hlk];simp![p_lacking_1,zc,a1,a2,OV.view,OV.views,zA]
    ·simp[xT,xP,h]
    ·simp[xT,xP,h])
 have hz:cs.length<=1000000:=by have:=hb.1;omega
 simp only[qt,xk]at e
 simp![QK,zb,hz,qt,OV.view,OV.views,zA,ixN,atI]
 simp only[zb]at e
 rw[e]
 simp[zh,zd,WQ,outs]
theorem zc8(cf:CF){pots:Nat}{cs:List Cl}(hb:Bolt pots cs){d:Nat}(hd:d<pots):runI 2 [false,false] [] ZO cf [.d (zb cs),.d (.int d)]=.ok (zh (zd cs d)) [none,none]:=by
 obtain⟨ys,Γ',e,rfl,rfl⟩:=qe (k:=1) (t:=.nm 0 2) (cond:=b_law_lack_1.ev cf) (elt:=(b_law_lack_2.ev cf).1) (ds:=zo cs.length) (Γ:= [some (.d (zb cs)),some (.d (.int d))])
  (fun pre ys Γ=>ys=((List.range pre.length).filter (lk cs d)).map (fun (i:Nat)=>PyData.int (i:Int))/\Γ= [some (.d (zb cs)),some (.d (.int d))]) ⟨rfl,rfl⟩ (by
   rintro pre x post e ys Γ ⟨rfl,rfl⟩
   obtain⟨rfl,hlt⟩:=j4 e
   have hc:cs[pre.length]?=some cs[pre.length]:=xb hlt
   generalize cs[pre.length]=c at hc
   have ok:=hb.2 c (xF hc)
   have a1:=qM (xs:=c.st) (d:=d) (by rw[ok.sl];exact hd)
   have a2:=qM (xs:=c.wi) (d:=d) (by rw[ok.wl];exact hd)
   have a0:atI (cs.map Cl.D) (pre.length:Int)=some c.D:=qz (by rw[xg,hc];rfl)
   have hlk:lk cs d pre.length=decide (c.st.getD d 0<c.wi.getD d 0):=by unfold lk;rw[hc]
   refine⟨_,lk cs d pre.length,[some (.d (zb cs)),some (.d (.int d)),some (.d (.int pre.length))],by simp[tgF];rfl,?_,fun h=>⟨.dat (.int pre.length),[some (.d (zb cs)),some (.d (.int d)),some (.d (.int pre.length))],.int pre.length,by simp![b_law_lack_2,OV.view,OV.views,zA,ixN,atI],rfl,?_,by simp⟩,fun h=>⟨?_,by simp⟩⟩
   ·rw[hlk];simp![b_law_lack_1,zb,a0,OV.view,OV.views,zA,zcD,zbZ,Cl.D,ql,zc,a1,a2]
   ·simp[xT,xP,h]
   ·simp[xT,xP,h])
 have hz:cs.length<=1000000:=by have:=hb.1;omega
 have hz1: -1000000<=(cs.length:Int)/\(cs.length:Int)<=1000000:=by omega
 simp only[zi]at e
 simp![ZO,zb,hz,hz1,zi,OV.view,OV.views,zA,ixN,atI]
 simp only[zb]at e
 rw[e]
 simp[zh,zd,WQ,outs]
noncomputable def qh(x:Str)(cf:CF):Prop:=∀ (pots:Nat) (cs:List Cl),Bolt pots cs->∀ d:Nat,d<pots->cf x [.d (zb cs),.d (.int d)]=.ok (zh (zd cs d)) [none,none]
noncomputable def zm(cs:List Cl)(pots:Nat):List Nat:=(List.range pots).filter fun d=> !(zd cs d).isEmpty
theorem zp(xs:List Nat):(zh xs).view=.list (za xs):=by
 unfold zh za
 rw[OV.view,OV.views_map,List.map_map];rfl
theorem j5(xs:List Nat):(za xs).isEmpty=xs.isEmpty:=by cases xs<;>rfl
theorem zE(xs:List Nat):(za xs).length=xs.length:=by simp[za]
theorem KC (cf:CF) (hl:qh "lacking" cf){pots:Nat}(hp:pots<=1000){cs:List Cl}(hb:Bolt pots cs):runI 2 [false] [] Qc cf [.d (zb cs)]=.ok (zh (if cs.isEmpty then [] else zm cs pots)) [none]:=by
 cases cs with
 |nil=>simp![Qc,zb,zh,OV.view,OV.views,zA,ixN,atI]
 |cons c cs=>
  have e:=zH (k:=1) (t:=.nm 0 2) (cond:=p_needed_1.ev cf) (elt:=(p_needed_2.ev cf).1) (ds:=zo pots) (Γ:= [some (.d (zb (c::cs))),some (.d (.int pots))])
   (fun x=>match x with | .int i=> !(zd (c::cs) i.toNat).isEmpty | _=>false) id (by
    intro x hx
    obtain⟨i,hi,rfl⟩:∃ i,i<pots/\x=.int (i:Nat):=by
     obtain⟨i,hi,rfl⟩:=xo.mp hx
     exact⟨i,by simpa using hi,rfl⟩
    have el:=hl pots (c::cs) hb i hi
    refine⟨_,[some (.d (zb (c::cs))),some (.d (.int pots)),some (.d (.int i))],by simp[tgF];rfl,?_,by simp,fun _=>⟨.dat (.int i),[some (.d (zb (c::cs))),some (.d (.int pots)),some (.d (.int i))],by simp![p_needed_2,OV.view,OV.views,zA,ixN,atI],rfl,by simp⟩⟩
    simp![p_needed_1,el,zA,ixN,atI,zp,j5])
  have hc:=(hb.2 c (by simp)).sl
  have hz1: -1000000<=(pots:Int)/\(pots:Int)<=1000000:=by omega
  have hz:pots<=1000000:=by omega
  have ef:(zo pots).filter (fun x=>match x with | .int i=> !(zd (c::cs) i.toNat).isEmpty | _=>false)=za (zm (c::cs) pots):=by
   unfold zo zm za
   rw[uu]
   rfl
  rw[ef,List.map_id]at e
  simp only[zb,xK]at e
  simp![Qc,zb,Cl.D,ql,zc,hc,OV.view,OV.views,zA,ixN,atI,hz1,hz,zi]
  simp only[Cl.D,ql,zc]at e
  rw[e]
  simp[zh,za,outs]
theorem zc2 (cf:CF) (hl:qh "_law_lack" cf){pots:Nat}(hp:pots<=1000){cs:List Cl}(hb:Bolt pots cs):runI 2 [false,false] [] ZW cf [.d (zb cs),.d (.int pots)]=.ok (zh (zm cs pots)) [none,none]:=by
 have e:=zH (k:=1) (t:=.nm 0 2) (cond:=b_law_need_1.ev cf) (elt:=(b_law_need_2.ev cf).1) (ds:=zo pots) (Γ:= [some (.d (zb cs)),some (.d (.int pots))])
   (fun x=>match x with | .int i=> !(zd cs i.toNat).isEmpty | _=>false) id (by
    intro x hx
    obtain⟨i,hi,rfl⟩:∃ i,i<pots/\x=.int (i:Nat):=by
     obtain⟨i,hi,rfl⟩:=xo.mp hx
     exact⟨i,by simpa using hi,rfl⟩
    have el:=hl pots cs hb i hi
    refine⟨_,[some (.d (zb cs)),some (.d (.int pots)),some (.d (.int i))],by simp[tgF];rfl,?_,by simp,fun _=>⟨.dat (.int i),[some (.d (zb cs)),some (.d (.int pots)),some (.d (.int i))],by simp![b_law_need_2,OV.view,OV.views,zA,ixN,atI],rfl,by simp⟩⟩
    have hem:decide (0<((zd cs i).length:Int))= !(zd cs i).isEmpty:=by
     cases zd cs i with
     |nil=>rfl
     |cons a l=>simp
    simp only[Int.toNat_natCast,<- hem]
    simp![b_law_need_1,el,zA,ixN,atI,zp,zE])
 have hz1: -1000000<=(pots:Int)/\(pots:Int)<=1000000:=by omega
 have hz:pots<=1000000:=by omega
 have ef:(zo pots).filter (fun x=>match x with | .int i=> !(zd cs i.toNat).isEmpty | _=>false)=za (zm cs pots):=by
  unfold zo zm za
  rw[uu]
  rfl
 rw[ef,List.map_id]at e
 simp only[zb]at e
 simp![ZW,zb,hz1,hz,zi,OV.view,OV.views,zA,ixN,atI]
 rw[e]
 simp[zh,za,outs]
theorem qr{α:Type}(l:List α):l.filter (fun _=>true)=l:=List.filter_eq_self.mpr fun _ _=>rfl
theorem zbd(cf:CF)(i:Int):runI 1 [false] [] Ze cf [.d (.int i)]=.ok (.d (.bool true)) [none]:=by
 simp![Ze,OV.view,OV.views,zA,ixN,atI]
noncomputable def vX (cf:CF):Prop:=∀ i:Int,cf "_law_whole" [.d (.int i)]=.ok (.d (.bool true)) [none]
theorem KF(cf:CF)(hw:vX cf){xs:List Nat}(hl:xs.length<=1000):runI 1 [false] [] jN cf [.d (.list (za xs))]=.ok (.d (.bool true)) [none]:=by
 have e:=zH (k:=1) (t:=.nm 0 1) (cond:=fYes) (elt:=(b_law_wholes_1.ev cf).1) (ds:=za xs) (Γ:= [some (.d (.list (za xs)))]) (fun _=>true) (fun _=>.bool true) (by
  intro x hx
  obtain⟨i,_,rfl⟩:=xo.mp hx
  refine⟨_,_,by simp[tgF];rfl,rfl,by simp,fun _=>⟨.dat (.bool true),[some (.d (.list (za xs))),some (.d (.int i))],?_,rfl,by simp⟩⟩
  simp![b_law_wholes_1,hw (i:Int),OV.view,OV.views,zA,ixN,atI])
 have hz:xs.length<=1000000:=by omega
 have hb:qk (List.map (fun _=>PyData.bool true) (List.filter (fun _=>true) (za xs)))=some ((za xs).map fun _=>true):=by
  rw[qr,<- qO,List.map_map];rfl
 have ha:((za xs).map fun _=>true).all id=true:=by simp
 simp![jN,zE,hz,OV.view,OV.views,zA,ixN,atI]
 rw[e]
 simp only[Option.bind_some,gAll,hb,ut,ha,outs];rfl
noncomputable def Y1 (cf:CF):Prop:=∀ b,zu b->∃ (p n:Int) (b':OV),0<=p/\p<=12/\0<=n/\n<=40/\zu b'/\cf "_law_sizes" [b]=.ok (.d (.tuple [.int p,.int n])) [some b']
noncomputable def yE (cf:CF):Prop:=∀ xs:List Nat,xs.length<=1000->cf "_law_wholes" [.d (.list (za xs))]=.ok (.d (.bool true)) [none]
theorem zO(cs:List Cl):OV.view (.l (cs.map fun c=>.d c.D))=zb cs:=by
 rw[OV.view,OV.views_map,List.map_map];rfl
end Wx
set_option maxHeartbeats 4000000
namespace Wx
open PySem L2 L3
theorem Ji:∀ xs ys:List Nat,PyData.eqvAll (za xs) (za ys)=decide (xs=ys)
 |[],[]=>rfl
 |[],y::ys=>by simp[za,PyData.eqvAll]
 |x::xs,[]=>by simp[za,PyData.eqvAll]
 |x::xs,y::ys=>by
  have ih:=Ji xs ys
  unfold za at ih |-
  rw[xK,xK,PyData.eqvAll,zB,ih]
  by_cases h:x=y
  ·subst h;simp
  ·have:((x:Int)==(y:Int))=false:=by simp;omega
   simp[this,h]
theorem VH(xs ys:List Nat):PyData.eqv (.list (za xs)) (.list (za ys))=decide (xs=ys):=by
 rw[PyData.eqv];exact Ji xs ys
theorem Zf(xs:List Nat):qj (za xs)=some (xs.map fun (i:Nat)=>(i:Int)):=by
 have:=wz (xs.map fun (i:Nat)=>(i:Int))
 rw[List.map_map]at this
 exact this
theorem zad(xs ys:List Nat):(((Zg (xs.map fun (i:Nat)=>(i:Int)) (ys.map fun (i:Nat)=>(i:Int)):Nat):Int)==0)=xs.all fun x=>ys.contains x:=by
 have hc:∀ x:Nat,(ys.map fun (i:Nat)=>(i:Int)).contains (x:Int)=ys.contains x:=fun x=>by
  rw[xN];simp
  constructor
  ·rintro⟨a,h,e⟩
   have:a=x:=by omega
   exact this ▸ h
  ·intro h;exact⟨x,h,rfl⟩
 have hz:Zg (xs.map fun (i:Nat)=>(i:Int)) (ys.map fun (i:Nat)=>(i:Int))=0↔∀ x∈xs,ys.contains x=true:=by
  unfold Zg
  rw[uL]
  constructor
  ·intro h x hx
   cases e:ys.contains x with
   |true=>rfl
   |false=>
    have:(x:Int)∈Tab.dedup ((xs.map fun (i:Nat)=>(i:Int)).filter fun k=> !(ys.map fun (i:Nat)=>(i:Int)).contains k):=by
     rw[<- Z6,Tab.any_dedup,xp]
     exact⟨xo.mpr ⟨x,hx,rfl⟩,by rw[hc,e];rfl⟩
    rw[h]at this;cases this
  ·intro h
   cases e:Tab.dedup ((xs.map fun (i:Nat)=>(i:Int)).filter fun k=> !(ys.map fun (i:Nat)=>(i:Int)).contains k) with
   |nil=>rfl
   |cons k l=>
    have:k∈Tab.dedup ((xs.map fun (i:Nat)=>(i:Int)).filter fun k=> !(ys.map fun (i:Nat)=>(i:Int)).contains k):=by rw[e];simp
    rw[<- Z6,Tab.any_dedup,xp]at this
    obtain⟨h1,h2⟩:=this
    obtain⟨x,hx,rfl⟩:=xo.mp h1
    rw[hc,h x hx]at h2;cases h2
 rw[xN,beq_iff_eq,xD,<- hz]
 omega
noncomputable def Zz(a b:Nat)(xs ys:List Nat):Bool:=if xs=ys then decide (b<a) else xs.all fun x=>ys.contains x
theorem zaR(cf:CF)(a b:Nat){xs ys:List Nat}(hx:xs.length<=60)(hy:ys.length<=60):runI 6 [false,false] [] jH cf [.d (.tuple [.int a,.list (za xs)]),.d (.tuple [.int b,.list (za ys)])]=.ok (.d (.bool (Zz a b xs ys))) [none,none]:=by
 have l1:lay 20 (.list (za xs))=true:=JQ 19 _
 have l2:lay 20 (.list (za ys))=true:=JQ 19 _
 have hz:=zad xs ys
 by_cases he:xs=ys
 ·simp![jH,Zz,he,l2,VH,OV.view,OV.views,zA,ixN,atI]
 ·simp![jH,Zz,he,l1,l2,VH,YS,Zf,hx,hy,zl,zB,hz,OV.view,OV.views,zA,ixN,atI]
noncomputable def qQ(cs:List Cl)(i:Nat):Bool:=match cs[i]? with
 |some c=>c.w
 |none=>false
theorem zat{cs:List Cl}{i:Nat}(h:i<cs.length):atI (cs.map Cl.D) (i:Int)=some (ql cs[i].st (qQ cs i) cs[i].wi):=by
 refine qz ?_
 rw[xg,xb h]
 unfold qQ
 rw[xb h];rfl
theorem VP{cs:List Cl}{d i:Nat}(h:i∈zd cs d):i<cs.length:=xE.mp (xp.mp h).1
theorem yJ(xs:List Nat)(q:Nat->Bool):(za xs).filter (fun x=>match x with | .int i=>q i.toNat | _=>false)=za (xs.filter q):=by
 unfold za
 rw[uu];rfl
theorem zf6 (cf:CF) (hl:qh "lacking" cf){pots:Nat}{cs:List Cl}(hb:Bolt pots cs){d:Nat}(hd:d<pots):runI 2 [false,false] [] qv cf [.d (zb cs),.d (.int d)]=.ok (zh ((zd cs d).filter (qQ cs))) [none,none]:=by
 have el:=hl pots cs hb d hd
 have e:=zH (k:=1) (t:=.nm 0 2) (cond:=p_lacking_under_wax_1.ev cf) (elt:=(p_lacking_under_wax_2.ev cf).1) (ds:=za (zd cs d)) (Γ:= [some (.d (zb cs)),some (.d (.int d))])
  (fun x=>match x with | .int i=>qQ cs i.toNat | _=>false) id (by
   intro x hx
   obtain⟨i,hi,rfl⟩:=xo.mp hx
   have hw:=zat (VP hi)
   refine⟨_,[some (.d (zb cs)),some (.d (.int d)),some (.d (.int i))],by simp[tgF];rfl,?_,by simp,fun _=>⟨.dat (.int i),[some (.d (zb cs)),some (.d (.int d)),some (.d (.int i))],by simp![p_lacking_under_wax_2,OV.view,OV.views,zA,ixN,atI],rfl,by simp⟩⟩
   simp![p_lacking_under_wax_1,zb,hw,OV.view,OV.views,zA,ql,ze1])
 rw[yJ,List.map_id]at e
 have hz:(zd cs d).length<=1000000:=by
  have h1:=xQ (lk cs d) (List.range cs.length)
  rw[xO]at h1
  have:=hb.1
  unfold zd;omega
 simp![qv,el,zp,zE,hz,zA,ixN,atI]
 rw[e]
 simp[zh,za,outs]
noncomputable def ub(cs:List Cl)(a b:Nat):Bool:=if a=b∨a=12 then false else if b=12 then !(zd cs a).any (qQ cs) else Zz a b (zd cs a) (zd cs b)
theorem jV(cs:List Cl)(d:Nat):(zd cs d).length<=cs.length:=by
 have:=xQ (lk cs d) (List.range cs.length)
 rw[xO]at this;exact this
noncomputable def JE (cf:CF):Prop:=∀ (a b:Nat) (xs ys:List Nat),xs.length<=60->ys.length<=60->cf "is_lower" [.d (.tuple [.int a,.list (za xs)]),.d (.tuple [.int b,.list (za ys)])]=.ok (.d (.bool (Zz a b xs ys))) [none,none]
noncomputable def zb8 (cf:CF):Prop:=∀ (pots:Nat) (cs:List Cl),Bolt pots cs->∀ d:Nat,d<pots->cf "lacking_under_wax" [.d (zb cs),.d (.int d)]=.ok (zh ((zd cs d).filter (qQ cs))) [none,none]
theorem YG(xs:List Nat)(q:Nat->Bool):(!(za (xs.filter q)).isEmpty)=xs.any q:=by
 rw[j5]
 induction xs with
 |nil=>rfl
 |cons x xs ih=>
  rw[uU,uD]
  cases q x with
  |true=>simp
  |false=>simpa using ih
theorem Qq(xs:List Nat)(i:Nat):inD (.int (i:Int)) (za xs)=xs.contains i:=by
 unfold inD za
 rw[uO,xN,uV]
 constructor
 ·rintro⟨x,hx,e⟩
  have e2:((x:Int)==(i:Int))=true:=e
  have e3:(x:Int)=(i:Int):=by simpa using e2
  have:x=i:=by omega
  subst this;simpa using hx
 ·intro h
  refine⟨i,by simpa using h,?_⟩
  show ((i:Int)==(i:Int))=true
  simp
theorem Qx(xs:List Nat):(za xs).all (lay 20)=true:=by
 rw[xD]
 intro x hx
 obtain⟨i,_,rfl⟩:=xo.mp hx
 exact zl _ _
end Wx
namespace Ku
noncomputable abbrev FL:=List (Option Nat)
noncomputable def fat(F:FL)(p:Nat):Option Nat:=(F[p]?).getD none
theorem qS{F:FL}{p:Nat}{s:Option Nat}(h:p<F.length):fat (F.set p s) p=s:=by unfold fat;rw[xt h];rfl
theorem zY{F:FL}{p q:Nat}{s:Option Nat}(h:p≠q):fat (F.set p s) q=fat F q:=by unfold fat;rw[xv h]
theorem zfF{F:FL}{p s:Nat}(h:fat F p=some s):p<F.length:=by
 by_cases hp:p<F.length
 ·exact hp
 ·unfold fat at h;rw[xj (by omega)]at h;cases h
theorem nodup_len:∀ {l T:List Nat},l.Nodup->(∀ x∈l,x∈T)->l.length<=T.length
 |[],T,_,_=>ui _
 |a::l,T,h,hs=>by
  have ha:a∈T:=hs a (by simp)
  have hn:=xB.mp h
  have:=nodup_len (l:=l) (T:=T.erase a) hn.2 (fun x hx=>by
   have hxa:x≠a:=fun e=>hn.1 (e ▸ hx)
   exact (List.mem_erase_of_ne hxa).mpr (hs x (xi _ hx)))
  rw[List.length_erase_of_mem ha]at this
  have hp:=List.length_pos_of_mem ha
  simp only[xl]
  omega
theorem Vu{T:List Nat}{N:Nat}(h:T.Nodup)(hl:∀ p∈T,p<N):T.length<=N:=by
 have:=nodup_len (T:=List.range N) h fun x hx=>xE.mpr (hl x hx)
 rwa [xO]at this
theorem Z2{α:Type}(l:List α)(q:α->Bool):(l.filter q).length+(l.filter fun x=> !q x).length=l.length:=by
 induction l with
 |nil=>rfl
 |cons a l ih=>
  rw[uU,uU]
  cases q a<;>simp<;>omega
theorem Yb{M T:List Nat}(hM:M.Nodup):M.length<=(M.filter fun x=> !T.contains x).length+T.length:=by
 have h1:=Z2 M fun x=>T.contains x
 have h2:(M.filter fun x=>T.contains x).length<=T.length:=nodup_len (hM.filter _) fun x hx=>by simpa using (xp.mp hx).2
 omega
theorem dual:∀ {Ss:List (List Nat)}{A:List Nat},A.Nodup->(∀ a∈A,∃ S∈Ss,a∈S)->(∀ S∈Ss,∀ x∈A,∀ y∈A,x∈S->y∈S->x=y)->A.length<=Ss.length
 |[],A,_,hc,_=>by
  cases A with
  |nil=>simp
  |cons a A=>obtain⟨S,h,_⟩:=hc a (by simp);cases h
 |S::Ss,A,hn,hc,h1=>by
  have ih:=dual (Ss:=Ss) (A:=A.filter fun x=> !S.contains x) (hn.filter _) (fun a ha=>by
   have ha':=xp.mp ha
   obtain⟨S',hS,hin⟩:=hc a ha'.1
   rcases xm.mp hS with rfl | hS
   ·have:=ha'.2
    simp[hin]at this
   ·exact⟨S',hS,hin⟩) (fun S' hS x hx y hy=>h1 S' (xi _ hS) x (xp.mp hx).1 y (xp.mp hy).1)
  have h2:=Z2 A fun x=>S.contains x
  have h3:(A.filter fun x=>S.contains x).length<=1:=by
   cases e:A.filter fun x=>S.contains x with
   |nil=>simp
   |cons a l=>
    cases l with
    |nil=>simp
    |cons b l=>
     have hnd:=hn.filter fun x=>S.contains x
     rw[e]at hnd
     have ha:a∈A.filter fun x=>S.contains x:=by rw[e];simp
     have hb:b∈A.filter fun x=>S.contains x:=by rw[e];simp
     have ha':=xp.mp ha
     have hb':=xp.mp hb
     have:a=b:=h1 S (by simp) a ha'.1 b hb'.1 (by simpa using ha'.2) (by simpa using hb'.2)
     subst this
     simp at hnd
  simp only[xl]
  omega
noncomputable abbrev RT:=Bool×FL×List Nat
noncomputable def zX(rec:Nat->FL->List Nat->RT)(a:Nat):List Nat->FL->List Nat->RT
 |[],F,T=>(false,F,T)
 |p::ps,F,T=>if T.contains p then zX rec a ps F T else
  match fat F p with
  |none=>(true,F.set p (some a),T++ [p])
  |some s=>match rec s F (T++ [p]) with
   | (true,F',T')=>(true,F'.set p (some a),T')
   | (false,F',T')=>zX rec a ps F' T'
noncomputable def up(ab:List (List Nat))(a:Nat):List Nat:=(ab[a]?).getD []
noncomputable def zk(ab:List (List Nat)):Nat->Nat->FL->List Nat->RT
 |0,_,F,T=>(false,F,T)
 |n+1,a,F,T=>zX (zk ab n) a (up ab a) F T
structure Val(ab:List (List Nat))(N:Nat)(F:FL)(T:List Nat):Prop where
 len:F.length=N
 edge:∀ p s,fat F p=some s->s<N/\p∈up ab s
 inj:∀ p q s,p∉T->q∉T->fat F p=some s->fat F q=some s->p=q
structure TOk(N:Nat)(T:List Nat):Prop where
 nd:T.Nodup
 lt:∀ p∈T,p<N
theorem TOk.snoc{N:Nat}{T:List Nat}{p:Nat}(h:TOk N T)(hp:p∉T)(hl:p<N):TOk N (T++ [p]):=by
 refine⟨?_,fun q hq=>?_⟩
 ·rw[uj]
  refine⟨h.nd,by simp,fun a ha b hb=>?_⟩
  have:b=p:=by simpa using hb
  subst this
  exact fun e=>hp (e ▸ ha)
 ·rcases xH.mp hq with hq | hq
  ·exact h.lt q hq
  ·have:q=p:=by simpa using hq
   omega
structure zew(ab:List (List Nat))(N:Nat)(F:FL)(T:List Nat)(a:Nat)(F':FL):Prop where
 val:Val ab N F' T
 keep:∀ p∈T,fat F' p=fat F p
 vals:∀ p s,p∉T->fat F' p=some s->s=a∨∃ q,q∉T/\fat F q=some s
 has:∃ p,p∉T/\fat F' p=some a
 old:∀ q s,q∉T->fat F q=some s->∃ p,p∉T/\fat F' p=some s
structure Spec(ab:List (List Nat))(N:Nat)(F:FL)(T:List Nat)(a:Nat)(ps:List Nat)(r:RT):Prop where
 tok:TOk N r.2.2
 sub:∀ p∈T,p∈r.2.2
 same:r.1=false->r.2.1=F
 all:r.1=false->∀ p∈ps,p∈r.2.2
 dead:r.1=false->∀ p∈r.2.2,p∉T->∃ s,fat F p=some s/\∀ q∈up ab s,q∈r.2.2
 succ:r.1=true->zew ab N F T a r.2.1
section
variable {ab:List (List Nat)} {N:Nat} (hab:∀ a p,p∈up ab a->p<N)
include hab
theorem Kk{F:FL}{T:List Nat}{a p:Nat}(v:Val ab N F T)(ha:a<N)(hna:∀ p,p∉T->fat F p≠some a)(hp:p∈up ab a)(hpT:p∉T)(hF:fat F p=none):zew ab N F T a (F.set p (some a)):=by
 have hpl:p<F.length:=by rw[v.len];exact hab a p hp
 have get:∀ q s,fat (F.set p (some a)) q=some s->(q=p/\s=a)∨(q≠p/\fat F q=some s):=fun q s e=>by
  by_cases hq:q=p
  ·subst hq;rw[qS hpl]at e;cases e;exact .inl ⟨rfl,rfl⟩
  ·rw[zY (Ne.symm hq)]at e;exact .inr ⟨hq,e⟩
 refine⟨⟨by rw[uk];exact v.len,fun q s e=>?_,fun q q' s h1 h2 e1 e2=>?_⟩,fun q hq=>zY fun e=>hpT (e ▸ hq),fun q s hq e=>?_,⟨p,hpT,qS hpl⟩,fun q s hq e=>⟨q,hq,?_⟩⟩
 ·rcases get q s e with ⟨rfl,rfl⟩ | ⟨_,e⟩
  ·exact⟨ha,hp⟩
  ·exact v.edge q s e
 ·rcases get q s e1 with ⟨a1,b1⟩ | ⟨_,f1⟩
  ·rcases get q' s e2 with ⟨a2,b2⟩ | ⟨_,f2⟩
   ·rw[a1,a2]
   ·rw[b1]at f2;exact absurd f2 (hna q' h2)
  ·rcases get q' s e2 with ⟨a2,b2⟩ | ⟨_,f2⟩
   ·rw[b2]at f1;exact absurd f1 (hna q h1)
   ·exact v.inj q q' s h1 h2 f1 f2
 ·rcases get q s e with ⟨rfl,rfl⟩ | ⟨_,e⟩
  ·exact .inl rfl
  ·exact .inr ⟨q,hq,e⟩
 ·rw[zY];exact e
  intro z;subst z;rw[hF]at e;cases e
theorem K0{F F1:FL}{T0 T:List Nat}{a p s:Nat}(v:Val ab N F T0)(hT:∀ q∈T0,q∈T)(ha:a<N)(hna:∀ p,p∉T0->fat F p≠some a)(hp:p∈up ab a)(hpT:p∉T)(hF:fat F p=some s)
  (h1:zew ab N F (T++ [p]) s F1):zew ab N F T0 a (F1.set p (some a)):=by
 have hpl:p<F1.length:=by rw[h1.val.len];exact hab a p hp
 have hp0:p∉T0:=fun h=>hpT (hT p h)
 have mem:∀ q,q∉T++ [p]->q∉T/\q≠p:=fun q h=>⟨fun z=>h (xr _ z),fun z=>h (by simp[z])⟩
 have mem':∀ q,q∉T->q≠p->q∉T++ [p]:=fun q h h' z=>by
  rcases xH.mp z with z | z
  ·exact h z
  ·exact h' (by simpa using z)
 have get:∀ q x,fat (F1.set p (some a)) q=some x->(q=p/\x=a)∨(q≠p/\fat F1 q=some x):=fun q s e=>by
  by_cases hq:q=p
  ·subst hq;rw[qS hpl]at e;cases e;exact .inl ⟨rfl,rfl⟩
  ·rw[zY (Ne.symm hq)]at e;exact .inr ⟨hq,e⟩
 have noa:∀ q,q∉T0->q≠p->fat F1 q≠some a:=fun q hq hqp e=>by
  by_cases hqT:q∈T
  ·rw[h1.keep q (xr _ hqT)]at e;exact hna q hq e
  ·rcases h1.vals q a (mem' q hqT hqp) e with e' | ⟨z,hz,e'⟩
   ·rw[<- e']at hF;exact hna p hp0 hF
   ·exact hna z (fun w=>(mem z hz).1 (hT z w)) e'
 refine⟨⟨by rw[uk];exact h1.val.len,fun q x e=>?_,fun q q' x g1 g2 e1 e2=>?_⟩,fun q hq=>?_,fun q x hq e=>?_,⟨p,hp0,qS hpl⟩,fun q x hq e=>?_⟩
 ·rcases get q x e with ⟨rfl,rfl⟩ | ⟨_,e⟩
  ·exact⟨ha,hp⟩
  ·exact h1.val.edge q x e
 ·rcases get q x e1 with ⟨a1,b1⟩ | ⟨n1,f1⟩
  ·rcases get q' x e2 with ⟨a2,b2⟩ | ⟨n2,f2⟩
   ·rw[a1,a2]
   ·rw[b1]at f2;exact absurd f2 (noa q' g2 n2)
  ·rcases get q' x e2 with ⟨a2,b2⟩ | ⟨n2,f2⟩
   ·rw[b2]at f1;exact absurd f1 (noa q g1 n1)
   ·have cross:∀ q q',q∉T0->q≠p->q'≠p->q∈T->q'∉T->fat F1 q=some x->fat F1 q'=some x->False:=fun q q' g1 n1 n2 t1 t2 e1 e2=>by
     rw[h1.keep q (xr _ t1)]at e1
     rcases h1.vals q' x (mem' q' t2 n2) e2 with rfl | ⟨z,hz,e'⟩
     ·exact n1 (v.inj q p x g1 hp0 e1 hF)
     ·have:=v.inj q z x g1 (fun w=>(mem z hz).1 (hT z w)) e1 e'
      subst this
      exact (mem q hz).1 t1
    by_cases t1:q∈T
    ·by_cases t2:q'∈T
     ·rw[h1.keep q (xr _ t1)]at f1
      rw[h1.keep q' (xr _ t2)]at f2
      exact v.inj q q' x g1 g2 f1 f2
     ·exact (cross q q' g1 n1 n2 t1 t2 f1 f2).elim
    ·by_cases t2:q'∈T
     ·exact (cross q' q g2 n2 n1 t2 t1 f2 f1).elim
     ·exact h1.val.inj q q' x (mem' q t1 n1) (mem' q' t2 n2) f1 f2
 ·have hqp:p≠q:=fun e=>hp0 (e ▸ hq)
  rw[zY hqp,h1.keep q (xr _ (hT q hq))]
 ·rcases get q x e with ⟨rfl,rfl⟩ | ⟨n1,e⟩
  ·exact .inl rfl
  ·by_cases t1:q∈T
   ·rw[h1.keep q (xr _ t1)]at e
    exact .inr ⟨q,hq,e⟩
   ·rcases h1.vals q x (mem' q t1 n1) e with rfl | ⟨z,hz,e'⟩
    ·exact .inr ⟨p,hp0,hF⟩
    ·exact .inr ⟨z,fun w=>(mem z hz).1 (hT z w),e'⟩
 ·by_cases hqp:q=p
  ·subst hqp
   rw[hF]at e;cases e
   obtain⟨z,hz,e'⟩:=h1.has
   exact⟨z,fun w=>(mem z hz).1 (hT z w),by rw[zY (Ne.symm (mem z hz).2)];exact e'⟩
  ·by_cases t1:q∈T
   ·exact⟨q,hq,by rw[zY (Ne.symm hqp),h1.keep q (xr _ t1)];exact e⟩
   ·obtain⟨z,hz,e'⟩:=h1.old q x (mem' q t1 hqp) e
    exact⟨z,fun w=>(mem z hz).1 (hT z w),by rw[zY (Ne.symm (mem z hz).2)];exact e'⟩
noncomputable abbrev zg5(ab:List (List Nat))(N n:Nat)(rec:Nat->FL->List Nat->RT):Prop:=∀ (a:Nat) (F:FL) (T:List Nat),Val ab N F T->TOk N T->N<n+T.length->a<N->(∀ p,p∉T->fat F p≠some a)->Spec ab N F T a (up ab a) (rec a F T)
theorem Q4{n:Nat}{rec:Nat->FL->List Nat->RT}(hrec:zg5 ab N n rec){F:FL}{T0:List Nat}{a:Nat}(v:Val ab N F T0)(ha:a<N)(hna:∀ p,p∉T0->fat F p≠some a) :
  ∀ (ps T:List Nat),(∀ p∈ps,p∈up ab a)->TOk N T->N<n+1+T.length->(∀ q∈T0,q∈T)->(∀ p∈T,p∉T0->∃ s,fat F p=some s/\∀ q∈up ab s,q∈T) ->
   Spec ab N F T0 a ps (zX rec a ps F T)/\∀ q∈T,q∈(zX rec a ps F T).2.2
 |[],T,hps,tk,hl,hT,hd=>⟨⟨tk,hT,fun _=>rfl,(fun _ p h=>nomatch h),fun _=>hd,(fun h=>nomatch h)⟩,fun q h=>h⟩
 |p::ps,T,hps,tk,hl,hT,hd=>by
  have hp:p∈up ab a:=hps p (by simp)
  have hps':∀ p∈ps,p∈up ab a:=fun q h=>hps q (xi _ h)
  rw[zX]
  by_cases hc:p∈T
  ·rw[if_pos (by simpa using hc)]
   obtain⟨ih,ih2⟩:=Q4 hrec v ha hna ps T hps' tk hl hT hd
   refine⟨⟨ih.tok,ih.sub,ih.same,fun h q hq=>?_,ih.dead,ih.succ⟩,ih2⟩
   rcases xm.mp hq with rfl | hq
   ·exact ih2 q hc
   ·exact ih.all h q hq
  ·rw[if_neg (by simpa using hc)]
   have tk':=tk.snoc hc (hab a p hp)
   cases hF:fat F p with
   |none=>
    refine⟨⟨tk',fun q hq=>xr _ (hT q hq),(fun h=>nomatch h),(fun h=>nomatch h),(fun h=>nomatch h),fun _=>?_⟩,fun q h=>xr _ h⟩
    exact Kk hab v ha hna hp (fun h=>hc (hT p h)) hF
   |some s=>
    have hs:=(v.edge p s hF).1
    have v':Val ab N F (T++ [p]):=⟨v.len,v.edge,fun q q' x h1 h2=>v.inj q q' x (fun z=>h1 (xr _ (hT q z))) (fun z=>h2 (xr _ (hT q' z)))⟩
    have h1:=hrec s F (T++ [p]) v' tk' (by simp;omega) hs (fun q hq e=>by
     have hq':q∉T:=fun z=>hq (xr _ z)
     have:=v.inj q p s (fun z=>hq' (hT q z)) (fun z=>hc (hT p z)) e hF
     subst this
     exact hq (by simp))
    show Spec ab N F T0 a (p::ps) (match rec s F (T++ [p]) with
     | (true,F',T')=>(true,F'.set p (some a),T')
     | (false,F',T')=>zX rec a ps F' T')/\∀ q∈T,q∈(match rec s F (T++ [p]) with
     | (true,F',T')=>(true,F'.set p (some a),T')
     | (false,F',T')=>zX rec a ps F' T').2.2
    generalize rec s F (T++ [p])=r at h1
    obtain⟨b,F',T'⟩:=r
    cases b with
    |true=>
     have sc:=K0 hab v hT ha hna hp hc hF (h1.succ rfl)
     exact⟨⟨h1.tok,fun q hq=>h1.sub q (xr _ (hT q hq)),(fun h=>nomatch h),(fun h=>nomatch h),(fun h=>nomatch h),fun _=>sc⟩,fun q hq=>h1.sub q (xr _ hq)⟩
    |false=>
     have e1:F'=F:=h1.same rfl
     subst e1
     have hsub:∀ q∈T,q∈T':=fun q hq=>h1.sub q (xr _ hq)
     have hpT':p∈T':=h1.sub p (by simp)
     have hlen:T.length+1<=T'.length:=by
      have:=nodup_len tk'.nd h1.sub
      simpa using this
     obtain⟨ih,ih2⟩:=Q4 hrec v ha hna ps T' hps' h1.tok (by omega) (fun q hq=>hsub q (hT q hq)) (fun q hq hq0=>by
      by_cases hqT:q∈T
      ·obtain⟨x,ex,hx⟩:=hd q hqT hq0
       exact⟨x,ex,fun z hz=>hsub z (hx z hz)⟩
      ·by_cases hqp:q=p
       ·subst hqp
        exact⟨s,hF,fun z hz=>h1.all rfl z hz⟩
       ·refine h1.dead rfl q hq fun z=>?_
        rcases xH.mp z with z | z
        ·exact hqT z
        ·exact hqp (by simpa using z))
     refine⟨⟨ih.tok,ih.sub,ih.same,fun h q hq=>?_,ih.dead,ih.succ⟩,fun q hq=>ih2 q (hsub q hq)⟩
     rcases xm.mp hq with rfl | hq
     ·exact ih2 q hpT'
     ·exact ih.all h q hq
theorem jn:∀ n,zg5 ab N n (zk ab n)
 |0,a,F,T,v,tk,hl,ha,hna=>by have:=Vu tk.nd tk.lt;omega
 |n+1,a,F,T,v,tk,hl,ha,hna=>(Q4 hab (jn n) v ha hna (up ab a) T (fun _ h=>h) tk hl (fun _ h=>h) (fun p h h'=>absurd h h')).1
end
noncomputable def zck(ab:List (List Nat))(F:FL)(Z:Nat->Prop):Prop:=∀ p,Z p->∃ s,fat F p=some s/\∀ q∈up ab s,Z q
section
variable {ab:List (List Nat)}
theorem Q3{rec:Nat->FL->List Nat->RT}(hrec:∀ a F T,(rec a F T).1=false->(rec a F T).2.1=F)(a:Nat):∀ ps F T,(zX rec a ps F T).1=false->(zX rec a ps F T).2.1=F
 |[],F,T,h=>rfl
 |p::ps,F,T,h=>by
  rw[zX]at h |-
  split at h
  ·rw[if_pos (by assumption)];exact Q3 hrec a ps F T h
  ·rw[if_neg (by assumption)]
   cases hF:fat F p with
   |none=>rw[hF]at h;cases h
   |some s=>
    rw[hF]at h
    simp only at h |-
    have h1:=hrec s F (T++ [p])
    generalize rec s F (T++ [p])=r at h h1
    obtain⟨b,F',T'⟩:=r
    cases b with
    |true=>cases h
    |false=>
     have:F'=F:=h1 rfl
     subst this
     exact Q3 hrec a ps F' T' h
theorem j6:∀ n a F T,(zk ab n a F T).1=false->(zk ab n a F T).2.1=F
 |0,_,_,_,_=>rfl
 |n+1,a,F,T,h=>Q3 (j6 n) a (up ab a) F T h
theorem Q2{F:FL}{Z:Nat->Prop}(hZ:zck ab F Z){rec:Nat->FL->List Nat->RT}(hs:∀ a F T,(rec a F T).1=false->(rec a F T).2.1=F)(hrec:∀ a T,(∀ q∈up ab a,Z q)->(rec a F T).1=false)(a:Nat):∀ ps T,(∀ q∈ps,Z q)->(zX rec a ps F T).1=false
 |[],T,_=>rfl
 |p::ps,T,hz=>by
  rw[zX]
  have hz':∀ q∈ps,Z q:=fun q h=>hz q (xi _ h)
  split
  ·exact Q2 hZ hs hrec a ps T hz'
  ·obtain⟨s,e,hq⟩:=hZ p (hz p (by simp))
   rw[e]
   simp only
   have h1:=hrec s (T++ [p]) hq
   have h2:=hs s F (T++ [p]) h1
   generalize rec s F (T++ [p])=r at h1 h2
   obtain⟨b,F',T'⟩:=r
   cases h1
   have:F'=F:=h2
   subst this
   exact Q2 hZ hs hrec a ps T' hz'
theorem j3{F:FL}{Z:Nat->Prop}(hZ:zck ab F Z):∀ n a T,(∀ q∈up ab a,Z q)->(zk ab n a F T).1=false
 |0,_,_,_=>rfl
 |n+1,a,T,h=>Q2 hZ (j6 n) (fun a T h=>j3 hZ n a T h) a (up ab a) T h
theorem QV{F:FL}{Z:Nat->Prop}(hZ:zck ab F Z){rec:Nat->FL->List Nat->RT}(hs:∀ a F T,(rec a F T).1=false->(rec a F T).2.1=F)(hd:∀ a T,(∀ q∈up ab a,Z q)->(rec a F T).1=false)(hk:∀ a T,∀ p,Z p->fat (rec a F T).2.1 p=fat F p)(a:Nat):∀ ps T,∀ p,Z p->fat (zX rec a ps F T).2.1 p=fat F p
 |[],T,_,_=>rfl
 |p::ps,T,q,hq=>by
  rw[zX]
  split
  ·exact QV hZ hs hd hk a ps T q hq
  ·cases hF:fat F p with
   |none=>
    refine zY fun e=>?_
    subst e
    obtain⟨s,e,_⟩:=hZ p hq
    rw[hF]at e;cases e
   |some s=>
    simp only
    have h1:=hk s (T++ [p]) q hq
    have h2:=hs s F (T++ [p])
    have h3:=hd s (T++ [p])
    generalize rec s F (T++ [p])=r at h1 h2 h3
    obtain⟨b,F',T'⟩:=r
    cases b with
    |true=>
     show fat (F'.set p (some a)) q=fat F q
     rw[zY]
     ·exact h1
     ·intro e
      subst e
      obtain⟨s',e,hz⟩:=hZ p hq
      rw[hF]at e;cases e
      exact absurd (h3 hz) (by simp)
    |false=>
     have:F'=F:=h2 rfl
     subst this
     exact QV hZ hs hd hk a ps T' q hq
theorem Jk{F:FL}{Z:Nat->Prop}(hZ:zck ab F Z):∀ n a T,∀ p,Z p->fat (zk ab n a F T).2.1 p=fat F p
 |0,_,_,_,_=>rfl
 |n+1,a,T,p,h=>QV hZ (j6 n) (fun a T h=>j3 hZ n a T h) (fun a T p h=>Jk hZ n a T p h) a (up ab a) T p h
end
structure Inv(ab:List (List Nat))(N k:Nat)(F:FL):Prop where
 val:Val ab N F []
 lt:∀ p s,fat F p=some s->s<k
 dead:∃ Z,zck ab F Z/\∀ a,a<k->(∀ p,fat F p≠some a)->∀ q∈up ab a,Z q
theorem JX(N p:Nat):fat (List.replicate N none) p=none:=by
 unfold fat
 rw[xS]
 split<;>rfl
theorem zbO(ab:List (List Nat))(N:Nat):Inv ab N 0 (List.replicate N none) :=
 ⟨⟨by simp,fun p s e=>by rw[JX]at e;(cases e),fun p q s _ _ e=>by rw[JX]at e;(cases e)⟩,fun p s e=>by rw[JX]at e;(cases e),fun _=>False,fun _ h=>h.elim,fun a h=>by omega⟩
theorem zcl{ab:List (List Nat)}{N:Nat}(hab:∀ a p,p∈up ab a->p<N){k m:Nat}(hk:k<N)(hm:N<m){F:FL}(h:Inv ab N k F):Inv ab N (k+1) (zk ab m k F []).2.1:=by
 have hna:∀ p,p∉ []->fat F p≠some k:=fun p _ e=>by have:=h.lt p k e;omega
 have sp:=jn hab m k F [] h.val ⟨.nil,(fun _ h=>nomatch h)⟩ (by simpa using hm) hk hna
 obtain⟨Z,hZ,hz⟩:=h.dead
 have kp:=Jk hZ m k []
 generalize zk ab m k F []=r at sp kp
 obtain⟨b,F',T'⟩:=r
 cases b with
 |false=>
  have:F'=F:=sp.same rfl
  subst this
  refine⟨h.val,fun p s e=>uN (h.lt p s e),fun p=>Z p∨p∈T',fun p hp=>?_,fun a ha hn q hq=>?_⟩
  ·rcases hp with hp | hp
   ·obtain⟨s,e,g⟩:=hZ p hp
    exact⟨s,e,fun q hq=>.inl (g q hq)⟩
   ·obtain⟨s,e,g⟩:=sp.dead rfl p hp (fun h=>nomatch h)
    exact⟨s,e,fun q hq=>.inr (g q hq)⟩
  ·by_cases hak:a<k
   ·exact .inl (hz a hak hn q hq)
   ·have:a=k:=by omega
    subst this
    exact .inr (sp.all rfl q hq)
 |true=>
  have sc:=sp.succ rfl
  refine⟨sc.val,fun p s e=>?_,Z,fun p hp=>?_,fun a ha hn q hq=>?_⟩
  ·rcases sc.vals p s (fun h=>nomatch h) e with rfl | ⟨q,_,e'⟩
   ·exact uS _
   ·exact uN (h.lt q s e')
  ·obtain⟨s,e,g⟩:=hZ p hp
   exact⟨s,by rw[kp p hp];exact e,g⟩
  ·by_cases hak:a<k
   ·refine hz a hak (fun p e=>?_) q hq
    obtain⟨p',_,e'⟩:=sc.old p a (fun h=>nomatch h) e
    exact hn p' e'
   ·have:a=k:=by omega
    subst this
    obtain⟨p,_,e⟩:=sc.has
    exact absurd e (hn p)
noncomputable def jX(ab:List (List Nat))(m:Nat):Nat->FL->FL
 |0,F=>F
 |k+1,F=>(zk ab m k (jX ab m k F) []).2.1
theorem wt{ab:List (List Nat)}{N:Nat}(hab:∀ a p,p∈up ab a->p<N){m:Nat}(hm:N<m):∀ k,k<=N->Inv ab N k (jX ab m k (List.replicate N none))
 |0,_=>zbO ab N
 |k+1,h=>zcl hab (by omega) hm (wt hab hm k (by omega))
end Ku
set_option maxHeartbeats 4000000
namespace Wx
open PySem L2 L3
theorem JR(cs:List Cl)(p:Nat):(zm cs p).length<=p:=by
 have:=xQ (fun d=> !(zd cs d).isEmpty) (List.range p)
 rw[xO]at this;exact this
theorem zdq(cs:List Cl)(p:Nat):(if cs.isEmpty then [] else zm cs p)=zm cs p:=by
 cases cs with
 |nil=>
  have:zm [] p= []:=by
   unfold zm
   rw[List.filter_eq_nil_iff]
   intro d _
   simp[zd]
  simp[this]
 |cons c cs=>simp
theorem Q6(Γ:Gv)(cs:List Cl):zA Γ (.dat (zb cs))=some (cs.map Cl.D):=rfl
theorem Jb(cs:List Cl):PyData.list (cs.map Cl.D)=zb cs:=rfl
theorem zG(x:PyData):(OV.d x).view=x:=rfl
theorem jG(xs:List PyData):(OV.l (xs.map .d)).view=.list xs:=by rw[OV.view,OV.views_d]
noncomputable def zz(c:Cl)(d:Nat):Bool:=decide (c.st.getD d 0<c.wi.getD d 0)
theorem zgE(cs:List Cl)(d i:Nat):lk cs d i=true↔∃ c,cs[i]?=some c/\zz c d=true:=by
 unfold lk zz
 cases cs[i]? with
 |none=>simp
 |some c=>simp
theorem qi(cs:List Cl)(d i:Nat):i∈zd cs d↔∃ c,cs[i]?=some c/\zz c d=true:=by
 unfold zd
 rw[xp,xE,zgE]
 constructor
 ·exact fun h=>h.2
 ·rintro⟨c,h1,h2⟩
  exact⟨(xc.mp h1).1,c,h1,h2⟩
theorem Q8(cs:List Cl)(a b:Nat):(∀ i∈zd cs a,i∈zd cs b)↔∀ c∈cs,zz c a=true->zz c b=true:=by
 constructor
 ·intro h c hc hl
  obtain⟨i,hi⟩:=uv hc
  obtain⟨c',h1,h2⟩:=(qi cs b i).mp (h i ((qi cs a i).mpr ⟨c,hi,hl⟩))
  rw[hi]at h1;cases h1;exact h2
 ·intro h i hi
  obtain⟨c,h1,h2⟩:=(qi cs a i).mp hi
  exact (qi cs b i).mpr ⟨c,h1,h c (xF h1) h2⟩
theorem yH(cs:List Cl)(a b:Nat):zd cs a=zd cs b↔(∀ c∈cs,zz c a=true->zz c b=true)/\∀ c∈cs,zz c b=true->zz c a=true:=by
 rw[<- Q8,<- Q8]
 constructor
 ·intro h;rw[h];exact⟨fun _ h=>h,fun _ h=>h⟩
 ·rintro⟨h1,h2⟩
  unfold zd at h1 h2 |-
  refine List.filter_congr fun i hi=>?_
  rw[xN]
  exact⟨fun h=>(xp.mp (h1 i (xp.mpr ⟨hi,h⟩))).2,fun h=>(xp.mp (h2 i (xp.mpr ⟨hi,h⟩))).2⟩
theorem kt(cs:List Cl)(a:Nat):(zd cs a).any (qQ cs)=true↔∃ c∈cs,zz c a=true/\c.w=true:=by
 rw[uV]
 constructor
 ·rintro⟨i,hi,hw⟩
  obtain⟨c,h1,h2⟩:=(qi cs a i).mp hi
  unfold qQ at hw
  rw[h1]at hw
  exact⟨c,xF h1,h2,hw⟩
 ·rintro⟨c,hc,h1,h2⟩
  obtain⟨i,hi⟩:=uv hc
  exact⟨i,(qi cs a i).mpr ⟨c,hi,h1⟩,by unfold qQ;rw[hi];exact h2⟩
noncomputable def Und(cs:List Cl)(a b:Nat):Prop:=a≠b/\a≠12/\(b=12->∀ c∈cs,zz c a=true->c.w=false)/\(b≠12->(∀ c∈cs,zz c a=true->zz c b=true)/\((∀ c∈cs,zz c b=true->zz c a=true)->b<a))
theorem jr(cs:List Cl)(a b:Nat):ub cs a b=true↔Und cs a b:=by
 unfold ub Und
 by_cases h0:a=b
 ·simp[h0]
 by_cases h1:a=12
 ·simp[h1]
 rw[if_neg (by simp[h0,h1])]
 by_cases h2:b=12
 ·subst h2
  rw[if_pos rfl]
  have:=kt cs a
  constructor
  ·intro h
   refine⟨h0,h1,fun _ c hc hl=>?_,fun h=>absurd rfl h⟩
   cases hw:c.w with
   |false=>rfl
   |true=>
    rw[this.mpr ⟨c,hc,hl,hw⟩]at h;cases h
  ·rintro⟨_,_,h,_⟩
   cases e:(zd cs a).any (qQ cs) with
   |false=>rfl
   |true=>
    obtain⟨c,hc,hl,hw⟩:=this.mp e
    rw[h rfl c hc hl]at hw;cases hw
 ·rw[if_neg h2]
  unfold Zz
  by_cases h3:zd cs a=zd cs b
  ·rw[if_pos h3]
   have h4:=(yH cs a b).mp h3
   simp only[decide_eq_true_eq]
   exact⟨fun h=>⟨h0,h1,fun h=>absurd h h2,fun _=>⟨h4.1,fun _=>h⟩⟩,fun h=>(h.2.2.2 h2).2 h4.2⟩
  ·rw[if_neg h3]
   have:((zd cs a).all fun x=>(zd cs b).contains x)=true↔∀ i∈zd cs a,i∈zd cs b:=by simp[xD]
   rw[this,Q8]
   exact⟨fun h=>⟨h0,h1,fun h=>absurd h h2,fun _=>⟨h,fun h'=>absurd ((yH cs a b).mpr ⟨h,h'⟩) h3⟩⟩,fun h=>(h.2.2.2 h2).1⟩
theorem zfi(cs:List Cl)(a:Nat):ub cs a a=false:=by unfold ub;simp
theorem zbg(cs:List Cl)(a:Nat):ub cs 12 a=false:=by unfold ub;simp
theorem K2{cs:List Cl}{a b c:Nat}(h:Und cs a b)(h':Und cs b c):Und cs a c:=by
 obtain⟨h1,h2,h3,h4⟩:=h
 obtain⟨g1,g2,g3,g4⟩:=h'
 have hb:=h4 g2
 by_cases hc:c=12
 ·subst hc
  exact⟨h2,h2,fun _ x hx hl=>g3 rfl x hx (hb.1 x hx hl),fun h=>absurd rfl h⟩
 ·have hg:=g4 hc
  have key:(∀ x∈cs,zz x c=true->zz x a=true)->c<a:=fun h=>by
   have:=hb.2 fun x hx hl=>h x hx (hg.1 x hx hl)
   have:=hg.2 fun x hx hl=>hb.1 x hx (h x hx hl)
   omega
  refine⟨fun e=>?_,h2,fun h=>absurd h hc,fun _=>⟨fun x hx hl=>hg.1 x hx (hb.1 x hx hl),key⟩⟩
  subst e
  have:=key fun _ _ h=>h
  omega
theorem zbQ(cs:List Cl)(a b c:Nat)(h:ub cs a b=true)(h':ub cs b c=true):ub cs a c=true :=
 (jr cs a c).mpr (K2 ((jr cs a b).mp h) ((jr cs b c).mp h'))
theorem Jd(cs:List Cl)(p d:Nat):d∈zm cs p↔d<p/\∃ c∈cs,zz c d=true:=by
 unfold zm
 rw[xp,xE]
 refine and_congr_right fun _=>?_
 constructor
 ·intro h
  cases e:zd cs d with
  |nil=>rw[e]at h;cases h
  |cons i l=>
   obtain⟨c,h1,h2⟩:=(qi cs d i).mp (by rw[e];simp)
   exact⟨c,xF h1,h2⟩
 ·rintro⟨c,hc,hl⟩
  obtain⟨i,hi⟩:=uv hc
  have:=(qi cs d i).mpr ⟨c,hi,hl⟩
  cases e:zd cs d with
  |nil=>rw[e]at this;cases this
  |cons i l=>rfl
theorem WB:∀ p,(List.range p).Pairwise (·<·):=fun p=>List.pairwise_lt_range
theorem WF(cs:List Cl)(p:Nat):(zm cs p).Pairwise (·<·):=(WB p).filter _
theorem yp(cs:List Cl)(p:Nat):(zm cs p).Nodup:=(WF cs p).imp fun h=>xu h
theorem J0{cs:List Cl}{p d:Nat}(h:d∈zm cs p):d<p:=((Jd cs p d).mp h).1
end Wx
set_option maxHeartbeats 4000000
namespace Wx
open PySem L2 L3 Ku
noncomputable def jq:Option Nat->PyData
 |none=>.none
 |some n=>.int (n:Int)
noncomputable def flD(F:Ku.FL):List PyData:=F.map jq
noncomputable def flO(F:Ku.FL):OV:=.l (F.map fun o=>.d (jq o))
noncomputable def qg(ab:List (List Nat)):PyData:=.list (ab.map fun r=>.list (za r))
theorem zbU(F:Ku.FL):(flO F).view=.list (flD F):=by
 unfold flO flD
 rw[OV.view,OV.views_map,List.map_map];rfl
theorem zeu(n:Nat)(o:Option Nat):lay n (jq o)=true:=by cases o<;>cases n<;>rfl
theorem Yv(F:Ku.FL):(flD F).all (lay 20)=true:=by
 rw[xD]
 intro x hx
 obtain⟨o,_,rfl⟩:=xo.mp hx
 exact zeu _ _
theorem zhs{ab:List (List Nat)}{a:Nat}(h:a<ab.length):atI (ab.map fun r=>PyData.list (za r)) (a:Int)=some (.list (za (up ab a))) :=
 qz (by rw[xg,up,xb h];rfl)
theorem zbJ{F:Ku.FL}{p:Nat}(h:p<F.length):atI (F.map fun o=>OV.d (jq o)) (p:Int)=some (.d (jq (fat F p))) :=
 qz (by rw[xg,fat,xb h];rfl)
theorem ki{F:Ku.FL}{p:Nat}(h:p<F.length):atI (flD F) (p:Int)=some (jq (fat F p)) :=
 qz (by rw[flD,xg,fat,xb h];rfl)
theorem kE{n p:Nat}(h:p<n):ixN n (p:Int)=some p:=by
 unfold ixN
 rw[if_pos (by omega),if_pos (by omega)];simp
theorem ZM(T:List Nat)(p:Nat):OV.l ((T.map fun (i:Nat)=>OV.d (.int (i:Int)))++ [.d (.int (p:Int))])=zh (T++ [p]):=by simp[zh]
theorem kL(F:Ku.FL)(p a:Nat):OV.l ((F.map fun o=>OV.d (jq o)).set p (.d (.int (a:Int))))=flO (F.set p (some a)):=by
 unfold flO
 rw[List.map_set];rfl
noncomputable def jw(m N:Nat)(ab:List (List Nat))(cf:CF):Prop:=∀ (a:Nat) (F:Ku.FL) (T:List Nat),Val ab N F T->TOk N T->N<m+T.length->a<N->(∀ p,p∉T->fat F p≠some a) ->
 cf "settle" [.d (.int a),.d (qg ab),flO F,zh T]=.ok (.d (.bool (zk ab m a F T).1)) [none,none,some (flO (zk ab m a F T).2.1),some (zh (zk ab m a F T).2.2)]
theorem yD(cf:CF){a p:Nat}{ab:List (List Nat)}{F:Ku.FL}{T:List Nat}(h:p∈T) :
  p_settle_1.ex cf [2,3] [some (.d (.int a)),some (.d (qg ab)),some (flO F),some (zh T),some (.d (.int p))]=.ok (.next,[some (.d (.int a)),some (.d (qg ab)),some (flO F),some (zh T),some (.d (.int p))]):=by
 have h1:=Qq T p
 have h2:(∀ x∈za T,lay 20 x=true)=True:=eq_true (xD.mp (Qx T))
 have h3:T.contains p=true:=by simpa using h
 have v:=zp T
 rw[h3]at h1
 unfold zh at v |-
 simp![p_settle_1,zl,v,h1,h2,isN,zG,zA,ixN,atI]
theorem VW(cf:CF){a p:Nat}{ab:List (List Nat)}{F:Ku.FL}{T:List Nat}(h:p∉T)(hp:p<F.length)(hT:T.length<1000)(hF:fat F p=none) :
  p_settle_1.ex cf [2,3] [some (.d (.int a)),some (.d (qg ab)),some (flO F),some (zh T),some (.d (.int p))]=.ok (.ret (.d (.bool true)),[some (.d (.int a)),some (.d (qg ab)),some (flO (F.set p (some a))),some (zh (T++ [p])),some (.d (.int p))]):=by
 have h1:=Qq T p
 have h2:(∀ x∈za T,lay 20 x=true)=True:=eq_true (xD.mp (Qx T))
 have h3:T.contains p=false:=by simpa using h
 have v:=zp T
 have hz:T.length<1000000:=by omega
 have ha:=zbJ (F:=F) hp
 have hi:=kE hp
 have hg:(F.map fun o=>OV.d (jq o))[p]?=some (.d (jq (fat F p))):=by rw[xg,fat,xb hp];rfl
 rw[hF]at ha hg
 rw[show jq none=PyData.none from rfl]at ha hg
 rw[h3]at h1
 rw[<- kL,<- ZM]
 unfold zh at v |-
 unfold flO
 simp![p_settle_1,zl,v,h1,h2,isN,zG,hz,ha,hi,hg]
theorem yC(cf:CF){a p s:Nat}{ab:List (List Nat)}{F F':Ku.FL}{T T':List Nat}{b:Bool}(h:p∉T)(hp:p<F.length)(hp':p<F'.length)(hT:T.length<1000)(hF:fat F p=some s)
  (hc:cf "settle" [.d (.int s),.d (qg ab),flO F,zh (T++ [p])]=.ok (.d (.bool b)) [none,none,some (flO F'),some (zh T')]) :
  p_settle_1.ex cf [2,3] [some (.d (.int a)),some (.d (qg ab)),some (flO F),some (zh T),some (.d (.int p))]=if b then .ok (.ret (.d (.bool true)),[some (.d (.int a)),some (.d (qg ab)),some (flO (F'.set p (some a))),some (zh T'),some (.d (.int p))])
   else .ok (.next,[some (.d (.int a)),some (.d (qg ab)),some (flO F'),some (zh T'),some (.d (.int p))]):=by
 have h1:=Qq T p
 have h2:(∀ x∈za T,lay 20 x=true)=True:=eq_true (xD.mp (Qx T))
 have h3:T.contains p=false:=by simpa using h
 have v:=zp T
 have hz:T.length<1000000:=by omega
 have ha:=zbJ (F:=F) hp
 have hi:=kE hp'
 have hg:(F'.map fun o=>OV.d (jq o))[p]?=some (.d (jq (fat F' p))):=by rw[xg,fat,xb hp'];rfl
 rw[hF]at ha
 rw[show jq (some s)=PyData.int (s:Int) from rfl]at ha
 rw[h3]at h1
 rw[<- ZM]at hc
 rw[<- kL]
 unfold zh at v hc |-
 unfold flO at hc |-
 cases b
 ·simp![p_settle_1,zl,v,h1,h2,isN,zG,hz,ha,hc]
 ·simp![p_settle_1,zl,v,h1,h2,isN,zG,hz,ha,hi,hg,hc]
theorem Zi{m N:Nat}{ab:List (List Nat)}(hab:∀ a p,p∈up ab a->p<N)(hN:N<1000)(cf:CF)(hcf:jw m N ab cf){F:Ku.FL}{T0:List Nat}{a:Nat}(v:Val ab N F T0)(ha:a<N)(hna:∀ p,p∉T0->fat F p≠some a) :
  ∀ (ps T:List Nat) (o4:Option OV),(∀ p∈ps,p∈up ab a)->TOk N T->N<m+1+T.length->(∀ q∈T0,q∈T) ->
   ∃ o4',zU (.nm 4 4) (p_settle_1.ex cf [2,3]) (za ps) [some (.d (.int a)),some (.d (qg ab)),some (flO F),some (zh T),o4] =
    .ok (if (zX (zk ab m) a ps F T).1 then .ret (.d (.bool true)) else .next,[some (.d (.int a)),some (.d (qg ab)),some (flO (zX (zk ab m) a ps F T).2.1),some (zh (zX (zk ab m) a ps F T).2.2),o4'])
 |[],T,o4,hps,tk,hl,hT=>⟨o4,rfl⟩
 |p::ps,T,o4,hps,tk,hl,hT=>by
  have hp:p∈up ab a:=hps p (by simp)
  have hps':∀ p∈ps,p∈up ab a:=fun q h=>hps q (xi _ h)
  have hpN:=hab a p hp
  have hpF:p<F.length:=by rw[v.len];exact hpN
  have hTl:=Vu tk.nd tk.lt
  show ∃ o4',zU (.nm 4 4) (p_settle_1.ex cf [2,3]) (.int p::za ps) _=_
  rw[zU]
  simp only[tgF,xl,ua]
  rw[if_pos (by decide)]
  simp only[List.set_cons_succ,List.set_cons_zero]
  by_cases hc:p∈T
  ·have hw:zX (zk ab m) a (p::ps) F T=zX (zk ab m) a ps F T:=by rw[zX,if_pos (by simpa using hc)]
   rw[hw,yD cf hc]
   exact Zi hab hN cf hcf v ha hna ps T _ hps' tk hl hT
  ·cases hF:fat F p with
   |none=>
    have hw:zX (zk ab m) a (p::ps) F T=(true,F.set p (some a),T++ [p]):=by rw[zX,if_neg (by simpa using hc),hF]
    rw[hw,VW cf hc hpF (by omega) hF]
    exact⟨_,rfl⟩
   |some s=>
    have hs:=(v.edge p s hF).1
    have tk':=tk.snoc hc hpN
    have v':Val ab N F (T++ [p]):=⟨v.len,v.edge,fun q q' x h1 h2=>v.inj q q' x (fun z=>h1 (xr _ (hT q z))) (fun z=>h2 (xr _ (hT q' z)))⟩
    have hn':∀ q,q∉T++ [p]->fat F q≠some s:=fun q hq e=>by
     have hq':q∉T:=fun z=>hq (xr _ z)
     have:=v.inj q p s (fun z=>hq' (hT q z)) (fun z=>hc (hT p z)) e hF
     subst this
     exact hq (by simp)
    have h1:=jn hab m s F (T++ [p]) v' tk' (by simp;omega) hs hn'
    have e1:=hcf s F (T++ [p]) v' tk' (by simp;omega) hs hn'
    have hw:zX (zk ab m) a (p::ps) F T=(match zk ab m s F (T++ [p]) with
     | (true,F',T')=>(true,F'.set p (some a),T')
     | (false,F',T')=>zX (zk ab m) a ps F' T'):=by rw[zX,if_neg (by simpa using hc),hF]<;>rfl
    rw[hw]
    clear hw
    generalize zk ab m s F (T++ [p])=r at h1 e1
    obtain⟨b,F',T'⟩:=r
    have hl':F'.length=N:=by
     cases b with
     |true=>exact (h1.succ rfl).val.len
     |false=>have:F'=F:=h1.same rfl;rw[this];exact v.len
    have hpF':p<F'.length:=by rw[hl'];exact hpN
    rw[yC cf hc hpF hpF' (by omega) hF e1]
    cases b with
    |true=>exact⟨_,rfl⟩
    |false=>
     have:F'=F:=h1.same rfl
     subst this
     have hsub:∀ q∈T,q∈T':=fun q hq=>h1.sub q (xr _ hq)
     have hlen:T.length+1<=T'.length:=by
      have:=nodup_len tk'.nd h1.sub
      simpa using this
     exact Zi hab hN cf hcf v ha hna ps T' _ hps' h1.tok (by omega) (fun q hq=>hsub q (hT q hq))
theorem kZ{m N:Nat}{ab:List (List Nat)}(hab:∀ a p,p∈up ab a->p<N)(hN:N<1000)(hl:ab.length=N)(cf:CF)(hcf:jw m N ab cf)(a:Nat)(F:Ku.FL)(T:List Nat)(v:Val ab N F T)(tk:TOk N T)(hm:N<m+1+T.length)(ha:a<N)(hna:∀ p,p∉T->fat F p≠some a) :
  runI 5 [false,false,true,true] [2,3] Zd cf [.d (.int a),.d (qg ab),flO F,zh T]=.ok (.d (.bool (zk ab (m+1) a F T).1)) [none,none,some (flO (zk ab (m+1) a F T).2.1),some (zh (zk ab (m+1) a F T).2.2)]:=by
 obtain⟨o4,e⟩:=Zi hab hN cf hcf v ha hna (up ab a) T none (fun _ h=>h) tk hm (fun _ h=>h)
 have hu:=zhs (ab:=ab) (a:=a) (by omega)
 show _=RF.ok (.d (.bool (zX (zk ab m) a (up ab a) F T).1)) _
 rw[show zk ab (m+1) a F T=zX (zk ab m) a (up ab a) F T from rfl]
 unfold qg at e |-
 generalize zX (zk ab m) a (up ab a) F T=r at e
 obtain⟨b,F',T'⟩:=r
 cases b<;>simp![Zd,hu,e]
end Wx
namespace Ku
noncomputable def zK(F:FL):Nat->Nat->List Nat
 |0,_=> []
 |n+1,p=>match fat F p with
  |none=> []
  |some s=>s::zK F n s
noncomputable def wV(F:FL):Nat->Nat->Prop
 |0,p=>fat F p=none
 |n+1,p=>match fat F p with
  |none=>True
  |some s=>wV F n s
theorem W2(F:FL)(a:Nat):F.contains (some a)=true↔∃ p,fat F p=some a:=by
 rw[xR]
 constructor
 ·intro h
  obtain⟨p,hp⟩:=uv h
  exact⟨p,by unfold fat;rw[hp];rfl⟩
 ·rintro⟨p,h⟩
  have hl:=zfF h
  unfold fat at h
  rw[xb hl]at h
  have e:F[p]=some a:=h
  rw[<- e];exact ug hl
noncomputable def zQ(N:Nat)(F:FL):List Nat:=(List.range N).filter fun a=> !F.contains (some a)
theorem qq(N:Nat)(F:FL)(a:Nat):a∈zQ N F↔a<N/\∀ p,fat F p≠some a:=by
 unfold zQ
 rw[xp,xE]
 refine and_congr_right fun _=>?_
 have:=W2 F a
 constructor
 ·intro h p e
  rw[this.mpr ⟨p,e⟩]at h;cases h
 ·intro h
  cases e:F.contains (some a) with
  |false=>rfl
  |true=>
   obtain⟨p,e⟩:=this.mp e
   exact absurd e (h p)
theorem nodup_range(N:Nat):(List.range N).Nodup:=List.pairwise_lt_range.imp fun h=>xu h
theorem Va(N:Nat)(F:FL):(zQ N F).Nodup:=(nodup_range N).filter _
section
variable {ab:List (List Nat)} {N:Nat} {F:FL}
variable (hab:∀ a p,p∈up ab a->p<N) (irr:∀ a,a∉up ab a) (tr:∀ a b c,b∈up ab a->c∈up ab b->c∈up ab a)
noncomputable def hgt(ab:List (List Nat))(N x:Nat):Nat:=((List.range N).filter fun y=>(up ab x).contains y).length
theorem zgv(x:Nat):hgt ab N x<=N:=by
 have:=xQ (fun y=>(up ab x).contains y) (List.range N)
 rwa [xO]at this
include hab irr tr in
theorem Q7{s p:Nat}(h:p∈up ab s):hgt ab N p<hgt ab N s:=by
 have hp:p∉(List.range N).filter fun y=>(up ab p).contains y:=fun z=>irr p (by simpa using (xp.mp z).2)
 have hn:(p::(List.range N).filter fun y=>(up ab p).contains y).Nodup:=xB.mpr ⟨hp,(nodup_range N).filter _⟩
 have:=nodup_len (T:=(List.range N).filter fun y=>(up ab s).contains y) hn fun x hx=>by
  rcases xm.mp hx with rfl | hx
  ·exact xp.mpr ⟨xE.mpr (hab s x h),by simpa using h⟩
  ·have hx':=xp.mp hx
   exact xp.mpr ⟨hx'.1,by have:=tr s p x h (by simpa using hx'.2);simpa using this⟩
 show _+1<=_
 simpa [hgt] using this
variable (v:Val ab N F [])
include hab irr tr v in
theorem vv:∀ n p,N<=hgt ab N p+n->wV F n p
 |0,p,h=>by
  show fat F p=none
  cases e:fat F p with
  |none=>rfl
  |some s=>
   have:=Q7 hab irr tr (v.edge p s e).2
   have:=zgv (ab:=ab) (N:=N) s
   omega
 |n+1,p,h=>by
  show (match fat F p with
   |none=>True
   |some s=>wV F n s)
  cases e:fat F p with
  |none=>trivial
  |some s=>
   have:=Q7 hab irr tr (v.edge p s e).2
   exact vv n s (by omega)
theorem JU:∀ n p,wV F n p->zK F (n+1) p=zK F n p
 |0,p,h=>by
  have h:fat F p=none:=h
  show (match fat F p with
   |none=> []
   |some s=>s::zK F 0 s)= []
  rw[h]
 |n+1,p,h=>by
  have h:(match fat F p with
   |none=>True
   |some s=>wV F n s):=h
  rw[zK,zK]
  cases e:fat F p with
  |none=>rfl
  |some s=>
   rw[e]at h
   show s::zK F (n+1) s=s::zK F n s
   rw[JU n s h]
theorem Qs{x y:Nat}(e:fat F y=some x):∀ n p,y∈zK F n p->x∈zK F (n+1) p
 |0,p,h=>by cases h
 |n+1,p,h=>by
  rw[zK]at h |-
  cases e1:fat F p with
  |none=>rw[e1]at h;cases h
  |some s=>
   rw[e1]at h
   show x∈s::zK F (n+1) s
   rcases xm.mp h with rfl | h
   ·refine xi _ ?_
    rw[zK,e];exact xz
   ·exact xi _ (Qs e n s h)
theorem vJ:∀ n p x,x∈zK F n p->∃ q,fat F q=some x/\(q=p∨q∈zK F n p)
 |0,p,x,h=>by cases h
 |n+1,p,x,h=>by
  rw[zK]at h |-
  cases e1:fat F p with
  |none=>rw[e1]at h;cases h
  |some s=>
   rw[e1]at h
   rcases xm.mp h with rfl | h
   ·exact⟨p,e1,.inl rfl⟩
   ·obtain⟨q,e,hq⟩:=vJ n s x h
    refine⟨q,e,.inr ?_⟩
    show q∈s::zK F n s
    rcases hq with rfl | hq
    ·exact xz
    ·exact xi _ hq
include tr v in
theorem YB:∀ n p x,x∈zK F n p->p∈up ab x
 |0,p,x,h=>by cases h
 |n+1,p,x,h=>by
  rw[zK]at h
  cases e1:fat F p with
  |none=>rw[e1]at h;cases h
  |some s=>
   rw[e1]at h
   rcases xm.mp h with rfl | h
   ·exact (v.edge p x e1).2
   ·exact tr x s p (YB n s x h) (v.edge p s e1).2
include tr v in
theorem QZ:∀ n p,(zK F n p).Pairwise fun x y=>x∈up ab y
 |0,p=>.nil
 |n+1,p=>by
  rw[zK]
  cases e1:fat F p with
  |none=>exact .nil
  |some s=>exact .cons (fun y hy=>YB tr v n s y hy) (QZ n s)
noncomputable def Qz(N:Nat)(F:FL)(f:Nat):List Nat:=f::zK F N f
include tr v in
theorem jO(f:Nat):(Qz N F f).Pairwise fun x y=>x∈up ab y:=.cons (fun y hy=>YB tr v N f y hy) (QZ tr v N f)
include hab irr tr v in
theorem zaj{f x y:Nat}(hy:y∈Qz N F f)(e:fat F y=some x):x∈Qz N F f:=by
 have st:=JU (F:=F) N f (vv hab irr tr v N f (by omega))
 refine xi _ ?_
 rw[<- st]
 rcases xm.mp hy with rfl | hy
 ·rw[zK,e];exact xz
 ·exact Qs e N f hy
include hab irr tr v in
theorem zeL:∀ (k x:Nat),hgt ab N x<=k->x<N->∃ f∈zQ N F,x∈Qz N F f:=by
 intro k
 induction k with
 |zero=>
  intro x hk hx
  refine⟨x,(qq N F x).mpr ⟨hx,fun p e=>?_⟩,xz⟩
  have:=Q7 hab irr tr (v.edge p x e).2
  omega
 |succ k ih=>
  intro x hk hx
  by_cases h:∃ p,fat F p=some x
  ·obtain⟨p,e⟩:=h
   have hp:=v.edge p x e
   have:=Q7 hab irr tr hp.2
   obtain⟨f,hf,hm⟩:=ih p (by omega) (hab x p hp.2)
   exact⟨f,hf,zaj hab irr tr v hm e⟩
  ·exact⟨x,(qq N F x).mpr ⟨hx,fun p e=>h ⟨p,e⟩⟩,xz⟩
include hab irr tr v in
theorem apart:∀ (k x f g:Nat),hgt ab N x<=k->f∈zQ N F->g∈zQ N F->x∈Qz N F f->x∈Qz N F g->f=g:=by
 have val:∀ {f x:Nat},x∈zK F N f->∃ q,fat F q=some x/\q∈Qz N F f:=fun {f x} h=>by
  obtain⟨q,e,hq⟩:=vJ N f x h
  refine⟨q,e,?_⟩
  rcases hq with rfl | hq
  ·exact xz
  ·exact xi _ hq
 intro k
 induction k with
 |zero=>
  intro x f g hk hf hg h1 h2
  have no:∀ {f:Nat},f∈zQ N F->x∈Qz N F f->x=f:=fun {f} hf h=>by
   rcases xm.mp h with e | h
   ·exact e
   ·obtain⟨q,e,_⟩:=val h
    have:=Q7 hab irr tr (v.edge q x e).2
    omega
  rw[<- no hf h1,<- no hg h2]
 |succ k ih=>
  intro x f g hk hf hg h1 h2
  rcases xm.mp h1 with e1 | h1
  ·rcases xm.mp h2 with e2 | h2
   ·rw[<- e1,<- e2]
   ·obtain⟨q,e,_⟩:=val h2
    rw[e1]at e
    exact absurd e (((qq N F f).mp hf).2 q)
  ·rcases xm.mp h2 with e2 | h2
   ·obtain⟨q,e,_⟩:=val h1
    rw[e2]at e
    exact absurd e (((qq N F g).mp hg).2 q)
   ·obtain⟨q,e,hq⟩:=val h1
    obtain⟨q',e',hq'⟩:=val h2
    have:q=q':=v.inj q q' x (fun h=>nomatch h) (fun h=>nomatch h) e e'
    subst this
    have:=Q7 hab irr tr (v.edge q x e).2
    exact ih q f g (by omega) hf hg hq hq'
include irr tr v in
theorem J9(f:Nat):(Qz N F f).Nodup:=(jO tr v f).imp fun {x y}(h:x∈up ab y) (e:x=y)=>irr y (by rw[e]at h;exact h)
include hab irr tr v in
/-- no more members of which no two are in order than rows -/
theorem zdx{A:List Nat}(hA:A.Nodup)(hl:∀ a∈A,a<N)(hc:∀ x∈A,∀ y∈A,x≠y->y∉up ab x):A.length<=(zQ N F).length:=by
 have:=dual (Ss:=(zQ N F).map (Qz N F)) hA (fun a ha=>by
  obtain⟨f,hf,hm⟩:=zeL hab irr tr v _ a (xn _) (hl a ha)
  exact⟨_,xo.mpr ⟨f,hf,rfl⟩,hm⟩) (fun S hS x hx y hy h1 h2=>by
  obtain⟨f,hf,rfl⟩:=xo.mp hS
  by_cases e:x=y
  ·exact e
  ·have ch:=jO tr v f
   obtain⟨i,hi,ei⟩:=ud h1
   obtain⟨j,hj,ej⟩:=ud h2
   have pw:=uq.mp ch
   rcases uM i j with h | h | h
   ·have:=pw i j hi hj h
    rw[ei,ej]at this
    exact absurd this (hc y hy x hx (Ne.symm e))
   ·subst h;rw[<- ei,<- ej]
   ·have:=pw j i hj hi h
    rw[ei,ej]at this
    exact absurd this (hc x hx y hy e))
 simpa using this
noncomputable def yw(ab:List (List Nat))(m:Nat)(F:FL):List Nat->List Nat->List Nat
 |[],T=>T
 |a::as,T=>yw ab m F as (zk ab m a F T).2.2
structure HT(ab:List (List Nat))(N:Nat)(F:FL)(T:List Nat):Prop where
 tk:TOk N T
 cl:∀ p∈T,∃ s,fat F p=some s/\∀ q∈up ab s,q∈T
include hab in
theorem Ke(I:Inv ab N N F){m:Nat}(hm:N<m){a:Nat}(ha:a∈zQ N F){T:List Nat}(h:HT ab N F T) :
  (zk ab m a F T).1=false/\(zk ab m a F T).2.1=F/\HT ab N F (zk ab m a F T).2.2/\(∀ p∈T,p∈(zk ab m a F T).2.2)/\∀ q∈up ab a,q∈(zk ab m a F T).2.2:=by
 have hf:=(qq N F a).mp ha
 obtain⟨Z,hZ,hz⟩:=I.dead
 have h1:=j3 hZ m a T (hz a hf.1 hf.2)
 have v':Val ab N F T:=⟨I.val.len,I.val.edge,fun p q s _ _=>I.val.inj p q s (fun h=>nomatch h) (fun h=>nomatch h)⟩
 have sp:=jn hab m a F T v' h.tk (by omega) hf.1 fun p _=>hf.2 p
 refine⟨h1,sp.same h1,⟨sp.tok,fun p hp=>?_⟩,sp.sub,sp.all h1⟩
 by_cases hT:p∈T
 ·obtain⟨s,e,g⟩:=h.cl p hT
  exact⟨s,e,fun q hq=>sp.sub q (g q hq)⟩
 ·exact sp.dead h1 p hp hT
include hab in
theorem V2(I:Inv ab N N F){m:Nat}(hm:N<m):∀ (fs T:List Nat),(∀ a∈fs,a∈zQ N F)->HT ab N F T->HT ab N F (yw ab m F fs T)/\(∀ p∈T,p∈yw ab m F fs T)/\∀ a∈fs,∀ q∈up ab a,q∈yw ab m F fs T
 |[],T,_,h=>⟨h,fun _ h=>h,fun _ h=>nomatch h⟩
 |a::fs,T,hf,h=>by
  obtain⟨h1,h2,h3,h4,h5⟩:=Ke hab I hm (hf a (by simp)) h
  obtain⟨g1,g2,g3⟩:=V2 I hm fs _ (fun a h=>hf a (xi _ h)) h3
  refine⟨g1,fun p hp=>g2 p (h4 p hp),fun b hb q hq=>?_⟩
  rcases xm.mp hb with rfl | hb
  ·exact g2 q (h5 q hq)
  ·exact g3 b hb q hq
noncomputable def ZT(N:Nat)(F:FL)(T:List Nat):List Nat:=zQ N F++T.map fun p=>(fat F p).getD 0
noncomputable def wc(N:Nat)(F:FL)(T:List Nat):List Nat:=(ZT N F T).filter fun a=> !T.contains a
theorem Z4(v:Val ab N F []){T:List Nat}(h:HT ab N F T):(ZT N F T).Nodup:=by
 unfold ZT
 rw[uj]
 refine⟨Va N F,?_,fun a ha b hb=>?_⟩
 ·have key:∀ (l:List Nat),l.Nodup->(∀ p∈l,∃ s,fat F p=some s)->(l.map fun p=>(fat F p).getD 0).Nodup:=by
   intro l
   induction l with
   |nil=>intro _ _;exact .nil
   |cons p l ih2=>
    intro hl hc
    have hn:=xB.mp hl
    refine xB.mpr ⟨fun z=>?_,ih2 hn.2 fun q hq=>hc q (xi _ hq)⟩
    obtain⟨q,hq,e⟩:=xo.mp z
    obtain⟨s,es⟩:=hc p (by simp)
    obtain⟨s',es'⟩:=hc q (xi _ hq)
    have e:(fat F q).getD 0=(fat F p).getD 0:=e
    rw[es,es']at e
    have e:s'=s:=e
    subst e
    have:=v.inj p q s' (fun h=>nomatch h) (fun h=>nomatch h) es es'
    subst this
    exact hn.1 hq
  exact key T h.tk.nd fun q hq=>by
   obtain⟨s,es,_⟩:=h.cl q hq
   exact⟨s,es⟩
 ·obtain⟨q,hq,rfl⟩:=xo.mp hb
  obtain⟨s,es,_⟩:=h.cl q hq
  rw[es]
  intro e
  have e:a=s:=e
  subst e
  exact ((qq N F a).mp ha).2 q es
theorem Kt{T:List Nat}(h:HT ab N F T)(hf:∀ a∈zQ N F,∀ q∈up ab a,q∈T){x:Nat}(hx:x∈ZT N F T):∀ q∈up ab x,q∈T:=by
 rcases xH.mp hx with hx | hx
 ·exact hf x hx
 ·obtain⟨p,hp,rfl⟩:=xo.mp hx
  obtain⟨s,es,g⟩:=h.cl p hp
  rw[es];exact g
theorem WH(v:Val ab N F []){T:List Nat}(h:HT ab N F T){x:Nat}(hx:x∈ZT N F T):x<N:=by
 rcases xH.mp hx with hx | hx
 ·exact ((qq N F x).mp hx).1
 ·obtain⟨p,hp,rfl⟩:=xo.mp hx
  obtain⟨s,es,g⟩:=h.cl p hp
  rw[es];exact (v.edge p s es).1
theorem wv{T:List Nat}(h:HT ab N F T)(hf:∀ a∈zQ N F,∀ q∈up ab a,q∈T):∀ x∈wc N F T,∀ y∈wc N F T,y∉up ab x:=fun x hx y hy hu=>by
 have h1:=Kt h hf (xp.mp hx).1 y hu
 have h2:=(xp.mp hy).2
 simp[h1]at h2
theorem Je(v:Val ab N F []){T:List Nat}(h:HT ab N F T):(wc N F T).Nodup:=(Z4 v h).filter _
include hab irr tr v in
theorem Kv{T:List Nat}(h:HT ab N F T)(hf:∀ a∈zQ N F,∀ q∈up ab a,q∈T):(wc N F T).length=(zQ N F).length:=by
 have h1:=zdx hab irr tr v (Je v h) (fun a ha=>WH v h (xp.mp ha).1) (fun x hx y hy _=>wv h hf x hx y hy)
 have h2:=Yb (T:=T) (Z4 v h)
 have h3:(ZT N F T).length=(zQ N F).length+T.length:=by simp[ZT]
 unfold wc at h1 |-
 omega
end
end Ku
set_option maxHeartbeats 4000000
namespace Wx
open PySem L2 L3 Ku
theorem KO(ab:List (List Nat)):(ab.map fun r=>PyData.list (za r)).length=ab.length:=by simp
theorem zcM(N:Nat):(List.replicate N (none:Option Nat)).map (fun o=>OV.d (jq o))=List.replicate N (OV.d .none):=by simp[jq]
theorem zbf(ab:List (List Nat)):(ab.map fun r=>PyData.list (za r)).map (fun _=>PyData.none)=List.replicate ab.length .none:=by
 induction ab with
 |nil=>rfl
 |cons a ab ih=>rw[xK,xK,ih];rfl
theorem vU{m N:Nat}{ab:List (List Nat)}(hab:∀ a p,p∈up ab a->p<N)(hN:N<1000)(hl:ab.length=N)(hm:N<m)(cf:CF)(hcf:jw m N ab cf) :
  runI 3 [false] [] jl cf [.d (qg ab)]=.ok (flO (jX ab m N (List.replicate N none))) [none]:=by
 have e:=zH (k:=1) (t:=.nm 0 3) (cond:=fYes) (elt:=(p_followers_1.ev cf).1) (ds:=ab.map fun r=>PyData.list (za r)) (Γ:= [some (.d (qg ab)),none,none]) (fun _=>true) (fun _=>.none) (by
  intro x hx
  refine⟨_,_,by simp[tgF];rfl,rfl,by simp,fun _=>⟨.dat .none,[some (.d (qg ab)),none,none,some (.d x)],?_,rfl,by simp⟩⟩
  simp![p_followers_1,OV.view,OV.views,zA,ixN,atI])
 have em:((ab.map fun r=>PyData.list (za r)).filter fun _=>true).map (fun _=>PyData.none)=List.replicate N .none:=by rw[qr,zbf,hl]
 rw[em]at e
 have hz:ab.length<=1000000:=by omega
 have hz1: -1000000<=(ab.length:Int)/\(ab.length:Int)<=1000000:=by omega
 have hrl:=KO ab
 obtain⟨Γ',e2,⟨o2,rfl⟩⟩:=qF (t:=.nm 2 2) (body:=p_followers_2.ex cf []) (ds:=zo N) (Γ:= [some (.d (qg ab)),some (flO (List.replicate N none)),none])
  (fun pre Γ=>∃ o2:Option OV,Γ= [some (.d (qg ab)),some (flO (jX ab m pre.length (List.replicate N none))),o2]) ⟨_,rfl⟩ (by
   rintro pre x post e Γ ⟨o2,rfl⟩
   obtain⟨rfl,hlt⟩:=j4 e
   have I:=wt hab hm pre.length (by omega)
   have ec:=hcf pre.length (jX ab m pre.length (List.replicate N none)) [] I.val ⟨.nil,(fun _ h=>nomatch h)⟩ (by simpa using hm) hlt (fun p _ h=>by have:=I.lt p _ h;omega)
   refine⟨_,[some (.d (qg ab)),some (flO (jX ab m (pre.length+1) (List.replicate N none))),some (.d (.int pre.length))],by simp[tgF];rfl,?_,some (.d (.int pre.length)),by simp⟩
   rw[show jX ab m (pre.length+1) (List.replicate N none)=(zk ab m pre.length (jX ab m pre.length (List.replicate N none)) []).2.1 from rfl]
   generalize zk ab m pre.length (jX ab m pre.length (List.replicate N none)) []=r at ec
   obtain⟨b,F',T'⟩:=r
   have ec':cf "settle" [.d (.int pre.length),.d (qg ab),flO (jX ab m pre.length (List.replicate N none)),.l []]=.ok (.d (.bool b)) [none,none,some (flO F'),some (zh T')]:=ec
   unfold flO at ec' |-
   simp![p_followers_2,ec',zfb,zG])
 rw[zi]at e2
 have hfl:(OV.l (List.replicate N (OV.d .none)))=flO (List.replicate N none):=by unfold flO;rw[zcM]
 have hr:List.length (ab.map fun r=>PyData.list (za r))=N:=by rw[hrl,hl]
 subst hl
 unfold qg at e e2 |-
 simp only[flO,List.map_replicate]at hfl e2
 simp![jl,hz,hz1,e,hfl,e2,flO]
noncomputable def zI(D:List Nat)(ps:List Nat):List Nat:=ps.map fun p=>D.getD p 0
theorem Y3{D:List Nat}{p:Nat}(h:p<D.length):atI (za D) (p:Int)=some (.int ((D.getD p 0:Nat):Int)) :=
 qz (by unfold za;rw[xg,xb h,List.getD_eq_getElem?_getD,xb h];rfl)
theorem V6(cf:CF){D:List Nat}{F:Ku.FL}(hF:∀ p s,fat F p=some s->s<D.length/\s<F.length):∀ (n k p:Nat) (acc:List Nat),wV F n p->n<k->acc.length+n<=1000 ->
  ZZ (fCmp (cmpD .IsNot) (fVar 2) (fC .none)) (p_row_behind_1.ex cf []) k [some (.d (.list (za D))),some (.d (.list (flD F))),some (.d (jq (fat F p))),some (zh acc)]
   = .ok (.next,[some (.d (.list (za D))),some (.d (.list (flD F))),some (.d .none),some (zh (acc++zI D (zK F n p)))])
 |n,0,p,acc,he,hk,ha=>by omega
 |0,k+1,p,acc,he,hk,ha=>by
  have he:fat F p=none:=he
  rw[ZZ,he]
  simp![zK,zI,jq,isN]
 |n+1,k+1,p,acc,he,hk,ha=>by
  have he:(match fat F p with
   |none=>True
   |some s=>wV F n s):=he
  rw[ZZ]
  cases e:fat F p with
  |none=>
   simp![zK,e,zI,jq,isN]
  |some s=>
   rw[e]at he
   obtain⟨h1,h2⟩:=hF p s e
   have a1:=Y3 h1
   have a2:=ki h2
   have hz:acc.length<1000000:=by omega
   have ih:=V6 cf hF n k s (acc++ [D.getD s 0]) he (by omega) (by simp;omega)
   rw[<- ZM]at ih
   have e1:zK F (n+1) p=s::zK F n s:=by rw[zK,e]
   rw[e1]
   have e2:acc++zI D (s::zK F n s)=acc++ [D.getD s 0]++zI D (zK F n s):=by simp[zI]
   rw[e2,<- ih]
   simp only[zh]
   simp![jq,isN,p_row_behind_1,a1,a2,hz]
theorem zf7(cf:CF){D:List Nat}{F:Ku.FL}(hF:∀ p s,fat F p=some s->s<D.length/\s<F.length){n p:Nat}(he:wV F n p)(hn:n<=1000)(hp:p<F.length) :
  runI 4 [false,false,false] [] jK cf [.d (.list (za D)),.d (.list (flD F)),.d (.int p)]=.ok (zh (zI D (zK F n p))) [none,none,none]:=by
 have a2:=ki hp
 have e:y4 1000000 (fCmp (cmpD .IsNot) (fVar 2) (fC .none)) (p_row_behind_1.ex cf []) [some (.d (.list (za D))),some (.d (.list (flD F))),some (.d (jq (fat F p))),some (.l [])]=_:=V6 cf hF n 1000000 p [] he (by omega) (by simpa using hn)
 rw[uC]at e
 simp only[zh]at e |-
 simp![jK,a2]
 rw[e]
 simp[outs]
end Wx
set_option maxHeartbeats 4000000
namespace Wx
open PySem L2 L3 Ku
structure Dys(pots:Nat)(D:List Nat):Prop where
 inc:D.Pairwise (·<·)
 lt:∀ d∈D,d<pots
theorem Dys.nodup{pots:Nat}{D:List Nat}(h:Dys pots D):D.Nodup:=h.inc.imp fun h=>xu h
theorem Dys.len{pots:Nat}{D:List Nat}(h:Dys pots D):D.length<=pots:=Vu h.nodup h.lt
theorem qx(cs:List Cl)(p:Nat):Dys p (zm cs p):=⟨WF cs p,fun _ h=>J0 h⟩
theorem Dys.filter{pots:Nat}{D:List Nat}(h:Dys pots D)(q:Nat->Bool):Dys pots (D.filter q):=⟨h.inc.filter _,fun d hd=>h.lt d (xp.mp hd).1⟩
theorem zaq{D:List Nat}(h:D.Pairwise (·<=·)):Qo (D.map fun (i:Nat)=>(i:Int))=D.map fun (i:Nat)=>(i:Int):=by
 refine (wu (List.Perm.refl _) ?_).symm
 rw[uw]
 exact h.imp fun h=>by omega
theorem Dys.le{pots:Nat}{D:List Nat}(h:Dys pots D):D.Pairwise (·<=·):=h.inc.imp fun h=>uo h
theorem wD(D:List Nat):(D.map fun (i:Nat)=>(i:Int)).map PyData.int=za D:=by rw[List.map_map];rfl
noncomputable def zD(cs:List Cl)(d:Nat):PyData:=.tuple [.int (d:Int),.list (za (zd cs d))]
theorem zcn (cf:CF) (hl:qh "lacking" cf){pots:Nat}(hp:pots<=12){cs:List Cl}(hb:Bolt pots cs){D:List Nat}(hD:Dys pots D):runI 2 [false,false] [] jI cf [.d (zb cs),.d (.list (za D))]=.ok (.l ((D.map (zD cs)).map .d)) [none,none]:=by
 have hn:=hD.len
 have e:=zH (k:=1) (t:=.nm 0 2) (cond:=fYes) (elt:=(p_with_cells_1.ev cf).1) (ds:=za D) (Γ:= [some (.d (zb cs)),some (.d (.list (za D)))]) (fun _=>true) (fun x=>match x with | .int i=>zD cs i.toNat | _=>.none) (by
  intro x hx
  obtain⟨i,hi,rfl⟩:=xo.mp hx
  have el:=hl pots cs hb i (hD.lt i hi)
  have v:=zp (zd cs i)
  refine⟨_,_,by simp[tgF];rfl,rfl,by simp,fun _=>⟨.dat (zD cs i),[some (.d (zb cs)),some (.d (.list (za D))),some (.d (.int i))],?_,rfl,by simp⟩⟩
  simp only[zh]at el v
  simp![p_with_cells_1,el,v,zD])
 have em:((za D).filter fun _=>true).map (fun x=>match x with | .int i=>zD cs i.toNat | _=>.none)=D.map (zD cs):=by
  rw[qr];unfold za;rw[List.map_map];rfl
 rw[em]at e
 have hi:=Zf D
 have hs:=zaq hD.le
 have hs2:=wD D
 have h64:D.length<64:=by omega
 have hz:D.length<=1000000:=by omega
 simp![jI,Y7,hi,h64,hs,hs2,zE,hz]
 rw[e]
 simp[outs]
noncomputable def ZE(cs:List Cl)(D:List Nat)(d:Nat):List Nat:=((List.range D.length).filter fun j=>Zz d (D.getD j 0) (zd cs d) (zd cs (D.getD j 0)))++(if (zd cs d).any (qQ cs) then [] else [D.length])
noncomputable def abv(cs:List Cl)(D:List Nat):List (List Nat):=D.map (ZE cs D)++ [[]]
theorem Yp{cs:List Cl}{D:List Nat}{pre post:List PyData}{x:PyData}(e:qu (D.map (zD cs))=pre++x::post):pre.length<D.length/\x=.tuple [.int pre.length,zD cs (D.getD pre.length 0)]:=by
 obtain⟨y,hy,rfl⟩:=JL e
 rw[xg]at hy
 cases hc:D[pre.length]? with
 |none=>rw[hc]at hy;cases hy
 |some d=>
  rw[hc]at hy
  have:y=zD cs d:=by simpa using hy.symm
  subst this
  refine⟨(xc.mp hc).1,?_⟩
  rw[List.getD_eq_getElem?_getD,hc];rfl
theorem yc(cf:CF)(hlo:JE cf){cs:List Cl}(hcl:cs.length<=60){D:List Nat}{d:Nat}{o0 o1 o3 o5:Option OV} :
  qC 2 (.tp (.cons (.nm 0 6) (.cons (.nm 1 7) .nil))) (p_places_above_1.ev cf) (p_places_above_2.ev cf).1 (qu (D.map (zD cs))) [] [o0,o1,some (.d (.list (D.map (zD cs)))),o3,some (.d (zD cs d)),o5]
   = .ok (za ((List.range D.length).filter fun j=>Zz d (D.getD j 0) (zd cs d) (zd cs (D.getD j 0))),[o0,o1,some (.d (.list (D.map (zD cs)))),o3,some (.d (zD cs d)),o5]):=by
 obtain⟨ys,Γ',e,rfl,rfl⟩:=qe (k:=2) (t:=.tp (.cons (.nm 0 6) (.cons (.nm 1 7) .nil))) (cond:=p_places_above_1.ev cf) (elt:=(p_places_above_2.ev cf).1) (ds:=qu (D.map (zD cs))) (Γ:= [o0,o1,some (.d (.list (D.map (zD cs)))),o3,some (.d (zD cs d)),o5])
  (fun pre ys Γ=>ys=za ((List.range pre.length).filter fun j=>Zz d (D.getD j 0) (zd cs d) (zd cs (D.getD j 0)))/\Γ= [o0,o1,some (.d (.list (D.map (zD cs)))),o3,some (.d (zD cs d)),o5]) ⟨rfl,rfl⟩ (by
   rintro pre x post e ys Γ ⟨rfl,rfl⟩
   obtain⟨hlt,rfl⟩:=Yp e
   generalize hj:D.getD pre.length 0=dj
   have ec:=hlo d dj (zd cs d) (zd cs dj) (xL (jV cs d) hcl) (xL (jV cs dj) hcl)
   refine⟨_,Zz d dj (zd cs d) (zd cs dj),[o0,o1,some (.d (.list (D.map (zD cs)))),o3,some (.d (zD cs d)),o5,some (.d (.int pre.length)),some (.d (zD cs dj))],by simp[tgF,tgFs];rfl,?_,fun h=>⟨.dat (.int pre.length),[o0,o1,some (.d (.list (D.map (zD cs)))),o3,some (.d (zD cs d)),o5,some (.d (.int pre.length)),some (.d (zD cs dj))],.int pre.length,by simp![p_places_above_2],rfl,?_,by simp⟩,fun h=>⟨?_,by simp⟩⟩
   ·have ec':cf "is_lower" [.d (zD cs d),.d (zD cs dj)]=.ok (.d (.bool (Zz d dj (zd cs d) (zd cs dj)))) [none,none]:=ec
    simp![p_places_above_1,ec',zG]
   ·simp[xT,xP,hj,h,za,-List.getD_eq_getElem?_getD]
   ·simp[xT,xP,hj,h,za,-List.getD_eq_getElem?_getD])
 rw[qt,xk]at e
 exact e
theorem zaZ(cs:List Cl)(d:Nat):atI [PyData.int (d:Int),PyData.list (za (zd cs d))] 0=some (PyData.int (d:Int)):=rfl
theorem YH(cf:CF)(hlo:JE cf)(hw:zb8 cf){pots:Nat}(hp:pots<=12){cs:List Cl}(hb:Bolt pots cs)(hcl:cs.length<=60){D:List Nat}(hD:Dys pots D){d:Nat}(hd:d∈D){told:List PyData}(hz:told.length<1000){o5:Option OV} :
  p_places_above_3.ex cf [] [some (.d (zb cs)),some (.d (.list (za D))),some (.d (.list (D.map (zD cs)))),some (.l (told.map .d)),some (.d (zD cs d)),o5]
   = .ok (.next,[some (.d (zb cs)),some (.d (.list (za D))),some (.d (.list (D.map (zD cs)))),some (.l ((told++ [PyData.list (za (ZE cs D d))]).map .d)),some (.d (zD cs d)),some (.d (.list (za (ZE cs D d))))]):=by
 have hn:=hD.len
 have e:=yc cf hlo hcl (D:=D) (d:=d) (o0:=some (.d (zb cs))) (o1:=some (.d (.list (za D)))) (o3:=some (.l (told.map .d))) (o5:=o5)
 have e1:=hw pots cs hb d (hD.lt d hd)
 have hv:=zp ((zd cs d).filter (qQ cs))
 have hf:=YG (zd cs d) (qQ cs)
 have hz1:D.length<=1000000:=by omega
 have hz2:told.length<1000000:=by omega
 have hz4:((List.range D.length).filter fun j=>Zz d (D.getD j 0) (zd cs d) (zd cs (D.getD j 0))).length<1000000:=by
  have:=xQ (fun j=>Zz d (D.getD j 0) (zd cs d) (zd cs (D.getD j 0))) (List.range D.length)
  rw[xO]at this;omega
 have a0:=zaZ cs d
 simp only[zh]at e1 hv
 unfold ZE
 generalize hR:((List.range D.length).filter fun j=>Zz d (D.getD j 0) (zd cs d) (zd cs (D.getD j 0)))=rw0 at *
 have hz5:(za rw0).length<1000000:=by rw[zE];exact hz4
 cases hwt:(zd cs d).any (qQ cs) with
 |true=>
  rw[hwt]at hf
  have hvw:(OV.l ((za rw0).map .d)).view=.list (za rw0):=jG _
  simp only[zD]at e |-
  simp![p_places_above_3,hz1,hz2,qt,e,a0,e1,hv,hf,hvw]
 |false=>
  rw[hwt]at hf
  have hvw:(OV.l ((za rw0).map .d++ [.d (.int (D.length:Int))])).view=.list (za (rw0++ [D.length])):=by
   have:=jG (za (rw0++ [D.length]))
   simpa [za] using this
  simp only[zD]at e |-
  simp![p_places_above_3,hz1,hz2,hz5,qt,e,a0,e1,hv,hf,hvw]
theorem zab (cf:CF) (hc:∀ (pots:Nat) (cs:List Cl) (D:List Nat),pots<=12->Bolt pots cs->Dys pots D->cf "with_cells" [.d (zb cs),.d (.list (za D))]=.ok (.l ((D.map (zD cs)).map .d)) [none,none])
  (hlo:JE cf) (hw:zb8 cf) {pots:Nat} (hp:pots<=12) {cs:List Cl} (hb:Bolt pots cs) (hcl:cs.length<=60) {D:List Nat} (hD:Dys pots D) :
  runI 6 [false,false] [] qW cf [.d (zb cs),.d (.list (za D))]=.ok (.l ((abv cs D).map fun r=>.d (.list (za r)))) [none,none]:=by
 have hn:=hD.len
 have e1:=hc pots cs D hp hb hD
 have v1:=jG (D.map (zD cs))
 obtain⟨Γ',e2,⟨o4,o5,rfl⟩⟩:=qF (t:=.nm 4 4) (body:=p_places_above_3.ex cf []) (ds:=D.map (zD cs)) (Γ:= [some (.d (zb cs)),some (.d (.list (za D))),some (.d (.list (D.map (zD cs)))),some (.l []),none,none])
  (fun pre Γ=>∃ o4 o5:Option OV,Γ= [some (.d (zb cs)),some (.d (.list (za D))),some (.d (.list (D.map (zD cs)))),some (.l (((D.take pre.length).map fun d=>PyData.list (za (ZE cs D d))).map .d)),o4,o5]) ⟨_,_,rfl⟩ (by
   rintro pre x post e Γ ⟨o4,o5,rfl⟩
   have hlt:=QF e
   rw[xk]at hlt
   have hx:x=zD cs D[pre.length]:=by
    have:(D.map (zD cs))[pre.length]?=some x:=by rw[e];simp
    rw[xg,xb hlt]at this
    simpa using this.symm
   subst hx
   have er:=YH cf hlo hw hp hb hcl hD (ug hlt) (told:=(D.take pre.length).map fun d=>PyData.list (za (ZE cs D d))) (by simp;omega) (o5:=o5)
   refine⟨_,_,by simp[tgF],er,some (.d (zD cs D[pre.length])),some (.d (.list (za (ZE cs D D[pre.length])))),?_⟩
   simp only[xw,xl,ua,uc,uP,xb hlt,xV,Option.toList_some,xK,List.map_nil])
 rw[xk,uF]at e2
 have hz1:D.length<=1000000:=by omega
 have hz2:D.length+1<=1000000:=by omega
 have hlv:=zbC (D.map fun d=>PyData.list (za (ZE cs D d)))
 simp only[List.map_map]at e1 e2 hlv v1
 simp![qW,e1,v1,e2,hlv,zbV,hz2]
 simp[abv,za,outs]
end Wx
set_option maxHeartbeats 4000000
namespace Wx
open PySem L2 L3 Ku
noncomputable def num(D:List Nat)(i:Nat):Nat:=(D++ [12]).getD i 0
theorem QM{D:List Nat}{i:Nat}(h:i<D.length):num D i=D.getD i 0:=by
 unfold num
 rw[List.getD_eq_getElem?_getD,xf h,List.getD_eq_getElem?_getD]
theorem VI(D:List Nat):num D D.length=12:=by
 unfold num
 rw[List.getD_eq_getElem?_getD,xh (xn _)];simp
theorem zem{D:List Nat}{i:Nat}(h:i<=D.length):num D i∈D++ [12]:=by
 unfold num
 have hl:i<(D++ [12]).length:=by simp;omega
 rw[List.getD_eq_getElem?_getD,xb hl]
 exact ug hl
theorem Dys.getD{pots:Nat}{D:List Nat}(h:Dys pots D){i:Nat}(hi:i<D.length):D.getD i 0<pots:=by
 refine h.lt _ ?_
 rw[List.getD_eq_getElem?_getD,xb hi]
 exact ug hi
section
variable {pots:Nat} (hp:pots<=12) {D:List Nat} (hD:Dys pots D) (cs:List Cl)
include hp hD in
theorem Kw:(D++ [12]).Nodup:=by
 rw[uj]
 refine⟨hD.nodup,by simp,fun a ha b hb=>?_⟩
 have:b=12:=by simpa using hb
 have:=hD.lt a ha
 omega
include hp hD in
theorem zc9{i j:Nat}(hi:i<=D.length)(hj:j<=D.length)(h:num D i=num D j):i=j:=by
 have hl:(D++ [12]).length=D.length+1:=by simp
 have h1:i<(D++ [12]).length:=by omega
 have h2:j<(D++ [12]).length:=by omega
 unfold num at h
 rw[List.getD_eq_getElem?_getD,xb h1,List.getD_eq_getElem?_getD,xb h2]at h
 have pw:=uq.mp (Kw hp hD)
 rcases uM i j with h3 | h3 | h3
 ·exact absurd h (pw i j h1 h2 h3)
 ·exact h3
 ·exact absurd h.symm (pw j i h2 h1 h3)
theorem YX:(abv cs D).length=D.length+1:=by simp[abv]
include hp hD in
theorem zaS{i j:Nat}(hi:i<D.length)(hj:j<D.length):Zz (D.getD i 0) (D.getD j 0) (zd cs (D.getD i 0)) (zd cs (D.getD j 0))=ub cs (D.getD i 0) (D.getD j 0):=by
 have h1:=hD.getD hi
 have h2:=hD.getD hj
 generalize D.getD i 0=a at *
 generalize D.getD j 0=b at *
 unfold ub
 by_cases e:a=b
 ·subst e;simp[Zz]
 ·rw[if_neg (by omega),if_neg (by omega)]
include hp hD in
theorem Zb(i j:Nat):j∈up (abv cs D) i↔i<=D.length/\j<=D.length/\ub cs (num D i) (num D j)=true:=by
 unfold up abv
 by_cases hi:i<D.length
 ·rw[xf (by simpa using hi),xg,xb hi]
  show j∈ZE cs D D[i]↔_
  have hd:D[i]=D.getD i 0:=by rw[List.getD_eq_getElem?_getD,xb hi];rfl
  rw[hd,QM hi]
  unfold ZE
  have hlt:=hD.getD hi
  rw[xH,xp,xE]
  constructor
  ·rintro (⟨h1,h2⟩ | h)
   ·rw[zaS hp hD cs hi h1]at h2
    exact⟨by omega,by omega,by rw[QM h1];exact h2⟩
   ·split at h
    ·cases h
    ·rename_i hw
     have:j=D.length:=by simpa using h
     subst this
     refine⟨by omega,xn _,?_⟩
     rw[VI]
     unfold ub
     rw[if_neg (by omega),if_pos rfl]
     simpa using hw
  ·rintro⟨_,h2,h3⟩
   by_cases hj:j<D.length
   ·rw[QM hj]at h3
    exact .inl ⟨hj,by rw[zaS hp hD cs hi hj];exact h3⟩
   ·have:j=D.length:=by omega
    subst this
    rw[VI]at h3
    unfold ub at h3
    rw[if_neg (by omega),if_pos rfl]at h3
    right
    rw[if_neg (by simpa using h3)]
    simp
 ·rw[xh (by simpa using Nat.le_of_not_lt hi)]
  constructor
  ·intro h
   by_cases he:i=D.length
   ·subst he;simp at h
   ·rw[xj (by simp;omega)]at h;cases h
  ·rintro⟨h1,h2,h3⟩
   have:i=D.length:=by omega
   subst this
   rw[VI,zbg]at h3;cases h3
include hp hD in
theorem wG:∀ a p,p∈up (abv cs D) a->p<D.length+1:=fun a p h=>by
 have:=((Zb hp hD cs a p).mp h).2.1;omega
include hp hD in
theorem y7:∀ a,a∉up (abv cs D) a:=fun a h=>by
 have:=((Zb hp hD cs a a).mp h).2.2
 rw[zfi]at this;cases this
include hp hD in
theorem VX:∀ a b c,b∈up (abv cs D) a->c∈up (abv cs D) b->c∈up (abv cs D) a:=fun a b c h1 h2=>by
 have g1:=(Zb hp hD cs a b).mp h1
 have g2:=(Zb hp hD cs b c).mp h2
 exact (Zb hp hD cs a c).mpr ⟨g1.1,g2.2.1,zbQ cs _ _ _ g1.2.2 g2.2.2⟩
noncomputable def FF(cs:List Cl)(D:List Nat):Ku.FL:=jX (abv cs D) 14 (D.length+1) (List.replicate (D.length+1) none)
include hp hD in
theorem Za:Ku.Inv (abv cs D) (D.length+1) (D.length+1) (FF cs D):=wt (wG hp hD cs) (by have:=hD.len;omega) _ (xn _)
noncomputable def wid(cs:List Cl)(D:List Nat):Nat:=(zQ (D.length+1) (FF cs D)).length
noncomputable def Apt(cs:List Cl)(A:List Nat):Prop:=∀ x∈A,∀ y∈A,x≠y->ub cs x y=false
noncomputable def TT(cs:List Cl)(D:List Nat):List Nat:=yw (abv cs D) 14 (FF cs D) (zQ (D.length+1) (FF cs D)) []
noncomputable def VU(cs:List Cl)(D:List Nat):List Nat:=(wc (D.length+1) (FF cs D) (TT cs D)).map (num D)
include hp hD in
theorem zht:HT (abv cs D) (D.length+1) (FF cs D) (TT cs D)/\∀ a∈zQ (D.length+1) (FF cs D),∀ q∈up (abv cs D) a,q∈TT cs D:=by
 have:=V2 (wG hp hD cs) (Za hp hD cs) (m:=14) (by have:=hD.len;omega) (zQ (D.length+1) (FF cs D)) [] (fun _ h=>h) ⟨⟨.nil,(fun _ h=>nomatch h)⟩,(fun _ h=>nomatch h)⟩
 exact⟨this.1,this.2.2⟩
include hp hD in
theorem zas:(VU cs D).Nodup/\(∀ x∈VU cs D,x∈D++ [12])/\Apt cs (VU cs D)/\(VU cs D).length=wid cs D:=by
 have I:=Za hp hD cs
 obtain⟨h1,h2⟩:=zht hp hD cs
 have hlt:∀ i∈wc (D.length+1) (FF cs D) (TT cs D),i<=D.length:=fun i hi=>by
  have:=WH I.val h1 (xp.mp hi).1;omega
 refine⟨?_,fun x hx=>?_,fun x hx y hy hne=>?_,?_⟩
 ·refine uw.mpr (List.Pairwise.imp_of_mem (fun {i j} hi hj hne e=>?_) (Je I.val h1))
  exact hne (zc9 hp hD (hlt i hi) (hlt j hj) e)
 ·obtain⟨i,hi,rfl⟩:=xo.mp hx
  exact zem (hlt i hi)
 ·obtain⟨i,hi,rfl⟩:=xo.mp hx
  obtain⟨j,hj,rfl⟩:=xo.mp hy
  cases e:ub cs (num D i) (num D j) with
  |false=>rfl
  |true=>exact absurd ((Zb hp hD cs i j).mpr ⟨hlt i hi,hlt j hj,e⟩) (wv h1 h2 i hi j hj)
 ·have:=Kv (wG hp hD cs) (y7 hp hD cs) (VX hp hD cs) I.val h1 h2
  simpa [VU,wid] using this
end
noncomputable def VO (cf:CF):Prop:=∀ (pots:Nat) (cs:List Cl) (D:List Nat),pots<=12->Bolt pots cs->cs.length<=60->Dys pots D->cf "places_above" [.d (zb cs),.d (.list (za D))]=.ok (.l ((abv cs D).map fun r=>.d (.list (za r)))) [none,none]
noncomputable def zbB (cf:CF):Prop:=∀ (pots:Nat) (cs:List Cl) (D:List Nat),pots<=12->Dys pots D->cf "followers" [.d (qg (abv cs D))]=.ok (flO (FF cs D)) [none]
theorem zet{pots:Nat}(hp:pots<=12){D:List Nat}(hD:Dys pots D)(cs:List Cl)(cf:CF)(hs:∀ (N:Nat) (ab:List (List Nat)),(∀ a p,p∈up ab a->p<N)->N<1000->ab.length=N->jw 14 N ab cf):runI 3 [false] [] jl cf [.d (qg (abv cs D))]=.ok (flO (FF cs D)) [none]:=by
 have hn:=hD.len
 exact vU (wG hp hD cs) (by omega) (YX cs) (by omega) cf (hs _ _ (wG hp hD cs) (by omega) (YX cs))
theorem K9(ab:List (List Nat)):(OV.l (ab.map fun r=>OV.d (.list (za r)))).view=qg ab:=by
 unfold qg
 rw[OV.view,OV.views_map,List.map_map];rfl
noncomputable def yA (cf:CF):Prop:=∀ (pots:Nat) (cs:List Cl),pots<=1000->Bolt pots cs->cf "needed" [.d (zb cs)]=.ok (zh (zm cs pots)) [none]
end Wx
set_option maxHeartbeats 4000000
namespace Wx
open PySem L2 L3 Ku
noncomputable def SameC(cs cs':List Cl):Prop:=∀ c,(∃ d,zz c d=true)->(c∈cs↔c∈cs')
theorem SameC.symm{cs cs':List Cl}(h:SameC cs cs'):SameC cs' cs:=fun c hc=>(h c hc).symm
noncomputable def YQ(c:Cl):Cl:={ c with w:=false }
end Wx
set_option maxHeartbeats 4000000
namespace Wx
open PySem L2 L3 Ku
end Wx
set_option maxHeartbeats 4000000
namespace Wx
open PySem L2 L3 Ku
theorem zbH(cf:CF){pots:Nat}{cs:List Cl}(hb:Bolt pots cs):runI 1 [false] [] ZH cf [.d (zb cs)]=.ok (.l ((cs.map YQ).map fun c=>.d c.D)) [none]:=by
 have hcl:=hb.1
 have e:=zH (k:=1) (t:=.nm 0 1) (cond:=fYes) (elt:=(b_law_boil_1.ev cf).1) (ds:=zo cs.length) (Γ:= [some (.d (zb cs))]) (fun _=>true) (fun x=>match x with | .int i=>(match cs[i.toNat]? with | some c=>(YQ c).D | none=>.none) | _=>.none) (by
  intro x hx
  obtain⟨k,hk,rfl⟩:∃ k,k<cs.length/\x=.int (k:Nat):=by
   obtain⟨i,hi,rfl⟩:=xo.mp hx
   exact⟨i,by simpa using hi,rfl⟩
  have hc:cs[k]?=some cs[k]:=xb hk
  generalize cs[k]=c at hc
  have a0:atI (cs.map Cl.D) (k:Int)=some c.D:=qz (by rw[xg,hc];rfl)
  refine⟨_,_,by simp[tgF];rfl,rfl,by simp,fun _=>⟨.dat (YQ c).D,[some (.d (zb cs)),some (.d (.int k))],?_,?_,by simp⟩⟩
  ·simp![b_law_boil_1,zb,a0,Cl.D,ql,zcD,zbZ,YQ]
  ·simp[derS,hc])
 have hz:cs.length<=1000000:=by omega
 have hz1: -1000000<=(cs.length:Int)/\(cs.length:Int)<=1000000:=by omega
 have em:((zo cs.length).filter fun _=>true).map (fun x=>match x with | .int i=>(match cs[i.toNat]? with | some c=>(YQ c).D | none=>.none) | _=>.none)=(cs.map YQ).map Cl.D:=by
  rw[qr]
  unfold zo
  rw[List.map_map]
  apply xU
  intro i
  rw[xg,xg,xg]
  by_cases hi:i<cs.length
  ·rw[xY hi,xb hi]
   simp[xb hi]
  ·rw[xj (by simpa using hi),xj (by simpa using hi)];rfl
 rw[em]at e
 unfold zb at e |-
 simp![ZH,hz,hz1,zi]
 rw[e]
 simp[outs]
end Wx
set_option maxHeartbeats 4000000
namespace Wx
open PySem L2 L3 Ku
noncomputable def zaL (cf:CF):Prop:=∀ (pots:Nat) (cs:List Cl),pots<=1000->Bolt pots cs->cf "_law_need" [.d (zb cs),.d (.int pots)]=.ok (zh (zm cs pots)) [none,none]
noncomputable def zec (cf:CF):Prop:=∀ (pots:Nat) (cs:List Cl) (D:List Nat),pots<=12->Bolt pots cs->Dys pots D->cf "with_cells" [.d (zb cs),.d (.list (za D))]=.ok (.l ((D.map (zD cs)).map .d)) [none,none]
noncomputable def Wo(cf:CF):Prop:=∀ (N:Nat) (ab:List (List Nat)),(∀ a p,p∈up ab a->p<N)->N<1000->ab.length=N->jw 14 N ab cf
noncomputable def vM (cf:CF):Prop:=∀ (pots:Nat) (cs:List Cl),Bolt pots cs->cf "_law_boil" [.d (zb cs)]=.ok (.l ((cs.map YQ).map fun c=>.d c.D)) [none]
theorem JY (defs:List DefI) (h:∀ k,ze defs (k+1) "settle" =runI 5 [false,false,true,true] [2,3] Zd (ze defs k)){N:Nat}{ab:List (List Nat)}(hab:∀ a p,p∈up ab a->p<N) (hN:N<1000) (hl:ab.length=N) (k:Nat):∀ m,jw m N ab (ze defs (k+m))
 |0=>fun a F T _ tk hm _ _=>by have:=Vu tk.nd tk.lt;omega
 |m+1=>fun a F T v tk hm ha hna=>by
  have:=kZ hab hN hl (ze defs (k+m)) (JY defs h hab hN hl k m) a F T v tk hm ha hna
  rw[<- this,<- h (k+m)];rfl
theorem zeo (defs:List DefI) (h:∀ k,ze defs (k+1) "settle" =runI 5 [false,false,true,true] [2,3] Zd (ze defs k)) (k:Nat):Wo (ze defs (k+14)):=fun N ab hab hN hl=>JY defs h hab hN hl k 14
end Wx
set_option maxHeartbeats 4000000
namespace Wx
open PySem L2 L3 Ku
theorem zhw(F:Ku.FL)(a:Nat):inD (.int (a:Int)) (flD F)=F.contains (some a):=by
 unfold inD flD
 rw[uO,xN,uV,xR]
 constructor
 ·rintro⟨o,ho,e⟩
  cases o with
  |none=>simp[jq,PyData.eqv]at e
  |some b=>
   have e2:((b:Int)==(a:Int))=true:=e
   have e3:(b:Int)=(a:Int):=by simpa using e2
   have:b=a:=by omega
   exact this ▸ ho
 ·intro h
  refine⟨some a,h,?_⟩
  show ((a:Int)==(a:Int))=true
  simp
section
variable {pots:Nat} (hp:pots<=12) {D:List Nat} (hD:Dys pots D) (cs:List Cl)
include hp hD in
theorem kR:∀ p s,fat (FF cs D) p=some s->s<D.length/\s<(FF cs D).length:=fun p s e=>by
 have I:=Za hp hD cs
 have h1:=I.val.edge p s e
 have h2:=(Zb hp hD cs s p).mp h1.2
 have hs:s≠D.length:=fun z=>by
  subst z
  rw[VI,zbg]at h2
  cases h2.2.2
 have h3:=I.val.len
 omega
include hp hD in
theorem kh(p:Nat):wV (FF cs D) (D.length+1) p:=vv (wG hp hD cs) (y7 hp hD cs) (VX hp hD cs) (Za hp hD cs).val _ p (by omega)
end
noncomputable def qD(cs:List Cl)(D:List Nat):List (List Nat):=zI D (zK (FF cs D) (D.length+1) D.length)::((List.range D.length).filter fun a=> !(FF cs D).contains (some a)).map fun a=>D.getD a 0::zI D (zK (FF cs D) (D.length+1) a)
noncomputable def zbF (cf:CF):Prop:=∀ (D:List Nat) (F:Ku.FL) (n p:Nat),(∀ p s,fat F p=some s->s<D.length/\s<F.length)->wV F n p->n<=1000->p<F.length->cf "row_behind" [.d (.list (za D)),.d (.list (flD F)),.d (.int p)]=.ok (zh (zI D (zK F n p))) [none,none,none]
theorem VG(F:Ku.FL):∀ n p,(zK F n p).length<=n
 |0,_=>xn _
 |n+1,p=>by
  rw[zK]
  cases fat F p with
  |none=>simp
  |some s=>simp;exact VG F n s
theorem Vx(cf:CF)(hn:yA cf)(hpl:VO cf)(hf:zbB cf)(hr:zbF cf){pots:Nat}(hp:pots<=12){cs:List Cl}(hb:Bolt pots cs)(hcl:cs.length<=60) :
  runI 4 [false] [] j9 cf [.d (zb cs)]=.ok (.l ((qD cs (zm cs pots)).map fun r=>.d (.list (za r)))) [none]:=by
 have hD:=qx cs pots
 have hln:=hD.len
 have e1:=hn pots cs (by omega) hb
 generalize zm cs pots=D at hD hln e1 |-
 have e2:=hpl pots cs D hp hb hcl hD
 have e3:=hf pots cs D hp hD
 have v1:=zp D
 have v2:=K9 (abv cs D)
 have v3:=zbU (FF cs D)
 have I:=Za hp hD cs
 have hFl:=I.val.len
 have e4:=hr D (FF cs D) (D.length+1) D.length (kR hp hD cs) (kh hp hD cs D.length) (by omega) (by omega)
 have v4:=zp (zI D (zK (FF cs D) (D.length+1) D.length))
 have hz:D.length<=1000000:=by omega
 have hz1: -1000000<=(D.length:Int)/\(D.length:Int)<=1000000:=by omega
 have e:=zH (k:=1) (t:=.nm 0 4) (cond:=p_stretches_1.ev cf) (elt:=(p_stretches_2.ev cf).1) (ds:=zo D.length) (Γ:= [some (.d (zb cs)),some (.d (.list (za D))),some (.d (.list (flD (FF cs D)))),some (.d (.list (za (zI D (zK (FF cs D) (D.length+1) D.length)))))])
  (fun x=>match x with | .int i=> !(FF cs D).contains (some i.toNat) | _=>false) (fun x=>match x with | .int i=>.list (za (D.getD i.toNat 0::zI D (zK (FF cs D) (D.length+1) i.toNat))) | _=>.none) (by
   intro x hx
   obtain⟨a,ha,rfl⟩:∃ a,a<D.length/\x=.int (a:Nat):=by
    obtain⟨i,hi,rfl⟩:=xo.mp hx
    exact⟨i,by simpa using hi,rfl⟩
   have h1:=zhw (FF cs D) a
   have h2:(∀ x∈flD (FF cs D),lay 20 x=true)=True:=eq_true (xD.mp (Yv (FF cs D)))
   have e5:=hr D (FF cs D) (D.length+1) a (kR hp hD cs) (kh hp hD cs a) (by omega) (by omega)
   have v5:=zp (zI D (zK (FF cs D) (D.length+1) a))
   have a1:=Y3 ha
   have hl5:1+(za (zI D (zK (FF cs D) (D.length+1) a))).length<=1000000:=by
    rw[zE]
    have:=VG (FF cs D) (D.length+1) a
    simp[zI];omega
   have ht:((a:Int)).toNat=a:=by simp
   simp only[ht]
   simp only[zh]at e5 v5
   refine⟨[some (.d (zb cs)),some (.d (.list (za D))),some (.d (.list (flD (FF cs D)))),some (.d (.list (za (zI D (zK (FF cs D) (D.length+1) D.length))))),some (.d (.int a))],[some (.d (zb cs)),some (.d (.list (za D))),some (.d (.list (flD (FF cs D)))),some (.d (.list (za (zI D (zK (FF cs D) (D.length+1) D.length))))),some (.d (.int a))],rfl,?_,by simp,fun _=>⟨.dat (.list (za (D.getD a 0::zI D (zK (FF cs D) (D.length+1) a)))),[some (.d (zb cs)),some (.d (.list (za D))),some (.d (.list (flD (FF cs D)))),some (.d (.list (za (zI D (zK (FF cs D) (D.length+1) D.length))))),some (.d (.int a))],?_,rfl,by simp⟩⟩
   ·simp![p_stretches_1,zl,h1,h2]
   ·generalize zI D (zK (FF cs D) (D.length+1) a)=W at *
    simp![p_stretches_2,a1,e5,v5,zbV,hl5]
    simp[za])
 have em:((zo D.length).filter (fun x=>match x with | .int i=> !(FF cs D).contains (some i.toNat) | _=>false)).map (fun x=>match x with | .int i=>PyData.list (za (D.getD i.toNat 0::zI D (zK (FF cs D) (D.length+1) i.toNat))) | _=>.none)=(((List.range D.length).filter fun a=> !(FF cs D).contains (some a)).map fun a=>D.getD a 0::zI D (zK (FF cs D) (D.length+1) a)).map fun r=>.list (za r):=by
  unfold zo
  rw[uu,List.map_map,List.map_map];rfl
 rw[em]at e
 have hzl:((((List.range D.length).filter fun a=> !(FF cs D).contains (some a)).map fun a=>D.getD a 0::zI D (zK (FF cs D) (D.length+1) a)).map fun r=>PyData.list (za r)).length<=100:=by
  rw[xk,xk]
  have:=xQ (fun a=> !(FF cs D).contains (some a)) (List.range D.length)
  rw[xO]at this;omega
 simp only[zh]at e1 v1 e4 v4
 simp only[flO]at e3 v3
 unfold qD
 generalize hS:((((List.range D.length).filter fun a=> !(FF cs D).contains (some a)).map fun a=>D.getD a 0::zI D (zK (FF cs D) (D.length+1) a)))=SL at *
 generalize zI D (zK (FF cs D) (D.length+1) D.length)=W at *
 have hz3:1+SL.length<=1000000:=by simp at hzl;omega
 simp![j9,e1,v1,e2,v2,e3,v3,zE,e4,v4,hz,hz1,zi,zbV]
 rw[e]
 simp![hz3]
noncomputable def zeV (cf:CF):Prop:=∀ (pots:Nat) (cs:List Cl),pots<=12->Bolt pots cs->cs.length<=60->cf "stretches" [.d (zb cs)]=.ok (.l ((qD cs (zm cs pots)).map fun r=>.d (.list (za r)))) [none]
end Wx
set_option maxHeartbeats 4000000
namespace Wx
open PySem L2 L3 Ku
noncomputable def kw(A:List Nat):List Nat:=A.mergeSort fun a b=>decide (a<=b)
theorem J7(A:List Nat):(kw A).Perm A:=List.mergeSort_perm _ _
theorem yI(A:List Nat):(kw A).Pairwise (·<=·):=by
 have h:=List.pairwise_mergeSort (le:=fun a b:Nat=>decide (a<=b)) (by intro a b c h1 h2;simp at *;omega) (by intro a b;simp;omega) A
 exact h.imp fun {a b} h=>by simpa using h
theorem y3(A:List Nat):Qo (A.map fun (i:Nat)=>(i:Int))=(kw A).map fun (i:Nat)=>(i:Int):=by
 refine (wu ((J7 A).map _) ?_).symm
 rw[uw]
 exact (yI A).imp fun h=>by omega
end Wx
set_option maxHeartbeats 4000000
namespace Wx
open PySem L2 L3 Ku
noncomputable def Chn(cs:List Cl)(rw1:List Nat):Prop:=rw1.Pairwise fun x y=>ub cs y x=true
theorem Chn.at'{cs:List Cl}{rw1:List Nat}(h:Chn cs rw1){k:Nat}(hk:k<rw1.length):((rw1.take k).map fun o=>ub cs (rw1.getD k 0) o).all id=true:=by
 rw[xD]
 intro b hb
 obtain⟨o,ho,rfl⟩:=xo.mp hb
 obtain⟨j,hj,rfl⟩:=ud ho
 have hj':j<k/\j<rw1.length:=by simp at hj;omega
 have:=uq.mp h j k hj'.2 hk hj'.1
 rw[List.getElem_take,List.getD_eq_getElem?_getD,xb hk]
 exact this
section
variable {pots:Nat} (hp:pots<=12) {D:List Nat} (hD:Dys pots D) (cs:List Cl)
include hp hD in
theorem Qi{l:List Nat}(hl:∀ x∈l,x<=D.length)(h:l.Pairwise fun x y=>x∈up (abv cs D) y):Chn cs (l.map (num D)) :=
 uw.mpr (h.imp fun {x y} hxy=>((Zb hp hD cs y x).mp hxy).2.2)
theorem wq{l:List Nat}(hl:∀ x∈l,x<D.length):zI D l=l.map (num D):=by
 unfold zI
 exact ul fun x hx=>(QM (hl x hx)).symm
include hp hD in
theorem qT{n p x:Nat}(hx:x∈zK (FF cs D) n p):x<D.length:=by
 obtain⟨q,e,_⟩:=vJ n p x hx
 exact (kR hp hD cs q x e).1
noncomputable def zdX(cs:List Cl)(D:List Nat):List (List Nat):=zK (FF cs D) (D.length+1) D.length::((List.range D.length).filter fun a=> !(FF cs D).contains (some a)).map fun a=>Qz (D.length+1) (FF cs D) a
include hp hD in
theorem kK:∀ l∈zdX cs D,∀ x∈l,x<D.length:=fun l hl x hx=>by
 rcases xm.mp hl with rfl | hl
 ·exact qT hp hD cs hx
 ·obtain⟨a,ha,rfl⟩:=xo.mp hl
  have ha':=xE.mp (xp.mp ha).1
  rcases xm.mp hx with rfl | hx
  ·exact ha'
  ·exact qT hp hD cs hx
include hp hD in
theorem zaP:qD cs D=(zdX cs D).map fun l=>l.map (num D):=by
 unfold qD zdX
 rw[xK,List.map_map,wq fun x hx=>qT hp hD cs hx]
 congr 1
 refine ul fun a ha=>?_
 have ha':=xE.mp (xp.mp ha).1
 show _=(a::zK (FF cs D) (D.length+1) a).map (num D)
 rw[xK,QM ha',wq fun x hx=>qT hp hD cs hx]
include hp hD in
theorem kP:D.length∈zQ (D.length+1) (FF cs D):=(qq _ _ _).mpr ⟨by omega,fun p e=>by
 have:=(kR hp hD cs p D.length e).1;omega⟩
include hp hD in
theorem jR:zQ (D.length+1) (FF cs D)=((List.range D.length).filter fun a=> !(FF cs D).contains (some a))++ [D.length]:=by
 have h:=kP hp hD cs
 unfold zQ at h |-
 rw[xT,xP]
 congr 1
 have:=(xp.mp h).2
 rw[uU,if_pos this];rfl
include hp hD in
theorem zbq:(qD cs D).length=wid cs D:=by
 unfold wid qD
 rw[jR hp hD cs]
 simp
include hp hD in
/-- all dyes,each once -/
theorem Kf:(zdX cs D).flatten.Perm (List.range D.length):=by
 have v:=(Za hp hD cs).val
 have hab:=wG hp hD cs
 have irr:=y7 hp hD cs
 have tr:=VX hp hD cs
 have hn:=kP hp hD cs
 have hfs:∀ a∈(List.range D.length).filter fun a=> !(FF cs D).contains (some a),a∈zQ (D.length+1) (FF cs D):=fun a ha=>by
  rw[jR hp hD cs];exact xr _ ha
 refine (List.perm_ext_iff_of_nodup ?_ (nodup_range _)).mpr fun x=>?_
 ·refine List.pairwise_flatten.mpr ⟨fun l hl=>?_,?_⟩
  ·rcases xm.mp hl with rfl | hl
   ·exact (xB.mp (J9 irr tr v D.length)).2
   ·obtain⟨a,_,rfl⟩:=xo.mp hl
    exact J9 irr tr v a
  ·refine .cons (fun l hl x hx y hy e=>?_) ?_
   ·obtain⟨a,ha,rfl⟩:=xo.mp hl
    subst e
    have:=apart hab irr tr v _ x D.length a (xn _) hn (hfs a ha) (xi _ hx) hy
    have:=xE.mp (xp.mp ha).1
    omega
   ·refine uw.mpr (List.Pairwise.imp_of_mem (fun {a b} ha hb hne x hx y hy e=>?_) ((nodup_range D.length).filter _))
    subst e
    exact hne (apart hab irr tr v _ x a b (xn _) (hfs a ha) (hfs b hb) hx hy)
 ·rw[List.mem_flatten,xE]
  constructor
  ·rintro⟨l,hl,hx⟩
   exact kK hp hD cs l hl x hx
  ·intro hx
   obtain⟨f,hf,hm⟩:=zeL hab irr tr v _ x (xn _) (by omega)
   rw[jR hp hD cs]at hf
   rcases xH.mp hf with hf | hf
   ·exact⟨_,xi _ (xo.mpr ⟨f,hf,rfl⟩),hm⟩
   ·have:f=D.length:=by simpa using hf
    subst this
    rcases xm.mp hm with e | hm
    ·omega
    ·exact⟨_,xz,hm⟩
include hp hD in
theorem QG:(qD cs D).flatten.Perm D:=by
 rw[zaP hp hD cs,<- List.map_flatten]
 refine ((Kf hp hD cs).map (num D)).trans ?_
 have:(List.range D.length).map (num D)=D:=by
  apply xU
  intro i
  rw[xg]
  by_cases hi:i<D.length
  ·rw[xY hi]
   show some (num D i)=_
   rw[QM hi,List.getD_eq_getElem?_getD,xb hi];rfl
  ·rw[xj (by simpa using hi),xj (by omega)];rfl
 rw[this]
include hp hD in
theorem Yk:∀ l∈qD cs D,Chn cs l:=fun l hl=>by
 have v:=(Za hp hD cs).val
 have tr:=VX hp hD cs
 rw[zaP hp hD cs]at hl
 obtain⟨l',hl',rfl⟩:=xo.mp hl
 have hlt:=kK hp hD cs l' hl'
 refine Qi hp hD cs (fun x hx=>by have:=hlt x hx;omega) ?_
 rcases xm.mp hl' with rfl | hl'
 ·exact QZ tr v _ _
 ·obtain⟨a,_,rfl⟩:=xo.mp hl'
  exact jO tr v a
include hp hD in
theorem wd:∃ P rest,qD cs D=P::rest/\Chn cs (12::P)/\∀ l∈rest,l≠ []:=by
 have v:=(Za hp hD cs).val
 have tr:=VX hp hD cs
 refine⟨_,_,rfl,?_,fun l hl=>?_⟩
 ·have h1:=Qi hp hD cs (l:=Qz (D.length+1) (FF cs D) D.length) (fun x hx=>by
   rcases xm.mp hx with rfl | hx
   ·exact xn _
   ·have:=qT hp hD cs hx;omega) (jO tr v D.length)
  unfold Qz at h1
  rw[xK,VI]at h1
  rw[wq fun x hx=>qT hp hD cs hx]
  exact h1
 ·obtain⟨a,_,rfl⟩:=xo.mp hl
  exact fun h=>nomatch h
end
end Wx
set_option maxHeartbeats 4000000
namespace Wx
open PySem L2 L3 Ku
theorem zbc{A D:List Nat}(hp:A.Perm D)(hs:D.Pairwise (·<=·)):kw A=D :=
 List.Perm.eq_of_pairwise (le:=fun a b:Nat=>a<=b) (fun a b _ _ h1 h2=>Nat.le_antisymm h1 h2) (yI A) hs ((J7 A).trans hp)
theorem VF{L:List (List Nat)}{r:List Nat}(h:r∈L):r.length<=L.flatten.length:=by
 induction L with
 |nil=>cases h
 |cons a L ih=>
  rw[xJ,xw]
  rcases xm.mp h with rfl | h
  ·omega
  ·have:=ih h;omega
end Wx
set_option maxHeartbeats 4000000
namespace Wx
open PySem L2 L3
theorem ze2{ds:List PyData}:Option.map (fun bs=>PyData.bool (bs.all id)) (qk (ds.map fun _=>PyData.bool true))=some (.bool true):=by
 have:(ds.map fun _=>PyData.bool true)=(ds.map fun _=>true).map .bool:=by rw[List.map_map];rfl
 rw[this,qO]
 simp
theorem zg1(x:PyData):(OV.d x).view=x:=rfl
noncomputable def Kind(pots:Nat)(cs:List Cl):Prop:=∀ c∈cs,c.st.length=pots/\c.wi.length=pots
theorem Bolt.kind{pots:Nat}{cs:List Cl}(h:Bolt pots cs):Kind pots cs:=fun c hc=>⟨(h.2 c hc).sl,(h.2 c hc).wl⟩
noncomputable def wM(d:Nat)(st:List Int):List Int:=(List.range st.length).map fun k=>st.getD k 0+(if k=d then 1 else 0)
noncomputable def qy(d:Nat)(c:Cl):Cl:=if c.w then c else ⟨wM d c.st,c.w,c.wi⟩
noncomputable def qB(d:Nat)(c:Cl):Bool:= !c.w&&decide (9<=c.st.getD d 0)
theorem yz(d:Nat)(st:List Int):(wM d st).length=st.length:=by unfold wM;simp
theorem WT(bs:List Bool):Option.map (fun bs=>PyData.bool (bs.any id)) (qk (bs.map .bool))=some (.bool (bs.any id)):=by rw[qO];rfl
end Wx
set_option maxHeartbeats 4000000
namespace Wx
open PySem L2 L3
theorem zcN(cf:CF){pots:Nat}{cs:List Cl}(hb:Bolt pots cs){d:Nat}(hd:d<pots) :
  runI 2 [false,false] [] ja cf [.d (zb cs),.d (.int d)]=.ok (.d (.bool (cs.any (qB d)))) [none,none]:=by
 obtain⟨ys,Γ',e,hy,rfl⟩:=qe (k:=1) (t:=.nm 0 2) (cond:=fYes) (elt:=(b_law_full_1.ev cf).1) (ds:=cs.map Cl.D) (Γ:= [some (.d (zb cs)),some (.d (.int d))])
  (fun pre ys Γ=>ys=((cs.take pre.length).map (qB d)).map .bool/\Γ= [some (.d (zb cs)),some (.d (.int d))]) ⟨rfl,rfl⟩ (by
   rintro pre x post e ys Γ ⟨hy,rfl⟩
   have hlt:pre.length<cs.length:=by have:=congrArg List.length e;simp at this;omega
   have hxe:x=(cs[pre.length]).D:=by
    have:(cs.map Cl.D)[pre.length]?=some x:=by rw[e];simp
    rw[xg,xb hlt]at this
    simpa using this.symm
   have hc:=hb.2 _ (ug hlt)
   have hnx:(cs.take (pre.length+1)).map (qB d)=(cs.take pre.length).map (qB d)++ [qB d cs[pre.length]]:=by
    rw[uP,xb hlt,xV];rfl
   generalize cs[pre.length]=c at *
   subst hxe
   have hdl:d<c.st.length:=by rw[hc.sl];exact hd
   have a1:=qM (xs:=c.st) (d:=d) hdl
   have h9:c.st.getD d 0<=9:=by
    rw[List.getD_eq_getElem?_getD,xb hdl]
    exact (hc.sn _ (ug hdl)).2
   have hq:(c.st.getD d 0==9)=decide (9<=c.st.getD d 0):=by
    rw[xN,beq_iff_eq,decide_eq_true_eq];omega
   refine⟨[some (.d (zb cs)),some (.d (.int d)),some (.d c.D)],true,_,rfl,rfl,fun _=>⟨.dat (.bool (qB d c)),[some (.d (zb cs)),some (.d (.int d)),some (.d c.D)],.bool (qB d c),?_,rfl,?_,rfl⟩,fun h=>nomatch h⟩
   ·unfold qB Cl.D ql
    rw[<- hq]
    generalize c.st.getD d 0=g at *
    have a0:atI [zc c.st,PyData.bool c.w,zc c.wi] 0=some (zc c.st):=rfl
    have a2:atI [zc c.st,PyData.bool c.w,zc c.wi] 1=some (.bool c.w):=rfl
    unfold zc at *
    generalize c.st.map PyData.int=X at *
    generalize c.wi.map PyData.int=Y at *
    cases hw:c.w with
    |true=>
     rw[hw]at a0 a2
     simp![b_law_full_1,a0,a2]
    |false=>
     rw[hw]at a0 a2
     simp![b_law_full_1,a0,a2,a1,zl,zB]
   ·rw[hy]
    simp only[xw,xl,ua,uc]
    rw[hnx,xV];rfl)
 have ht:(cs.take (cs.map Cl.D).length)=cs:=by rw[xk,uF]
 rw[ht]at hy
 subst hy
 have hz:cs.length<=1000000:=by have:=hb.1;omega
 have hb1:=WT (cs.map (qB d))
 have ha:(cs.map (qB d)).any id=cs.any (qB d):=by rw[uO];rfl
 rw[ha]at hb1
 have hml:((cs.map (qB d)).map PyData.bool).length<=1000000:=by simpa using hz
 unfold zb at *
 have hxl:(cs.map Cl.D).length<=1000000:=by simpa using hz
 generalize (cs.map (qB d)).map PyData.bool=BB at *
 generalize cs.map Cl.D=X at *
 generalize cs.any (qB d)=b at *
 simp![ja,e,hb1,hxl,hml]
theorem KR(cf:CF)(d:Int):runI 2 [false,false] [] ja cf [.d (zb []),.d (.int d)]=.ok (.d (.bool false)) [none,none]:=by
 simp![ja,zb,qC,qk]
theorem zcZ(cf:CF){st:List Int}(hl:st.length<=1000){d:Nat}{o0 o2 o4 o5:Option OV} :
  qC 1 (.nm 0 6) fYes (b_law_dip_1.ev cf).1 (zo st.length) [] [o0,some (.d (.int d)),o2,some (.d (zc st)),o4,o5]=.ok ((wM d st).map .int,[o0,some (.d (.int d)),o2,some (.d (zc st)),o4,o5]):=by
 have e:=zH (k:=1) (t:=.nm 0 6) (cond:=fYes) (elt:=(b_law_dip_1.ev cf).1) (ds:=zo st.length) (Γ:= [o0,some (.d (.int d)),o2,some (.d (zc st)),o4,o5]) (fun _=>true) (fun x=>match x with | .int i=>.int (st.getD i.toNat 0+(if i.toNat=d then 1 else 0)) | _=>.none) (by
  intro x hx
  obtain⟨i,hi,rfl⟩:=xo.mp hx
  have hi':i<st.length:=by simpa using hi
  have a1:=qM (xs:=st) (d:=i) hi'
  refine⟨[o0,some (.d (.int d)),o2,some (.d (zc st)),o4,o5,some (.d (.int i))],_,rfl,rfl,by simp,fun _=>⟨.dat (.int (st.getD i 0+(if i=d then 1 else 0))),[o0,some (.d (.int d)),o2,some (.d (zc st)),o4,o5,some (.d (.int i))],?_,rfl,by simp⟩⟩
  have hq:((i:Int)==(d:Int))=decide (i=d):=by
   rw[xN,beq_iff_eq,decide_eq_true_eq];omega
  unfold zc
  generalize st.getD i 0=g at *
  generalize st.map PyData.int=X at *
  by_cases hid:i=d
  ·subst hid
   simp![b_law_dip_1,a1,zl,zB]
  ·have hn:((i:Int)==(d:Int))=false:=by rw[hq];simpa using hid
   simp![b_law_dip_1,a1,zl,zB,hn,hid])
 rw[e,qr]
 unfold zo wM
 rw[List.map_map,List.map_map]
 rfl
theorem zdm(cf:CF){pots:Nat}(hp:pots<=1000){cs:List Cl}(hb:Bolt pots cs)(d:Nat) :
  runI 6 [false,false] [] jx cf [.d (zb cs),.d (.int d)]=.ok (.l ((cs.map (qy d)).map fun c=>.d c.D)) [none,none]:=by
 obtain⟨Γ',e,⟨o3,o4,o5,rfl⟩⟩:=qF (t:=.tp (.cons (.nm 3 3) (.cons (.nm 4 4) (.cons (.nm 5 5) .nil)))) (body:=b_law_dip_2.ex cf []) (ds:=cs.map Cl.D) (Γ:= [some (.d (zb cs)),some (.d (.int d)),some (.l []),none,none,none])
  (fun pre Γ=>∃ o3 o4 o5:Option OV,Γ= [some (.d (zb cs)),some (.d (.int d)),some (.l (((cs.take pre.length).map (qy d)).map fun c=>.d c.D)),o3,o4,o5]) ⟨_,_,_,rfl⟩ (by
   rintro pre x post e Γ ⟨o3,o4,o5,rfl⟩
   have hlt:pre.length<cs.length:=by have:=congrArg List.length e;simp at this;omega
   have hxe:x=(cs[pre.length]).D:=by
    have:(cs.map Cl.D)[pre.length]?=some x:=by rw[e];simp
    rw[xg,xb hlt]at this
    simpa using this.symm
   have hc:=hb.2 _ (ug hlt)
   have hnx:(cs.take (pre.length+1)).map (qy d)=(cs.take pre.length).map (qy d)++ [qy d cs[pre.length]]:=by
    rw[uP,xb hlt,xV];rfl
   have hz:(((cs.take pre.length).map (qy d)).map fun c=>OV.d c.D).length<1000000:=by
    have:=hb.1
    simp;omega
   generalize cs[pre.length]=c at *
   subst hxe
   have hpl:(pre++ [c.D]).length=pre.length+1:=by simp
   rw[hpl,hnx,xV]
   have e1:=zcZ cf (st:=c.st) (by rw[hc.sl];exact hp) (d:=d) (o0:=some (.d (zb cs))) (o2:=some (.l (((cs.take pre.length).map (qy d)).map fun c=>.d c.D))) (o4:=some (.d (.bool c.w))) (o5:=some (.d (zc c.wi)))
   have hz1: -1000000<=(c.st.length:Int)/\(c.st.length:Int)<=1000000:=by rw[hc.sl];omega
   have hz2:c.st.length<=1000000:=by rw[hc.sl];omega
   have hz3:((wM d c.st).map PyData.int).length<=1000000:=by simp[yz];rw[hc.sl];omega
   generalize ((cs.take pre.length).map (qy d)).map (fun c=>OV.d c.D)=AA at *
   refine⟨[some (.d (zb cs)),some (.d (.int d)),some (.l AA),some (.d (zc c.st)),some (.d (.bool c.w)),some (.d (zc c.wi))],[some (.d (zb cs)),some (.d (.int d)),some (.l (AA++ [.d (qy d c).D])),some (.d (zc (qy d c).st)),some (.d (.bool c.w)),some (.d (zc c.wi))],rfl,?_,_,_,_,rfl⟩
   unfold qy
   have hl0:(c.st.map PyData.int).length=c.st.length:=by simp
   cases hw:c.w with
   |true=>
    simp![b_law_dip_2,hw,Cl.D,ql,hz]
   |false=>
    rw[hw]at e1
    unfold zc at *
    generalize c.st.map PyData.int=X at *
    generalize hY:(wM d c.st).map PyData.int=Y at *
    generalize hZ:c.wi.map PyData.int=Z at *
    simp![b_law_dip_2,hw,Cl.D,ql,zc,hl0,hz1,hz2,hz3,e1,hz,zi]
    exact⟨⟨hY.symm,hZ.symm⟩,hY.symm⟩)
 have ht:(cs.take (cs.map Cl.D).length)=cs:=by rw[xk,uF]
 rw[ht]at e
 unfold zb at *
 generalize cs.map Cl.D=X at *
 generalize (cs.map (qy d)).map (fun c=>OV.d c.D)=DD at *
 simp![jx,e]
theorem za3(cf:CF)(d:Int):runI 6 [false,false] [] jx cf [.d (zb []),.d (.int d)]=.ok (.l []) [none,none]:=by
 simp![jx,zb,zU]
noncomputable def YZ (cf:CF):Prop:=(∀ (pots:Nat) (cs:List Cl) (d:Nat),Bolt pots cs->d<pots->cf "_law_full" [.d (zb cs),.d (.int d)]=.ok (.d (.bool (cs.any (qB d)))) [none,none])/\∀ d:Int,cf "_law_full" [.d (zb []),.d (.int d)]=.ok (.d (.bool false)) [none,none]
noncomputable def y0 (cf:CF):Prop:=(∀ (pots:Nat) (cs:List Cl) (d:Nat),pots<=1000->Bolt pots cs->cf "_law_dip" [.d (zb cs),.d (.int d)]=.ok (.l ((cs.map (qy d)).map fun c=>.d c.D)) [none,none])/\∀ d:Int,cf "_law_dip" [.d (zb []),.d (.int d)]=.ok (.l []) [none,none]
end Wx
set_option maxHeartbeats 4000000
namespace Wx
open PySem L2 L3
noncomputable def zbS:Exc:=⟨"NoCell",.none⟩
theorem zfg(cf:CF){cs:List Cl}(hl:cs.length<=1000)(a:Int):runI 2 [false,false] [] qV cf [.d (zb cs),.d (.int a)]=.ok (.d (.bool (decide (0<=a/\a<cs.length)))) [none,none]:=by
 have hxl:(cs.map Cl.D).length=cs.length:=by simp
 unfold zb
 generalize cs.map Cl.D=X at *
 by_cases h1:0<=a
 ·by_cases h2:a<cs.length
  ·have h3:a<(X.length:Int):=by omega
   simp![qV,hxl,h1,h2]
  ·simp![qV,hxl,h1,h2]
 ·simp![qV,hxl,h1]
noncomputable def zeY (cf:CF):Prop:=∀ (cs:List Cl) (a:Int),cs.length<=1000->cf "has_cell" [.d (zb cs),.d (.int a)]=.ok (.d (.bool (decide (0<=a/\a<cs.length)))) [none,none]
end Wx
set_option maxHeartbeats 4000000
namespace Wx
open PySem L2 L3
noncomputable def zeS:Exc:=⟨"Twice",.none⟩
noncomputable def Z0(n:Nat)(i:Int):Bool:=decide (0<=i/\i<(n:Int))
noncomputable def zde(xs:List Int):Bool:=decide ((Tab.dedup xs).length<xs.length)
noncomputable def jU(xs:List Int)(i:Nat)(c:Cl):Cl:=⟨c.st,c.w||xs.contains (i:Int),c.wi⟩
noncomputable def ZB(xs:List Int)(cs:List Cl)(k:Nat):List Cl:=(List.range k).filterMap fun i=>(cs[i]?).map (jU xs i)
noncomputable def qb(xs:List Int)(cs:List Cl):List Cl:=ZB xs cs cs.length
theorem Zm(xs:List Int){cs:List Cl}{k:Nat}{c:Cl}(h:cs[k]?=some c):ZB xs cs (k+1)=ZB xs cs k++ [jU xs k c]:=by
 unfold ZB
 rw[xT,List.filterMap_append]
 congr 1
 rw[xG,h];rfl
theorem zbG(xs:List Int)(cs:List Cl)(k:Nat):(ZB xs cs k).length<=k:=by
 have:=List.length_filterMap_le (fun i=>(cs[i]?).map (jU xs i)) (List.range k)
 rw[xO]at this;exact this
theorem W0(xs:List Int)(i:Int):inD (.int i) (xs.map .int)=xs.contains i:=by
 unfold inD
 rw[uO]
 induction xs with
 |nil=>rfl
 |cons x xs ih=>
  rw[uD,ih,List.contains_cons]
  congr 1
  show PyData.eqv (.int x) (.int i)=(i==x)
  rw[zB,xN,beq_iff_eq,beq_iff_eq]
  exact⟨Eq.symm,Eq.symm⟩
theorem QX(xs:List Int):(∀ x∈xs.map PyData.int,lay 20 x=true)=True:=eq_true fun x hx=>by
 obtain⟨i,_,rfl⟩:=xo.mp hx
 exact zl _ _
noncomputable def zbz(cs:List Cl)(xs:List Int):RF:=if xs.all (Z0 cs.length) then (if zde xs then .exc zeS [] else .ok (.l ((qb xs cs).map fun c=>.d c.D)) [none,none]) else .exc zbS []
theorem zdT(cf:CF){cs:List Cl}{xs:List Int} :
  qC 4 (.tp (.cons (.nm 0 2) (.cons (.tp (.cons (.nm 1 3) (.cons (.nm 2 4) (.cons (.nm 3 5) .nil)))) .nil))) fYes (p_with_wax_2.ev cf).1 (qu (cs.map Cl.D)) [] [some (.d (zb cs)),some (.d (zc xs))]=.ok ((qb xs cs).map Cl.D,[some (.d (zb cs)),some (.d (zc xs))]):=by
 obtain⟨ys,Γ',e,hy,rfl⟩:=qe (k:=4) (t:=.tp (.cons (.nm 0 2) (.cons (.tp (.cons (.nm 1 3) (.cons (.nm 2 4) (.cons (.nm 3 5) .nil)))) .nil))) (cond:=fYes) (elt:=(p_with_wax_2.ev cf).1) (ds:=qu (cs.map Cl.D)) (Γ:= [some (.d (zb cs)),some (.d (zc xs))])
  (fun pre ys Γ=>ys=(ZB xs cs pre.length).map Cl.D/\Γ= [some (.d (zb cs)),some (.d (zc xs))]) ⟨rfl,rfl⟩ (by
   rintro pre x post e ys Γ ⟨hy,rfl⟩
   obtain⟨c,hc,rfl⟩:∃ c,cs[pre.length]?=some c/\x=.tuple [.int (pre.length:Nat),c.D]:=by
    have h1:(qu (cs.map Cl.D))[pre.length]?=some x:=by rw[e];simp
    obtain⟨y,hy1,hy2⟩:=QY h1
    rw[xg]at hy1
    cases q:cs[pre.length]? with
    |none=>rw[q]at hy1;cases hy1
    |some c=>
     rw[q]at hy1
     cases hy1
     exact⟨c,rfl,hy2⟩
   have hin:=W0 xs (pre.length:Int)
   have hal:=QX xs
   have hnx:=Zm xs hc
   refine⟨[some (.d (zb cs)),some (.d (zc xs)),some (.d (.int (pre.length:Nat))),some (.d (zc c.st)),some (.d (.bool c.w)),some (.d (zc c.wi))],true,_,rfl,rfl,fun _=>⟨.dat (jU xs pre.length c).D,[some (.d (zb cs)),some (.d (zc xs)),some (.d (.int (pre.length:Nat))),some (.d (zc c.st)),some (.d (.bool c.w)),some (.d (zc c.wi))],(jU xs pre.length c).D,?_,rfl,?_,rfl⟩,fun h=>nomatch h⟩
   ·unfold jU Cl.D ql
    have hxi:zc xs=.tuple (xs.map .int):=rfl
    rw[hxi]
    generalize zc c.st=A at *
    generalize zc c.wi=B at *
    generalize xs.map PyData.int=X at *
    generalize xs.contains (pre.length:Int)=ci at *
    cases hw:c.w with
    |true=>simp![p_with_wax_2]
    |false=>simp![p_with_wax_2,hin,hal,zl]
   ·rw[hy]
    simp only[xw,xl,ua,uc]
    rw[hnx,xV];rfl)
 rw[e,hy]
 have:(qu (cs.map Cl.D)).length=cs.length:=by simp[qu]
 rw[this];rfl
theorem zeh(cf:CF)(hh:zeY cf){cs:List Cl}(hl:cs.length<=1000){xs:List Int}(hx:xs.length<=60) :
  runI 2 [false,false] [] je cf [.d (zb cs),.d (zc xs)]=zbz cs xs:=by
 have e1:=zH (k:=1) (t:=.nm 0 2) (cond:=fYes) (elt:=(p_with_wax_1.ev cf).1) (ds:=xs.map .int) (Γ:= [some (.d (zb cs)),some (.d (zc xs))]) (fun _=>true) (fun x=>match x with | .int i=>.bool (Z0 cs.length i) | _=>.none) (by
  intro x hx
  obtain⟨i,_,rfl⟩:=xo.mp hx
  have e:=hh cs i hl
  refine⟨[some (.d (zb cs)),some (.d (zc xs)),some (.d (.int i))],_,rfl,rfl,by simp,fun _=>⟨.dat (.bool (Z0 cs.length i)),[some (.d (zb cs)),some (.d (zc xs)),some (.d (.int i))],?_,rfl,by simp⟩⟩
  unfold Z0
  generalize zb cs=B at *
  simp![p_with_wax_1,e,zg1])
 rw[qr,List.map_map]at e1
 have em:(xs.map ((fun x=>match x with | .int i=>PyData.bool (Z0 cs.length i) | _=>.none)∘PyData.int))=(xs.map (Z0 cs.length)).map .bool:=by rw[List.map_map];rfl
 rw[em]at e1
 have hb1:=qO (xs.map (Z0 cs.length))
 have ha:(xs.map (Z0 cs.length)).all id=xs.all (Z0 cs.length):=by rw[List.all_map];rfl
 have e2:=zdT cf (cs:=cs) (xs:=xs)
 have hio:=wz xs
 have hdl:=jv xs
 have hml:(xs.map PyData.int).length=xs.length:=by simp
 have hz:xs.length<=1000000:=by omega
 have hzl:((xs.map (Z0 cs.length)).map PyData.bool).length<=1000000:=by simp;omega
 have hel:(qu (cs.map Cl.D)).length<=1000000:=by simp[qu];omega
 have hcl:(cs.map Cl.D).length<=1000000:=by simp;omega
 have hvv:((qb xs cs).map Cl.D).map OV.d=(qb xs cs).map fun c=>OV.d c.D:=by rw[List.map_map];rfl
 unfold zbz zde
 rw[<- hvv,<- ha]
 unfold zb zc at *
 generalize (qb xs cs).map Cl.D=WW at *
 generalize (xs.map (Z0 cs.length)).map PyData.bool=BB at *
 generalize xs.map (Z0 cs.length)=B2 at *
 generalize xs.map PyData.int=X at *
 generalize cs.map Cl.D=Y at *
 cases hal:B2.all id with
 |false=>
  simp![je,hml,hz,e1,hb1,hzl,hal,vb,zbS]
 |true=>
  by_cases hd:(Tab.dedup xs).length<xs.length
  ·have hne:(((Tab.dedup xs).length:Int)==(xs.length:Int))=false:=by rw[beq_eq_false_iff_ne];omega
   simp![je,hml,hz,e1,hb1,hzl,hal,yf,hio,hx,hd,zl,zB,hne,vb,zeS]
  ·have hne:(((Tab.dedup xs).length:Int)==(xs.length:Int))=true:=by rw[beq_iff_eq];omega
   have heq:(Tab.dedup xs).length=xs.length:=by omega
   simp![je,hml,hz,e1,hb1,hzl,hal,yf,hio,hx,hd,zl,zB,heq,e2,hel,hcl]
noncomputable def Yg (cf:CF):Prop:=∀ (cs:List Cl) (xs:List Int),cs.length<=1000->xs.length<=60->cf "with_wax" [.d (zb cs),.d (zc xs)]=zbz cs xs
end Wx
set_option maxHeartbeats 4000000
namespace Wx
open PySem L2 L3
theorem zdn(cf:CF){cs:List Cl}(hl:cs.length<=1000){xs:List Int}:runI 2 [false,false] [] jE cf [.d (zb cs),.d (zc xs)]=.ok (.l ((qb xs cs).map fun c=>.d c.D)) [none,none]:=by
 obtain⟨ys,Γ',e,hy,rfl⟩:=qe (k:=1) (t:=.nm 0 2) (cond:=fYes) (elt:=(b_law_wax_1.ev cf).1) (ds:=zo cs.length) (Γ:= [some (.d (zb cs)),some (.d (zc xs))])
  (fun pre ys Γ=>ys=(ZB xs cs pre.length).map Cl.D/\Γ= [some (.d (zb cs)),some (.d (zc xs))]) ⟨rfl,rfl⟩ (by
   rintro pre x post e ys Γ ⟨hy,rfl⟩
   have h1:(zo cs.length)[pre.length]?=some x:=by rw[e];simp
   obtain⟨hlt,rfl⟩:=jd h1
   have hc:cs[pre.length]?=some cs[pre.length]:=xb hlt
   have a1:atI (cs.map Cl.D) (pre.length:Int)=some (cs[pre.length]).D:=qz (by rw[xg,hc];rfl)
   have hin:=W0 xs (pre.length:Int)
   have hal:=QX xs
   have hnx:=Zm xs hc
   generalize cs[pre.length]=c at *
   have hcd:c.D=.tuple [zc c.st,.bool c.w,zc c.wi]:=rfl
   rw[hcd]at a1
   have b0:atI [zc c.st,PyData.bool c.w,zc c.wi] 0=some (zc c.st):=rfl
   have b1:atI [zc c.st,PyData.bool c.w,zc c.wi] 1=some (.bool c.w):=rfl
   have b2:atI [zc c.st,PyData.bool c.w,zc c.wi] 2=some (zc c.wi):=rfl
   refine⟨[some (.d (zb cs)),some (.d (zc xs)),some (.d (.int (pre.length:Nat)))],true,_,rfl,rfl,fun _=>⟨.dat (jU xs pre.length c).D,[some (.d (zb cs)),some (.d (zc xs)),some (.d (.int (pre.length:Nat)))],(jU xs pre.length c).D,?_,rfl,?_,rfl⟩,fun h=>nomatch h⟩
   ·unfold jU Cl.D ql
    have hxi:zc xs=.tuple (xs.map .int):=rfl
    have hbd:zb cs=.list (cs.map Cl.D):=rfl
    rw[hxi,hbd]
    generalize cs.map Cl.D=Y at *
    generalize zc c.st=A at *
    generalize zc c.wi=B at *
    generalize xs.map PyData.int=X at *
    generalize xs.contains (pre.length:Int)=ci at *
    cases hw:c.w with
    |true=>
     rw[hw]at a1 b0 b1 b2
     simp![b_law_wax_1,a1,b0,b1,b2]
    |false=>
     rw[hw]at a1 b0 b1 b2
     simp![b_law_wax_1,a1,b0,b1,b2,hin,hal,zl]
   ·rw[hy]
    simp only[xw,xl,ua,uc]
    rw[hnx,xV];rfl)
 rw[zi]at hy
 subst hy
 have hz: -1000000<=(cs.length:Int)/\(cs.length:Int)<=1000000:=by omega
 have hz2:cs.length<=1000000:=by omega
 have hml:(cs.map Cl.D).length=cs.length:=by simp
 have hvv:((ZB xs cs cs.length).map Cl.D).map OV.d=(qb xs cs).map fun c=>OV.d c.D:=by rw[List.map_map];rfl
 rw[<- hvv]
 unfold zb at *
 generalize (ZB xs cs cs.length).map Cl.D=WW at *
 generalize cs.map Cl.D=Y at *
 simp![jE,hml,hz,hz2,zi,e]
noncomputable def zbe (cf:CF):Prop:=∀ (cs:List Cl) (xs:List Int),cs.length<=1000->cf "_law_wax" [.d (zb cs),.d (zc xs)]=.ok (.l ((qb xs cs).map fun c=>.d c.D)) [none,none]
end Wx
set_option maxHeartbeats 4000000
namespace Wx
open PySem L2 L3
noncomputable def bw (g:Int) (f:Bool):Option Str:=if g<0 then some "spare" else if 1<g then some "deep" else if g=1/\f=false then some "spent" else none
noncomputable def bwD(g:Int)(f:Bool):PyData:=match bw g f with
 |some w=>.str w
 |none=>.none
noncomputable def qd(fr:List Bool)(c:Cl)(i n:Nat):List PyData:=(List.range n).filterMap fun d=>(bw (c.wi.getD d 0-c.st.getD d 0) (fr.getD d false)).map fun w=>.tuple [.str w,.int (i:Nat),.int (d:Nat)]
noncomputable def zP(fr:List Bool)(cs:List Cl)(n:Nat):List PyData:=(List.range n).flatMap fun i=>match cs[i]? with
 |some c=>qd fr c i c.st.length
 |none=> []
theorem Qf(fr:List Bool)(c:Cl)(i n:Nat):(qd fr c i n).length<=n:=by
 have:=List.length_filterMap_le (fun d=>(bw (c.wi.getD d 0-c.st.getD d 0) (fr.getD d false)).map fun w=>PyData.tuple [.str w,.int (i:Nat),.int (d:Nat)]) (List.range n)
 rw[xO]at this;exact this
theorem w4(fr:List Bool)(c:Cl)(i n:Nat):qd fr c i (n+1)=qd fr c i n++(match bw (c.wi.getD n 0-c.st.getD n 0) (fr.getD n false)with | some w=> [PyData.tuple [.str w,.int (i:Nat),.int (n:Nat)]] | none=> []):=by
 unfold qd
 rw[xT,List.filterMap_append]
 congr 1
 cases e:bw (c.wi.getD n 0-c.st.getD n 0) (fr.getD n false) with
 |none=>rw[xG,e];rfl
 |some w=>rw[xG,e];rfl
theorem ZC(fr:List Bool)(cs:List Cl)(n:Nat)(c:Cl)(h:cs[n]?=some c):zP fr cs (n+1)=zP fr cs n++qd fr c n c.st.length:=by
 unfold zP
 rw[xT,List.flatMap_append]
 congr 1
 simp[h]
theorem Z1{pots:Nat}(fr:List Bool){cs:List Cl}(h:∀ c∈cs,jf pots c.st c.wi):∀ n,(zP fr cs n).length<=n*pots
 |0=>by simp[zP]
 |n+1=>by
  have ih:=Z1 fr h n
  cases e:cs[n]? with
  |none=>
   have:zP fr cs (n+1)=zP fr cs n:=by
    unfold zP
    rw[xT,List.flatMap_append]
    simp[e]
   rw[this,Nat.succ_mul];omega
  |some c=>
   rw[ZC fr cs n c e,xw,Nat.succ_mul]
   have h1:=Qf fr c n c.st.length
   have h2:=(h c (xF e)).sl
   omega
theorem zc0(cf:CF)(g:Int)(f:Bool):runI 2 [false,false] [] qJ cf [.d (.int g),.d (.bool f)]=.ok (.d (bwD g f)) [none,none]:=by
 by_cases h1:g<0
 ·simp![qJ,bwD,bw,h1,OV.view,OV.views,zA,ixN,atI]
 ·by_cases h2:1<g
  ·simp![qJ,bwD,bw,h1,h2,OV.view,OV.views,zA,ixN,atI]
  ·by_cases h3:g=1
   ·cases f<;>simp![qJ,bwD,bw,h3,zl,zB,OV.view,OV.views,zA,ixN,atI]
   ·simp![qJ,bwD,bw,h1,h2,h3,zl,zB,OV.view,OV.views,zA,ixN,atI]
noncomputable def yS (cf:CF):Prop:=∀ (g:Int) (f:Bool),cf "bar_word" [.d (.int g),.d (.bool f)]=.ok (.d (bwD g f)) [none,none]
theorem VJ{xs:List Bool}{d:Nat}(h:d<xs.length):atI (xs.map PyData.bool) (d:Int)=some (.bool (xs.getD d false)) :=
 qz (by rw[xg,xb h,List.getD_eq_getElem?_getD,xb h];rfl)
theorem zdE(cf:CF)(hw:yS cf){rows:PyData}{fr:List Bool}{c:Cl}{i:Nat}{told:List PyData}{pots:Nat}(hc:jf pots c.st c.wi)(hf:fr.length=pots)(hp:pots<=100)(ht:told.length<=100000){o5 o7 o8:Option OV} :
  ∃ o7' o8':Option OV,zU (.nm 7 7) (p_bars_1.ex cf []) (zo pots) [some (.d rows),some (.d (.list (fr.map .bool))),some (.l (told.map .d)),some (.d (.int i)),some (.d (zc c.st)),o5,some (.d (zc c.wi)),o7,o8]
   = .ok (.next,[some (.d rows),some (.d (.list (fr.map .bool))),some (.l ((told++qd fr c i pots).map .d)),some (.d (.int i)),some (.d (zc c.st)),o5,some (.d (zc c.wi)),o7',o8']):=by
 obtain⟨Γ',e,⟨o7',o8',rfl⟩⟩:=qF (t:=.nm 7 7) (body:=p_bars_1.ex cf []) (ds:=zo pots) (Γ:= [some (.d rows),some (.d (.list (fr.map .bool))),some (.l (told.map .d)),some (.d (.int i)),some (.d (zc c.st)),o5,some (.d (zc c.wi)),o7,o8])
  (fun pre Γ=>∃ o7 o8:Option OV,Γ= [some (.d rows),some (.d (.list (fr.map .bool))),some (.l ((told++qd fr c i pre.length).map .d)),some (.d (.int i)),some (.d (zc c.st)),o5,some (.d (zc c.wi)),o7,o8]) ⟨o7,o8,by simp[qd]⟩ (by
   rintro pre x post e Γ ⟨o7,o8,rfl⟩
   obtain⟨rfl,hlt⟩:=j4 e
   have a1:=qM (xs:=c.st) (d:=pre.length) (by rw[hc.sl];exact hlt)
   have a2:=qM (xs:=c.wi) (d:=pre.length) (by rw[hc.wl];exact hlt)
   have a3:=VJ (xs:=fr) (d:=pre.length) (by rw[hf];exact hlt)
   have hlen:=Qf fr c i pre.length
   have hz:told.length+(qd fr c i pre.length).length<1000000:=by omega
   have hq:=hw (c.wi.getD pre.length 0-c.st.getD pre.length 0) (fr.getD pre.length false)
   simp only[xw,xl,ua,uc]
   rw[w4]
   generalize c.wi.getD pre.length 0=z1 at *
   generalize c.st.getD pre.length 0=z2 at *
   generalize fr.getD pre.length false=z3 at *
   refine⟨_,[some (.d rows),some (.d (.list (fr.map .bool))),some (.l ((told++(qd fr c i pre.length++(match bw (z1-z2) z3 with | some w=> [PyData.tuple [.str w,.int (i:Nat),.int (pre.length:Nat)]] | none=> []))).map .d)),some (.d (.int i)),some (.d (zc c.st)),o5,some (.d (zc c.wi)),some (.d (.int pre.length)),some (.d (bwD (z1-z2) z3))],by simp[tgF];rfl,?_,_,_,rfl⟩
   unfold bwD at hq |-
   cases hbw:bw (z1-z2) z3 with
   |none=>
    rw[hbw]at hq
    simp![p_bars_1,zc,a1,a2,a3,hq,isN,OV.view,OV.views,zA]
   |some w=>
    rw[hbw]at hq
    simp![p_bars_1,zc,a1,a2,a3,hq,hz,isN,OV.view,OV.views,zA])
 rw[zi]at *
 exact⟨o7',o8',e⟩
noncomputable def zq(fr:List Bool):PyData:=.list (fr.map .bool)
theorem zdc(cf:CF)(hw:yS cf){pots:Nat}{cs:List Cl}(hl:cs.length<=100)(hk:∀ c∈cs,jf pots c.st c.wi){fr:List Bool}(hf:fr.length=pots)(hp:pots<=100) :
  runI 9 [false,false] [] yN cf [.d (zb cs),.d (zq fr)]=.ok (.l ((zP fr cs cs.length).map .d)) [none,none]:=by
 obtain⟨Γ',e,⟨o3,o4,o5,o6,o7,o8,rfl⟩⟩:=qF (t:=.tp (.cons (.nm 3 3) (.cons (.tp (.cons (.nm 4 4) (.cons (.nm 5 5) (.cons (.nm 6 6) .nil)))) .nil))) (body:=p_bars_2.ex cf []) (ds:=qu (cs.map Cl.D)) (Γ:= [some (.d (zb cs)),some (.d (zq fr)),some (.l []),none,none,none,none,none,none])
  (fun pre Γ=>∃ o3 o4 o5 o6 o7 o8:Option OV,Γ= [some (.d (zb cs)),some (.d (zq fr)),some (.l ((zP fr cs pre.length).map .d)),o3,o4,o5,o6,o7,o8]) ⟨none,none,none,none,none,none,by simp[zP]⟩ (by
   rintro pre x post e Γ ⟨o3,o4,o5,o6,o7,o8,rfl⟩
   obtain⟨y,hy,rfl⟩:=JL e
   rw[xg]at hy
   cases hc:cs[pre.length]? with
   |none=>rw[hc]at hy;cases hy
   |some c=>
    rw[hc]at hy
    have:y=c.D:=by simpa using hy.symm
    subst this
    have ok:=hk c (xF hc)
    have hpl:pre.length<cs.length:=(xc.mp hc).1
    have hbl:=Z1 fr hk pre.length
    have hbl2:(zP fr cs pre.length).length<=100000:=xL hbl (xL (Nat.mul_le_mul (by omega:pre.length<=100) hp) (by decide))
    obtain⟨o7',o8',e1⟩:=zdE cf hw (rows:=zb cs) (i:=pre.length) (told:=zP fr cs pre.length) ok hf hp hbl2 (o5:=some (.d (.bool c.w))) (o7:=o7) (o8:=o8)
    have hz1: -1000000<=(pots:Int)/\(pots:Int)<=1000000:=by omega
    refine⟨[some (.d (zb cs)),some (.d (zq fr)),some (.l ((zP fr cs pre.length).map .d)),some (.d (.int pre.length)),some (.d (zc c.st)),some (.d (.bool c.w)),some (.d (zc c.wi)),o7,o8],_,by simp[tgF,tgFs,Cl.D,ql],?_,some (.d (.int pre.length)),some (.d (zc c.st)),some (.d (.bool c.w)),some (.d (zc c.wi)),o7',o8',rfl⟩
    simp only[xw,xl,ua,uc]
    rw[ZC fr cs pre.length c hc,ok.sl]
    simp only[zq]
    simp![p_bars_2,ok.sl,hz1,OV.view,OV.views,zA,ixN,atI,zc]
    simp only[zc]at e1
    rw[e1];simp)
 rw[qt,xk]at *
 simp![yN,zb,zq,OV.view,OV.views,zA,ixN,atI]
 simp only[zb,zq]at e
 rw[e]
 simp[outs]
noncomputable def y9(cs:List Cl):Bool:=(cs.map fun c=>PyData.eqv (zc c.st) (zc c.wi)).all id
theorem Kg(xs:List Int):lay 20 (zc xs)=true:=zc6 fun x h=>by
 obtain⟨i,_,rfl⟩:=xo.mp h
 exact zl _ _
noncomputable def zcL:PyData->PyData
 |.tuple [a,_,b]=>.bool (PyData.eqv a b)
 |_=>.none
theorem yP(cs:List Cl):((cs.map Cl.D).filter fun _=>true).map zcL=(cs.map fun c=>PyData.eqv (zc c.st) (zc c.wi)).map .bool:=by
 rw[qr,List.map_map,List.map_map];rfl
theorem zd3(cf:CF){cs:List Cl}(hl:cs.length<=1000):runI 1 [false] [] QT cf [.d (zb cs)]=.ok (.d (.bool (y9 cs))) [none]:=by
 have e:=zH (k:=1) (t:=.nm 0 1) (cond:=fYes) (elt:=(b_law_met_1.ev cf).1) (ds:=cs.map Cl.D) (Γ:= [some (.d (zb cs))]) (fun _=>true) zcL (by
  intro x hx
  obtain⟨c,_,rfl⟩:=xo.mp hx
  refine⟨_,_,by simp[tgF];rfl,rfl,by simp,fun _=>⟨.dat (.bool (PyData.eqv (zc c.st) (zc c.wi))),[some (.d (zb cs)),some (.d c.D)],?_,rfl,by simp⟩⟩
  simp![b_law_met_1,Cl.D,ql,Kg,OV.view,OV.views,zA,zcD,zbZ])
 rw[yP]at e
 have hz:cs.length<=1000000:=by omega
 simp![QT,zb,hz,OV.view,OV.views,zA,ixN,atI]
 simp only[zb,List.map_map]at e
 rw[e]
 simp only[Option.bind_some,gAll,<- List.map_map,qO,ut,y9,outs]
 rfl
end Wx
set_option maxHeartbeats 4000000
namespace Wx
open PySem L2 L3
noncomputable def ZD(c:Cl):Prop:=∀ d,c.st.getD d 0<=c.wi.getD d 0/\c.wi.getD d 0<=c.st.getD d 0+1/\c.wi.getD d 0<=9
noncomputable def BoltN(pots:Nat)(cs:List Cl):Prop:=Bolt pots cs/\∀ c∈cs,ZD c
inductive Mv where
 |wax (k:List Nat)
 |dip (d:Nat)
 |boil
noncomputable def Mv.D:Mv->PyData
 |.wax k=>.tuple [.str "wax",.tuple (za k)]
 |.dip d=>.tuple [.str "dip",.int (d:Int)]
 |.boil=>.tuple [.str "boil"]
noncomputable def zj(c:Cl):Cl:=⟨c.st,false,c.wi⟩
noncomputable def zr(dn:List Nat)(c:Cl):Cl:=⟨(List.range c.st.length).map fun k=>if dn.contains k then c.wi.getD k 0 else c.st.getD k 0,c.w,c.wi⟩
noncomputable def qc(d:Nat)(c:Cl):Cl:=⟨c.st,c.w|| !zz c d,c.wi⟩
noncomputable def kp(cs:List Cl)(d i:Nat):Bool:=match cs[i]? with
 |some c=> !c.w&& !zz c d
 |none=>false
noncomputable def zT(cs:List Cl)(d:Nat):List Nat:=(List.range cs.length).filter (kp cs d)
noncomputable def iz(xs:List Nat):List Int:=xs.map fun (i:Nat)=>(i:Int)
theorem zeB(xs:List Nat):PyData.tuple (za xs)=zc (iz xs):=by unfold za zc iz;rw[List.map_map];rfl
theorem zaJ(xs:List Nat)(i:Nat):(iz xs).contains (i:Int)=xs.contains i:=by
 unfold iz
 induction xs with
 |nil=>rfl
 |cons a l ih=>simp only[xK,List.contains_cons,ih];congr 1;rw[xN];simp;omega
theorem kC(xs:List Int)(cs:List Cl):∀ k,k<=cs.length->∀ i,(ZB xs cs k)[i]?=if i<k then (cs[i]?).map (jU xs i) else none
 |0,_,i=>by simp[ZB]
 |k+1,h,i=>by
  have hk:cs[k]?=some cs[k]:=xb (by omega)
  have ih:=kC xs cs k (by omega)
  have hl:(ZB xs cs k).length=k:=by
   have h1:=zbG xs cs k
   by_cases h0:k=0
   ·subst h0;omega
   ·rcases uQ (k-1) (ZB xs cs k).length with h | h
    ·omega
    ·have h2:=ih (k-1)
     rw[if_pos (by omega),xj h,xb (by omega)]at h2
     cases h2
  rw[Zm xs hk]
  by_cases h1:i<k
  ·rw[xf (by omega),ih i,if_pos h1,if_pos (by omega)]
  ·rw[xh (by omega),hl]
   by_cases h2:i=k
   ·subst h2;rw[if_pos (by omega),hk];simp
   ·rw[if_neg (by omega)]
    have:i-k=(i-k-1)+1:=by omega
    rw[this];rfl
theorem Zv(xs:List Int)(cs:List Cl)(i:Nat):(qb xs cs)[i]?=(cs[i]?).map (jU xs i):=by
 unfold qb
 rw[kC xs cs _ (xn _) i]
 split
 ·rfl
 ·rw[xj (by omega)];rfl
theorem yj(cs:List Cl)(d i:Nat):i∈zT cs d↔∃ c,cs[i]?=some c/\c.w=false/\zz c d=false:=by
 unfold zT
 rw[xp,xE]
 unfold kp
 constructor
 ·rintro⟨h1,h2⟩
  rw[xb h1]at h2 |-
  simp at h2
  exact⟨_,rfl,h2.1,h2.2⟩
 ·rintro⟨c,h1,h2,h3⟩
  refine⟨?_,by rw[h1];simp[h2,h3]⟩
  rcases uQ i cs.length with h | h
  ·exact h
  ·rw[xj h]at h1;cases h1
theorem yF(cs:List Cl)(d:Nat):(zT cs d).Pairwise (·<·):=(WB _).filter _
theorem ke(cs:List Cl)(d:Nat):(zT cs d).length<=cs.length:=by
 have:=xQ (kp cs d) (List.range cs.length)
 rw[xO]at this;exact this
theorem wK(f:Cl->Cl)(hf:∀ c,(f c).w=c.w)(hg:∀ c d,f (qc d c)=⟨(f c).st,c.w|| !zz c d,(f c).wi⟩)(cs:List Cl)(d:Nat):qb (iz (zT cs d)) (cs.map f)=(cs.map (qc d)).map f:=by
 apply xU
 intro i
 rw[Zv,xg,xg,xg]
 cases h:cs[i]? with
 |none=>rfl
 |some c=>
  simp only[ut,Option.some.injEq]
  rw[hg]
  unfold jU
  rw[zaJ,hf]
  have:(zT cs d).contains i=(!c.w&& !zz c d):=by
   rw[xN,xR,yj]
   constructor
   ·rintro⟨c',h1,h2,h3⟩
    rw[h]at h1;cases h1;simp[h2,h3]
   ·intro h1;simp at h1;exact⟨c,h,h1.1,h1.2⟩
  rw[this]
  cases c.w<;>cases zz c d<;>rfl
theorem kr(cs:List Cl)(d:Nat)(h:zT cs d= []):cs.map (qc d)=cs:=by
 have:=wK id (fun _=>rfl) (fun _ _=>rfl) cs d
 rw[h]at this
 simp only[List.map_id]at this
 rw[<- this]
 apply xU
 intro i
 rw[Zv]
 cases cs[i]? with
 |none=>rfl
 |some c=>simp[jU,iz]
noncomputable def mvs:List Cl->List Nat->List Mv
 |_,[]=> []
 |cs,d::ds=>(if zT cs d= [] then [] else [.wax (zT cs d)])++.dip d::mvs (cs.map (qc d)) ds
inductive Walk(pots:Nat)(fr:List Bool):List Cl->List Nat->List Mv->List Cl->List Nat->Nat->Prop
 |nil {R dn}:Walk pots fr R dn [] R dn 0
 |wax {R dn k ms R' d' b} (hb:Bolt pots R) (h1:k≠ []) (h2:k.Pairwise (·<·)) (h3:∀ i∈k,∃ c,R[i]?=some c/\c.w=false) (w:Walk pots fr (qb (iz k) R) dn ms R' d' b):Walk pots fr R dn (.wax k::ms) R' d' b
 |dip {R dn d ms R' d' b} (hb:Bolt pots R) (h1:d<fr.length) (h2:fr.getD d false=true) (h3:d∉dn) (h4:R.any (qB d)=false) (w:Walk pots fr (R.map (qy d)) (dn++ [d]) ms R' d' b):Walk pots fr R dn (.dip d::ms) R' d' b
 |boil {R dn ms R' d' b} (hb:Bolt pots R) (w:Walk pots fr (R.map zj) dn ms R' d' b):Walk pots fr R dn (.boil::ms) R' d' (b+1)
theorem Walk.app{pots:Nat}{fr:List Bool}{R R1 R2:List Cl}{d0 d1 d2:List Nat}{m1 m2:List Mv}{b1 b2:Nat}(h1:Walk pots fr R d0 m1 R1 d1 b1)(h2:Walk pots fr R1 d1 m2 R2 d2 b2):Walk pots fr R d0 (m1++m2) R2 d2 (b1+b2):=by
 induction h1 with
 |nil=>rw[uc];exact h2
 |wax hb a1 a2 a3 _ ih=>exact .wax hb a1 a2 a3 (ih h2)
 |dip hb a1 a2 a3 a4 _ ih=>exact .dip hb a1 a2 a3 a4 (ih h2)
 |boil hb _ ih=>rw[Nat.add_right_comm];exact .boil hb (ih h2)
theorem Zx(dn:List Nat)(c:Cl)(k:Nat):(zr dn c).st.getD k 0=if k<c.st.length then (if dn.contains k then c.wi.getD k 0 else c.st.getD k 0) else 0:=by
 unfold zr
 rw[List.getD_eq_getElem?_getD,xg]
 by_cases h:k<c.st.length
 ·rw[xY h,if_pos h];rfl
 ·rw[xj (by simp;omega),if_neg h];rfl
theorem yk{xs:List Int}(h:In9 xs)(k:Nat):0<=xs.getD k 0/\xs.getD k 0<=9:=by
 rw[List.getD_eq_getElem?_getD]
 by_cases hk:k<xs.length
 ·rw[xb hk];exact h _ (ug hk)
 ·rw[xj (by omega)];simp
theorem Zt{pots:Nat}{cs:List Cl}(h:Bolt pots cs)(dn:List Nat):Bolt pots (cs.map (zr dn)):=by
 refine⟨by rw[xk];exact h.1,fun c hc=>?_⟩
 obtain⟨c0,h0,rfl⟩:=xo.mp hc
 have hk:=h.2 c0 h0
 refine⟨by unfold zr;simp[hk.sl],hk.wl,fun x hx=>?_,hk.wn⟩
 unfold zr at hx
 obtain⟨k,_,rfl⟩:=xo.mp hx
 have h1:=yk hk.sn k
 have h2:=yk hk.wn k
 split
 ·exact h2
 ·exact h1
theorem Bolt.mp{pots:Nat}{cs:List Cl}(h:Bolt pots cs)(f:Cl->Cl)(hf:∀ c,(f c).st=c.st/\(f c).wi=c.wi):Bolt pots (cs.map f):=by
 refine⟨by rw[xk];exact h.1,fun c hc=>?_⟩
 obtain⟨c0,h0,rfl⟩:=xo.mp hc
 rw[(hf c0).1,(hf c0).2];exact h.2 c0 h0
theorem BoltN.mp{pots:Nat}{cs:List Cl}(h:BoltN pots cs)(f:Cl->Cl)(hf:∀ c,(f c).st=c.st/\(f c).wi=c.wi):BoltN pots (cs.map f):=by
 refine⟨h.1.mp f hf,fun c hc=>?_⟩
 obtain⟨c0,h0,rfl⟩:=xo.mp hc
 unfold ZD
 rw[(hf c0).1,(hf c0).2];exact h.2 c0 h0
theorem jk(f:Cl->Cl)(hf:∀ c,(f c).st=c.st/\(f c).wi=c.wi)(c:Cl)(d:Nat):zz (f c) d=zz c d:=by
 unfold zz;rw[(hf c).1,(hf c).2]
theorem jQ(d:Nat)(c:Cl):(qc d c).st=c.st/\(qc d c).wi=c.wi:=⟨rfl,rfl⟩
theorem Vp(c:Cl):(zj c).st=c.st/\(zj c).wi=c.wi:=⟨rfl,rfl⟩
theorem WE{c:Cl}(h:ZD c)(d:Nat):c.wi.getD d 0=c.st.getD d 0+(if zz c d then 1 else 0):=by
 obtain⟨h1,h2,_⟩:=h d
 unfold zz
 by_cases hd:c.st.getD d 0<c.wi.getD d 0
 ·simp only[hd,decide_true,if_true];omega
 ·simp only[hd,decide_false];rw[if_neg (by decide)];omega
theorem VC{dn:List Nat}{d:Nat}(hd:d∉dn){c:Cl}(hn:ZD c)(hw:c.w= !zz c d):qy d (zr dn c)=zr (dn++ [d]) c:=by
 have key:(if (zr dn c).w then (zr dn c).st else wM d (zr dn c).st)=(zr (dn++ [d]) c).st:=by
  have hl:(zr dn c).st.length=c.st.length:=by unfold zr;simp
  apply xU
  intro k
  have e0:∀ (xs:List Int),xs.length=c.st.length->xs[k]?=if k<c.st.length then some (xs.getD k 0) else none:=fun xs hx=>by
   rw[List.getD_eq_getElem?_getD]
   by_cases h:k<c.st.length
   ·rw[xb (by omega),if_pos h];rfl
   ·rw[xj (by omega),if_neg h]
  rw[e0 _ (by split<;>simp[yz,hl]),e0 _ (by unfold zr;simp)]
  by_cases h:k<c.st.length
  ·rw[if_pos h,if_pos h,Zx,if_pos h]
   refine congrArg some ?_
   have hc:(dn++ [d]).contains k=(dn.contains k||k==d):=by rw[xN];simp
   rw[hc]
   have hi:(wM d (zr dn c).st).getD k 0=(zr dn c).st.getD k 0+(if k=d then 1 else 0):=by
    unfold wM
    rw[List.getD_eq_getElem?_getD,xg,xY (by omega)];rfl
   have hnl:=WE hn d
   have hcw:(zr dn c).w=c.w:=rfl
   rw[hcw,hw]
   have hdn:dn.contains d=false:=by rw[<- Bool.not_eq_true,xR];exact hd
   cases hL:zz c d with
   |true=>
    rw[hL,if_pos rfl]at hnl
    simp only[uI,xI,if_false]
    rw[hi,Zx,if_pos h]
    by_cases hk:k=d
    ·subst hk
     simp only[hdn,xI,if_false,if_true,Bool.false_or,beq_self_eq_true,eq_self]
     omega
    ·have:(k==d)=false:=by simpa using hk
     simp[this,hk]
   |false=>
    rw[hL,if_neg (by decide)]at hnl
    simp only[Bool.not_false,if_true]
    rw[Zx,if_pos h]
    by_cases hk:k=d
    ·subst hk
     simp only[hdn,xI,if_false,if_true,Bool.false_or,beq_self_eq_true,eq_self]
     omega
    ·have:(k==d)=false:=by simpa using hk
     simp[this]
  ·rw[if_neg h,if_neg h]
 unfold qy
 cases hcw:(zr dn c).w with
 |true=>
  rw[hcw]at key
  simp only[if_true]at key |-
  have:zr dn c=⟨(zr dn c).st,(zr dn c).w,(zr dn c).wi⟩:=rfl
  rw[this,key];rfl
 |false=>
  rw[hcw]at key
  simp only[xI,if_false]at key |-
  rw[key]
  have:zr (dn++ [d]) c=⟨(zr (dn++ [d]) c).st,(zr (dn++ [d]) c).w,(zr (dn++ [d]) c).wi⟩:=rfl
  rw[this]
  have h2:(zr (dn++ [d]) c).w=false:=hcw
  rw[h2];rfl
theorem zcj{dn:List Nat}{d:Nat}(hd:d∉dn){P:List Cl}(hn:∀ c∈P,ZD c)(hcw:∀ c∈P,c.w= !zz c d):(P.map (zr dn)).any (qB d)=false:=by
 rw[<- Bool.not_eq_true,uV]
 rintro⟨c,hc,h⟩
 obtain⟨c0,h0,rfl⟩:=xo.mp hc
 unfold qB at h
 rw[Zx]at h
 have hdn:dn.contains d=false:=by rw[<- Bool.not_eq_true,xR];exact hd
 obtain⟨_,_,h9⟩:=hn c0 h0 d
 rw[hdn,xa,decide_eq_true_eq]at h
 obtain⟨hw,h⟩:=h
 have hl:zz c0 d=true:=by
  have h1:=hcw c0 h0
  have h2:(zr dn c0).w=c0.w:=rfl
  rw[h2,h1]at hw
  simpa using hw
 unfold zz at hl
 simp only[decide_eq_true_eq]at hl
 split at h
 ·rw[if_neg (by decide)]at h;omega
 ·omega
theorem WG(dn:List Nat)(P:List Cl):(P.map (zr dn)).map zj=(P.map zj).map (zr dn):=by
 rw[List.map_map,List.map_map];rfl
theorem jJ{pots:Nat}{fr:List Bool}(hfl:fr.length=pots):∀ (ds:List Nat) (P:List Cl) (dn:List Nat),BoltN pots P->(∀ d∈ds,d<pots/\fr.getD d false=true/\d∉dn)->ds.Nodup->(ds.Pairwise fun x y=>∀ c∈P,zz c y=true->zz c x=true)->(∀ c∈P,∀ d∈ds,zz c d=true->c.w=false) ->
  ∃ P':List Cl,P'.map zj=P.map zj/\Walk pots fr (P.map (zr dn)) dn (mvs P ds) (P'.map (zr (dn++ds))) (dn++ds) 0
 |[],P,dn,_,_,_,_,_=>⟨P,rfl,by rw[uf];exact .nil⟩
 |d::ds,P,dn,hb,hd,hnd,hch,hw=>by
  obtain⟨hd1,hd2,hd3⟩:=hd d (by simp)
  have hP':=hb.mp (qc d) (jQ d)
  have hcw:∀ c∈P.map (qc d),c.w= !zz c d:=fun c hc=>by
   obtain⟨c0,h0,rfl⟩:=xo.mp hc
   rw[jk _ (jQ d)]
   show (c0.w|| !zz c0 d)=_
   have:=hw c0 h0 d (by simp)
   cases hL:zz c0 d with
   |true=>rw[this hL];rfl
   |false=>simp
  obtain⟨P',hs,hwk⟩:=jJ hfl ds (P.map (qc d)) (dn++ [d]) hP' (fun e he=>by
    obtain⟨a1,a2,a3⟩:=hd e (by simp[he])
    refine⟨a1,a2,?_⟩
    rw[xH,uz]
    rintro (h | h)
    ·exact a3 h
    ·subst h;exact (xB.mp hnd).1 he) (xB.mp hnd).2 ((List.pairwise_cons.mp hch).2.imp fun {x y} h c hc=>by
     obtain⟨c0,h0,rfl⟩:=xo.mp hc
     rw[jk _ (jQ d),jk _ (jQ d)];exact h c0 h0) (fun c hc e he hl=>by
     rw[hcw c hc]
     obtain⟨c0,h0,rfl⟩:=xo.mp hc
     rw[jk _ (jQ d)]at hl |-
     rw[(List.pairwise_cons.mp hch).1 e he c0 h0 hl];rfl)
  refine⟨P',by rw[hs,List.map_map];rfl,?_⟩
  have hdip:Walk pots fr ((P.map (qc d)).map (zr dn)) dn (.dip d::mvs (P.map (qc d)) ds) (P'.map (zr (dn++d::ds))) (dn++d::ds) 0:=by
   refine .dip (Zt hP'.1 dn) (by omega) hd2 hd3 (zcj hd3 hP'.2 hcw) ?_
   have:((P.map (qc d)).map (zr dn)).map (qy d)=(P.map (qc d)).map (zr (dn++ [d])):=by
    rw[List.map_map]
    exact ul fun c hc=>VC hd3 (hP'.2 c hc) (hcw c hc)
   rw[this]
   rw[List.append_assoc]at hwk
   exact hwk
  unfold mvs
  by_cases hk:zT P d= []
  ·rw[if_pos hk,uC]
   rw[kr P d hk]at hdip |-
   exact hdip
  ·rw[if_neg hk]
   refine .wax (Zt hb.1 dn) hk (yF P d) (fun i hi=>?_) ?_
   ·obtain⟨c,h1,h2,_⟩:=(yj P d i).mp hi
    exact⟨zr dn c,by rw[xg,h1];rfl,h2⟩
   ·rw[wK (zr dn) (fun _=>rfl) (fun _ _=>rfl)]
    exact hdip
noncomputable def ju(cs:List Cl)(L:List (List Nat)):List Mv:=match L with
 |[]=> []
 |P::rest=>mvs cs P++rest.flatMap fun ds=>.boil::mvs (cs.map zj) ds
theorem Wz{pots:Nat}{fr:List Bool}(hfl:fr.length=pots){cs:List Cl}(hc:BoltN pots cs):∀ (L:List (List Nat)) (P:List Cl) (dn:List Nat),P.map zj=cs.map zj->(∀ d∈L.flatten,d<pots/\fr.getD d false=true/\d∉dn)->L.flatten.Nodup->(∀ l∈L,Chn cs l) ->
    (∀ d∈L.flatten,d<12)->BoltN pots P ->
    ∃ P':List Cl,P'.map zj=cs.map zj/\Walk pots fr (P.map (zr dn)) dn (L.flatMap fun ds=>.boil::mvs (cs.map zj) ds) (P'.map (zr (dn++L.flatten))) (dn++L.flatten) L.length
  |[],P,dn,hs,_,_,_,_,_=>⟨P,hs,by simp only[List.flatten_nil,uf,List.flatMap_nil,ua];exact .nil⟩
  |ds::L,P,dn,hs,hd,hnd,hch,h12,hbP=>by
    have hB:=hc.mp zj Vp
    rw[xJ]at hd hnd h12
    obtain⟨n1,n2,n3⟩:=uj.mp hnd
    obtain⟨P1,hs1,hw1⟩:=jJ hfl ds (cs.map zj) dn hB (fun d h=>hd d (by simp[h])) n1 ((List.Pairwise.imp (fun h=>(jr cs _ _).mp h) (hch ds (by simp))).imp_of_mem fun {x y} hx hy h c hcm=>by
        obtain⟨c0,h0,rfl⟩:=xo.mp hcm
        rw[jk _ Vp,jk _ Vp]
        have hx12:=h12 x (by simp[hx])
        exact (h.2.2.2 (by omega)).1 c0 h0) (fun c hcm d _ _=>by
        obtain⟨c0,h0,rfl⟩:=xo.mp hcm;rfl)
    have hs1':P1.map zj=cs.map zj:=by rw[hs1,List.map_map];rfl
    have hbP1:BoltN pots P1:=by
      have h1:∀ c∈P1,∃ c0∈cs,c.st=c0.st/\c.wi=c0.wi:=fun c hcm=>by
        have:zj c∈cs.map zj:=by rw[<- hs1'];exact List.mem_map_of_mem hcm
        obtain⟨c0,h0,e⟩:=xo.mp this
        exact⟨c0,h0,by have:=congrArg Cl.st e;exact this.symm,by have:=congrArg Cl.wi e;exact this.symm⟩
      refine⟨⟨?_,fun c hcm=>?_⟩,fun c hcm=>?_⟩
      · have := congrArg List.length hs1'
        simp only[xk]at this
        rw[this];exact hc.1.1
      · obtain ⟨c0, h0, e1, e2⟩ := h1 c hcm
        rw[e1,e2];exact hc.1.2 c0 h0
      · obtain ⟨c0, h0, e1, e2⟩ := h1 c hcm
        unfold ZD
        rw[e1,e2];exact hc.2 c0 h0
    obtain⟨P2,hs2,hw2⟩:=Wz hfl hc L P1 (dn++ds) hs1' (fun d h=>by
        obtain⟨a1,a2,a3⟩:=hd d (xA _ h)
        refine⟨a1,a2,?_⟩
        rw[xH]
        rintro (q | q)
        · exact a3 q
        · exact n3 d q d h rfl) n2 (fun l hl=>hch l (by simp[hl])) (fun d h=>h12 d (xA _ h)) hbP1
    refine⟨P2,hs2,?_⟩
    rw[List.flatMap_cons,uR,xJ,<- List.append_assoc]
    refine .boil (Zt hbP.1 dn) ?_
    rw[WG,hs]
    have:=hw1.app hw2
    rw[uc]at this
    exact this
theorem yd(cs:List Cl):cs.map (zr [])=cs:=by
 conv=>rhs;rw[<- List.map_id cs]
 refine ul fun c _=>?_
 have:(List.range c.st.length).map (fun k=>c.st.getD k 0)=c.st:=by
  apply xU
  intro k
  rw[xg]
  by_cases h:k<c.st.length
  ·rw[xY h]
   show some (c.st.getD k 0)=_
   rw[List.getD_eq_getElem?_getD,xb h];rfl
  ·rw[xj (by simp;omega),xj (by omega)];rfl
 unfold zr
 simp only[List.contains_nil,xI,if_false,this,id]
end Wx
set_option maxHeartbeats 4000000
namespace Wx
open PySem L2 L3
theorem JO:∀ {l T:List Int},l.Nodup->(∀ x∈l,x∈T)->l.length<=T.length
 |[],_,_,_=>ui _
 |a::l,T,hn,hs=>by
  rw[xB]at hn
  have ha:a∈T:=hs a (by simp)
  have:=JO (l:=l) (T:=T.erase a) hn.2 (fun x hx=>by
   have hx2:=hs x (by simp[hx])
   have hne:x≠a:=fun e=>hn.1 (e ▸ hx)
   exact (List.mem_erase_of_ne hne).mpr hx2)
  have h1:=List.length_erase_of_mem ha
  have h2:=List.length_pos_of_mem ha
  simp only[xl];omega
theorem VQ{xs:List Int}(h:xs.Nodup):(Tab.dedup xs).length=xs.length :=
 Nat.le_antisymm (jv xs) (JO h fun x hx=>(Z6 xs x).mp ((Tab.any_dedup xs x).mpr hx))
theorem yr{k:List Nat}(h:k.Pairwise (·<·)):(iz k).Nodup:=by
 unfold iz
 exact uw.mpr (h.imp fun h=>by omega)
theorem KP(cf:CF){cs:List Cl}(hl:cs.length<=1000):runI 1 [false] [] ww cf [.d (zb cs)]=.ok (.l ((cs.map zj).map fun c=>.d c.D)) [none]:=by
 obtain⟨ys,Γ',e,hy,rfl⟩:=qe (k:=3) (t:=.tp (.cons (.nm 0 1) (.cons (.nm 1 2) (.cons (.nm 2 3) .nil)))) (cond:=fYes) (elt:=(p_boiled_1.ev cf).1) (ds:=cs.map Cl.D) (Γ:= [some (.d (zb cs))])
  (fun pre ys Γ=>ys=((cs.take pre.length).map zj).map Cl.D/\Γ= [some (.d (zb cs))]) ⟨rfl,rfl⟩ (by
   rintro pre x post e ys Γ ⟨hy,rfl⟩
   have hlt:pre.length<cs.length:=by have:=congrArg List.length e;simp at this;omega
   have hxe:x=(cs[pre.length]).D:=by
    have:(cs.map Cl.D)[pre.length]?=some x:=by rw[e];simp
    rw[xg,xb hlt]at this
    simpa using this.symm
   have hnx:(cs.take (pre.length+1)).map zj=(cs.take pre.length).map zj++ [zj cs[pre.length]]:=by
    rw[uP,xb hlt,xV];rfl
   generalize cs[pre.length]=c at *
   subst hxe
   refine⟨[some (.d (zb cs)),some (.d (zc c.st)),some (.d (.bool c.w)),some (.d (zc c.wi))],true,_,rfl,rfl,fun _=>⟨.dat (zj c).D,[some (.d (zb cs)),some (.d (zc c.st)),some (.d (.bool c.w)),some (.d (zc c.wi))],(zj c).D,?_,rfl,?_,rfl⟩,fun h=>nomatch h⟩
   ·unfold zj Cl.D ql
    generalize zc c.st=A at *
    generalize zc c.wi=B at *
    simp![p_boiled_1]
   ·rw[hy]
    simp only[xw,xl,ua,uc]
    rw[hnx,xV];rfl)
 have:(cs.take (cs.map Cl.D).length)=cs:=by rw[xk,uF]
 rw[this]at hy
 subst hy
 have hz:(cs.map Cl.D).length<=1000000:=by simp;omega
 have hvv:((cs.map zj).map Cl.D).map OV.d=(cs.map zj).map fun c=>OV.d c.D:=by rw[List.map_map];rfl
 rw[<- hvv]
 unfold zb at *
 generalize (cs.map zj).map Cl.D=DD at *
 generalize cs.map Cl.D=X at *
 simp![ww,e,hz]
noncomputable def yo (cf:CF):Prop:=∀ cs:List Cl,cs.length<=1000->cf "boiled" [.d (zb cs)]=.ok (.l ((cs.map zj).map fun c=>.d c.D)) [none]
theorem zdr(cf:CF){pots:Nat}{cs:List Cl}(hb:Bolt pots cs){d:Nat}(hd:d<pots):runI 2 [false,false] [] jt cf [.d (zb cs),.d (.int d)]=.ok (.d (.tuple (za (zT cs d)))) [none,none]:=by
 obtain⟨ys,Γ',e,rfl,rfl⟩:=qe (k:=4) (t:=.tp (.cons (.nm 0 2) (.cons (.tp (.cons (.nm 1 3) (.cons (.nm 2 4) (.cons (.nm 3 5) .nil)))) .nil))) (cond:=p_to_keep_off_1.ev cf) (elt:=(p_to_keep_off_2.ev cf).1) (ds:=qu (cs.map Cl.D)) (Γ:= [some (.d (zb cs)),some (.d (.int d))])
  (fun pre ys Γ=>ys=((List.range pre.length).filter (kp cs d)).map (fun (i:Nat)=>PyData.int (i:Int))/\Γ= [some (.d (zb cs)),some (.d (.int d))]) ⟨rfl,rfl⟩ (by
   rintro pre x post e ys Γ ⟨rfl,rfl⟩
   obtain⟨y,hy,rfl⟩:=JL e
   rw[xg]at hy
   cases hc:cs[pre.length]? with
   |none=>rw[hc]at hy;cases hy
   |some c=>
    rw[hc]at hy
    have:y=c.D:=by simpa using hy.symm
    subst this
    have ok:=hb.2 c (xF hc)
    have a1:=qM (xs:=c.st) (d:=d) (by rw[ok.sl];exact hd)
    have a2:=qM (xs:=c.wi) (d:=d) (by rw[ok.wl];exact hd)
    have hlk:kp cs d pre.length=(!c.w&&decide (c.wi.getD d 0<=c.st.getD d 0)):=by
     unfold kp zz;rw[hc]
     have:(!decide (c.st.getD d 0<c.wi.getD d 0))=decide (c.wi.getD d 0<=c.st.getD d 0):=by
      rw[<- decide_not];exact decide_eq_decide.mpr Int.not_lt
     simp only[this]
    refine⟨_,kp cs d pre.length,[some (.d (zb cs)),some (.d (.int d)),some (.d (.int pre.length)),some (.d (zc c.st)),some (.d (.bool c.w)),some (.d (zc c.wi))],by simp[tgF,tgFs,Cl.D,ql];rfl,?_,fun h=>⟨.dat (.int pre.length),[some (.d (zb cs)),some (.d (.int d)),some (.d (.int pre.length)),some (.d (zc c.st)),some (.d (.bool c.w)),some (.d (zc c.wi))],.int pre.length,by simp![p_to_keep_off_2,OV.view,OV.views,zA,ixN,atI],rfl,?_,by simp⟩,fun h=>⟨?_,by simp⟩⟩
    ·rw[hlk]
     unfold zc
     generalize c.st.getD d 0=g1 at *
     generalize c.wi.getD d 0=g2 at *
     generalize c.st.map PyData.int=X1 at *
     generalize c.wi.map PyData.int=X2 at *
     cases hw:c.w with
     |true=>simp![p_to_keep_off_1,a1,a2,OV.view,OV.views,zA]
     |false=>simp![p_to_keep_off_1,a1,a2,OV.view,OV.views,zA]
    ·simp[xT,xP,h]
    ·simp[xT,xP,h])
 have hz:cs.length<=1000000:=by have:=hb.1;omega
 have hz2:=ke cs d
 have hz3:(za (zT cs d)).length<=1000000:=by rw[zE];omega
 have e2:((List.range (qu (cs.map Cl.D)).length).filter (kp cs d)).map (fun (i:Nat)=>PyData.int (i:Int))=za (zT cs d):=by
  rw[qt,xk];rfl
 rw[e2]at e
 have hel:(qu (cs.map Cl.D)).length<=1000000:=by rw[qt,xk];exact hz
 have hcl:(cs.map Cl.D).length<=1000000:=by simpa using hz
 unfold zb at *
 generalize za (zT cs d)=KK at *
 generalize cs.map Cl.D=X at *
 simp![jt,e,hz3,hel,hcl]
noncomputable def YD (cf:CF):Prop:=∀ (pots:Nat) (cs:List Cl),Bolt pots cs->∀ d:Nat,d<pots->cf "to_keep_off" [.d (zb cs),.d (.int d)]=.ok (.d (.tuple (za (zT cs d)))) [none,none]
theorem Qj:∀ (ds:List Nat) (P:List Cl),(mvs P ds).length<=2*ds.length
 |[],_=>by simp[mvs]
 |d::ds,P=>by
  have:=Qj ds (P.map (qc d))
  unfold mvs
  split<;>simp<;>omega
noncomputable def zZ(ms:List Mv):List OV:=ms.map fun m=>.d m.D
theorem KQ(P:List Cl)(d:Nat):zbz P (iz (zT P d))=.ok (.l ((P.map (qc d)).map fun c=>.d c.D)) [none,none]:=by
 unfold zbz
 have h1:(iz (zT P d)).all (Z0 P.length)=true:=by
  rw[xD]
  intro x hx
  obtain⟨i,hi,rfl⟩:=xo.mp hx
  have:i<P.length:=xE.mp (xp.mp hi).1
  unfold Z0
  simp;omega
 have h2:zde (iz (zT P d))=false:=by
  unfold zde
  rw[VQ (yr (yF P d))];simp
 have h3:=wK id (fun _=>rfl) (fun _ _=>rfl) P d
 simp only[List.map_id]at h3
 rw[h1,h2,h3];rfl
theorem Y6(cf:CF)(hk:YD cf)(hw:Yg cf){pots:Nat}{o1:Option OV}:∀ (ds:List Nat) (P:List Cl) (acc:List OV) (o3 o4:Option OV),Bolt pots P->P.length<=60->(∀ d∈ds,d<pots)->acc.length+2*ds.length<=1000 ->
  ∃ o0 o3' o4',zU (.nm 3 3) (p_stretch_moves_1.ex cf []) (za ds) [some (.d (zb P)),o1,some (.l acc),o3,o4]=.ok (.next,[o0,o1,some (.l (acc++zZ (mvs P ds))),o3',o4'])
 |[],P,acc,o3,o4,_,_,_,_=>⟨some (.d (zb P)),o3,o4,by simp[za,zU,mvs,zZ]⟩
 |d::ds,P,acc,o3,o4,hb,hP,hd,hl=>by
  have hd1:=hd d (by simp)
  have e1:=hk pots P hb d hd1
  have e2:=hw P (iz (zT P d)) (by omega) (by unfold iz;rw[xk];have:=ke P d;omega)
  rw[KQ]at e2
  have v2:=zO (P.map (qc d))
  simp only[xl]at hl
  have hb':=hb.mp (qc d) (jQ d)
  have htg:tgF (.nm 3 3) (PyData.int (d:Int)) [some (.d (zb P)),o1,some (.l acc),o3,o4]=some [some (.d (zb P)),o1,some (.l acc),some (.d (.int (d:Int))),o4]:=rfl
  have step:∃ o4',p_stretch_moves_1.ex cf [] [some (.d (zb P)),o1,some (.l acc),some (.d (.int (d:Int))),o4]=.ok (.next,[some (.d (zb (P.map (qc d)))),o1,some (.l (acc++zZ ((if zT P d= [] then [] else [.wax (zT P d)])++ [.dip d]))),some (.d (.int (d:Int))),o4']):=by
   by_cases hkz:zT P d= []
   ·have hc:=kr P d hkz
    rw[hc,if_pos hkz]
    rw[hkz]at e1
    refine⟨some (.d (.tuple [])),?_⟩
    have hz:acc.length<1000000:=by omega
    generalize zb P=B at *
    simp![p_stretch_moves_1,e1,hz,zG,za,zZ,Mv.D]
   ·rw[if_neg hkz]
    refine⟨some (.d (.tuple (za (zT P d)))),?_⟩
    have hz:acc.length<1000000:=by omega
    have hz2:acc.length+1<1000000:=by omega
    rw[<- zeB]at e2
    have hne:(za (zT P d)).isEmpty=false:=by
     rw[j5]
     cases hq:zT P d with
     |nil=>exact absurd hq hkz
     |cons a l=>rfl
    simp only[zZ,xK,List.map_nil,Mv.D,uR,uC]
    generalize za (zT P d)=KK at *
    generalize ((P.map (qc d)).map fun c=>OV.d c.D)=CC at *
    generalize zb P=B at *
    generalize zb (P.map (qc d))=B2 at *
    simp![p_stretch_moves_1,e1,hne,e2,v2,hz,hz2,zG]
  obtain⟨o4',es⟩:=step
  obtain⟨o0,o3'',o4'',e⟩:=Y6 cf hk hw (pots:=pots) (o1:=o1) ds (P.map (qc d)) (acc++zZ ((if zT P d= [] then [] else [.wax (zT P d)])++ [.dip d])) (some (.d (.int (d:Int)))) o4' hb' (by rw[xk];exact hP) (fun e he=>hd e (by simp[he])) (by
   unfold zZ
   split<;>simp<;>omega)
  refine⟨o0,o3'',o4'',?_⟩
  show zU _ _ (PyData.int (d:Int)::za ds) _=_
  rw[zU,htg]
  simp only[es]
  rw[e]
  have:acc++zZ (mvs P (d::ds))=acc++zZ ((if zT P d= [] then [] else [.wax (zT P d)])++ [.dip d])++zZ (mvs (P.map (qc d)) ds):=by
   rw[mvs]
   unfold zZ
   simp
  rw[this]
theorem KS(cf:CF)(hk:YD cf)(hw:Yg cf){pots:Nat}{P:List Cl}(hb:Bolt pots P)(hP:P.length<=60){ds:List Nat}(hd:∀ d∈ds,d<pots)(hl:ds.length<=100) :
  runI 5 [false,false] [] qP cf [.d (zb P),.d (.list (za ds))]=.ok (.l (zZ (mvs P ds))) [none,none]:=by
 obtain⟨o0,o3,o4,e⟩:=Y6 cf hk hw (o1:=some (.d (.list (za ds)))) ds P [] none none hb hP hd (by simp;omega)
 have hz:=zE ds
 have hz2:ds.length<=1000000:=by omega
 rw[uC]at e
 generalize zZ (mvs P ds)=MM at *
 generalize zb P=B at *
 generalize za ds=DD at *
 simp![qP,e,hz,hz2]
noncomputable def J1 (cf:CF):Prop:=∀ (pots:Nat) (P:List Cl) (ds:List Nat),Bolt pots P->P.length<=60->(∀ d∈ds,d<pots)->ds.length<=100->cf "stretch_moves" [.d (zb P),.d (.list (za ds))]=.ok (.l (zZ (mvs P ds))) [none,none]
end Wx
set_option maxHeartbeats 4000000
namespace Wx
open PySem L2 L3
noncomputable def zbh (cf:CF):Prop:=∀ (pots:Nat) (cs:List Cl) (fr:List Bool),cs.length<=100->(∀ c∈cs,jf pots c.st c.wi)->fr.length=pots->pots<=100->cf "bars" [.d (zb cs),.d (zq fr)]=.ok (.l ((zP fr cs cs.length).map .d)) [none,none]
noncomputable def Wk(cs:List Cl)(fr:List Bool):Prop:=∀ c∈cs,∀ d,zz c d=true->fr.getD d false=true
theorem zcS{cs:List Cl}{fr:List Bool}(hn:∀ c∈cs,ZD c)(hf:Wk cs fr)(n:Nat):zP fr cs n= []:=by
 unfold zP
 rw[List.flatMap_eq_nil_iff]
 intro i _
 cases h:cs[i]? with
 |none=>rfl
 |some c=>
  have hc:=xF h
  show qd fr c i c.st.length= []
  unfold qd
  rw[List.filterMap_eq_nil_iff]
  intro d _
  obtain⟨h1,h2,_⟩:=hn c hc d
  have:bw (c.wi.getD d 0-c.st.getD d 0) (fr.getD d false)=none:=by
   unfold bw
   rw[if_neg (by omega),if_neg (by omega),if_neg]
   rintro⟨h3,h4⟩
   have:=hf c hc d (by unfold zz;rw[decide_eq_true_eq];omega)
   rw[this]at h4;cases h4
  rw[this];rfl
theorem w9(cf:CF)(hs:J1 cf){pots:Nat}{P:List Cl}(hb:Bolt pots P)(hP:P.length<=60){o0 o1 o2 o3 o4:Option OV}:∀ (L:List (List Nat)) (acc:List OV) (o7:Option OV),(∀ l∈L,(∀ d∈l,d<pots)/\l.length<=100)->acc.length+2*L.flatten.length+L.length<=1000 ->
  ∃ o7',zU (.nm 7 7) (p_plan_1.ex cf []) (L.map fun r=>.list (za r)) [o0,o1,o2,o3,o4,some (.l acc),some (.d (zb P)),o7]=.ok (.next,[o0,o1,o2,o3,o4,some (.l (acc++zZ (L.flatMap fun ds=>.boil::mvs P ds))),some (.d (zb P)),o7'])
 |[],acc,o7,_,_=>⟨o7,by simp[zU,zZ]⟩
 |l::L,acc,o7,hl,hz=>by
  obtain⟨h1,h2⟩:=hl l (by simp)
  have e1:=hs pots P l hb hP h1 h2
  simp only[xJ,xw,xl]at hz
  have hm:=Qj l P
  have htg:tgF (.nm 7 7) (PyData.list (za l)) [o0,o1,o2,o3,o4,some (.l acc),some (.d (zb P)),o7]=some [o0,o1,o2,o3,o4,some (.l acc),some (.d (zb P)),some (.d (.list (za l)))]:=rfl
  have step:p_plan_1.ex cf [] [o0,o1,o2,o3,o4,some (.l acc),some (.d (zb P)),some (.d (.list (za l)))]=.ok (.next,[o0,o1,o2,o3,o4,some (.l (acc++zZ (.boil::mvs P l))),some (.d (zb P)),some (.d (.list (za l)))]):=by
   have z1:acc.length<1000000:=by omega
   have z2:acc.length+1+(mvs P l).length<=1000000:=by omega
   have hv:(OV.l (zZ (mvs P l))).view=.list ((mvs P l).map Mv.D):=by
    have:zZ (mvs P l)=((mvs P l).map Mv.D).map OV.d:=by unfold zZ;rw[List.map_map];rfl
    rw[this];exact jG _
   have hmo:zZ (.boil::mvs P l)=.d (.tuple [.str "boil"])::((mvs P l).map Mv.D).map OV.d:=by unfold zZ;rw[xK,List.map_map];rfl
   have hml:((mvs P l).map Mv.D).length=(mvs P l).length:=by simp
   rw[<- hml]at z2
   rw[hmo]
   generalize zZ (mvs P l)=MO at *
   generalize (mvs P l).map Mv.D=MM at *
   generalize za l=DD at *
   generalize zb P=B at *
   simp![p_plan_1,e1,hv,z1,z2,zdt,zG]
  obtain⟨o7',e⟩:=w9 cf hs hb hP (o0:=o0) (o1:=o1) (o2:=o2) (o3:=o3) (o4:=o4) L (acc++zZ (.boil::mvs P l)) (some (.d (.list (za l)))) (fun l' h'=>hl l' (by simp[h'])) (by
   unfold zZ
   rw[xw,xk,xl];omega)
  refine⟨o7',?_⟩
  rw[xK,zU,htg]
  simp only[step]
  rw[e]
  have:acc++zZ (List.flatMap (fun ds=>Mv.boil::mvs P ds) (l::L))=acc++zZ (.boil::mvs P l)++zZ (List.flatMap (fun ds=>Mv.boil::mvs P ds) L):=by
   rw[List.flatMap_cons]
   unfold zZ
   simp
  rw[this]
theorem zdR(cf:CF)(hba:zbh cf)(hst:zeV cf)(hs:J1 cf)(hbo:yo cf){pots:Nat}(hp:pots<=12){cs:List Cl}(hb:BoltN pots cs)(hc:cs.length<=60){fr:List Bool}(hfl:fr.length=pots)(hf:Wk cs fr) :
    runI 8 [false,false] [] YC cf [.d (zb cs),.d (zq fr)]=.ok (.l (zZ (ju cs (qD cs (zm cs pots))))) [none,none]:=by
  have e1:=hba pots cs fr (by omega) hb.1.2 hfl (by omega)
  rw[zcS hb.2 hf]at e1
  have e2:=hst pots cs hp hb.1 hc
  obtain⟨P,rest,hS,hnow,hne⟩:=wd hp (qx cs pots) cs
  have hflat:=QG hp (qx cs pots) cs
  have hlen:=hflat.length_eq
  have hnl:=JR cs pots
  have hmem:∀ l∈qD cs (zm cs pots),∀ d∈l,d<pots:=fun l hl d hd=>J0 (hflat.mem_iff.mp (List.mem_flatten.mpr ⟨l,hl,hd⟩))
  have hll:∀ l∈qD cs (zm cs pots),l.length<=12:=fun l hl=>by have:=VF hl;omega
  rw[hS]at e2 hmem hll hlen |-
  have e3:=hs pots cs P hb.1 hc (hmem P (by simp)) (by have:=hll P (by simp);omega)
  have e4:=hbo cs (by omega)
  have v4:=zO (cs.map zj)
  have hrl:rest.length<=12:=by
    have h1:rest.length<=rest.flatten.length:=by
      clear hS hmem hll hlen e2
      induction rest with
      |nil=>simp
      |cons a l ih=>
        have ha:=hne a (by simp)
        have:=ih (fun x hx=>hne x (by simp[hx]))
        have hap:=um.mpr ha
        simp only[xl,xJ,xw];omega
    simp only[xJ,xw]at hlen;omega
  have hm:=Qj P cs
  have hB:=hb.1.mp zj Vp
  simp only[xJ,xw]at hlen
  obtain⟨o7,e5⟩:=w9 cf hs hB (by rw[xk];exact hc) (o0:=some (.d (zb cs))) (o1:=some (.d (zq fr))) (o2:=some (.d (.list []))) (o3:=some (.d (.list (za P)))) (o4:=some (.d (.list (rest.map fun r=>.list (za r))))) rest (zZ (mvs cs P)) none (fun l hl=>⟨hmem l (by simp[hl]),by have:=hll l (by simp[hl]);omega⟩) (by
      unfold zZ
      rw[xk];omega)
  have hvs:(OV.l (((P::rest).map fun r=>OV.d (.list (za r))))).view=.list (.list (za P)::rest.map fun r=>.list (za r)):=by
    have:((P::rest).map fun r=>OV.d (.list (za r)))=(((P::rest).map fun r=>PyData.list (za r))).map OV.d:=by rw[List.map_map];rfl
    rw[this,jG];rfl
  have hz:(rest.map fun r=>PyData.list (za r)).length<=1000000:=by simp;omega
  have hfin:zZ (ju cs (P::rest))=zZ (mvs cs P)++zZ (rest.flatMap fun ds=>.boil::mvs (cs.map zj) ds):=by
    unfold ju zZ
    rw[xV]
  rw[hfin]
  generalize zZ (rest.flatMap fun ds=>.boil::mvs (cs.map zj) ds)=M2 at *
  generalize zZ (mvs cs P)=M1 at *
  generalize ((cs.map zj).map fun c=>OV.d c.D)=CC at *
  generalize zb (cs.map zj)=B2 at *
  generalize ((P::rest).map fun r=>OV.d (.list (za r)))=SS at *
  generalize (rest.map fun r=>PyData.list (za r))=RR at *
  generalize za P=PP at *
  generalize zb cs=B at *
  generalize zq fr=F at *
  simp only[List.map_nil]at e1
  have v0:(OV.l []).view=.list []:=rfl
  simp![YC,e1,v0,e2,hvs,e3,e4,v4,e5,hz,kO,zG]
noncomputable def zbL (cf:CF):Prop:=∀ (pots:Nat) (cs:List Cl) (fr:List Bool),pots<=12->BoltN pots cs->cs.length<=60->fr.length=pots->Wk cs fr->cf "plan" [.d (zb cs),.d (zq fr)]=.ok (.l (zZ (ju cs (qD cs (zm cs pots))))) [none,none]
end Wx
set_option maxHeartbeats 4000000
namespace Wx
open PySem L2 L3
theorem vV{P1 cs:List Cl}(h:P1.map zj=cs.map zj){c:Cl}(hc:c∈P1):∃ c0∈cs,c.st=c0.st/\c.wi=c0.wi:=by
 have:zj c∈cs.map zj:=by rw[<- h];exact List.mem_map_of_mem hc
 obtain⟨c0,h0,e⟩:=xo.mp this
 exact⟨c0,h0,by have:=congrArg Cl.st e;exact this.symm,by have:=congrArg Cl.wi e;exact this.symm⟩
theorem Qw{pots:Nat}{P1 cs:List Cl}(hc:BoltN pots cs)(h:P1.map zj=cs.map zj):BoltN pots P1:=by
 refine⟨⟨?_,fun c hcm=>?_⟩,fun c hcm=>?_⟩
 ·have:=congrArg List.length h
  simp only[xk]at this
  rw[this];exact hc.1.1
 ·obtain⟨c0,h0,e1,e2⟩:=vV h hcm
  rw[e1,e2];exact hc.1.2 c0 h0
 ·obtain⟨c0,h0,e1,e2⟩:=vV h hcm
  unfold ZD
  rw[e1,e2];exact hc.2 c0 h0
theorem Jj:∀ xs ys:List Int,PyData.eqvAll (xs.map .int) (ys.map .int)=decide (xs=ys)
 |[],[]=>rfl
 |[],_::_=>rfl
 |_::_,[]=>rfl
 |x::xs,y::ys=>by
  show (PyData.eqv (.int x) (.int y)&&PyData.eqvAll (xs.map .int) (ys.map .int))=_
  rw[Jj xs ys,zB,xN]
  simp
theorem Wv(xs ys:List Int):PyData.eqv (zc xs) (zc ys)=decide (xs=ys):=Jj xs ys
theorem zax(cs:List Cl):y9 cs=true↔∀ c∈cs,c.st=c.wi:=by
 unfold y9
 rw[List.all_map,xD]
 constructor
 ·intro h c hc
  have:=h c hc
  simpa [Wv] using this
 ·intro h c hc
  simp[Wv,h c hc]
theorem zby{xs ys:List Int}(hl:xs.length=ys.length)(h:∀ k,k<xs.length->xs.getD k 0=ys.getD k 0):xs=ys:=by
 apply xU fun k=>?_
 by_cases hk:k<xs.length
 ·have:=h k hk
  rw[List.getD_eq_getElem?_getD,List.getD_eq_getElem?_getD,xb hk,xb (by omega)]at this
  rw[xb hk,xb (by omega)]
  exact congrArg some this
 ·rw[xj (by omega),xj (by omega)]
theorem Kr{pots:Nat}(hp:pots<=12){cs:List Cl}(hb:BoltN pots cs){fr:List Bool}(hfl:fr.length=pots)(hf:Wk cs fr) :
  ∃ R',y9 R'=true/\R'.length=cs.length/\Walk pots fr cs [] (ju cs (qD cs (zm cs pots))) R' (qD cs (zm cs pots)).flatten ((qD cs (zm cs pots)).length-1):=by
 obtain⟨P,rest,hS,hnow,hne⟩:=wd hp (qx cs pots) cs
 have hflat:=QG hp (qx cs pots) cs
 have hch:=Yk hp (qx cs pots) cs
 have hnd:(qD cs (zm cs pots)).flatten.Nodup:=hflat.nodup_iff.mpr (yp cs pots)
 have hmem:∀ d∈(qD cs (zm cs pots)).flatten,d<pots/\fr.getD d false=true:=fun d hd=>by
  have:=hflat.mem_iff.mp hd
  obtain⟨h1,c,hc,hl⟩:=(Jd cs pots d).mp this
  exact⟨h1,hf c hc d hl⟩
 have hin:∀ k,k∈(qD cs (zm cs pots)).flatten↔k∈zm cs pots:=fun k=>hflat.mem_iff
 rw[hS]at hch hnd hmem hin |-
 rw[xJ]at hnd hmem hin
 obtain⟨n1,n2,n3⟩:=uj.mp hnd
 have h12:∀ d∈P,d<12:=fun d hd=>by have:=(hmem d (xr _ hd)).1;omega
 obtain⟨hnow1,hnow2⟩:=List.pairwise_cons.mp hnow
 obtain⟨P1,hs1,hw1⟩:=jJ hfl P cs [] hb (fun d hd=>⟨(hmem d (xr _ hd)).1,(hmem d (xr _ hd)).2,by simp⟩) n1 (hnow2.imp_of_mem fun {x y} hx _ h=>(((jr cs _ _).mp h).2.2.2 (by have:=h12 x hx;omega)).1) (fun c hc d hd hl=>((jr cs _ _).mp (hnow1 d hd)).2.2.1 rfl c hc hl)
 rw[yd,uC]at hw1
 have hbP1:=Qw hb hs1
 obtain⟨P2,hs2,hw2⟩:=Wz hfl hb rest P1 P hs1 (fun d hd=>⟨(hmem d (xA _ hd)).1,(hmem d (xA _ hd)).2,fun q=>n3 d q d hd rfl⟩) n2 (fun l hl=>hch l (by simp[hl])) (fun d hd=>by have:=(hmem d (xA _ hd)).1;omega) hbP1
 refine⟨P2.map (zr (P++rest.flatten)),?_,?_,?_⟩
 ·rw[zax]
  intro c hc
  obtain⟨c1,h1,rfl⟩:=xo.mp hc
  have hb2:=Qw hb hs2
  have ok:=hb2.1.2 c1 h1
  have hsl:(zr (P++rest.flatten) c1).st.length=c1.st.length:=by unfold zr;simp
  refine zby (by rw[hsl,ok.sl];exact ok.wl.symm) fun k hk=>?_
  rw[Zx,if_pos (by omega)]
  show _=c1.wi.getD k 0
  by_cases hkn:(P++rest.flatten).contains k=true
  ·rw[if_pos hkn]
  ·rw[if_neg hkn]
   have hn:=WE (hb2.2 c1 h1) k
   cases hL:zz c1 k with
   |true=>
    obtain⟨c0,h0,e1,e2⟩:=vV hs2 h1
    have hL0:zz c0 k=true:=by unfold zz at hL |-;rw[<- e1,<- e2];exact hL
    have:k∈zm cs pots:=(Jd cs pots k).mpr ⟨by rw[<- ok.sl];omega,c0,h0,hL0⟩
    exact absurd (xR.mpr ((hin k).mpr this)) hkn
   |false=>
    rw[hL,if_neg (by decide)]at hn
    omega
 ·rw[xk]
  have:=congrArg List.length hs2
  simpa using this
 ·have:=hw1.app hw2
  rw[uc]at this
  rw[xJ]
  exact this
theorem zcT{pots:Nat}(hp:pots<=12)(cs:List Cl):(ju cs (qD cs (zm cs pots))).length<=100:=by
 obtain⟨P,rest,hS,hnow,hne⟩:=wd hp (qx cs pots) cs
 have hflat:=QG hp (qx cs pots) cs
 have hln:=JR cs pots
 have hl:=hflat.length_eq
 rw[hS]at hl |-
 have h1:∀ (L:List (List Nat)),(∀ l∈L,l≠ [])->(L.flatMap fun ds=>Mv.boil::mvs (cs.map zj) ds).length<=3*L.flatten.length:=fun L=>by
  induction L with
  |nil=>intro _;simp
  |cons l L ih=>
   intro h
   have:=ih fun x hx=>h x (by simp[hx])
   have hm:=Qj l (cs.map zj)
   have hq:=um.mpr (h l (by simp))
   rw[List.flatMap_cons,xw,xl,xJ,xw];omega
 have h2:=h1 rest hne
 have h3:=Qj P cs
 unfold ju
 rw[xJ,xw]at hl
 rw[xw];omega
end Wx
set_option maxHeartbeats 4000000
namespace Wx
open PySem L2 L3
noncomputable def nearL(st wi:List Int):Prop:=∀ d,st.getD d 0<=wi.getD d 0/\wi.getD d 0<=st.getD d 0+1/\st.getD d 0<=8
theorem Wg(xs:List Int)(a:Int)(d:Nat):(xs++ [a]).getD d 0=if d<xs.length then xs.getD d 0 else if d=xs.length then a else 0:=by
 rw[List.getD_eq_getElem?_getD,List.getD_eq_getElem?_getD]
 by_cases h:d<xs.length
 ·rw[if_pos h,xf h]
 ·rw[if_neg h,xh (by omega)]
  by_cases h2:d=xs.length
  ·subst h2;simp
  ·rw[if_neg h2]
   have:d-xs.length=(d-xs.length-1)+1:=by omega
   rw[this];rfl
theorem nearL.snoc{st wi:List Int}(h:nearL st wi)(hl:st.length=wi.length){a b:Int}(h1:a<=b)(h2:b<=a+1)(h3:a<=8):nearL (st++ [a]) (wi++ [b]):=fun d=>by
 rw[Wg,Wg,<- hl]
 by_cases hd:d<st.length
 ·rw[if_pos hd,if_pos hd];exact h d
 ·rw[if_neg hd,if_neg hd]
  by_cases h':d=st.length
  ·rw[if_pos h',if_pos h'];exact⟨h1,h2,h3⟩
  ·rw[if_neg h',if_neg h'];omega
theorem y6(cf:CF)(ht:js cf){b:OV}(hb:zu b)(bs:List Bool)(hl:bs.length<=1000){wet:Int} :
  ∃ (st wi:List Int) (b':OV) (o6 o7:Option OV),jf bs.length st wi/\nearL st wi/\zu b'/\zU (.nm 6 6) (b_law_cell_1.ex cf [0]) (bs.map .bool) [some b,some (.d (zL bs)),some (.d (.int 0)),some (.d (.int wet)),some (.l []),some (.l []),none,none]
   = .ok (.next,[some b',some (.d (zL bs)),some (.d (.int 0)),some (.d (.int wet)),some (.l (st.map fun x=>.d (.int x))),some (.l (wi.map fun x=>.d (.int x))),o6,o7]):=by
 obtain⟨Γ',e,⟨st,wi,b',o6,o7,hc,hn,hb',rfl⟩⟩:=qF (t:=.nm 6 6) (body:=b_law_cell_1.ex cf [0]) (ds:=bs.map .bool) (Γ:= [some b,some (.d (zL bs)),some (.d (.int 0)),some (.d (.int wet)),some (.l []),some (.l []),none,none])
  (fun pre Γ=>∃ (st wi:List Int) (b':OV) (o6 o7:Option OV),jf pre.length st wi/\nearL st wi/\zu b'/\Γ= [some b',some (.d (zL bs)),some (.d (.int 0)),some (.d (.int wet)),some (.l (st.map fun x=>.d (.int x))),some (.l (wi.map fun x=>.d (.int x))),o6,o7]) ⟨[],[],b,_,_,⟨rfl,rfl,(fun _ h=>nomatch h),(fun _ h=>nomatch h)⟩,(fun d=>by simp),hb,rfl⟩ (by
   rintro pre d post e Γ ⟨st,wi,b1,o6,o7,hc,hn,hb1,rfl⟩
   have hlt:=QF e
   rw[xk]at hlt
   obtain⟨x,-,rfl⟩:∃ x∈bs,PyData.bool x=d:=by
    have:d∈bs.map PyData.bool:=by rw[e];simp
    exact xo.mp this
   have hz1:st.length<1000000:=by have:=hc.sl;omega
   have hz2:wi.length<1000000:=by have:=hc.wl;omega
   obtain⟨r2,b2,h2,h2',hb2,e2⟩:=ht b1 hb1 9 (by decide) (by decide)
   have hw:r2<=r2+(if x then 1 else 0)/\r2+(if x then 1 else 0)<=r2+1:=by split<;>omega
   have ek:b_law_cell_1.ex cf [0] [some b1,some (.d (zL bs)),some (.d (.int 0)),some (.d (.int wet)),some (.l (st.map fun x=>.d (.int x))),some (.l (wi.map fun x=>.d (.int x))),some (.d (.bool x)),o7]
     = .ok (.next,[some b2,some (.d (zL bs)),some (.d (.int 0)),some (.d (.int wet)),some (.l ((st++ [r2]).map fun x=>.d (.int x))),some (.l ((wi++ [r2+(if x then 1 else 0)]).map fun x=>.d (.int x))),some (.d (.bool x)),some (.d (.int r2))]):=by
    simp![b_law_cell_1,e2,hz1,hz2,lay,PyData.eqv,OV.view,OV.views,zA,ixN,atI]
   exact⟨_,_,by simp[tgF],ek,st++ [r2],wi++ [r2+(if x then 1 else 0)],b2,_,_,⟨by simp[hc.sl],by simp[hc.wl],hc.sn.snoc h2 (by omega),hc.wn.snoc (by omega) (by omega)⟩,hn.snoc (by rw[hc.sl,hc.wl]) hw.1 hw.2 (by omega),hb2,rfl⟩)
 rw[xk]at hc
 exact⟨st,wi,b',o6,o7,hc,hn,hb',e⟩
noncomputable def kH(pots:Nat)(x:RF):Prop:=∃ (st wi:List Int) (w:Bool) (b':OV),jf pots st wi/\nearL st wi/\zu b'/\x=.ok (.d (ql st w wi)) [some b',none,none,none]
theorem za6(cf:CF)(ht:js cf){b:OV}(hb:zu b)(bs:List Bool)(hl:bs.length<=1000){wet:Int}:kH bs.length (runI 8 [true,false,false,false] [0] jS cf [b,.d (zL bs),.d (.int 0),.d (.int wet)]):=by
 obtain⟨st,wi,b1,o6,o7,hc,hn,hb1,e1⟩:=y6 cf ht hb bs hl (wet:=wet)
 have hz1:st.length<=1000000:=by have:=hc.sl;omega
 have hz2:wi.length<=1000000:=by have:=hc.wl;omega
 by_cases hw:0<wet
 ·obtain⟨r2,b2,h2,h2',hb2,e2⟩:=ht b1 hb1 5 (by decide) (by decide)
  refine⟨st,wi,decide (r2<wet),b2,hc,hn,hb2,?_⟩
  simp![jS,zL,OV.view,OV.views,zA,ixN,atI]
  simp only[zL]at e1
  simp![e1,e2,hw,hz1,hz2,Jf,ql,zc,OV.view,OV.views,zA,ixN,atI]
 ·refine⟨st,wi,false,b1,hc,hn,hb1,?_⟩
  simp![jS,zL,OV.view,OV.views,zA,ixN,atI]
  simp only[zL]at e1
  simp![e1,hw,hz1,hz2,Jf,ql,zc,OV.view,OV.views,zA,ixN,atI]
noncomputable def kc (cf:CF):Prop:=∀ b,zu b->∀ (bs:List Bool) (wet:Int),bs.length<=1000->kH bs.length (cf "_law_cell" [b,.d (zL bs),.d (.int 0),.d (.int wet)])
noncomputable def vW(pots size:Nat)(x:RF):Prop:=∃ (cs:List Cl) (b':OV),cs.length=size/\(∀ c∈cs,jf pots c.st c.wi/\ZD c)/\zu b'/\x=.ok (.l (cs.map fun c=>.d c.D)) [some b',none,none,none]
theorem zb7(cf:CF)(ht:js cf)(hlk:Y2 cf)(hce:kc cf){b:OV}(hb:zu b){pots size:Nat}(hp:pots<=1000)(hs:size<=1000) :
  vW pots size (runI 6 [true,false,false,false] [0] ZV cf [b,.d (.int pots),.d (.int size),.d (.int 0)]):=by
 obtain⟨wet,b1,g1,g1',hb1,e1⟩:=ht b hb 4 (by decide) (by decide)
 obtain⟨rows,b2,hl,hr,hb2,e2⟩:=hlk b1 hb1 pots size hp hs
 obtain⟨ys,Γ',e3,⟨cs,b3,hcl,hck,hb3,rfl,rfl⟩⟩:=qe (k:=1) (t:=.nm 0 6) (cond:=fYes) (elt:=(b_law_bolt_1.ev cf).1) (ds:=rows.map zL) (Γ:= [some b2,some (.d (.int pots)),some (.d (.int size)),some (.d (.int 0)),some (.d (.int wet)),some (.d (.list (rows.map zL)))])
  (fun pre ys Γ=>∃ (cs:List Cl) (b':OV),cs.length=pre.length/\(∀ c∈cs,jf pots c.st c.wi/\ZD c)/\zu b'/\ys=cs.map Cl.D/\Γ= [some b',some (.d (.int pots)),some (.d (.int size)),some (.d (.int 0)),some (.d (.int wet)),some (.d (.list (rows.map zL)))]) ⟨[],b2,rfl,(fun _ h=>nomatch h),hb2,rfl,rfl⟩ (by
   rintro pre d post e ys Γ ⟨cs,b3,hcl,hck,hb3,rfl,rfl⟩
   obtain⟨r,hrm,rfl⟩:∃ r∈rows,zL r=d:=by
    have:d∈rows.map zL:=by rw[e];simp
    exact xo.mp this
   have hrl:=hr r hrm
   obtain⟨st,wi,w,b4,hc,hn,hb4,e4⟩:=hce b3 hb3 r wet (by omega)
   rw[hrl]at hc
   refine⟨_,true,_,by simp[tgF];rfl,rfl,fun _=>?_,fun z=>nomatch z⟩
   refine⟨.dat (ql st w wi),[some b4,some (.d (.int pots)),some (.d (.int size)),some (.d (.int 0)),some (.d (.int wet)),some (.d (.list (rows.map zL))),some (.d (zL r))],ql st w wi,?_,rfl,cs++ [⟨st,w,wi⟩],b4,by simp[hcl],?_,hb4,by simp[Cl.D],by simp⟩
   ·simp![b_law_bolt_1,e4,OV.view,OV.views,zA,ixN,atI]
   ·intro c h
    rcases xH.mp h with h | h
    ·exact hck c h
    ·have:c=⟨st,w,wi⟩:=by simpa using h
     subst this;exact⟨hc,fun d=>by have:=hn d;exact⟨this.1,this.2.1,by show wi.getD d 0<=9;omega⟩⟩)
 rw[xk]at hcl
 refine⟨cs,b3,by omega,hck,hb3,?_⟩
 have hz:rows.length<=1000000:=by omega
 have hv:OV.views (rows.map fun r=>.d (zL r))=rows.map zL:=by rw[OV.views_map,List.map_map];rfl
 simp![ZV,e1,e2,hv,hz,OV.view,OV.views,zA,ixN,atI]
 rw[e3]
 simp[outs]
noncomputable def kd (cf:CF):Prop:=∀ b,zu b->∀ (pots size:Nat),pots<=1000->size<=1000->vW pots size (cf "_law_bolt" [b,.d (.int pots),.d (.int size),.d (.int 0)])
theorem zcV(cf:CF)(hs:Y1 cf)(hbo:kd cf){b:OV}(hb:zu b) :
  ∃ (pots:Nat) (cs:List Cl) (b':OV),pots<=12/\cs.length<=40/\BoltN pots cs/\zu b'/\runI 4 [true,false] [0] ZP cf [b,.d (.int 0)]=.ok (.d (.tuple [.int pots,zb cs])) [some b',none]:=by
 obtain⟨p,n,b1,hp0,hp1,hn0,hn1,hb1,e1⟩:=hs b hb
 obtain⟨pots,rfl⟩:∃ k:Nat,p=k:=⟨p.toNat,by omega⟩
 obtain⟨size,rfl⟩:∃ k:Nat,n=k:=⟨n.toNat,by omega⟩
 obtain⟨cs,b2,hcl,hck,hb2,e2⟩:=hbo b1 hb1 pots size (by omega) (by omega)
 refine⟨pots,cs,b2,by omega,by omega,⟨⟨by omega,fun c hc=>(hck c hc).1⟩,fun c hc=>(hck c hc).2⟩,hb2,?_⟩
 have hvc:=zO cs
 simp![ZP,e1,e2,hvc,zG]
noncomputable def kU (cf:CF):Prop:=∀ b,zu b->∃ (pots:Nat) (cs:List Cl) (b':OV),pots<=12/\cs.length<=40/\BoltN pots cs/\zu b'/\cf "_law_draw" [b,.d (.int 0)]=.ok (.d (.tuple [.int pots,zb cs])) [some b',none]
theorem YR(xs:List Bool)(a:Bool)(d:Nat)(h:d<xs.length):(xs++ [a]).getD d false=xs.getD d false:=by
 rw[List.getD_eq_getElem?_getD,List.getD_eq_getElem?_getD,xf h]
theorem zda (cf:CF) (ht:js cf) (hlk:qh "_law_lack" cf){b:OV}(hb:zu b){pots:Nat}(hp:pots<=1000){cs:List Cl}(hB:Bolt pots cs) :
  ∃ (fr:List Bool) (b':OV),fr.length=pots/\Wk cs fr/\zu b'/\runI 3 [true,false,false] [0] ZS cf [b,.d (zb cs),.d (.int pots)]=.ok (.l ((fr.map .bool).map .d)) [some b',none,none]:=by
 obtain⟨ys,Γ',e3,⟨fr,b3,hfl,hfr,hb3,rfl,rfl⟩⟩:=qe (k:=1) (t:=.nm 0 3) (cond:=fYes) (elt:=(b_law_pans_1.ev cf).1) (ds:=zo pots) (Γ:= [some b,some (.d (zb cs)),some (.d (.int pots))])
  (fun pre ys Γ=>∃ (fr:List Bool) (b':OV),fr.length=pre.length/\(∀ d,d<pre.length->zd cs d≠ []->fr.getD d false=true)/\zu b'/\ys=fr.map .bool/\Γ= [some b',some (.d (zb cs)),some (.d (.int pots))]) ⟨[],b,rfl,(fun _ h=>nomatch h),hb,rfl,rfl⟩ (by
   rintro pre x post e ys Γ ⟨fr,b3,hfl,hfr,hb3,rfl,rfl⟩
   obtain⟨rfl,hlt⟩:=j4 e
   have e1:=hlk pots cs hB pre.length hlt
   have v1:=zp (zd cs pre.length)
   have hnl:=zE (zd cs pre.length)
   have hle:=jV cs pre.length
   have hcl:=hB.1
   have hz:(za (zd cs pre.length)).length<=1000000:=by rw[hnl];omega
   have hnext:∀ a:Bool,(zd cs pre.length≠ []->a=true)->∀ d,d<pre.length+1->zd cs d≠ []->(fr++ [a]).getD d false=true:=fun a ha d hd hd2=>by
    by_cases h:d<pre.length
    ·rw[YR _ _ _ (by omega)];exact hfr d h hd2
    ·have:d=pre.length:=by omega
     subst this
     rw[List.getD_eq_getElem?_getD,xh (by omega),hfl]
     simp[ha hd2]
   by_cases hL:zd cs pre.length= []
   ·obtain⟨r2,b2,h2,h2',hb2,e2⟩:=ht b3 hb3 2 (by decide) (by decide)
    rw[hL]at e1
    refine⟨[some b3,some (.d (zb cs)),some (.d (.int pots)),some (.d (.int (pre.length:Nat)))],true,_,rfl,rfl,fun _=>⟨.dat (.bool (r2==0)),[some b2,some (.d (zb cs)),some (.d (.int pots)),some (.d (.int (pre.length:Nat)))],.bool (r2==0),?_,rfl,fr++ [r2==0],b2,by simp[hfl],?_,hb2,by simp,rfl⟩,fun h=>nomatch h⟩
    ·have v0:(zh []).view=.list []:=rfl
     generalize zb cs=B at *
     generalize zh []=N0 at *
     simp![b_law_pans_1,e1,e2,v0,zl,zB,zG]
    ·rw[xw]
     exact hnext _ fun h=>absurd hL h
   ·refine⟨[some b3,some (.d (zb cs)),some (.d (.int pots)),some (.d (.int (pre.length:Nat)))],true,_,rfl,rfl,fun _=>⟨.dat (.bool true),[some b3,some (.d (zb cs)),some (.d (.int pots)),some (.d (.int (pre.length:Nat)))],.bool true,?_,rfl,fr++ [true],b3,by simp[hfl],?_,hb3,by simp,rfl⟩,fun h=>nomatch h⟩
    ·have hgt:(0:Int)<((za (zd cs pre.length)).length:Int):=by
      have:=um.mpr hL
      rw[hnl];omega
     have hgt2:0<(za (zd cs pre.length)).length:=by omega
     have hne2:za (zd cs pre.length)≠ []:=um.mp hgt2
     generalize zb cs=B at *
     generalize zh (zd cs pre.length)=N0 at *
     generalize za (zd cs pre.length)=N1 at *
     simp![b_law_pans_1,e1,v1,hgt2,hgt,hz,zG]
    ·rw[xw]
     exact hnext _ fun _=>rfl)
 rw[zi]at hfl hfr
 refine⟨fr,b3,hfl,fun c hc d hl=>?_,hb3,?_⟩
 ·have ok:=hB.2 c hc
  have hd:d<pots:=by
   rcases uQ d pots with h | h
   ·exact h
   ·unfold zz at hl
    rw[List.getD_eq_getElem?_getD,List.getD_eq_getElem?_getD,xj (by rw[ok.sl];exact h),xj (by rw[ok.wl];exact h)]at hl
    simp at hl
  refine hfr d hd fun h0=>?_
  obtain⟨i,hi,rfl⟩:=ud hc
  have:i∈zd cs d:=(qi cs d i).mpr ⟨cs[i],xb hi,hl⟩
  rw[h0]at this;cases this
 ·have hz: -1000000<=(pots:Int)/\(pots:Int)<=1000000:=by omega
  have hz2:pots<=1000000:=by omega
  generalize zb cs=B at *
  generalize fr.map PyData.bool=FF0 at *
  simp![ZS,e3,hz,hz2,zi]
noncomputable def zcB (cf:CF):Prop:=∀ b,zu b->∀ (pots:Nat) (cs:List Cl),pots<=1000->Bolt pots cs->∃ (fr:List Bool) (b':OV),fr.length=pots/\Wk cs fr/\zu b'/\cf "_law_pans" [b,.d (zb cs),.d (.int pots)]=.ok (.l ((fr.map .bool).map .d)) [some b',none,none]
noncomputable def zcO (cf:CF):Prop:=∀ cs:List Cl,cs.length<=1000->cf "_law_met" [.d (zb cs)]=.ok (.d (.bool (y9 cs))) [none]
end Wx
set_option maxHeartbeats 4000000
namespace Wx
open PySem L2 L3
theorem Yo(cf:CF)(hwh:yE cf){pots:Nat}{Rw:List Cl}(hb:Bolt pots Rw){k:List Nat}(h0:k≠ [])(h1:k.Pairwise (·<·))(h2:∀ i∈k,∃ c,Rw[i]?=some c/\c.w=false)(hl:k.length<=60) :
  runI 3 [false,false] [] q8 cf [.d (Mv.wax k).D,.d (zb Rw)]=.ok (.d (.bool true)) [none,none]:=by
 have e:=zH (k:=1) (t:=.nm 0 3) (cond:=fYes) (elt:=(b_law_wax_good_1.ev cf).1) (ds:=za k) (Γ:= [some (.d (Mv.wax k).D),some (.d (zb Rw)),some (.d (.list (za k)))]) (fun _=>true) (fun _=>.bool true) (by
  intro x hx
  obtain⟨i,hi,rfl⟩:=xo.mp hx
  obtain⟨c,hc,hw⟩:=h2 i hi
  have hlt:i<Rw.length:=by
   rcases uQ i Rw.length with h | h
   ·exact h
   ·rw[xj h]at hc;cases hc
  have a1:atI (Rw.map Cl.D) (i:Int)=some c.D:=qz (by rw[xg,hc];rfl)
  have hcd:c.D=.tuple [zc c.st,.bool c.w,zc c.wi]:=rfl
  rw[hcd,hw]at a1
  have b1:atI [zc c.st,PyData.bool false,zc c.wi] 1=some (.bool false):=rfl
  have hml:(Rw.map Cl.D).length=Rw.length:=by simp
  refine⟨[some (.d (Mv.wax k).D),some (.d (zb Rw)),some (.d (.list (za k))),some (.d (.int (i:Int)))],_,rfl,rfl,by simp,fun _=>⟨.dat (.bool true),[some (.d (Mv.wax k).D),some (.d (zb Rw)),some (.d (.list (za k))),some (.d (.int (i:Int)))],?_,rfl,by simp⟩⟩
  unfold zb
  generalize (Mv.wax k).D=M at *
  generalize za k=K at *
  generalize Rw.map Cl.D=Y at *
  generalize zc c.st=A at *
  generalize zc c.wi=B at *
  have q1:(0:Int)<=(i:Int):=by omega
  simp![b_law_wax_good_1,hml,hlt,q1,a1,b1])
 rw[qr]at e
 have ew:=hwh k (by omega)
 have aa:=ze2 (ds:=za k)
 have hin:=Zf k
 have hso:=y3 k
 rw[zbc (List.Perm.refl k) (h1.imp fun h=>uo h)]at hso
 have hnd2:=wD k
 have hy:lay 20 (.list (za k))=true:=JQ 19 _
 have hq:=zea hy
 have hdl:(Tab.dedup (k.map fun (i:Nat)=>(i:Int))).length=k.length:=by
  have:=VQ (yr h1)
  unfold iz at this
  rw[this,xk]
 have hne:((k.length:Int)==0)=false:=by
  rw[beq_eq_false_iff_ne]
  have:=um.mpr h0;omega
 have hnl:=zE k
 have z1:k.length<=1000000:=by omega
 have z2:k.length<64:=by omega
 have a1:atI [PyData.str "wax",PyData.tuple (za k)] 1=some (.tuple (za k)):=rfl
 have hM:(Mv.wax k).D=.tuple [.str "wax",.tuple (za k)]:=rfl
 rw[hM]at e |-
 generalize zb Rw=B at *
 generalize za k=K at *
 have hn0:k.length≠0:=by have:=um.mpr h0;omega
 have hsq:∀ Γ,zA Γ (.dat (.tuple K))=some K:=fun _=>rfl
 have hsq2:∀ Γ,zA Γ (.dat (.list K))=some K:=fun _=>rfl
 simp only[q8]
 simp![a1,hnl,hsq,hsq2,ew,aa,e,hin,hso,hnd2,hy,hq,hdl,hne,hl,z1,z2,Y7,va,zl,zB,zG]
noncomputable def WO (cf:CF):Prop:=∀ (pots:Nat) (Rw:List Cl) (k:List Nat),Bolt pots Rw->k≠ []->k.Pairwise (·<·)->(∀ i∈k,∃ c,Rw[i]?=some c/\c.w=false)->k.length<=60->cf "_law_wax_good" [.d (Mv.wax k).D,.d (zb Rw)]=.ok (.d (.bool true)) [none,none]
theorem yX(cf:CF)(hw:vX cf)(hfu:YZ cf){pots:Nat}{Rw:List Cl}(hb:Bolt pots Rw){fr:List Bool}(hfl:fr.length=pots)(hp:pots<=1000){d:Nat}{dn:List Nat}(h1:d<pots)(h2:fr.getD d false=true)(h3:d∉dn)(h4:Rw.any (qB d)=false) :
  runI 4 [false,false,false,false] [] qZ cf [.d (Mv.dip d).D,.d (zb Rw),.d (zq fr),.d (.list (za dn))]=.ok (.d (.bool true)) [none,none,none,none]:=by
 have e1:=hw (d:Int)
 have e2:=hfu.1 pots Rw d hb h1
 rw[h4]at e2
 have a1:atI [PyData.str "dip",PyData.int (d:Int)] 1=some (.int (d:Int)):=rfl
 have a2:=VJ (xs:=fr) (d:=d) (by omega)
 rw[h2]at a2
 have hin:=Qq dn d
 have hc:dn.contains d=false:=by rw[<- Bool.not_eq_true,xR];exact h3
 rw[hc]at hin
 have hal:=Qx dn
 have hM:(Mv.dip d).D=.tuple [.str "dip",.int (d:Int)]:=rfl
 have hml:(fr.map PyData.bool).length=fr.length:=by simp
 have q1:¬ ((d:Int)<0):=by omega
 have q2:¬ (fr.length<=d):=by omega
 have q3:¬ ((fr.length:Int)<=(d:Int)):=by omega
 rw[hM]
 unfold zq
 generalize zb Rw=B at *
 generalize za dn=N at *
 generalize fr.map PyData.bool=F at *
 simp only[qZ]
 have hal2:∀ x∈N,lay 20 x=true:=fun x hx=>xD.mp hal x hx
 simp![a1,e1,a2,e2,hin,hal,hal2,hml,q1,q2,q3,zl,zB,zG]
noncomputable def We (cf:CF):Prop:=∀ (pots:Nat) (Rw:List Cl) (fr:List Bool) (d:Nat) (dn:List Nat),Bolt pots Rw->fr.length=pots->pots<=1000->d<pots->fr.getD d false=true->d∉dn->Rw.any (qB d)=false->cf "_law_dip_good" [.d (Mv.dip d).D,.d (zb Rw),.d (zq fr),.d (.list (za dn))]=.ok (.d (.bool true)) [none,none,none,none]
structure zeI(cf:CF):Prop where
 wg:WO cf
 dg:We cf
 lw:zbe cf
 ld:y0 cf
 lb:vM cf
theorem wo(xs:List Int)(cs:List Cl):(qb xs cs).length=cs.length:=by
 rcases uM (qb xs cs).length cs.length with h | h | h
 ·have:=Zv xs cs (qb xs cs).length
  rw[xj (xn _),xb h]at this;cases this
 ·exact h
 ·have:=Zv xs cs cs.length
  rw[xb h,xj (xn _)]at this;cases this
theorem KB(cf:CF)(h:zeI cf){pots:Nat}(hp:pots<=1000){fr:List Bool}(hfl:fr.length=pots){o2:Option OV}{Rw Rw2:List Cl}{dn d':List Nat}{ms:List Mv}{b:Nat}(w:Walk pots fr Rw dn ms Rw2 d' b):∀ (b0:Int) (o5:Option OV),Rw.length<=60->dn.length+ms.length<=1000 ->
  ∃ o5',zU (.nm 5 5) (b_law_walk_1.ex cf []) (ms.map Mv.D) [some (.d (zb Rw)),some (.d (zq fr)),o2,some (zh dn),some (.d (.int b0)),o5]=.ok (.next,[some (.d (zb Rw2)),some (.d (zq fr)),o2,some (zh d'),some (.d (.int (b0+b))),o5']):=by
 induction w with
 |nil=>exact fun b0 o5 _ _=>⟨o5,by simp[zU]⟩
 | @wax Rw dn k ms Rw2 d' b hb h1 h2 h3 w ih=>
  intro b0 o5 hR hz
  simp only[xl]at hz
  have hkl:k.length<=60:=by
   have:=Ku.nodup_len (l:=k) (T:=List.range Rw.length) (h2.imp fun h=>xu h) fun i hi=>by
    obtain⟨c,hc,_⟩:=h3 i hi
    rw[xE]
    rcases uQ i Rw.length with h | h
    ·exact h
    ·rw[xj h]at hc;cases hc
   rw[xO]at this;omega
  obtain⟨o5',e⟩:=ih b0 (some (.d (Mv.wax k).D)) (by rw[wo];exact hR) (by omega)
  refine⟨o5',?_⟩
  have e1:=h.wg pots Rw k hb h1 h2 h3 hkl
  have e2:=h.lw Rw (iz k) (by omega)
  rw[<- zeB]at e2
  have v2:=zO (qb (iz k) Rw)
  have htg:tgF (.nm 5 5) (Mv.wax k).D [some (.d (zb Rw)),some (.d (zq fr)),o2,some (zh dn),some (.d (.int b0)),o5]=some [some (.d (zb Rw)),some (.d (zq fr)),o2,some (zh dn),some (.d (.int b0)),some (.d (Mv.wax k).D)]:=rfl
  have step:b_law_walk_1.ex cf [] [some (.d (zb Rw)),some (.d (zq fr)),o2,some (zh dn),some (.d (.int b0)),some (.d (Mv.wax k).D)]=.ok (.next,[some (.d (zb (qb (iz k) Rw))),some (.d (zq fr)),o2,some (zh dn),some (.d (.int b0)),some (.d (Mv.wax k).D)]):=by
   have hM:(Mv.wax k).D=.tuple [.str "wax",.tuple (za k)]:=rfl
   rw[hM]at e1 |-
   have a0:atI [PyData.str "wax",PyData.tuple (za k)] 0=some (.str "wax"):=rfl
   have a1:atI [PyData.str "wax",PyData.tuple (za k)] 1=some (.tuple (za k)):=rfl
   have hq:PyData.eqv (.str "wax") (.str "wax")=true:=by decide +kernel
   have hy:lay 20 (.str "wax")=true:=by decide +kernel
   generalize ((qb (iz k) Rw).map fun c=>OV.d c.D)=CC at *
   generalize zb (qb (iz k) Rw)=B2 at *
   generalize zb Rw=B at *
   generalize zq fr=F at *
   generalize zh dn=N at *
   generalize za k=K at *
   simp![b_law_walk_1,a0,a1,hq,hy,e1,e2,v2,zl,zB,zG]
  rw[xK,zU,htg]
  simp only[step]
  exact e
 | @dip Rw dn d ms Rw2 d' b hb h1 h2 h3 h4 w ih=>
  intro b0 o5 hR hz
  simp only[xl]at hz
  obtain⟨o5',e⟩:=ih b0 (some (.d (Mv.dip d).D)) (by rw[xk];exact hR) (by simp;omega)
  refine⟨o5',?_⟩
  have e1:=h.dg pots Rw fr d dn hb hfl hp (by omega) h2 h3 h4
  have e2:=h.ld.1 pots Rw d hp hb
  have v2:=zO (Rw.map (qy d))
  have htg:tgF (.nm 5 5) (Mv.dip d).D [some (.d (zb Rw)),some (.d (zq fr)),o2,some (zh dn),some (.d (.int b0)),o5]=some [some (.d (zb Rw)),some (.d (zq fr)),o2,some (zh dn),some (.d (.int b0)),some (.d (Mv.dip d).D)]:=rfl
  have step:b_law_walk_1.ex cf [] [some (.d (zb Rw)),some (.d (zq fr)),o2,some (zh dn),some (.d (.int b0)),some (.d (Mv.dip d).D)]=.ok (.next,[some (.d (zb (Rw.map (qy d)))),some (.d (zq fr)),o2,some (zh (dn++ [d])),some (.d (.int b0)),some (.d (Mv.dip d).D)]):=by
   have hM:(Mv.dip d).D=.tuple [.str "dip",.int (d:Int)]:=rfl
   rw[hM]at e1 |-
   have a0:atI [PyData.str "dip",PyData.int (d:Int)] 0=some (.str "dip"):=rfl
   have a1:atI [PyData.str "dip",PyData.int (d:Int)] 1=some (.int (d:Int)):=rfl
   have hq:PyData.eqv (.str "dip") (.str "dip")=true:=by decide +kernel
   have hq2:PyData.eqv (.str "dip") (.str "wax")=false:=by decide +kernel
   have hy:lay 20 (.str "dip")=true:=by decide +kernel
   have hy2:lay 20 (.str "wax")=true:=by decide +kernel
   have v3:(OV.l (dn.map fun (i:Nat)=>OV.d (.int (i:Int)))).view=.list (za dn):=zp dn
   have hn2:zh (dn++ [d])=.l ((dn.map fun (i:Nat)=>OV.d (.int (i:Int)))++ [.d (.int (d:Int))]):=by unfold zh;rw[xV];rfl
   rw[hn2]
   have hzl:(dn.map fun (i:Nat)=>OV.d (.int (i:Int))).length<1000000:=by rw[xk];omega
   unfold zh
   generalize (dn.map fun (i:Nat)=>OV.d (.int (i:Int)))=NO at *
   generalize ((Rw.map (qy d)).map fun c=>OV.d c.D)=CC at *
   generalize zb (Rw.map (qy d))=B2 at *
   generalize zb Rw=B at *
   generalize zq fr=F at *
   generalize za dn=N at *
   simp![b_law_walk_1,a0,a1,hq,hq2,hy,hy2,e1,e2,v2,v3,hzl,zl,zB,zG]
  rw[xK,zU,htg]
  simp only[step]
  exact e
 | @boil Rw dn ms Rw2 d' b hb w ih=>
  intro b0 o5 hR hz
  simp only[xl]at hz
  obtain⟨o5',e⟩:=ih (b0+1) (some (.d Mv.boil.D)) (by rw[xk];exact hR) (by omega)
  refine⟨o5',?_⟩
  have e2:cf "_law_boil" [.d (zb Rw)]=.ok (.l ((Rw.map zj).map fun c=>.d c.D)) [none]:=h.lb pots Rw hb
  have v2:=zO (Rw.map zj)
  have htg:tgF (.nm 5 5) Mv.boil.D [some (.d (zb Rw)),some (.d (zq fr)),o2,some (zh dn),some (.d (.int b0)),o5]=some [some (.d (zb Rw)),some (.d (zq fr)),o2,some (zh dn),some (.d (.int b0)),some (.d Mv.boil.D)]:=rfl
  have step:b_law_walk_1.ex cf [] [some (.d (zb Rw)),some (.d (zq fr)),o2,some (zh dn),some (.d (.int b0)),some (.d Mv.boil.D)]=.ok (.next,[some (.d (zb (Rw.map zj))),some (.d (zq fr)),o2,some (zh dn),some (.d (.int (b0+1))),some (.d Mv.boil.D)]):=by
   have hM:Mv.boil.D=.tuple [.str "boil"]:=rfl
   rw[hM]
   have a0:atI [PyData.str "boil"] 0=some (.str "boil"):=rfl
   have hq:PyData.eqv (.str "boil") (.str "wax")=false:=by decide +kernel
   have hq2:PyData.eqv (.str "boil") (.str "dip")=false:=by decide +kernel
   have hq3:PyData.eqv (.tuple [.str "boil"]) (.tuple [.str "boil"])=true:=by decide +kernel
   have hy:lay 20 (.str "dip")=true:=by decide +kernel
   have hy2:lay 20 (.str "wax")=true:=by decide +kernel
   have hy3:lay 20 (.str "boil")=true:=by decide +kernel
   have hy4:lay 20 (.tuple [.str "boil"])=true:=by decide +kernel
   generalize ((Rw.map zj).map fun c=>OV.d c.D)=CC at *
   generalize zb (Rw.map zj)=B2 at *
   generalize zb Rw=B at *
   generalize zq fr=F at *
   generalize zh dn=N at *
   simp![b_law_walk_1,a0,hq,hq2,hq3,hy,hy2,hy3,hy4,e2,v2,zl,zB,zG]
  rw[xK,zU,htg]
  simp only[step]
  have hb1:b0+((b+1:Nat):Int)=b0+1+(b:Int):=by omega
  rw[hb1]
  exact e
theorem zdF(cf:CF)(h:zeI cf){pots:Nat}(hp:pots<=1000){fr:List Bool}(hfl:fr.length=pots){Rw Rw2:List Cl}{d':List Nat}{ms:List Mv}{b:Nat}(w:Walk pots fr Rw [] ms Rw2 d' b)(hR:Rw.length<=60)(hl:ms.length<=1000) :
  runI 6 [false,false,false] [] ZG cf [.d (zb Rw),.d (zq fr),.d (.list (ms.map Mv.D))]=.ok (.d (.tuple [zb Rw2,.list (za d'),.int (b:Int)])) [none,none,none]:=by
 obtain⟨o5,e⟩:=KB cf h hp hfl (o2:=some (.d (.list (ms.map Mv.D)))) w 0 none hR (by simpa using hl)
 have hz:(ms.map Mv.D).length<=1000000:=by simp;omega
 have v:=zp d'
 have h0:zh ([]:List Nat)=.l []:=rfl
 rw[h0]at e
 rw[Int.zero_add]at e
 generalize zb Rw2=B2 at *
 generalize zb Rw=B at *
 generalize zq fr=F at *
 generalize ms.map Mv.D=M at *
 unfold zh at *
 generalize (d'.map fun (i:Nat)=>OV.d (.int (i:Int)))=NO at *
 generalize za d'=N at *
 simp![ZG,e,hz,v,zG]
noncomputable def zb2 (cf:CF):Prop:=∀ (pots:Nat) (fr:List Bool) (Rw Rw2:List Cl) (d':List Nat) (ms:List Mv) (b:Nat),pots<=1000->fr.length=pots->Walk pots fr Rw [] ms Rw2 d' b->Rw.length<=60->ms.length<=1000->cf "_law_walk" [.d (zb Rw),.d (zq fr),.d (.list (ms.map Mv.D))]=.ok (.d (.tuple [zb Rw2,.list (za d'),.int (b:Int)])) [none,none,none]
end Wx
set_option maxHeartbeats 4000000
namespace Wx
open PySem L2 L3
noncomputable def Cmp(cs:List Cl)(G:List Nat):Prop:=∀ x∈G,∀ y∈G,x≠y->ub cs x y=true∨ub cs y x=true
theorem Yf{pots:Nat}(hp:pots<=12){D:List Nat}(hD:Dys pots D)(cs:List Cl){Gs:List (List Nat)}(hcov:∀ x∈D++ [12],∃ G∈Gs,x∈G)(hc:∀ G∈Gs,Cmp cs G):wid cs D<=Gs.length:=by
 obtain⟨h1,h2,h3,h4⟩:=zas hp hD cs
 rw[<- h4]
 refine Ku.dual (Ss:=Gs) h1 (fun a ha=>hcov a (h2 a ha)) fun S hS x hx y hy hxs hys=>?_
 by_cases e:x=y
 ·exact e
 ·exfalso
  rcases hc S hS x hxs y hys e with h | h
  ·rw[h3 x hx y hy e]at h;cases h
  ·rw[h3 y hy x hx (Ne.symm e)]at h;cases h
theorem zcq{P cs:List Cl}(h:P.map zj=cs.map zj){i:Nat}{c:Cl}(hc:cs[i]?=some c):∃ c',P[i]?=some c'/\c'.st=c.st/\c'.wi=c.wi:=by
 have h1:(P.map zj)[i]?=(cs.map zj)[i]?:=by rw[h]
 rw[xg,xg,hc]at h1
 cases hp:P[i]? with
 |none=>rw[hp]at h1;cases h1
 |some c'=>
  rw[hp]at h1
  have e:zj c'=zj c:=by simpa using h1
  exact⟨c',rfl,by have:=congrArg Cl.st e;exact this,by have:=congrArg Cl.wi e;exact this⟩
theorem vH{c c':Cl}(h1:c'.st=c.st)(h2:c'.wi=c.wi)(d:Nat):zz c' d=zz c d:=by unfold zz;rw[h1,h2]
theorem Wq{dn:List Nat}{d:Nat}(hd:d∉dn){pots:Nat}{c:Cl}(ok:jf pots c.st c.wi):zz (zr dn c) d=zz c d:=by
 have hdn:dn.contains d=false:=by rw[<- Bool.not_eq_true,xR];exact hd
 unfold zz
 rw[Zx,hdn]
 by_cases h:d<c.st.length
 ·rw[if_pos h,if_neg (by decide)];rfl
 ·rw[if_neg h]
  have h1:c.st.getD d 0=0:=by rw[List.getD_eq_getElem?_getD,xj (by omega)];rfl
  rw[h1];rfl
end Wx
set_option maxHeartbeats 4000000
namespace Wx
open PySem L2 L3
structure RowI(pots:Nat)(cs R:List Cl)(left:List Nat)(boils:Nat)(P:List Cl)(dn:List Nat)(Gs:List (List Nat))(cur:List Nat):Prop where
 eR:R=P.map (zr dn)
 sim:P.map zj=cs.map zj
 len:Gs.length=boils
 cmp:∀ G∈cur::Gs,Cmp cs G
 cov:∀ x∈zm cs pots++ [12],x∈left∨∃ G∈cur::Gs,x∈G
 lft:∀ x∈left,x<pots/\x∉dn
 crd:∀ x∈cur,x≠12->∀ c∈P,zz c x=false->c.w=true
 now:12∈cur->∀ (i:Nat) (c:Cl),cs[i]?=some c->c.w=true->∀ c':Cl,P[i]?=some c'->c'.w=true
theorem RowI.init{pots:Nat}(cs:List Cl):RowI pots cs cs (zm cs pots) 0 cs [] [] [12] where
 eR:=(yd cs).symm
 sim:=rfl
 len:=rfl
 cmp G hG:=by
  have:G= [12]:=by simpa using hG
  subst this
  intro x hx y hy h
  have h1:x=12:=by simpa using hx
  have h2:y=12:=by simpa using hy
  exact absurd (h1.trans h2.symm) h
 cov x hx:=by
  rcases xH.mp hx with h | h
  ·exact .inl h
  ·exact .inr ⟨[12],by simp,h⟩
 lft x hx:=⟨J0 hx,by simp⟩
 crd x hx h:=absurd (by simpa using hx) h
 now _ i c h1 h2 c' h3:=by rw[h1]at h3;cases h3;exact h2
theorem RowI.boil{pots:Nat}{cs R:List Cl}{left:List Nat}{boils:Nat}{P:List Cl}{dn:List Nat}{Gs:List (List Nat)}{cur:List Nat}(h:RowI pots cs R left boils P dn Gs cur):RowI pots cs (R.map zj) left (boils+1) (P.map zj) dn (cur::Gs) [] where
 eR:=by rw[h.eR,WG]
 sim:=by rw[List.map_map];exact h.sim
 len:=by rw[xl,h.len]
 cmp G hG:=by
  rcases xm.mp hG with rfl | hG
  ·intro x hx;cases hx
  ·exact h.cmp G hG
 cov x hx:=by
  rcases h.cov x hx with a | ⟨G,hG,hx⟩
  ·exact .inl a
  ·exact .inr ⟨G,xi _ hG,hx⟩
 lft:=h.lft
 crd x hx:=by cases hx
 now hx:=by cases hx
theorem RowI.dip{pots:Nat}(hp:pots<=12){cs R:List Cl}(hb:BoltN pots cs){left:List Nat}{boils:Nat}{P:List Cl}{dn:List Nat}{Gs:List (List Nat)}{cur:List Nat}(h:RowI pots cs R left boils P dn Gs cur){d:Nat}(hd:d∈left)(hr:∀ c∈R,zz c d=true->c.w=false)(xs:List Nat)(hxs:∀ i c,R[i]?=some c->(xs.contains i= !zz c d)) :
  RowI pots cs ((qb (iz xs) R).map (qy d)) (left.filter fun x=>x !=d) boils (P.map (qc d)) (dn++ [d]) Gs (d::cur):=by
 have hbP:=Qw hb h.sim
 obtain⟨hd1,hd2⟩:=h.lft d hd
 have hrP:∀ c∈P,zz c d=true->c.w=false:=fun c hc hl=>by
  have hm:zr dn c∈R:=by rw[h.eR];exact List.mem_map_of_mem hc
  have:=hr (zr dn c) hm (by rw[Wq hd2 (hbP.1.2 c hc)];exact hl)
  exact this
 have hcw:∀ c∈P.map (qc d),c.w= !zz c d:=fun c hc=>by
  obtain⟨c0,h0,rfl⟩:=xo.mp hc
  rw[jk _ (jQ d)]
  show (c0.w|| !zz c0 d)=_
  have:=hrP c0 h0
  cases hL:zz c0 d with
  |true=>rw[this hL];rfl
  |false=>simp
 have hsub:∀ c∈cs,zz c d=true->∀ x∈cur,x≠12->zz c x=true:=fun c hc hl x hx h12=>by
  obtain⟨i,hi,rfl⟩:=ud hc
  obtain⟨c',h1,h2,h3⟩:=zcq h.sim (xb hi)
  have hm:=xF h1
  have hw:=hrP c' hm (by rw[vH h2 h3];exact hl)
  cases hL:zz cs[i] x with
  |true=>rfl
  |false=>
   have:=h.crd x hx h12 c' hm (by rw[vH h2 h3];exact hL)
   rw[this]at hw;cases hw
 have hcmp:∀ x∈cur,d≠x->ub cs d x=true∨ub cs x d=true:=fun x hx hne=>by
  by_cases h12:x=12
  ·subst h12
   refine .inl ((jr cs _ _).mpr ⟨hne,by omega,fun _ c hc hl=>?_,fun q=>absurd rfl q⟩)
   obtain⟨i,hi,rfl⟩:=ud hc
   obtain⟨c',h1,h2,h3⟩:=zcq h.sim (xb hi)
   have hm:=xF h1
   have hw:=hrP c' hm (by rw[vH h2 h3];exact hl)
   cases hcw2:cs[i].w with
   |false=>rfl
   |true=>
    have:=h.now hx i cs[i] (xb hi) hcw2 c' h1
    rw[this]at hw;cases hw
  ·by_cases heq:∀ c∈cs,zz c x=true->zz c d=true
   ·by_cases hlt:x<d
    ·exact .inl ((jr cs _ _).mpr ⟨hne,by omega,fun q=>absurd q h12,fun _=>⟨fun c hc hl=>hsub c hc hl x hx h12,fun _=>hlt⟩⟩)
    ·exact .inr ((jr cs _ _).mpr ⟨Ne.symm hne,h12,fun q=>by omega,fun _=>⟨heq,fun _=>by omega⟩⟩)
   ·exact .inl ((jr cs _ _).mpr ⟨hne,by omega,fun q=>absurd q h12,fun _=>⟨fun c hc hl=>hsub c hc hl x hx h12,fun q=>absurd q heq⟩⟩)
 have hwax:qb (iz xs) R=(P.map (qc d)).map (zr dn):=by
  rw[h.eR]
  apply xU
  intro i
  rw[Zv,xg,xg,xg]
  cases hi:P[i]? with
  |none=>rfl
  |some c=>
   simp only[ut,Option.some.injEq]
   have hm:=xF hi
   have:=hxs i (zr dn c) (by rw[h.eR,xg,hi];rfl)
   unfold jU
   rw[zaJ,this,Wq hd2 (hbP.1.2 c hm)]
   rfl
 refine⟨?_,by rw[List.map_map];exact h.sim,h.len,fun G hG=>?_,fun x hx=>?_,fun x hx=>?_,fun x hx h12 c hc hl=>?_,fun hx i c h1 h2 c' h3=>?_⟩
 ·rw[hwax,List.map_map]
  exact ul fun c hc=>VC hd2 ((hbP.mp (qc d) (jQ d)).2 c hc) (hcw c hc)
 ·rcases xm.mp hG with rfl | hG
  ·intro x hx y hy hne
   rcases xm.mp hx with ex | hx
   ·rcases xm.mp hy with ey | hy
    ·exact absurd (ex.trans ey.symm) hne
    ·rw[ex];exact hcmp y hy (by rw[<- ex];exact hne)
   ·rcases xm.mp hy with ey | hy
    ·rw[ey];exact (hcmp x hx (by rw[<- ey];exact Ne.symm hne)).symm
    ·exact h.cmp cur (by simp) x hx y hy hne
  ·exact h.cmp G (xi _ hG)
 ·rcases h.cov x hx with a | ⟨G,hG,hx⟩
  ·by_cases hxd:x=d
   ·exact .inr ⟨d::cur,by simp,by simp[hxd]⟩
   ·exact .inl (xp.mpr ⟨a,by simpa using hxd⟩)
  ·rcases xm.mp hG with rfl | hG
   ·exact .inr ⟨d::G,by simp,xi _ hx⟩
   ·exact .inr ⟨G,xi _ hG,hx⟩
 ·obtain⟨a,b⟩:=xp.mp hx
  obtain⟨a1,a2⟩:=h.lft x a
  refine⟨a1,?_⟩
  rw[xH,uz]
  rintro (q | q)
  ·exact a2 q
  ·subst q;simp at b
 ·have hw:=hcw c hc
  rcases xm.mp hx with rfl | hx
  ·rw[hw,hl];rfl
  ·obtain⟨c0,h0,rfl⟩:=xo.mp hc
   rw[jk _ (jQ d)]at hl
   have:=h.crd x hx h12 c0 h0 hl
   show (c0.w||_)=true
   rw[this];rfl
 ·rcases xm.mp hx with hq | hx
  ·omega
  ·rw[xg]at h3
   cases hi:P[i]? with
   |none=>rw[hi]at h3;cases h3
   |some c0=>
    rw[hi]at h3
    have e:qc d c0=c':=by simpa using h3
    rw[<- e]
    show (c0.w||_)=true
    rw[h.now hx i c h1 h2 c0 hi];rfl
theorem RowI.last{pots:Nat}(hp:pots<=12){cs R:List Cl}{boils:Nat}{P:List Cl}{dn:List Nat}{Gs:List (List Nat)}{cur:List Nat}(h:RowI pots cs R [] boils P dn Gs cur):wid cs (zm cs pots)<=boils+1:=by
 have:=Yf hp (qx cs pots) cs (Gs:=cur::Gs) (fun x hx=>(h.cov x hx).resolve_left (by simp)) h.cmp
 rw[xl,h.len]at this
 exact this
end Wx
set_option maxHeartbeats 4000000
namespace Wx
open PySem L2 L3
theorem zcc(cf:CF)(args:List OV):runI 6 [true,false,false,false] [0] jW cf args=runI 6 [true,false,false,false] [0] ZV cf args:=rfl
theorem zbk(cf:CF){cs:List Cl}(hl:cs.length<=1000){xs:List Nat}:runI 2 [false,false] [] jE cf [.d (zb cs),.d (.list (za xs))]=.ok (.l ((qb (iz xs) cs).map fun c=>.d c.D)) [none,none]:=by
 have hnI:za xs=(iz xs).map .int:=by unfold za iz;rw[List.map_map];rfl
 rw[hnI]
 generalize iz xs=xs
 obtain⟨ys,Γ',e,hy,rfl⟩:=qe (k:=1) (t:=.nm 0 2) (cond:=fYes) (elt:=(b_law_wax_1.ev cf).1) (ds:=zo cs.length) (Γ:= [some (.d (zb cs)),some (.d (.list (xs.map .int)))])
  (fun pre ys Γ=>ys=(ZB xs cs pre.length).map Cl.D/\Γ= [some (.d (zb cs)),some (.d (.list (xs.map .int)))]) ⟨rfl,rfl⟩ (by
   rintro pre x post e ys Γ ⟨hy,rfl⟩
   have h1:(zo cs.length)[pre.length]?=some x:=by rw[e];simp
   obtain⟨hlt,rfl⟩:=jd h1
   have hc:cs[pre.length]?=some cs[pre.length]:=xb hlt
   have a1:atI (cs.map Cl.D) (pre.length:Int)=some (cs[pre.length]).D:=qz (by rw[xg,hc];rfl)
   have hin:=W0 xs (pre.length:Int)
   have hal:=QX xs
   have hnx:=Zm xs hc
   generalize cs[pre.length]=c at *
   have hcd:c.D=.tuple [zc c.st,.bool c.w,zc c.wi]:=rfl
   rw[hcd]at a1
   have b0:atI [zc c.st,PyData.bool c.w,zc c.wi] 0=some (zc c.st):=rfl
   have b1:atI [zc c.st,PyData.bool c.w,zc c.wi] 1=some (.bool c.w):=rfl
   have b2:atI [zc c.st,PyData.bool c.w,zc c.wi] 2=some (zc c.wi):=rfl
   refine⟨[some (.d (zb cs)),some (.d (.list (xs.map .int))),some (.d (.int (pre.length:Nat)))],true,_,rfl,rfl,fun _=>⟨.dat (jU xs pre.length c).D,[some (.d (zb cs)),some (.d (.list (xs.map .int))),some (.d (.int (pre.length:Nat)))],(jU xs pre.length c).D,?_,rfl,?_,rfl⟩,fun h=>nomatch h⟩
   ·unfold jU Cl.D ql
    have hbd:zb cs=.list (cs.map Cl.D):=rfl
    rw[hbd]
    generalize cs.map Cl.D=Y at *
    generalize zc c.st=A at *
    generalize zc c.wi=B at *
    generalize xs.map PyData.int=X at *
    generalize xs.contains (pre.length:Int)=ci at *
    cases hw:c.w with
    |true=>
     rw[hw]at a1 b0 b1 b2
     simp![b_law_wax_1,a1,b0,b1,b2]
    |false=>
     rw[hw]at a1 b0 b1 b2
     simp![b_law_wax_1,a1,b0,b1,b2,hin,hal,zl]
   ·rw[hy]
    simp only[xw,xl,ua,uc]
    rw[hnx,xV];rfl)
 rw[zi]at hy
 subst hy
 have hz: -1000000<=(cs.length:Int)/\(cs.length:Int)<=1000000:=by omega
 have hz2:cs.length<=1000000:=by omega
 have hml:(cs.map Cl.D).length=cs.length:=by simp
 have hvv:((ZB xs cs cs.length).map Cl.D).map OV.d=(qb xs cs).map fun c=>OV.d c.D:=by rw[List.map_map];rfl
 rw[<- hvv]
 unfold zb at *
 generalize (ZB xs cs cs.length).map Cl.D=WW at *
 generalize cs.map Cl.D=Y at *
 simp![jE,hml,hz,hz2,zi,e]
noncomputable def kA (cf:CF):Prop:=∀ (cs:List Cl) (xs:List Nat),cs.length<=1000->cf "_law_wax" [.d (zb cs),.d (.list (za xs))]=.ok (.l ((qb (iz xs) cs).map fun c=>.d c.D)) [none,none]
noncomputable def rdy(cs:List Cl)(d:Nat):Bool:= !(zd cs d).any (qQ cs)
noncomputable def zg9(cs:List Cl)(x:PyData):Bool:=match x with
 |.int i=>rdy cs i.toNat
 |_=>false
theorem Yu(cs:List Cl)(xs:List Nat):(za xs).filter (zg9 cs)=za (xs.filter (rdy cs)):=by
 unfold za
 rw[uu]
 rfl
theorem zcQ (cf:CF) (hlk:qh "_law_lack" cf){pots:Nat}{cs:List Cl}(hb:Bolt pots cs){d:Nat}(hd:d<pots){o1:Option OV} :
  b_law_ready_2.ev cf [some (.d (zb cs)),o1,some (.d (.int (d:Int)))]=.ok (rdy cs d,[some (.d (zb cs)),o1,some (.d (.int (d:Int)))]):=by
 have e1:=hlk pots cs hb d hd
 have v1:=zp (zd cs d)
 have e:=zH (k:=1) (t:=.nm 0 3) (cond:=fYes) (elt:=(b_law_ready_1.ev cf).1) (ds:=za (zd cs d)) (Γ:= [some (.d (zb cs)),o1,some (.d (.int (d:Int)))])
  (fun _=>true) (fun x=>match x with | .int i=>.bool (qQ cs i.toNat) | _=>.none) (by
   intro x hx
   obtain⟨i,hi,rfl⟩:=xo.mp hx
   have hw:=zat (VP hi)
   refine⟨[some (.d (zb cs)),o1,some (.d (.int (d:Int))),some (.d (.int (i:Int)))],_,rfl,rfl,by simp,fun _=>⟨.dat (.bool (qQ cs i)),[some (.d (zb cs)),o1,some (.d (.int (d:Int))),some (.d (.int (i:Int)))],?_,rfl,by simp⟩⟩
   simp![b_law_ready_1,zb,hw,OV.view,OV.views,zA,ql,ze1])
 have em:((za (zd cs d)).filter fun _=>true).map (fun x=>match x with | .int i=>PyData.bool (qQ cs i.toNat) | _=>.none)=((zd cs d).map (qQ cs)).map .bool:=by
  rw[qr];unfold za;rw[List.map_map,List.map_map];rfl
 rw[em]at e
 have hba:=WT ((zd cs d).map (qQ cs))
 have hany:((zd cs d).map (qQ cs)).any id=(zd cs d).any (qQ cs):=by rw[uO];rfl
 rw[hany]at hba
 have hz:(za (zd cs d)).length<=1000000:=by rw[zE];have:=jV cs d;have:=hb.1;omega
 have hz2:(((zd cs d).map (qQ cs)).map PyData.bool).length<=1000000:=by simp;have:=jV cs d;have:=hb.1;omega
 unfold rdy
 generalize (zd cs d).any (qQ cs)=wb at *
 generalize ((zd cs d).map (qQ cs)).map PyData.bool=BB at *
 generalize zh (zd cs d)=N0 at *
 generalize za (zd cs d)=N1 at *
 generalize zb cs=B at *
 have hsq:∀ Γ,zA Γ (.dat (.list N1))=some N1:=fun _=>rfl
 simp![b_law_ready_2,e1,v1,hsq,hz,hz2,e,hba,zG]
theorem zbI (cf:CF) (hlk:qh "_law_lack" cf){pots:Nat}{cs:List Cl}(hb:Bolt pots cs){left:List Nat}(hl:∀ d∈left,d<pots) (hll:left.length<=1000) :
  runI 2 [false,false] [] Zk cf [.d (zb cs),.d (.list (za left))]=.ok (zh (left.filter (rdy cs))) [none,none]:=by
 have e:=zH (k:=1) (t:=.nm 0 2) (cond:=b_law_ready_2.ev cf) (elt:=(b_law_ready_3.ev cf).1) (ds:=za left) (Γ:= [some (.d (zb cs)),some (.d (.list (za left)))])
  (zg9 cs) (fun x=>x) (by
   intro x hx
   obtain⟨d,hd,rfl⟩:=xo.mp hx
   refine⟨[some (.d (zb cs)),some (.d (.list (za left))),some (.d (.int (d:Int)))],[some (.d (zb cs)),some (.d (.list (za left))),some (.d (.int (d:Int)))],rfl,zcQ cf hlk hb (hl d hd),by simp,fun _=>⟨.dat (.int (d:Int)),[some (.d (zb cs)),some (.d (.list (za left))),some (.d (.int (d:Int)))],?_,rfl,by simp⟩⟩
   simp![b_law_ready_3])
 rw[List.map_id',Yu]at e
 have hz:(za left).length<=1000000:=by rw[zE];omega
 have hno:zh (left.filter (rdy cs))=.l ((za (left.filter (rdy cs))).map .d):=by unfold zh za;rw[List.map_map];rfl
 rw[hno]
 generalize za (left.filter (rdy cs))=RR at *
 generalize za left=LL at *
 generalize zb cs=B at *
 simp![Zk,e,hz]
noncomputable def kQ (cf:CF):Prop:=∀ (pots:Nat) (cs:List Cl) (left:List Nat),Bolt pots cs->(∀ d∈left,d<pots)->left.length<=1000->cf "_law_ready" [.d (zb cs),.d (.list (za left))]=.ok (zh (left.filter (rdy cs))) [none,none]
theorem zb3{cs:List Cl}{d:Nat}(h:rdy cs d=true):∀ c∈cs,zz c d=true->c.w=false:=fun c hc hl=>by
 unfold rdy at h
 cases hw:c.w with
 |false=>rfl
 |true=>
  have:=(kt cs d).mpr ⟨c,hc,hl,hw⟩
  rw[this]at h;cases h
noncomputable def qK(cs:List Cl)(d:Nat):List Nat:=(List.range cs.length).filter fun i=> !(zd cs d).contains i
theorem zc4(cs:List Cl)(d i:Nat)(c:Cl)(h:cs[i]?=some c):(qK cs d).contains i= !zz c d:=by
 have hi:i<cs.length:=by
  rcases uQ i cs.length with q | q
  ·exact q
  ·rw[xj q]at h;cases h
 have h1:(zd cs d).contains i=zz c d:=by
  rw[xN,xR,qi]
  constructor
  ·rintro⟨c',h1,h2⟩
   rw[h]at h1;cases h1;exact h2
  ·intro h2;exact⟨c,h,h2⟩
 rw[<- h1,xN,xR]
 unfold qK
 rw[xp,xE]
 exact⟨fun q=>q.2,fun q=>⟨hi,q⟩⟩
end Wx
set_option maxHeartbeats 4000000
namespace Wx
open PySem L2 L3
noncomputable def noD(L:List Nat)(x:PyData):Bool:=match x with
 |.int i=> !L.contains i.toNat
 |_=>false
theorem KU(L xs:List Nat):(za xs).filter (noD L)=za (xs.filter fun i=> !L.contains i):=by
 unfold za
 rw[uu]
 rfl
end Wx
set_option maxHeartbeats 4000000
namespace Wx
open PySem L2 L3
noncomputable def neD(d:Nat)(x:PyData):Bool:=match x with
 |.int i=>i.toNat !=d
 |_=>false
theorem zam(d:Nat)(xs:List Nat):(za xs).filter (neD d)=za (xs.filter fun i=>i !=d):=by
 unfold za
 rw[uu]
 rfl
theorem zaX(cf:CF){B:PyData}{n:Nat}{mine:List Nat}{o0 o2 o3 o4 o5 o6 o7:Option OV} :
  qC 1 (.nm 0 9) (b_law_row_1.ev cf) (b_law_row_2.ev cf).1 (zo n) [] [o0,some (.d B),o2,o3,o4,o5,o6,o7,some (.d (.list (za mine)))]=.ok (za ((List.range n).filter fun i=> !mine.contains i),[o0,some (.d B),o2,o3,o4,o5,o6,o7,some (.d (.list (za mine)))]):=by
 have e:=zH (k:=1) (t:=.nm 0 9) (cond:=b_law_row_1.ev cf) (elt:=(b_law_row_2.ev cf).1) (ds:=zo n) (Γ:= [o0,some (.d B),o2,o3,o4,o5,o6,o7,some (.d (.list (za mine)))]) (noD mine) (fun x=>x) (by
  intro x hx
  obtain⟨i,hi,rfl⟩:=xo.mp hx
  have hin:=Qq mine i
  have hal:=Qx mine
  have hal2:∀ x∈za mine,lay 20 x=true:=fun x hx=>xD.mp hal x hx
  have hno:noD mine (.int (i:Int))= !mine.contains i:=by simp[noD]
  rw[hno]
  refine⟨[o0,some (.d B),o2,o3,o4,o5,o6,o7,some (.d (.list (za mine))),some (.d (.int (i:Int)))],[o0,some (.d B),o2,o3,o4,o5,o6,o7,some (.d (.list (za mine))),some (.d (.int (i:Int)))],rfl,?_,by simp,fun _=>⟨.dat (.int (i:Int)),[o0,some (.d B),o2,o3,o4,o5,o6,o7,some (.d (.list (za mine))),some (.d (.int (i:Int)))],?_,rfl,by simp⟩⟩
  ·generalize mine.contains i=ci at *
   generalize za mine=N at *
   simp![b_law_row_1,hin,hal,hal2,zl]
  ·simp![b_law_row_2])
 rw[List.map_id']at e
 have hr:zo n=za (List.range n):=rfl
 rw[hr,KU]at e
 exact e
theorem zbl(cf:CF){left:List Nat}{d:Nat}{o0 o1 o2 o3 o4 o5 o6 o8:Option OV} :
  qC 1 (.nm 0 9) (b_law_row_3.ev cf) (b_law_row_4.ev cf).1 (za left) [] [o0,o1,o2,o3,o4,o5,o6,some (.d (.int (d:Int))),o8]=.ok (za (left.filter fun i=>i !=d),[o0,o1,o2,o3,o4,o5,o6,some (.d (.int (d:Int))),o8]):=by
 have e:=zH (k:=1) (t:=.nm 0 9) (cond:=b_law_row_3.ev cf) (elt:=(b_law_row_4.ev cf).1) (ds:=za left) (Γ:= [o0,o1,o2,o3,o4,o5,o6,some (.d (.int (d:Int))),o8]) (neD d) (fun x=>x) (by
  intro x hx
  obtain⟨i,hi,rfl⟩:=xo.mp hx
  have hno:neD d (.int (i:Int))=(i !=d):=by simp[neD]
  have hq:((i:Int)==(d:Int))=(i==d):=by
   rw[xN,beq_iff_eq,beq_iff_eq];omega
  rw[hno]
  refine⟨[o0,o1,o2,o3,o4,o5,o6,some (.d (.int (d:Int))),o8,some (.d (.int (i:Int)))],[o0,o1,o2,o3,o4,o5,o6,some (.d (.int (d:Int))),o8,some (.d (.int (i:Int)))],rfl,?_,by simp,fun _=>⟨.dat (.int (i:Int)),[o0,o1,o2,o3,o4,o5,o6,some (.d (.int (d:Int))),o8,some (.d (.int (i:Int)))],?_,rfl,by simp⟩⟩
  ·simp![b_law_row_3,zB,hq,zl,bne]
  ·simp![b_law_row_4])
 rw[List.map_id',zam]at e
 exact e
structure zhF(cf:CF):Prop where
 tk:js cf
 rd:kQ cf
 lk:qh "_law_lack" cf
 lw:kA cf
 ld:y0 cf
 lb:vM cf
theorem zaw{pots:Nat}{cs:List Cl}(h:Bolt pots cs)(xs:List Int):Bolt pots (qb xs cs):=by
 refine⟨by rw[wo];exact h.1,fun c hc=>?_⟩
 obtain⟨i,hi⟩:=uv hc
 rw[Zv]at hi
 cases hq:cs[i]? with
 |none=>rw[hq]at hi;cases hi
 |some c0=>
  rw[hq]at hi
  have e:jU xs i c0=c:=by simpa using hi
  subst e
  exact h.2 c0 (xF hq)
theorem Qs(cf:CF)(h:zhF cf){pots:Nat}(hp:pots<=12){cs Rw:List Cl}(hb:BoltN pots cs)(hR:Rw.length<=60){left:List Nat}{boils:Nat}{P:List Cl}{dn:List Nat}{Gs:List (List Nat)}{cur:List Nat}(I:RowI pots cs Rw left boils P dn Gs cur)(hl:left.length<=12){b:OV}(hB:zu b)(sp:Int)(o5 o6 o7 o8:Option OV) :
  ∃ b' Rw' left' boils' sp' P' dn' Gs' cur' o6' o7' o8',zu b'/\RowI pots cs Rw' left' boils' P' dn' Gs' cur'/\left'.length<=12/\Rw'.length<=60 /\
   b_law_row_5.ex cf [0] [some b,some (.d (zb Rw)),some (.d (.list (za left))),some (.d (.int (boils:Nat))),some (.d (.int sp)),o5,o6,o7,o8]=.ok (.next,[some b',some (.d (zb Rw')),some (.d (.list (za left'))),some (.d (.int ((boils':Nat):Int))),some (.d (.int sp')),o5,o6',o7',o8']):=by
 have hbR:Bolt pots Rw:=by rw[I.eR];exact Zt (Qw hb I.sim).1 dn
 have e1:=h.rd pots Rw left hbR (fun d hd=>(I.lft d hd).1) (by omega)
 have v1:=zp (left.filter (rdy Rw))
 have e2:cf "_law_boil" [.d (zb Rw)]=.ok (.l ((Rw.map zj).map fun c=>.d c.D)) [none]:=h.lb pots Rw hbR
 have v2:=zO (Rw.map zj)
 have n1:=zE left
 have n2:=zE (left.filter (rdy Rw))
 rcases Nat.eq_zero_or_pos left.length with h0 | h0
 ·-- nothing left
  refine⟨b,Rw,left,boils,sp,P,dn,Gs,cur,some (.d (.list (za (left.filter (rdy Rw))))),o7,o8,hB,I,hl,hR,?_⟩
  rw[h0]at n1
  generalize za (left.filter (rdy Rw))=G at *
  generalize zh (left.filter (rdy Rw))=GO at *
  generalize za left=L at *
  generalize zb Rw=B at *
  simp![b_law_row_5,e1,v1,n1,zG,zB,zl]
 have q0:(0:Int)<(left.length:Int):=by omega
 have boil:∀ (b1:OV),zu b1->∀ (x:Int),∃ b' Rw' left' boils' sp' P' dn' Gs' cur' o6' o7' o8',zu b'/\RowI pots cs Rw' left' boils' P' dn' Gs' cur'/\left'.length<=12/\Rw'.length<=60 /\
   (.ok (.next,[some b1,some (.d (zb (Rw.map zj))),some (.d (.list (za left))),some (.d (.int ((boils:Int)+1))),some (.d (.int x)),o5,some (.d (.list (za (left.filter (rdy Rw))))),o7,o8]):L3.R (FL×Gv))=.ok (.next,[some b',some (.d (zb Rw')),some (.d (.list (za left'))),some (.d (.int ((boils':Nat):Int))),some (.d (.int sp')),o5,o6',o7',o8']):=fun b1 hb1 x=>
  ⟨b1,_,_,_,x,_,_,_,_,_,o7,o8,hb1,I.boil,hl,by rw[xk];exact hR,rfl⟩
 rcases Nat.eq_zero_or_pos (left.filter (rdy Rw)).length with h1 | h1
 ·-- no dye goes
  obtain⟨b',Rw',left',boils',sp',P',dn',Gs',cur',o6',o7',o8',k1,k2,k3,k4,k5⟩:=boil b hB (sp-0)
  refine⟨b',Rw',left',boils',sp',P',dn',Gs',cur',o6',o7',o8',k1,k2,k3,k4,?_⟩
  rw[<- k5]
  clear k5 boil
  rw[h1]at n2
  generalize za (left.filter (rdy Rw))=G at *
  generalize zh (left.filter (rdy Rw))=GO at *
  generalize za left=L at *
  generalize ((Rw.map zj).map fun c=>OV.d c.D)=CC at *
  generalize zb (Rw.map zj)=B2 at *
  generalize zb Rw=B at *
  simp![b_law_row_5,e1,v1,n1,n2,h0,q0,e2,v2,zG,zB,zl]
 -- some dye goes
 have q1:(0:Int)<((left.filter (rdy Rw)).length:Int):=by omega
 have hgl:(left.filter (rdy Rw)).length<=12:=xL (xQ _ _) hl
 have n3:(left.filter (rdy Rw)).length≠0:=by omega
 have n4:(((left.filter (rdy Rw)).length:Int)==0)=false:=by rw[beq_eq_false_iff_ne];omega
 have dip:∀ (b1:OV),zu b1->∃ b' Rw' left' boils' sp' P' dn' Gs' cur' o6' o7' o8',zu b'/\RowI pots cs Rw' left' boils' P' dn' Gs' cur'/\left'.length<=12/\Rw'.length<=60/\∃ r b2 d,zu b2/\cf "_law_take" [b1,.d (.int ((left.filter (rdy Rw)).length:Int))]=.ok (.d (.int (r:Int))) [some b2,none]/\atI (za (left.filter (rdy Rw))) r=some (.int ((d:Nat):Int))/\d<pots /\
   (.ok (.next,[some b2,some (.d (zb ((qb (iz (qK Rw d)) Rw).map (qy d)))),some (.d (.list (za (left.filter fun i=>i !=d)))),some (.d (.int (boils:Nat))),some (.d (.int sp)),o5,some (.d (.list (za (left.filter (rdy Rw))))),some (.d (.int (d:Int))),some (.d (.list (za (zd Rw d))))]):L3.R (FL×Gv))=.ok (.next,[some b',some (.d (zb Rw')),some (.d (.list (za left'))),some (.d (.int ((boils':Nat):Int))),some (.d (.int sp')),o5,o6',o7',o8']):=fun b1 hb1=>by
  obtain⟨r,b2,hr0,hr1,hb2,er⟩:=h.tk b1 hb1 (left.filter (rdy Rw)).length (by omega) (by omega)
  have hr2:r.toNat<(left.filter (rdy Rw)).length:=by omega
  have hd:=ug hr2
  have hda:=xb hr2
  generalize (left.filter (rdy Rw))[r.toNat]=d at hd hda
  obtain⟨hd1,hd2⟩:=xp.mp hd
  have hat:atI (za (left.filter (rdy Rw))) r=some (.int ((d:Nat):Int)):=by
   have:r=((r.toNat:Nat):Int):=by omega
   rw[this]
   refine qz ?_
   unfold za
   rw[xg,hda];rfl
  refine⟨b2,_,_,boils,sp,_,_,_,_,_,_,_,hb2,I.dip hp hb hd1 (zb3 hd2) (qK Rw d) (zc4 Rw d),xL (xQ _ _) hl,by rw[xk,wo];exact hR,r,b2,d,hb2,er,hat,(I.lft d hd1).1,rfl⟩
 have dipe:∀ (b1 b2:OV) (r:Int) (d:Nat),cf "_law_take" [b1,.d (.int ((left.filter (rdy Rw)).length:Int))]=.ok (.d (.int (r:Int))) [some b2,none]->atI (za (left.filter (rdy Rw))) r=some (.int ((d:Nat):Int))->d<pots ->
   cf "_law_lack" [.d (zb Rw),.d (.int d)]=.ok (zh (zd Rw d)) [none,none]/\cf "_law_wax" [.d (zb Rw),.d (.list (za (qK Rw d)))]=.ok (.l ((qb (iz (qK Rw d)) Rw).map fun c=>.d c.D)) [none,none]/\cf "_law_dip" [.d (zb (qb (iz (qK Rw d)) Rw)),.d (.int d)]=.ok (.l (((qb (iz (qK Rw d)) Rw).map (qy d)).map fun c=>.d c.D)) [none,none]:=fun b1 b2 r d e3 hat hd=>
  ⟨h.lk pots Rw hbR d hd,h.lw Rw (qK Rw d) (by omega),h.ld.1 pots _ d (by omega) (zaw hbR _)⟩
 have hml:(Rw.map Cl.D).length=Rw.length:=by simp
 have hz:Rw.length<=1000000:=by omega
 have hz1: -1000000<=(Rw.length:Int)/\(Rw.length:Int)<=1000000:=by omega
 have hzl:left.length<=1000000:=by omega
 have hsq:∀ Γ,zA Γ (.dat (.list (za left)))=some (za left):=fun _=>rfl
 by_cases hsp:0<sp
 ·obtain⟨r6,b1,hr0,hr1,hb1,er6⟩:=h.tk b hB 6 (by decide) (by decide)
  by_cases hr6:r6=0
  ·subst hr6
   obtain⟨b',Rw',left',boils',sp',P',dn',Gs',cur',o6',o7',o8',k1,k2,k3,k4,k5⟩:=boil b1 hb1 (sp-1)
   refine⟨b',Rw',left',boils',sp',P',dn',Gs',cur',o6',o7',o8',k1,k2,k3,k4,?_⟩
   rw[<- k5]
   clear k5 boil dip dipe
   generalize za (left.filter (rdy Rw))=G at *
   generalize zh (left.filter (rdy Rw))=GO at *
   generalize (left.filter (rdy Rw)).length=gl at *
   generalize za left=L at *
   generalize ((Rw.map zj).map fun c=>OV.d c.D)=CC at *
   generalize zb (Rw.map zj)=B2 at *
   generalize zb Rw=B at *
   simp![b_law_row_5,e1,v1,n1,n2,h0,q0,h1,q1,n3,n4,hsp,er6,e2,v2,zG,zB,zl]
  ·obtain⟨b',Rw',left',boils',sp',P',dn',Gs',cur',o6',o7',o8',k1,k2,k3,k4,r,b2,d,k6,k7,k8,k9,k5⟩:=dip b1 hb1
   refine⟨b',Rw',left',boils',sp',P',dn',Gs',cur',o6',o7',o8',k1,k2,k3,k4,?_⟩
   rw[<- k5]
   obtain⟨g1,g2,g3⟩:=dipe b1 b2 r d k7 k8 k9
   have c1:=zaX cf (B:=zb Rw) (n:=Rw.length) (mine:=zd Rw d) (o0:=some b2) (o2:=some (.d (.list (za left)))) (o3:=some (.d (.int (boils:Nat)))) (o4:=some (.d (.int sp))) (o5:=o5) (o6:=some (.d (.list (za (left.filter (rdy Rw)))))) (o7:=some (.d (.int (d:Int))))
   have c2:=zbl cf (left:=left) (d:=d) (o0:=some b2) (o1:=some (.d (zb ((qb (iz (qK Rw d)) Rw).map (qy d))))) (o2:=some (.d (.list (za left)))) (o3:=some (.d (.int (boils:Nat)))) (o4:=some (.d (.int sp))) (o5:=o5) (o6:=some (.d (.list (za (left.filter (rdy Rw)))))) (o8:=some (.d (.list (za (zd Rw d)))))
   have v3:=zp (zd Rw d)
   have v4:=zO (qb (iz (qK Rw d)) Rw)
   have v5:=zO ((qb (iz (qK Rw d)) Rw).map (qy d))
   have hof:((List.range Rw.length).filter fun i=> !(zd Rw d).contains i)=qK Rw d:=rfl
   rw[hof]at c1
   have hr6':(r6==0)=false:=by rw[beq_eq_false_iff_ne];exact hr6
   clear k5 boil dip dipe
   have hbd:zb Rw=.list (Rw.map Cl.D):=rfl
   generalize zb ((qb (iz (qK Rw d)) Rw).map (qy d))=B4 at *
   generalize (((qb (iz (qK Rw d)) Rw).map (qy d)).map fun c=>OV.d c.D)=C4 at *
   generalize zb (qb (iz (qK Rw d)) Rw)=B3 at *
   generalize ((qb (iz (qK Rw d)) Rw).map fun c=>OV.d c.D)=C3 at *
   generalize za (qK Rw d)=OF at *
   generalize za (zd Rw d)=LK at *
   generalize zh (zd Rw d)=LO at *
   generalize za (left.filter (rdy Rw))=G at *
   generalize zh (left.filter (rdy Rw))=GO at *
   generalize (left.filter (rdy Rw)).length=gl at *
   generalize za (left.filter fun i=>i !=d)=L2' at *
   generalize za left=L at *
   rw[hbd]at *
   generalize Rw.map Cl.D=B at *
   simp![b_law_row_5,e1,v1,n1,n2,h0,q0,h1,q1,n3,n4,hsp,er6,hr6,hr6',k7,k8,g1,g2,g3,c1,c2,v3,v4,v5,hml,hz,hz1,hzl,hsq,zi,zG,zB,zl]
 ·obtain⟨b',Rw',left',boils',sp',P',dn',Gs',cur',o6',o7',o8',k1,k2,k3,k4,r,b2,d,k6,k7,k8,k9,k5⟩:=dip b hB
  refine⟨b',Rw',left',boils',sp',P',dn',Gs',cur',o6',o7',o8',k1,k2,k3,k4,?_⟩
  rw[<- k5]
  obtain⟨g1,g2,g3⟩:=dipe b b2 r d k7 k8 k9
  have c1:=zaX cf (B:=zb Rw) (n:=Rw.length) (mine:=zd Rw d) (o0:=some b2) (o2:=some (.d (.list (za left)))) (o3:=some (.d (.int (boils:Nat)))) (o4:=some (.d (.int sp))) (o5:=o5) (o6:=some (.d (.list (za (left.filter (rdy Rw)))))) (o7:=some (.d (.int (d:Int))))
  have c2:=zbl cf (left:=left) (d:=d) (o0:=some b2) (o1:=some (.d (zb ((qb (iz (qK Rw d)) Rw).map (qy d))))) (o2:=some (.d (.list (za left)))) (o3:=some (.d (.int (boils:Nat)))) (o4:=some (.d (.int sp))) (o5:=o5) (o6:=some (.d (.list (za (left.filter (rdy Rw)))))) (o8:=some (.d (.list (za (zd Rw d)))))
  have v3:=zp (zd Rw d)
  have v4:=zO (qb (iz (qK Rw d)) Rw)
  have v5:=zO ((qb (iz (qK Rw d)) Rw).map (qy d))
  have hof:((List.range Rw.length).filter fun i=> !(zd Rw d).contains i)=qK Rw d:=rfl
  rw[hof]at c1
  clear k5 boil dip dipe
  have hbd:zb Rw=.list (Rw.map Cl.D):=rfl
  generalize zb ((qb (iz (qK Rw d)) Rw).map (qy d))=B4 at *
  generalize (((qb (iz (qK Rw d)) Rw).map (qy d)).map fun c=>OV.d c.D)=C4 at *
  generalize zb (qb (iz (qK Rw d)) Rw)=B3 at *
  generalize ((qb (iz (qK Rw d)) Rw).map fun c=>OV.d c.D)=C3 at *
  generalize za (qK Rw d)=OF at *
  generalize za (zd Rw d)=LK at *
  generalize zh (zd Rw d)=LO at *
  generalize za (left.filter (rdy Rw))=G at *
  generalize zh (left.filter (rdy Rw))=GO at *
  generalize (left.filter (rdy Rw)).length=gl at *
  generalize za (left.filter fun i=>i !=d)=L2' at *
  generalize za left=L at *
  rw[hbd]at *
  generalize Rw.map Cl.D=B at *
  simp![b_law_row_5,e1,v1,n1,n2,h0,q0,h1,q1,n3,n4,hsp,k7,k8,g1,g2,g3,c1,c2,v3,v4,v5,hml,hz,hz1,hzl,hsq,zi,zG,zB,zl]
theorem zgY(n:Int):binD .Mult (.int 2) (.int n)=some (.int (2*n)):=by
 have h:((-(2 ^ 64)<(2:Int)/\(2:Int)<2 ^ 64)∨(-(2 ^ 64)<n/\n<2 ^ 64)):=.inl ⟨by decide,by decide⟩
 have e:binD .Mult (.int 2) (.int n)=if ((-(2 ^ 64)<(2:Int)/\(2:Int)<2 ^ 64)∨(-(2 ^ 64)<n/\n<2 ^ 64)) then some (.int (2*n)) else none:=rfl
 rw[e,if_pos h]
theorem bAdd(i j:Int):binD .Add (.int i) (.int j)=some (.int (i+j)):=rfl
theorem Yw(cf:CF)(Γ:Gv)(NL:List PyData)(n:Nat)(n1:NL.length=n)(h:Γ[2]?=some (some (.d (.list NL)))):((IE.bin .Add (.bin .Mult (.cint 2) (.len (.var 2 2))) (.cint 4)).ev cf).1 Γ=.ok (.dat (.int (2*(n:Int)+4)),Γ):=by
 simp![n1,h,zgY,bAdd]
theorem zaO(cf:CF)(Γ:Gv)(M:Nat)(e:IE)(h:(e.ev cf).1 Γ=.ok (.dat (.int (M:Int)),Γ))(hz: -1000000<=(M:Int)/\(M:Int)<=1000000):(II.range e).ev cf Γ=.ok (zo M,Γ):=by
 simp![h,hz]
theorem zeq (cf:CF) (b b1 b':OV) (B B2 NL LL:PyData) (sp sp':Int) (boils:Int) (ds:List PyData) (src:II) (body:IB) (o5 o6 o7 o8:Option OV) (e1:cf "_law_take" [b,.d (.int 4)]=.ok (.d (.int sp)) [some b1,none])
 (hr2:src.ev cf [some b1,some (.d B),some (.d NL),some (.d (.int 0)),some (.d (.int sp)),none,none,none,none]=.ok (ds,[some b1,some (.d B),some (.d NL),some (.d (.int 0)),some (.d (.int sp)),none,none,none,none]))
 (e:zU (.nm 5 5) (body.ex cf [0]) ds [some b1,some (.d B),some (.d NL),some (.d (.int 0)),some (.d (.int sp)),none,none,none,none]=.ok (.next,[some b',some (.d B2),some (.d LL),some (.d (.int boils)),some (.d (.int sp')),o5,o6,o7,o8])) :
 runI 9 [true,false,false] [0] (.cons (.asg 3 3 (.dat (.cint 0))) (.cons (.asg 4 4 (.dat (.call (.call "_law_take" 2 (.io 0 0 (.cons (.cint 4) .nil)))))) (.cons (.loop (.nm 5 5) src body) (.cons (.ret (.dat (.tup (.cons (.var 1 1) (.cons (.var 2 2) (.cons (.var 3 3) .nil)))))) .nil)))) cf [b,.d B,.d NL]=.ok (.d (.tuple [B2,LL,.int boils])) [some b',none,none]:=by
 simp![e1,hr2,e,zG]
noncomputable def zeC(pots:Nat)(cs:List Cl)(x:RF):Prop:=∃ (b':OV) (Rw:List Cl) (left:List Nat) (boils:Nat),zu b'/\Rw.length<=60/\left.length<=12/\(left= []->wid cs (zm cs pots)<=boils+1)/\x=.ok (.d (.tuple [zb Rw,.list (za left),.int (boils:Int)])) [some b',none,none]
theorem zdv(cf:CF)(h:zhF cf){pots:Nat}(hp:pots<=12){cs:List Cl}(hb:BoltN pots cs)(hc:cs.length<=60){b:OV}(hB:zu b) :
  zeC pots cs (runI 9 [true,false,false] [0] WS cf [b,.d (zb cs),.d (.list (za (zm cs pots)))]):=by
 obtain⟨sp,b1,_,_,hb1,e1⟩:=h.tk b hB 4 (by decide) (by decide)
 have hnl:=JR cs pots
 obtain⟨Γ',e,⟨b',Rw,left,boils,sp',P,dn,Gs,cur,o5,o6,o7,o8,hb',I,hl,hR,rfl⟩⟩:=qF (t:=.nm 5 5) (body:=b_law_row_5.ex cf [0]) (ds:=zo (2*(zm cs pots).length+4)) (Γ:= [some b1,some (.d (zb cs)),some (.d (.list (za (zm cs pots)))),some (.d (.int 0)),some (.d (.int sp)),none,none,none,none])
  (fun _ Γ=>∃ b' Rw left boils sp' P dn Gs cur o5 o6 o7 o8,zu b'/\RowI pots cs Rw left boils P dn Gs cur/\left.length<=12/\Rw.length<=60/\Γ= [some b',some (.d (zb Rw)),some (.d (.list (za left))),some (.d (.int ((boils:Nat):Int))),some (.d (.int sp')),o5,o6,o7,o8])
  ⟨b1,cs,zm cs pots,0,sp,cs,[],[],[12],none,none,none,none,hb1,RowI.init cs,by omega,hc,rfl⟩ (by
   rintro pre d post _ Γ ⟨b',Rw,left,boils,sp',P,dn,Gs,cur,o5,o6,o7,o8,hb',I,hl,hR,rfl⟩
   obtain⟨b2,R2,l2,bo2,sp2,P2,dn2,Gs2,cur2,p6,p7,p8,k1,k2,k3,k4,k5⟩:=Qs cf h hp hb hR I hl hb' sp' (some (.d d)) o6 o7 o8
   exact⟨_,_,rfl,k5,b2,R2,l2,bo2,sp2,P2,dn2,Gs2,cur2,_,_,_,_,k1,k2,k3,k4,rfl⟩)
 refine⟨b',Rw,left,boils,hb',hR,hl,fun q=>by subst q;exact I.last hp,?_⟩
 have n1:=zE (zm cs pots)
 have hr:=Yw cf [some b1,some (.d (zb cs)),some (.d (.list (za (zm cs pots)))),some (.d (.int 0)),some (.d (.int sp)),none,none,none,none] _ _ n1 rfl
 have hI:2*((zm cs pots).length:Int)+4=((2*(zm cs pots).length+4:Nat):Int):=by omega
 rw[hI]at hr
 have hr2:=zaO cf _ _ _ hr ⟨by omega,by omega⟩
 exact zeq cf b b1 b' _ _ _ _ sp sp' _ _ _ _ o5 o6 o7 o8 e1 hr2 e
noncomputable def zcF (cf:CF):Prop:=∀ (pots:Nat) (cs:List Cl) (b:OV),pots<=12->BoltN pots cs->cs.length<=60->zu b->zeC pots cs (cf "_law_row" [b,.d (zb cs),.d (.list (za (zm cs pots)))])
end Wx
set_option maxHeartbeats 4000000
namespace Wx
open PySem L2 L3
noncomputable def top(i:Nat):Stmt:=PySem.Challenge.pw_waxcloth_k27_whole_any_other_row.main.body.getD i (.Pass ⟨0,0,0,0⟩)
noncomputable def d_p_with_wax:DefI:=⟨"with_wax",top 6,["bolt","cells"],["bolt","cells"],[false,false],[],je⟩
noncomputable def d_p_boiled:DefI:=⟨"boiled",top 7,["bolt"],["bolt"],[false],[],ww⟩
noncomputable def d_p_has_cell:DefI:=⟨"has_cell",top 8,["bolt","at"],["bolt","at"],[false,false],[],qV⟩
noncomputable def d_p_lacking:DefI:=⟨"lacking",top 10,["bolt","dye"],["bolt","dye"],[false,false],[],QK⟩
noncomputable def d_p_needed:DefI:=⟨"needed",top 11,["bolt"],["bolt","pots"],[false],[],Qc⟩
noncomputable def d_p_bars:DefI:=⟨"bars",top 12,["bolt","fresh"],["bolt","fresh","told","at","stain","waxed","wish","dye","word"],[false,false],[],yN⟩
noncomputable def d_p_bar_word:DefI:=⟨"bar_word",top 13,["gap","is_fresh"],["gap","is_fresh"],[false,false],[],qJ⟩
noncomputable def d_p_with_cells:DefI:=⟨"with_cells",top 15,["bolt","dyes"],["bolt","dyes"],[false,false],[],jI⟩
noncomputable def d_p_is_lower:DefI:=⟨"is_lower",top 16,["one","other"],["one","other","dye","cells","other_dye","other_cells"],[false,false],[],jH⟩
noncomputable def d_p_lacking_under_wax:DefI:=⟨"lacking_under_wax",top 17,["bolt","dye"],["bolt","dye"],[false,false],[],qv⟩
noncomputable def d_p_stretches:DefI:=⟨"stretches",top 19,["bolt"],["bolt","dyes","follower","present"],[false],[],j9⟩
noncomputable def d_p_places_above:DefI:=⟨"places_above",top 20,["bolt","dyes"],["bolt","dyes","pairs","told","one","places"],[false,false],[],qW⟩
noncomputable def d_p_followers:DefI:=⟨"followers",top 21,["above"],["above","follower","at"],[false],[],jl⟩
noncomputable def d_p_settle:DefI:=⟨"settle",top 22,["at","above","follower","tried"],["at","above","follower","tried","place"],[false,false,true,true],[2,3],Zd⟩
noncomputable def d_p_row_behind:DefI:=⟨"row_behind",top 23,["dyes","follower","at"],["dyes","follower","at","row"],[false,false,false],[],jK⟩
noncomputable def d_p_plan:DefI:=⟨"plan",top 25,["bolt","fresh"],["bolt","fresh","found","present","others","moves","clean","dyes"],[false,false],[],YC⟩
noncomputable def d_p_stretch_moves:DefI:=⟨"stretch_moves",top 26,["bolt","dyes"],["bolt","dyes","moves","dye","cells"],[false,false],[],qP⟩
noncomputable def d_p_to_keep_off:DefI:=⟨"to_keep_off",top 27,["bolt","dye"],["bolt","dye"],[false,false],[],jt⟩
noncomputable def d_law_whole:DefI:=⟨"_law_whole",top 29,["_law_found"],["_law_found"],[false],[],Ze⟩
noncomputable def d_law_wholes:DefI:=⟨"_law_wholes",top 30,["_law_found"],["_law_found"],[false],[],jN⟩
noncomputable def d_law_mixed:DefI:=⟨"_law_mixed",top 32,["_law_number","_law_turn"],["_law_number","_law_turn","_law_one","_law_two"],[false,false],[],j2⟩
noncomputable def d_law_take:DefI:=⟨"_law_take",top 33,["_law_box_here","_law_many"],["_law_box_here","_law_many","_law_left","_law_cell_here"],[true,false],[0],qL⟩
noncomputable def d_law_lacks:DefI:=⟨"_law_lacks",top 34,["_law_box_here","_law_pots","_law_size"],["_law_box_here","_law_pots","_law_size","_law_way","_law_ends","_law_rows","_law_at","_law_row_here","_law_low","_law_high"],[true,false,false],[0],Zh⟩
noncomputable def d_law_cell:DefI:=⟨"_law_cell",top 35,["_law_box_here","_law_row_here","_law_loose","_law_wet"],["_law_box_here","_law_row_here","_law_loose","_law_wet","_law_stain","_law_want","_law_bit","_law_shade"],[true,false,false,false],[0],jS⟩
noncomputable def d_law_bolt:DefI:=⟨"_law_bolt",top 36,["_law_box_here","_law_pots","_law_size","_law_loose"],["_law_box_here","_law_pots","_law_size","_law_loose","_law_wet","_law_rows"],[true,false,false,false],[0],jW⟩
noncomputable def d_law_sizes:DefI:=⟨"_law_sizes",top 37,["_law_box_here"],["_law_box_here"],[true],[0],jo⟩
noncomputable def d_law_wax:DefI:=⟨"_law_wax",top 38,["_law_rows","_law_cells"],["_law_rows","_law_cells"],[false,false],[],jE⟩
noncomputable def d_law_dip:DefI:=⟨"_law_dip",top 39,["_law_rows","_law_dye"],["_law_rows","_law_dye","_law_found","_law_stain","_law_waxed","_law_want"],[false,false],[],jx⟩
noncomputable def d_law_boil:DefI:=⟨"_law_boil",top 40,["_law_rows"],["_law_rows"],[false],[],ZH⟩
noncomputable def d_law_full:DefI:=⟨"_law_full",top 41,["_law_rows","_law_dye"],["_law_rows","_law_dye"],[false,false],[],ja⟩
noncomputable def d_law_lack:DefI:=⟨"_law_lack",top 42,["_law_rows","_law_dye"],["_law_rows","_law_dye"],[false,false],[],ZO⟩
noncomputable def d_law_need:DefI:=⟨"_law_need",top 43,["_law_rows","_law_pots"],["_law_rows","_law_pots"],[false,false],[],ZW⟩
noncomputable def d_law_met:DefI:=⟨"_law_met",top 44,["_law_rows"],["_law_rows"],[false],[],QT⟩
noncomputable def d_law_wax_good:DefI:=⟨"_law_wax_good",top 45,["_law_move","_law_rows"],["_law_move","_law_rows","_law_cells"],[false,false],[],q8⟩
noncomputable def d_law_dip_good:DefI:=⟨"_law_dip_good",top 46,["_law_move","_law_rows","_law_fresh","_law_dips"],["_law_move","_law_rows","_law_fresh","_law_dips"],[false,false,false,false],[],qZ⟩
noncomputable def d_law_walk:DefI:=⟨"_law_walk",top 47,["_law_rows","_law_fresh","_law_moves"],["_law_rows","_law_fresh","_law_moves","_law_dips","_law_boils","_law_move"],[false,false,false],[],ZG⟩
noncomputable def d_law_draw:DefI:=⟨"_law_draw",top 48,["_law_box_here","_law_loose"],["_law_box_here","_law_loose","_law_pots","_law_size"],[true,false],[0],ZP⟩
noncomputable def d_law_pans:DefI:=⟨"_law_pans",top 49,["_law_box_here","_law_rows","_law_pots"],["_law_box_here","_law_rows","_law_pots"],[true,false,false],[0],ZS⟩
noncomputable def d_law_ready:DefI:=⟨"_law_ready",top 50,["_law_rows","_law_left"],["_law_rows","_law_left"],[false,false],[],Zk⟩
noncomputable def d_law_row:DefI:=⟨"_law_row",top 51,["_law_box_here","_law_rows","_law_left"],["_law_box_here","_law_rows","_law_left","_law_boils","_law_spare","_law_k","_law_good","_law_dye","_law_mine"],[true,false,false],[0],WS⟩
noncomputable def defs:List DefI:=(d_p_with_wax::d_p_boiled::d_p_has_cell::d_p_lacking::d_p_needed::d_p_bars::d_p_bar_word::d_p_with_cells::d_p_is_lower::d_p_lacking_under_wax::d_p_stretches::d_p_places_above::d_p_followers::d_p_settle::d_p_row_behind::d_p_plan::d_p_stretch_moves::d_p_to_keep_off::d_law_whole::d_law_wholes::d_law_mixed::d_law_take::d_law_lacks::d_law_cell::d_law_bolt::d_law_sizes::d_law_wax::d_law_dip::d_law_boil::d_law_full::d_law_lack::d_law_need::d_law_met::d_law_wax_good::d_law_dip_good::d_law_walk::d_law_draw::d_law_pans::d_law_ready::d_law_row:: [])
noncomputable def lawB:IB:=(.cons (.asgT (.tp (.cons (.nm 2 2) (.cons (.nm 3 3) .nil))) (.call (.call "_law_draw" 2 (.io 1 1 (.cons (.cint 0) .nil))))) (.cons (.asg 4 4 (.dat (.call (.call "_law_pans" 3 (.io 1 1 (.cons (.var 3 3) (.cons (.var 2 2) .nil))))))) (.cons (.asg 5 5 (.dat (.call (.call "_law_row" 3 (.io 1 1 (.cons (.var 3 3) (.cons (.call (.call "_law_need" 2 (.cons (.var 3 3) (.cons (.var 2 2) .nil)))) .nil))))))) (.cons (.ite (.or (.cmp .Gt (.len (.ix (.var 5 5) (.cint 1))) (.cint 0)) (.not (.call (.call "_law_met" 1 (.cons (.ix (.var 5 5) (.cint 0)) .nil))))) (.cons (.ret (.dat (.cbool true))) .nil) .nil) (.cons (.asg 6 6 (.dat (.call (.call "_law_walk" 3 (.cons (.var 3 3) (.cons (.var 4 4) (.cons (.call (.call "plan" 2 (.cons (.new (.list (.var 3 3))) (.cons (.new (.list (.var 4 4))) .nil)))) .nil))))))) (.cons (.ret (.dat (.and (.cmp .IsNot (.var 6 6) .cnone) (.and (.call (.call "_law_met" 1 (.cons (.ix (.var 6 6) (.cint 0)) .nil))) (.cmp .LtE (.ix (.var 6 6) (.cint 2)) (.ix (.var 5 5) (.cint 2))))))) .nil))))))
noncomputable def W:Wd:=⟨["all","any","bool","enumerate","int","isinstance","len","list","max","min","range","set","sorted","str","tuple"],[],[],(("with_wax",2)::("boiled",1)::("has_cell",2)::("lacking",2)::("needed",1)::("bars",2)::("bar_word",2)::("with_cells",2)::("is_lower",2)::("lacking_under_wax",2)::("stretches",1)::("places_above",2)::("followers",1)::("settle",4)::("row_behind",3)::("plan",2)::("stretch_moves",2)::("to_keep_off",2)::("_law_whole",1)::("_law_wholes",1)::("_law_mixed",2)::("_law_take",2)::("_law_lacks",3)::("_law_cell",4)::("_law_bolt",4)::("_law_sizes",1)::("_law_wax",2)::("_law_dip",2)::("_law_boil",1)::("_law_full",2)::("_law_lack",2)::("_law_need",2)::("_law_met",1)::("_law_wax_good",2)::("_law_dip_good",4)::("_law_walk",3)::("_law_draw",2)::("_law_pans",3)::("_law_ready",2)::("_law_row",3):: []),[],["NoCell","Twice"]⟩
theorem J2:d_p_with_wax.ok W=true:=by kernel_rfl
theorem Ve:d_p_boiled.ok W=true:=by kernel_rfl
theorem wr:d_p_has_cell.ok W=true:=by kernel_rfl
theorem wN:d_p_lacking.ok W=true:=by kernel_rfl
theorem vt:d_p_needed.ok W=true:=by kernel_rfl
theorem Yi:d_p_bars.ok W=true:=by kernel_rfl
theorem wm:d_p_bar_word.ok W=true:=by kernel_rfl
theorem QH:d_p_with_cells.ok W=true:=by kernel_rfl
theorem J5:d_p_is_lower.ok W=true:=by kernel_rfl
theorem jC:d_p_lacking_under_wax.ok W=true:=by kernel_rfl
theorem Jr:d_p_stretches.ok W=true:=by kernel_rfl
theorem ZL:d_p_places_above.ok W=true:=by kernel_rfl
theorem Jo:d_p_followers.ok W=true:=by kernel_rfl
theorem vd:d_p_settle.ok W=true:=by kernel_rfl
theorem QW:d_p_row_behind.ok W=true:=by kernel_rfl
theorem y8:d_p_plan.ok W=true:=by kernel_rfl
theorem ZA:d_p_stretch_moves.ok W=true:=by kernel_rfl
theorem Ql:d_p_to_keep_off.ok W=true:=by kernel_rfl
theorem wZ:d_law_whole.ok W=true:=by kernel_rfl
theorem wB:d_law_wholes.ok W=true:=by kernel_rfl
theorem wU:d_law_mixed.ok W=true:=by kernel_rfl
theorem Vn:d_law_take.ok W=true:=by kernel_rfl
theorem wY:d_law_lacks.ok W=true:=by kernel_rfl
theorem v6:d_law_cell.ok W=true:=by kernel_rfl
theorem vY:d_law_bolt.ok W=true:=by kernel_rfl
theorem wX:d_law_sizes.ok W=true:=by kernel_rfl
theorem VZ:d_law_wax.ok W=true:=by kernel_rfl
theorem V1:d_law_dip.ok W=true:=by kernel_rfl
theorem Vi:d_law_boil.ok W=true:=by kernel_rfl
theorem W9:d_law_full.ok W=true:=by kernel_rfl
theorem WX:d_law_lack.ok W=true:=by kernel_rfl
theorem Vs:d_law_need.ok W=true:=by kernel_rfl
theorem V9:d_law_met.ok W=true:=by kernel_rfl
theorem Q1:d_law_wax_good.ok W=true:=by kernel_rfl
theorem QD:d_law_dip_good.ok W=true:=by kernel_rfl
theorem vL:d_law_walk.ok W=true:=by kernel_rfl
theorem vk:d_law_draw.ok W=true:=by kernel_rfl
theorem vR:d_law_pans.ok W=true:=by kernel_rfl
theorem wO:d_law_ready.ok W=true:=by kernel_rfl
theorem V8:d_law_row.ok W=true:=by kernel_rfl
noncomputable abbrev sBox:Stmt:=top 31
noncomputable abbrev sLaw:Stmt:=top 52
noncomputable def LN:List Str:= ["_law_script","_law_box_here","_law_pots","_law_rows","_law_fresh","_law_other","_law_walked"]
theorem okLaw:lawB.chk W (defScope sLaw) LN (List.range LN.length) LN.length 0 (defBody sLaw).tail=true:=by kernel_rfl
structure zhG(cf:CF):Prop where
 draw0R:kU cf
 pans:zcB cf
 plan:zbL cf
 walk:zb2 cf
 lmet:zcO cf
 need:zaL cf
 lrow:zcF cf
theorem ok27(n:Nat):zhG (ze defs (n+20)):=by
 have hmixed:∀ k,kf (ze defs (k+1)):=fun k a b=>zav (ze defs k) a b
 have htake:∀ k,js (ze defs (k+2)):=fun k b hb n h1 h2=>zdN (ze defs (k+1)) (hmixed k) hb h1 h2
 have hsizes:∀ k,Y1 (ze defs (k+3)):=fun k b hb=>zcG (ze defs (k+2)) (htake k) hb
 have hlacks:∀ k,Y2 (ze defs (k+3)):=fun k b hb pots size h1 h2=>zcy (ze defs (k+2)) (htake k) hb h1 h2
 have hcell0:∀ k,kc (ze defs (k+3)):=fun k b hb bs wet h1=>za6 (ze defs (k+2)) (htake k) hb bs h1
 have hboltR:∀ k,kd (ze defs (k+4)):=fun k b hb pots size h1 h2=>by show vW pots size (runI 6 [true,false,false,false] [0] jW (ze defs (k+3)) _);rw[zcc];exact zb7 (ze defs (k+3)) (htake (k+1)) (hlacks k) (hcell0 k) hb h1 h2
 have hdraw0R:∀ k,kU (ze defs (k+5)):=fun k b hb=>zcV (ze defs (k+4)) (hsizes (k+1)) (hboltR k) hb
 have hlack:∀ k,qh "_law_lack" (ze defs (k+1)):=fun k pots cs hb d hd=>zc8 (ze defs k) hb hd
 have hpans:∀ k,zcB (ze defs (k+3)):=fun k b hb pots cs hp hB=>zda (ze defs (k+2)) (htake k) (hlack (k+1)) hb hp hB
 have hword:∀ k,yS (ze defs (k+1)):=fun k g f=>zc0 (ze defs k) g f
 have hbars:∀ k,zbh (ze defs (k+2)):=fun k pots cs fr h1 h2 h3 h4=>zdc (ze defs (k+1)) (hword k) h1 h2 h3 h4
 have hlacking:∀ k,qh "lacking" (ze defs (k+1)):=fun k pots cs hb d hd=>YJ (ze defs k) hb hd
 have hneeded:∀ k,yA (ze defs (k+2)):=fun k pots cs hp hb=>(KC (ze defs (k+1)) (hlacking k) hp hb).trans (by rw[zdq])
 have hcells:∀ k,zec (ze defs (k+2)):=fun k pots cs D hp hb hD=>zcn (ze defs (k+1)) (hlacking k) hp hb hD
 have hlower:∀ k,JE (ze defs (k+1)):=fun k a b xs ys h1 h2=>zaR (ze defs k) a b h1 h2
 have hwax:∀ k,zb8 (ze defs (k+2)):=fun k pots cs hb d hd=>zf6 (ze defs (k+1)) (hlacking k) hb hd
 have hplaces:∀ k,VO (ze defs (k+3)):=fun k pots cs D hp hb hcl hD=>zab (ze defs (k+2)) (hcells k) (hlower (k+1)) (hwax k) hp hb hcl hD
 have hsettle:∀ k,Wo (ze defs (k+14)):=fun k=>zeo defs (fun _=>rfl) k
 have hfoll:∀ k,zbB (ze defs (k+15)):=fun k pots cs D hp hD=>zet hp hD cs (ze defs (k+14)) (hsettle k)
 have hrow:∀ k,zbF (ze defs (k+1)):=fun k D F n p hF he hn hp=>zf7 (ze defs k) hF he hn hp
 have hstr:∀ k,zeV (ze defs (k+16)):=fun k pots cs hp hb hcl=>Vx (ze defs (k+15)) (hneeded (k+13)) (hplaces (k+12)) (hfoll k) (hrow (k+14)) hp hb hcl
 have hkeep:∀ k,YD (ze defs (k+1)):=fun k pots cs hb d hd=>zdr (ze defs k) hb hd
 have hhas:∀ k,zeY (ze defs (k+1)):=fun k cs a hl=>zfg (ze defs k) hl a
 have hwax2:∀ k,Yg (ze defs (k+2)):=fun k cs xs hl hx=>zeh (ze defs (k+1)) (hhas k) hl hx
 have hsmoves:∀ k,J1 (ze defs (k+3)):=fun k pots P ds hb hP hd hl=>KS (ze defs (k+2)) (hkeep (k+1)) (hwax2 k) hb hP hd hl
 have hboiled:∀ k,yo (ze defs (k+1)):=fun k cs h=>KP (ze defs k) h
 have hplan:∀ k,zbL (ze defs (k+17)):=fun k pots cs fr hp hb hc hfl hf=>zdR (ze defs (k+16)) (hbars (k+14)) (hstr k) (hsmoves (k+13)) (hboiled (k+15)) hp hb hc hfl hf
 have hwhole:∀ k,vX (ze defs (k+1)):=fun k i=>zbd (ze defs k) i
 have hwholes:∀ k,yE (ze defs (k+2)):=fun k xs hx=>KF (ze defs (k+1)) (hwhole k) hx
 have hwaxgood:∀ k,WO (ze defs (k+3)):=fun k pots R0 xs hb h0 h1 h2 hl=>Yo (ze defs (k+2)) (hwholes k) hb h0 h1 h2 hl
 have hlfull:∀ k,YZ (ze defs (k+1)):=fun k=>⟨fun pots cs d hb hd=>zcN (ze defs k) hb hd,fun d=>KR (ze defs k) d⟩
 have hdipgood:∀ k,We (ze defs (k+2)):=fun k pots R0 fr d dn hb hfl hp h1 h2 h3 h4=>yX (ze defs (k+1)) (hwhole k) (hlfull k) hb hfl hp h1 h2 h3 h4
 have hlwax:∀ k,zbe (ze defs (k+1)):=fun k cs xs hl=>zdn (ze defs k) hl
 have hldip:∀ k,y0 (ze defs (k+1)):=fun k=>⟨fun pots cs d hp hb=>zdm (ze defs k) hp hb d,fun d=>za3 (ze defs k) d⟩
 have hlboil:∀ k,vM (ze defs (k+1)):=fun k pots cs hb=>zbH (ze defs k) hb
 have hwalk:∀ k,zb2 (ze defs (k+4)):=fun k pots fr R0 R1 d1 ms b hp hfl w hR hl=>zdF (ze defs (k+3)) ⟨hwaxgood k,hdipgood (k+1),hlwax (k+2),hldip (k+2),hlboil (k+2)⟩ hp hfl w hR hl
 have hlmet:∀ k,zcO (ze defs (k+1)):=fun k cs h=>zd3 (ze defs k) h
 have hneed:∀ k,zaL (ze defs (k+2)):=fun k pots cs hp hb=>zc2 (ze defs (k+1)) (hlack k) hp hb
 have hready:∀ k,kQ (ze defs (k+2)):=fun k pots cs left hb hl hll=>zbI (ze defs (k+1)) (hlack k) hb hl hll
 have hlwaxL:∀ k,kA (ze defs (k+1)):=fun k cs xs hl=>zbk (ze defs k) hl
 have hlrow:∀ k,zcF (ze defs (k+3)):=fun k pots cs b hp hb hc hB=>zdv (ze defs (k+2)) ⟨htake k,hready k,hlack (k+1),hlwaxL (k+1),hldip (k+1),hlboil (k+1)⟩ hp hb hc hB
 exact⟨hdraw0R (n+15),hpans (n+17),hplan (n+3),hwalk (n+16),hlmet (n+19),hneed (n+18),hlrow (n+17)⟩
theorem law_run(cf:CF)(h:zhG cf)(cells:List Int)(i l t s:Int)(hi:0<=i):∃ Γ',lawB.ex cf [] (none::some (Zy cells i l t s)::List.replicate (LN.length-2) none)=.ok (.ret (.d (.bool true)),Γ'):=by
 have hB:zu (Zy cells i l t s):=⟨_,_,_,_,_,hi,rfl⟩
 generalize Zy cells i l t s=b at hB
 obtain⟨pots,cs,b2,hp,hcl,hb,hb2,e2⟩:=h.draw0R b hB
 obtain⟨fr,b3,hfl,hf,hb3,e3⟩:=h.pans b2 hb2 pots cs (by omega) hb.1
 obtain⟨b4,Rx,left,boils,hb4,hRx,hll,hw0,e9⟩:=h.lrow pots cs b3 hp hb (by omega) hb3
 have e10:=h.lmet Rx (by omega)
 have e4:=h.plan pots cs fr hp hb (by omega) hfl hf
 have hpl:=zcT hp cs
 obtain⟨R2,hmet,hRl,hw⟩:=Kr hp hb hfl hf
 have e5:=h.walk pots fr cs R2 _ _ _ (by omega) hfl hw (by omega) (by omega)
 have e7:=h.lmet R2 (by omega)
 rw[hmet]at e7
 have e8:=h.need pots cs (by omega) hb.1
 have v8:=zp (zm cs pots)
 have v3:(OV.l ((fr.map PyData.bool).map OV.d)).view=zq fr:=jG _
 have hmv:(OV.l (zZ (ju cs (qD cs (zm cs pots))))).view=.list ((ju cs (qD cs (zm cs pots))).map Mv.D):=by
  have:zZ (ju cs (qD cs (zm cs pots)))=((ju cs (qD cs (zm cs pots))).map Mv.D).map OV.d:=by unfold zZ;rw[List.map_map];rfl
  rw[this];exact jG _
 have hml:(cs.map Cl.D).length<=1000000:=by simp;omega
 have hml2:(fr.map PyData.bool).length<=1000000:=by simp;omega
 have hlen:=zbq hp (qx cs pots) cs
 have hsf:∀ Γ,zA Γ (.dat (zq fr))=some (fr.map .bool):=fun _=>rfl
 have hff:PyData.list (fr.map .bool)=zq fr:=rfl
 have nl:=zE left
 have hle:left= []->((qD cs (zm cs pots)).length-1:Nat)<=(boils:Int):=fun q=>by
  have:=hw0 q
  omega
 generalize (qD cs (zm cs pots)).flatten=FL0 at *
 generalize (qD cs (zm cs pots)).length-1=bo at *
 generalize zZ (ju cs (qD cs (zm cs pots)))=MO at *
 generalize ju cs (qD cs (zm cs pots))=ms at *
 generalize ms.map Mv.D=M at *
 simp only[zh]at e8 v8
 generalize ((zm cs pots).map fun (i:Nat)=>OV.d (.int (i:Int)))=NO at *
 generalize za (zm cs pots)=NL at *
 generalize za FL0=FD at *
 have a0:∀ x y z:PyData,atI [x,y,z] 0=some x:=fun _ _ _=>rfl
 have a1:∀ x y z:PyData,atI [x,y,z] 1=some y:=fun _ _ _=>rfl
 have a2:∀ x y z:PyData,atI [x,y,z] 2=some z:=fun _ _ _=>rfl
 generalize zq fr=F at *
 generalize (fr.map PyData.bool).map OV.d=FO at *
 generalize fr.map PyData.bool=FB at *
 generalize y9 Rx=mb at *
 have hlb:left= []∨0<left.length:=by
  cases left with
  |nil=>exact .inl rfl
  |cons a q=>exact .inr (by simp)
 generalize zb Rx=BX at *
 simp only[lawB,LN]
 rcases hlb with q | q
 ·have hle:=hle q
  have nl0:(za left).length=0:=by rw[nl,q];rfl
  generalize za left=LD at *
  cases mb with
  |true=>simp![e2,zG,Q6,Jb,e3,v3,hsf,hff,e9,e10,nl0,hle,e4,hmv,e5,e7,e8,v8,a0,a1,a2,hml,hml2,isN,zl,zB]
  |false=>simp![e2,zG,Q6,Jb,e3,v3,hsf,hff,e9,e10,nl0,e8,v8,a0,a1,a2,hml,hml2,isN,zl,zB]
 ·have q0:(0:Int)<((za left).length:Int):=by omega
  have q1:0<(za left).length:=by omega
  generalize za left=LD at *
  simp![e2,zG,Q6,Jb,e3,v3,hsf,hff,e9,e10,q0,q1,e8,v8,a0,a1,a2,hml,hml2,isN,zl,zB]
structure Bi(mg:Str->Option Value):Prop where
 all:mg "all" =none
 any:mg "any" =none
 bool:mg "bool" =none
 enumerate:mg "enumerate" =none
 int:mg "int" =none
 isinstance:mg "isinstance" =none
 len:mg "len" =none
 list:mg "list" =none
 max:mg "max" =none
 min:mg "min" =none
 range:mg "range" =none
 set:mg "set" =none
 sorted:mg "sorted" =none
 str:mg "str" =none
 tuple:mg "tuple" =none
theorem Bi.of {K:PySem.W.Frag}{mg:Str->Option Value}{h:Heap}(X:K.In h) (G:h.Ns mainGlobals mg) (z0:PySem.W.nsIn K mainGlobals "all" =some none) (z1:PySem.W.nsIn K mainGlobals "any" =some none) (z2:PySem.W.nsIn K mainGlobals "bool" =some none) (z3:PySem.W.nsIn K mainGlobals "enumerate" =some none) (z4:PySem.W.nsIn K mainGlobals "int" =some none) (z5:PySem.W.nsIn K mainGlobals "isinstance" =some none) (z6:PySem.W.nsIn K mainGlobals "len" =some none) (z7:PySem.W.nsIn K mainGlobals "list" =some none) (z8:PySem.W.nsIn K mainGlobals "max" =some none) (z9:PySem.W.nsIn K mainGlobals "min" =some none) (z10:PySem.W.nsIn K mainGlobals "range" =some none) (z11:PySem.W.nsIn K mainGlobals "set" =some none) (z12:PySem.W.nsIn K mainGlobals "sorted" =some none) (z13:PySem.W.nsIn K mainGlobals "str" =some none) (z14:PySem.W.nsIn K mainGlobals "tuple" =some none):Bi mg :=
 ⟨PySem.W.mg_none_of X G z0,PySem.W.mg_none_of X G z1,PySem.W.mg_none_of X G z2,PySem.W.mg_none_of X G z3,PySem.W.mg_none_of X G z4,PySem.W.mg_none_of X G z5,PySem.W.mg_none_of X G z6,PySem.W.mg_none_of X G z7,PySem.W.mg_none_of X G z8,PySem.W.mg_none_of X G z9,PySem.W.mg_none_of X G z10,PySem.W.mg_none_of X G z11,PySem.W.mg_none_of X G z12,PySem.W.mg_none_of X G z13,PySem.W.mg_none_of X G z14⟩
section
variable {P:Program} {w:World} {K:PySem.W.Frag} {mg:Str->Option Value} {base:Heap}
theorem zaI(ns:List Int)(lo hi:Option Int):∃ ms:List Int,wJ (ns.map V.int) lo hi=ms.map V.int/\ms.length<=ns.length:=by
 refine⟨(ns.drop (HT.sIx (ns.map V.int).length 0 lo)).take (HT.sIx (ns.map V.int).length (ns.map V.int).length hi-HT.sIx (ns.map V.int).length 0 lo),?_,?_⟩
 ·unfold wJ
  rw[List.map_take,List.map_drop]
 ·rw[xW,List.length_drop];omega
theorem scBox:qN ["_law_script","_law_seed","_law_cell_here"] ["_law_script"] (defScope sBox):=⟨rfl,rfl,rfl,by decide +kernel,rfl,by decide +kernel,by decide +kernel⟩
theorem kn_box (D:Df K mg "_law_box" sBox ["_law_script"]) (B:Bi mg):Kn P w K mg base CX0 "_law_box" 1 (zay K) :=
 D.kn (k:=0) scBox (fun vs H Q E ⟨a,ns,e,_⟩=>by rw[e];rfl) fun f cdv A outer s H vs Q E hr ⟨a,ns,e,hS,hlen,kk⟩=>by
  subst e
  refine PSs.wp (Z5 (vZ (i:=1) scBox.nd rfl (Or.inl rfl) pe_int)
   (Z5 (zbv PassesOwn.never rfl (YY (ym kG (pv 0) v9 (Vd pe_int))) (kM (i:=2) scBox.nd rfl (Or.inl rfl))
    (vF (vZ (i:=1) scBox.nd rfl (Or.inl rfl) (WI za0 (WI yY (WI yY (WI zcE (pv 1) pe_int) (pv 2)) pe_int) pe_int))))
   (vF (zbs (zcu (zy (Zr Qp rfl B.list ZJ (zy (ym kG (pv 0) v9 (Vd pe_int)) pa_nil)) (zy pe_int (zy pe_int (zy pe_int (zy (pv 1) pa_nil)))))))))) ?_
  obtain⟨ms,ems,hms⟩:=zaI ns none (some 63)
  refine⟨_,rfl,_,rfl,a,_,rfl,hS,fun q nq=>⟨q,rfl,⟨_,SqL.of zx⟩,zca (K:=K) (a:=q) (xs:=wJ (ns.map V.int) none (some 63)) (fun i σ H2=>H2=upd H q (.lst (wJ (ns.map V.int) none (some 63)))/\∃ sd v,σ= [some (.ref a),some (.int sd),v])
   ⟨rfl,0,none,rfl⟩ (fun i σ H2 _ ⟨e,_⟩=>by rw[e];exact SqL.of zx) ?_ ?_⟩⟩
  ·rintro i x σ H2 hx ⟨rfl,sd,v,rfl⟩
   obtain⟨z,rfl⟩:∃ z,x=V.int z:=by
    rw[ems]at hx
    have:=xF hx
    obtain⟨z,_,rfl⟩:=xo.mp this
    exact⟨z,rfl⟩
   refine⟨_,rfl,_,_,rfl,rfl,.inr (by decide),_,rfl,_,_,rfl,rfl,_,_,rfl,rfl,_,_,rfl,rfl,(by show (0:Int)<2147483647;decide),?_⟩
   exact⟨rfl,_,_,rfl⟩
  ·rintro σ H2 ⟨rfl,sd,v,rfl⟩
   have s1:Same H (upd H q (.lst (wJ (ns.map V.int) none (some 63)))):=zM nq
   refine⟨_,rfl,_,rfl,a,_,rfl,s1.seq hS,fun q2 nq2=>⟨q2,_,rfl,.inl (SqL.of zx),fun l nl=>⟨_,rfl,(by show 5<=sizeLine;decide),fun b nb=>?_⟩⟩⟩
   have s2:=s1.trans (zM (o:=.lst (wJ (ns.map V.int) none (some 63))) nq2)
   have s3:=s2.trans (zM (o:=.lst (wJ (ns.map V.int) none (some 63))) nl)
   have hlb:l≠b:=fun e=>by rw[<- e,zx]at nb;cases nb
   refine kk b _ (s3.trans (zM nb)) (s3.free nb) (by rw[zx];exact fun z=>nomatch z) ⟨l,ms,0,0,0,sd,rfl,zx,?_,Int.le_refl 0⟩
   refine .list (vs:=ms.map V.int) (by rw[zn hlb,zx,ems]) hlb (RepL.ints ms)
theorem hbi(B:Bi mg):∀ x,W.bi.contains x=true->mg x=none:=by
 intro x h
 have h2:=uW.mp h
 simp only[W,xm,uG,or_false]at h2
 rcases h2 with rfl | rfl | rfl | rfl | rfl | rfl | rfl | rfl | rfl | rfl | rfl | rfl | rfl | rfl | rfl
 ·exact B.all
 ·exact B.any
 ·exact B.bool
 ·exact B.enumerate
 ·exact B.int
 ·exact B.isinstance
 ·exact B.len
 ·exact B.list
 ·exact B.max
 ·exact B.min
 ·exact B.range
 ·exact B.set
 ·exact B.sorted
 ·exact B.str
 ·exact B.tuple
theorem hfl:∀ x n,W.fl.contains (x,n)=true->∃ d,defs.find? (fun d=>decide (d.name=x))=some d/\d.mask.length=n:=by
 intro x n h
 have h2:=uW.mp h
 simp only[W,xm,uG,or_false,Prod.mk.injEq]at h2
 rcases h2 with ⟨rfl,rfl⟩ | ⟨rfl,rfl⟩ | ⟨rfl,rfl⟩ | ⟨rfl,rfl⟩ | ⟨rfl,rfl⟩ | ⟨rfl,rfl⟩ | ⟨rfl,rfl⟩ | ⟨rfl,rfl⟩ | ⟨rfl,rfl⟩ | ⟨rfl,rfl⟩ | ⟨rfl,rfl⟩ | ⟨rfl,rfl⟩ | ⟨rfl,rfl⟩ | ⟨rfl,rfl⟩ | ⟨rfl,rfl⟩ | ⟨rfl,rfl⟩ | ⟨rfl,rfl⟩ | ⟨rfl,rfl⟩ | ⟨rfl,rfl⟩ | ⟨rfl,rfl⟩ | ⟨rfl,rfl⟩ | ⟨rfl,rfl⟩ | ⟨rfl,rfl⟩ | ⟨rfl,rfl⟩ | ⟨rfl,rfl⟩ | ⟨rfl,rfl⟩ | ⟨rfl,rfl⟩ | ⟨rfl,rfl⟩ | ⟨rfl,rfl⟩ | ⟨rfl,rfl⟩ | ⟨rfl,rfl⟩ | ⟨rfl,rfl⟩ | ⟨rfl,rfl⟩ | ⟨rfl,rfl⟩ | ⟨rfl,rfl⟩ | ⟨rfl,rfl⟩ | ⟨rfl,rfl⟩ | ⟨rfl,rfl⟩ | ⟨rfl,rfl⟩ | ⟨rfl,rfl⟩<;>exact⟨_,rfl,rfl⟩
theorem hfx:∀ x n,W.fx.contains (x,n)=true->∃ d,defs.find? (fun d=>decide (d.name=x))=some d/\d.mask.length=n:=fun x n h=>nomatch h
theorem hexm {h:Heap}(X:K.In h) (G:h.Ns mainGlobals mg){C0:Addr}{C1:Addr}(n0:PySem.W.nsIn K mainGlobals "NoCell" =some (some (.ref C0))) (n1:PySem.W.nsIn K mainGlobals "Twice" =some (some (.ref C1))) (x0:PySem.W.excIn K C0 bmV "ValueError.__new__" =true) (x1:PySem.W.excIn K C1 bmV "ValueError.__new__" =true) (r0_0:(mroIn K C0).contains (.ref C0)=decide (("NoCell" :Str)= "NoCell")) (r0_1:(mroIn K C0).contains (.ref C1)=decide (("NoCell" :Str)= "Twice")) (r1_0:(mroIn K C1).contains (.ref C0)=decide (("Twice" :Str)= "NoCell")) (r1_1:(mroIn K C1).contains (.ref C1)=decide (("Twice" :Str)= "Twice")):(∀ x,W.ex.contains x=true->∃ C,mg x=some (.ref C)/\PySem.W.excIn K C bmV "ValueError.__new__" =true)/\∀ x C y C2,W.ex.contains x=true->mg x=some (.ref C)->W.ex.contains y=true->mg y=some (.ref C2)->(mroIn K C).contains (.ref C2)=decide (x=y):=by
 refine⟨fun x h=>?_,fun x C y C2 hx e1 hy e2=>?_⟩
 ·have h2:=uW.mp h
  simp only[W,xm,uG,or_false]at h2
  rcases h2 with rfl | rfl
  ·exact⟨C0,PySem.W.mg_of X G n0,x0⟩
  ·exact⟨C1,PySem.W.mg_of X G n1,x1⟩
 ·have h2:=uW.mp hx
  have h3:=uW.mp hy
  simp only[W,xm,uG,or_false]at h2 h3
  rcases h2 with rfl | rfl
  ·rw[PySem.W.mg_of X G n0]at e1
   cases e1
   rcases h3 with rfl | rfl
   ·rw[PySem.W.mg_of X G n0]at e2
    cases e2
    exact r0_0
   ·rw[PySem.W.mg_of X G n1]at e2
    cases e2
    exact r0_1
  ·rw[PySem.W.mg_of X G n1]at e1
   cases e1
   rcases h3 with rfl | rfl
   ·rw[PySem.W.mg_of X G n0]at e2
    cases e2
    exact r1_0
   ·rw[PySem.W.mg_of X G n1]at e2
    cases e2
    exact r1_1
theorem hgi:∀ x i,W.gi.contains (x,i)=true->∃ t,mg x=some (.int i t):=fun x i h=>nomatch h
theorem hgs:∀ x i,W.gs.contains (x,i)=true->∃ t,mg x=some (.str i t):=fun x i h=>nomatch h
theorem okS:JW LN ["_law_script"] (defScope sLaw)=true:=by kernel_rfl
theorem hdd (D0:Df K mg "with_wax" (top 6) ["bolt","cells"]) (D1:Df K mg "boiled" (top 7) ["bolt"]) (D2:Df K mg "has_cell" (top 8) ["bolt","at"]) (D3:Df K mg "lacking" (top 10) ["bolt","dye"]) (D4:Df K mg "needed" (top 11) ["bolt"]) (D5:Df K mg "bars" (top 12) ["bolt","fresh"]) (D6:Df K mg "bar_word" (top 13) ["gap","is_fresh"]) (D7:Df K mg "with_cells" (top 15) ["bolt","dyes"]) (D8:Df K mg "is_lower" (top 16) ["one","other"]) (D9:Df K mg "lacking_under_wax" (top 17) ["bolt","dye"]) (D10:Df K mg "stretches" (top 19) ["bolt"]) (D11:Df K mg "places_above" (top 20) ["bolt","dyes"]) (D12:Df K mg "followers" (top 21) ["above"]) (D13:Df K mg "settle" (top 22) ["at","above","follower","tried"]) (D14:Df K mg "row_behind" (top 23) ["dyes","follower","at"]) (D15:Df K mg "plan" (top 25) ["bolt","fresh"]) (D16:Df K mg "stretch_moves" (top 26) ["bolt","dyes"]) (D17:Df K mg "to_keep_off" (top 27) ["bolt","dye"]) (D18:Df K mg "_law_whole" (top 29) ["_law_found"]) (D19:Df K mg "_law_wholes" (top 30) ["_law_found"]) (D20:Df K mg "_law_mixed" (top 32) ["_law_number","_law_turn"]) (D21:Df K mg "_law_take" (top 33) ["_law_box_here","_law_many"]) (D22:Df K mg "_law_lacks" (top 34) ["_law_box_here","_law_pots","_law_size"]) (D23:Df K mg "_law_cell" (top 35) ["_law_box_here","_law_row_here","_law_loose","_law_wet"]) (D24:Df K mg "_law_bolt" (top 36) ["_law_box_here","_law_pots","_law_size","_law_loose"]) (D25:Df K mg "_law_sizes" (top 37) ["_law_box_here"]) (D26:Df K mg "_law_wax" (top 38) ["_law_rows","_law_cells"]) (D27:Df K mg "_law_dip" (top 39) ["_law_rows","_law_dye"]) (D28:Df K mg "_law_boil" (top 40) ["_law_rows"]) (D29:Df K mg "_law_full" (top 41) ["_law_rows","_law_dye"]) (D30:Df K mg "_law_lack" (top 42) ["_law_rows","_law_dye"]) (D31:Df K mg "_law_need" (top 43) ["_law_rows","_law_pots"]) (D32:Df K mg "_law_met" (top 44) ["_law_rows"]) (D33:Df K mg "_law_wax_good" (top 45) ["_law_move","_law_rows"]) (D34:Df K mg "_law_dip_good" (top 46) ["_law_move","_law_rows","_law_fresh","_law_dips"]) (D35:Df K mg "_law_walk" (top 47) ["_law_rows","_law_fresh","_law_moves"]) (D36:Df K mg "_law_draw" (top 48) ["_law_box_here","_law_loose"]) (D37:Df K mg "_law_pans" (top 49) ["_law_box_here","_law_rows","_law_pots"]) (D38:Df K mg "_law_ready" (top 50) ["_law_rows","_law_left"]) (D39:Df K mg "_law_row" (top 51) ["_law_box_here","_law_rows","_law_left"]):∀ d∈defs,Df K mg d.name d.st d.ps/\d.ok W=true:=by
 intro d h
 simp only[defs,xm,uG,or_false]at h
 rcases h with rfl | rfl | rfl | rfl | rfl | rfl | rfl | rfl | rfl | rfl | rfl | rfl | rfl | rfl | rfl | rfl | rfl | rfl | rfl | rfl | rfl | rfl | rfl | rfl | rfl | rfl | rfl | rfl | rfl | rfl | rfl | rfl | rfl | rfl | rfl | rfl | rfl | rfl | rfl | rfl
 ·exact⟨D0,J2⟩
 ·exact⟨D1,Ve⟩
 ·exact⟨D2,wr⟩
 ·exact⟨D3,wN⟩
 ·exact⟨D4,vt⟩
 ·exact⟨D5,Yi⟩
 ·exact⟨D6,wm⟩
 ·exact⟨D7,QH⟩
 ·exact⟨D8,J5⟩
 ·exact⟨D9,jC⟩
 ·exact⟨D10,Jr⟩
 ·exact⟨D11,ZL⟩
 ·exact⟨D12,Jo⟩
 ·exact⟨D13,vd⟩
 ·exact⟨D14,QW⟩
 ·exact⟨D15,y8⟩
 ·exact⟨D16,ZA⟩
 ·exact⟨D17,Ql⟩
 ·exact⟨D18,wZ⟩
 ·exact⟨D19,wB⟩
 ·exact⟨D20,wU⟩
 ·exact⟨D21,Vn⟩
 ·exact⟨D22,wY⟩
 ·exact⟨D23,v6⟩
 ·exact⟨D24,vY⟩
 ·exact⟨D25,wX⟩
 ·exact⟨D26,VZ⟩
 ·exact⟨D27,V1⟩
 ·exact⟨D28,Vi⟩
 ·exact⟨D29,W9⟩
 ·exact⟨D30,WX⟩
 ·exact⟨D31,Vs⟩
 ·exact⟨D32,V9⟩
 ·exact⟨D33,Q1⟩
 ·exact⟨D34,QD⟩
 ·exact⟨D35,vL⟩
 ·exact⟨D36,vk⟩
 ·exact⟨D37,vR⟩
 ·exact⟨D38,wO⟩
 ·exact⟨D39,V8⟩
end
noncomputable def dP(s:Stmt):Arguments:=match s with
 |.FunctionDef _ a _ _ _ _ _ _ _ _=>a
 |_=>⟨[],[],none,[],[],none,[]⟩
noncomputable abbrev dB:=L2.defBody
noncomputable abbrev dS:=L2.defScope
noncomputable abbrev dE(P:PySem.Params)(n:Str)(t:Nat)(v:Value):DictEntry:=.mk (PySem.PyData.keyHash P n) (.str n t) v
noncomputable abbrev oT (a:Array Value):Obj:=.mk (.type "tuple") none (.seq a 0) #[]
noncomputable abbrev oC (n:Str) (t l a f r x b c:Nat):Obj:=.mk (.type "code") none (.fields #[.str n t,.str n (t+1),.str "/claim/cut.py" (t+2),.int l 0,.int a 0,.int 0 0,.int 0 0,.int f 0,.ref r,.bool true,.int x 0,.ref b,.none,.none,.none,.ref c,.int ((t+3:Nat):Int) 0,.int l 0,.str "/claim/cut.py" (t+4)]) #[]
noncomputable abbrev oF (n:Str) (i:Nat) (m:Str) (t c:Nat):Obj:=.mk (.type "function") none (.func (.mk n n (dP (top i)) (.stmts (dB (top i))) (dS (top i)) 3 [] .none .none .none (.str m t) none (.ref c) .none 0)) #[]
noncomputable abbrev dR(P:PySem.Params)(n:Str)(t a:Nat):DictEntry:=.mk (PySem.PyData.keyHash P n) (.str n t) (.ref a)
noncomputable abbrev oZ:Obj:=.mk .none none (.fields #[]) #[]
noncomputable abbrev oG(n:Str)(i:Nat):Obj:=.mk .none none (.func (.mk n n (dP (top i)) (.stmts (dB (top i))) (dS (top i)) 0 [] .none .none .none .none none .none .none 0)) #[]
noncomputable abbrev oB:Obj:=.mk (.type "builtin_function_or_method") none (.fields #[.builtin "type.__prepare__",.type "type"]) #[]
noncomputable abbrev oI (a:Nat):Obj:=.mk (.type "builtin_function_or_method") none (.fields #[.builtin "object.__init_subclass__",.ref a]) #[]
noncomputable abbrev oS (a:Nat):Obj:=.mk (.type "super") none (.fields #[.ref a,.ref a,.ref a]) #[]
noncomputable abbrev oR (a b:Nat) (m:Str) (t:Nat):Obj:=.mk (.type "frame") none .plain #[some (.ref a),some (.ref 3),some (.ref b),none,some (.str m t),none,some (.ref 0)]
noncomputable abbrev oK (n:Str) (t l a x b:Nat):Obj:=.mk (.type "code") none (.fields #[.str n t,.str n (t+1),.str "/claim/cut.py" (t+2),.int l 0,.int 0 0,.int 0 0,.int 0 0,.int 0 0,.ref a,.bool false,.int x 0,.ref b,.none,.none,.none,.none,.int ((t+3:Nat):Int) 0,.int l 0,.str "/claim/cut.py" (t+4)]) #[]
noncomputable def v3:List (Nat×Nat)->List Value
 |[]=> []
 | (l,a)::r=>.int l 0::.int 0 0::.ref a::v3 r
noncomputable abbrev o3(l:List (Nat×Nat)):Obj:=.mk .none none (.fields (v3 l).toArray) #[]
noncomputable def K(P:PySem.Params):PySem.W.Frag :=
 (nat_lit 2,(PySem.Obj.mk .none none (.dict #[] 0) #[])) ::
 (nat_lit 3,(PySem.Obj.mk (.type "dict") none (.dict #[(dE P "__name__" 165 (.str "law_waxcloth_k27_whole_any_other_row" 423)),(dE P "__doc__" 166 .none),(dE P "__package__" 167 .none),(dE P "__loader__" 168 (.builtin "__main__.__loader__#opaque")),(dE P "__spec__" 169 .none),(dE P "__annotations__" 170 (.ref 6)),(dE P "__builtins__" 171 (.ref 4)),(dE P "__file__" 173 (.str "/claim/cut.py" 172)),(dE P "__cached__" 174 .none),(dE P "WaxError" 206 (.ref 24)),(dE P "NoCell" 222 (.ref 37)),(dE P "Twice" 238 (.ref 49)),(dE P "Barred" 263 (.ref 68)),(dE P "with_wax" 271 (.ref 75)),(dE P "boiled" 277 (.ref 80)),(dE P "has_cell" 285 (.ref 87)),(dE P "lacking" 293 (.ref 92)),(dE P "needed" 299 (.ref 97)),(dE P "bars" 314 (.ref 104)),(dE P "bar_word" 322 (.ref 111)),(dE P "with_cells" 330 (.ref 116)),(dE P "is_lower" 342 (.ref 123)),(dE P "lacking_under_wax" 348 (.ref 128)),(dE P "stretches" 356 (.ref 133)),(dE P "places_above" 362 (.ref 138)),(dE P "followers" 368 (.ref 143)),(dE P "settle" 379 (.ref 150)),(dE P "row_behind" 389 (.ref 157)),(dE P "plan" 405 (.ref 164)),(dE P "stretch_moves" 416 (.ref 171)),(dE P "to_keep_off" 422 (.ref 176)),(dE P "_law_whole" 431 (.ref 183)),(dE P "_law_wholes" 437 (.ref 188)),(dE P "_law_box" 446 (.ref 195)),(dE P "_law_mixed" 456 (.ref 202)),(dE P "_law_take" 466 (.ref 209)),(dE P "_law_lacks" 472 (.ref 214)),(dE P "_law_cell" 486 (.ref 221)),(dE P "_law_bolt" 492 (.ref 226)),(dE P "_law_sizes" 499 (.ref 233)),(dE P "_law_wax" 505 (.ref 238)),(dE P "_law_dip" 511 (.ref 243)),(dE P "_law_boil" 517 (.ref 248)),(dE P "_law_full" 523 (.ref 253)),(dE P "_law_lack" 529 (.ref 258)),(dE P "_law_need" 535 (.ref 263)),(dE P "_law_met" 541 (.ref 268)),(dE P "_law_wax_good" 547 (.ref 273)),(dE P "_law_dip_good" 557 (.ref 280)),(dE P "_law_walk" 569 (.ref 287)),(dE P "_law_draw" 579 (.ref 294)),(dE P "_law_pans" 585 (.ref 299)),(dE P "_law_ready" 591 (.ref 304)),(dE P "_law_row" 597 (.ref 309)),(dE P "law" 610 (.ref 316))] 55) #[])) ::
 (nat_lit 15,oT #[(.type "ValueError")]) ::
 (nat_lit 22,oT #[]) ::
 (nat_lit 23,(PySem.Obj.mk (.type "dict") none (.dict #[(dE P "__module__" 196 (.str "waxcloth.errors" 187)),(dE P "__firstlineno__" 200 (.int 2 199)),(dE P "__static_attributes__" 201 (.ref 22)),(dE P "__weakref__" 203 (.ref 25)),(dE P "__doc__" 204 .none)] 3) #[])) ::
 (nat_lit 24,(PySem.Obj.mk (.type "type") none (.cls (PySem.ClassData.mk "WaxError" [(.type "ValueError")] [(.ref 24),(.type "ValueError"),(.type "Exception"),(.type "BaseException"),(.type "object")] 23 "WaxError" true [] [(.ref 37),(.ref 49),(.ref 68)] false none false)) #[(Option.some (.ref 15)),none,(Option.some (.str "WaxError" 189)),(Option.some (.str "WaxError" 197)),(Option.some (.builtin "ValueError.__new__")),(Option.some (.bool true))])) ::
 (nat_lit 25,(PySem.Obj.mk (.type "getset_descriptor") none (.fields #[(.str "__weakref__" 202),(.ref 24),(.builtin "ExceptionGroup.__weakref__"),.none]) #[])) ::
 (nat_lit 28,oT #[(.ref 24)]) ::
 (nat_lit 35,oT #[]) ::
 (nat_lit 36,(PySem.Obj.mk (.type "dict") none (.dict #[(dE P "__module__" 214 (.str "waxcloth.errors" 187)),(dE P "__firstlineno__" 218 (.int 4 217)),(dE P "__static_attributes__" 219 (.ref 35)),(dE P "__doc__" 220 .none)] 2) #[])) ::
 (nat_lit 37,(PySem.Obj.mk (.type "type") none (.cls (PySem.ClassData.mk "NoCell" [(.ref 24)] [(.ref 37),(.ref 24),(.type "ValueError"),(.type "Exception"),(.type "BaseException"),(.type "object")] 36 "NoCell" true [] [] false none false)) #[(Option.some (.ref 28)),none,(Option.some (.str "NoCell" 207)),(Option.some (.str "NoCell" 215)),(Option.some (.builtin "ValueError.__new__")),(Option.some (.bool true))])) ::
 (nat_lit 40,oT #[(.ref 24)]) ::
 (nat_lit 47,oT #[]) ::
 (nat_lit 48,(PySem.Obj.mk (.type "dict") none (.dict #[(dE P "__module__" 230 (.str "waxcloth.errors" 187)),(dE P "__firstlineno__" 234 (.int 6 233)),(dE P "__static_attributes__" 235 (.ref 47)),(dE P "__doc__" 236 .none)] 2) #[])) ::
 (nat_lit 49,(PySem.Obj.mk (.type "type") none (.cls (PySem.ClassData.mk "Twice" [(.ref 24)] [(.ref 49),(.ref 24),(.type "ValueError"),(.type "Exception"),(.type "BaseException"),(.type "object")] 48 "Twice" true [] [] false none false)) #[(Option.some (.ref 40)),none,(Option.some (.str "Twice" 223)),(Option.some (.str "Twice" 231)),(Option.some (.builtin "ValueError.__new__")),(Option.some (.bool true))])) ::
 (nat_lit 52,oT #[(.ref 24)]) ::
 (nat_lit 59,oT #[]) ::
 (nat_lit 61,oT #[(.str "self" 254),(.str "bars" 255)]) ::
 (nat_lit 62,oT #[]) ::
 (nat_lit 64,(PySem.Obj.mk (.type "code") none (.fields #[(.str "__init__" 251),(.str "Barred.__init__" 252),(.str "/claim/cut.py" 253),(.int 10 0),(.int 2 0),(.int 0 0),(.int 0 0),(.int 3 0),(.ref 59),(.bool true),(.int 181 0),(.ref 60),.none,(.ref 61),(.ref 62),(.ref 63),(.int 256 0),(.int 10 0),(.str "/claim/cut.py" 257)]) #[])) ::
 (nat_lit 65,(PySem.Obj.mk (.type "function") none (.func (PySem.FuncData.mk "__init__" "Barred.__init__" (PySem.Arguments.mk [] [(PySem.Arg.mk "self" none (PySem.Pos.mk 10 17 10 21)),(PySem.Arg.mk "bars" none (PySem.Pos.mk 10 23 10 27))] none [] [] none []) (PySem.FuncBody.stmts [(.Expr (.Call (.Attribute (.Name "WaxError" (PySem.Pos.mk 11 8 11 16)) "__init__" (PySem.Pos.mk 11 8 11 25)) [(.Name "self" (PySem.Pos.mk 11 26 11 30)),(.Constant (PySem.Const.str "bars stand against the plan") 0 (PySem.Pos.mk 11 32 11 61))] [] (PySem.Pos.mk 11 8 11 62)) (PySem.Pos.mk 11 8 11 62)),(.Assign [(.Attribute (.Name "self" (PySem.Pos.mk 12 8 12 12)) "bars" (PySem.Pos.mk 12 8 12 17))] (.Call (.Name "list" (PySem.Pos.mk 12 20 12 24)) [(.Name "bars" (PySem.Pos.mk 12 25 12 29))] [] (PySem.Pos.mk 12 20 12 30)) (PySem.Pos.mk 12 8 12 30))]) (PySem.Scope.mk PySem.ScopeKind.function [("self",PySem.NameKind.local),("bars",PySem.NameKind.local),("WaxError",PySem.NameKind.globalImplicit),("list",PySem.NameKind.globalImplicit)] false false []) 3 [] .none .none .none (.str "waxcloth.errors" 187) none (.ref 64) .none 0)) #[])) ::
 (nat_lit 66,oT #[(.str "bars" 259)]) ::
 (nat_lit 67,(PySem.Obj.mk (.type "dict") none (.dict #[(dE P "__module__" 246 (.str "waxcloth.errors" 187)),(dE P "__firstlineno__" 250 (.int 8 249)),(dE P "__init__" 258 (.ref 65)),(dE P "__static_attributes__" 260 (.ref 66)),(dE P "__doc__" 261 .none)] 2) #[])) ::
 (nat_lit 68,(PySem.Obj.mk (.type "type") none (.cls (PySem.ClassData.mk "Barred" [(.ref 24)] [(.ref 68),(.ref 24),(.type "ValueError"),(.type "Exception"),(.type "BaseException"),(.type "object")] 67 "Barred" true [] [] false none false)) #[(Option.some (.ref 52)),none,(Option.some (.str "Barred" 239)),(Option.some (.str "Barred" 247)),(Option.some (.builtin "ValueError.__new__")),(Option.some (.bool true))])) ::
 (nat_lit 71,oT #[]) ::
 (nat_lit 74,oC "with_wax" 266 14 2 3 71 181 72 73) ::
 (nat_lit 75,oF "with_wax" 6 "waxcloth.bolt" 264 74) ::
 (nat_lit 76,oT #[]) ::
 (nat_lit 79,oC "boiled" 272 20 1 3 76 181 77 78) ::
 (nat_lit 80,oF "boiled" 7 "waxcloth.bolt" 264 79) ::
 (nat_lit 81,oT #[]) ::
 (nat_lit 83,oT #[(.str "bolt" 281),(.str "at" 282)]) ::
 (nat_lit 84,oT #[]) ::
 (nat_lit 86,(PySem.Obj.mk (.type "code") none (.fields #[(.str "has_cell" 278),(.str "has_cell" 279),(.str "/claim/cut.py" 280),(.int 22 0),(.int 2 0),(.int 0 0),(.int 0 0),(.int 3 0),(.ref 81),(.bool true),(.int 181 0),(.ref 82),.none,(.ref 83),(.ref 84),(.ref 85),(.int 283 0),(.int 22 0),(.str "/claim/cut.py" 284)]) #[])) ::
 (nat_lit 87,oF "has_cell" 8 "waxcloth.bolt" 264 86) ::
 (nat_lit 88,oT #[]) ::
 (nat_lit 91,oC "lacking" 288 25 2 3 88 181 89 90) ::
 (nat_lit 92,oF "lacking" 10 "waxcloth.needs" 286 91) ::
 (nat_lit 93,oT #[]) ::
 (nat_lit 96,oC "needed" 294 27 1 3 93 181 94 95) ::
 (nat_lit 97,oF "needed" 11 "waxcloth.needs" 286 96) ::
 (nat_lit 98,oT #[]) ::
 (nat_lit 100,oT #[(.str "bolt" 303),(.str "fresh" 304),(.str "told" 305),(.str "at" 306),(.str "stain" 307),(.str "waxed" 308),(.str "wish" 309),(.str "dye" 310),(.str "word" 311)]) ::
 (nat_lit 101,oT #[]) ::
 (nat_lit 103,(PySem.Obj.mk (.type "code") none (.fields #[(.str "bars" 300),(.str "bars" 301),(.str "/claim/cut.py" 302),(.int 32 0),(.int 2 0),(.int 0 0),(.int 0 0),(.int 3 0),(.ref 98),(.bool true),(.int 181 0),(.ref 99),.none,(.ref 100),(.ref 101),(.ref 102),(.int 312 0),(.int 32 0),(.str "/claim/cut.py" 313)]) #[])) ::
 (nat_lit 104,oF "bars" 12 "waxcloth.needs" 286 103) ::
 (nat_lit 105,oT #[]) ::
 (nat_lit 107,oT #[(.str "gap" 318),(.str "is_fresh" 319)]) ::
 (nat_lit 108,oT #[]) ::
 (nat_lit 110,(PySem.Obj.mk (.type "code") none (.fields #[(.str "bar_word" 315),(.str "bar_word" 316),(.str "/claim/cut.py" 317),(.int 40 0),(.int 2 0),(.int 0 0),(.int 0 0),(.int 3 0),(.ref 105),(.bool true),(.int 181 0),(.ref 106),.none,(.ref 107),(.ref 108),(.ref 109),(.int 320 0),(.int 40 0),(.str "/claim/cut.py" 321)]) #[])) ::
 (nat_lit 111,oF "bar_word" 13 "waxcloth.needs" 286 110) ::
 (nat_lit 112,oT #[]) ::
 (nat_lit 115,oC "with_cells" 325 49 2 3 112 181 113 114) ::
 (nat_lit 116,oF "with_cells" 15 "waxcloth.order" 323 115) ::
 (nat_lit 117,oT #[]) ::
 (nat_lit 119,oT #[(.str "one" 334),(.str "other" 335),(.str "dye" 336),(.str "cells" 337),(.str "other_dye" 338),(.str "other_cells" 339)]) ::
 (nat_lit 120,oT #[]) ::
 (nat_lit 122,(PySem.Obj.mk (.type "code") none (.fields #[(.str "is_lower" 331),(.str "is_lower" 332),(.str "/claim/cut.py" 333),(.int 51 0),(.int 2 0),(.int 0 0),(.int 0 0),(.int 3 0),(.ref 117),(.bool true),(.int 181 0),(.ref 118),.none,(.ref 119),(.ref 120),(.ref 121),(.int 340 0),(.int 51 0),(.str "/claim/cut.py" 341)]) #[])) ::
 (nat_lit 123,oF "is_lower" 16 "waxcloth.order" 323 122) ::
 (nat_lit 124,oT #[]) ::
 (nat_lit 127,oC "lacking_under_wax" 343 57 2 3 124 181 125 126) ::
 (nat_lit 128,oF "lacking_under_wax" 17 "waxcloth.order" 323 127) ::
 (nat_lit 129,oT #[]) ::
 (nat_lit 132,oC "stretches" 351 60 1 3 129 181 130 131) ::
 (nat_lit 133,oF "stretches" 19 "waxcloth.sharing" 349 132) ::
 (nat_lit 134,oT #[]) ::
 (nat_lit 137,oC "places_above" 357 65 2 3 134 181 135 136) ::
 (nat_lit 138,oF "places_above" 20 "waxcloth.sharing" 349 137) ::
 (nat_lit 139,oT #[]) ::
 (nat_lit 142,oC "followers" 363 74 1 3 139 181 140 141) ::
 (nat_lit 143,oF "followers" 21 "waxcloth.sharing" 349 142) ::
 (nat_lit 144,oT #[]) ::
 (nat_lit 146,oT #[(.str "at" 372),(.str "above" 373),(.str "follower" 374),(.str "tried" 375),(.str "place" 376)]) ::
 (nat_lit 147,oT #[]) ::
 (nat_lit 149,(PySem.Obj.mk (.type "code") none (.fields #[(.str "settle" 369),(.str "settle" 370),(.str "/claim/cut.py" 371),(.int 79 0),(.int 4 0),(.int 0 0),(.int 0 0),(.int 3 0),(.ref 144),(.bool true),(.int 181 0),(.ref 145),.none,(.ref 146),(.ref 147),(.ref 148),(.int 377 0),(.int 79 0),(.str "/claim/cut.py" 378)]) #[])) ::
 (nat_lit 150,oF "settle" 22 "waxcloth.sharing" 349 149) ::
 (nat_lit 151,oT #[]) ::
 (nat_lit 153,oT #[(.str "dyes" 383),(.str "follower" 384),(.str "at" 385),(.str "row" 386)]) ::
 (nat_lit 154,oT #[]) ::
 (nat_lit 156,(PySem.Obj.mk (.type "code") none (.fields #[(.str "row_behind" 380),(.str "row_behind" 381),(.str "/claim/cut.py" 382),(.int 87 0),(.int 3 0),(.int 0 0),(.int 0 0),(.int 3 0),(.ref 151),(.bool true),(.int 181 0),(.ref 152),.none,(.ref 153),(.ref 154),(.ref 155),(.int 387 0),(.int 87 0),(.str "/claim/cut.py" 388)]) #[])) ::
 (nat_lit 157,oF "row_behind" 23 "waxcloth.sharing" 349 156) ::
 (nat_lit 158,oT #[]) ::
 (nat_lit 160,oT #[(.str "bolt" 395),(.str "fresh" 396),(.str "found" 397),(.str "present" 398),(.str "others" 399),(.str "moves" 400),(.str "clean" 401),(.str "dyes" 402)]) ::
 (nat_lit 161,oT #[]) ::
 (nat_lit 163,(PySem.Obj.mk (.type "code") none (.fields #[(.str "plan" 392),(.str "plan" 393),(.str "/claim/cut.py" 394),(.int 95 0),(.int 2 0),(.int 0 0),(.int 0 0),(.int 3 0),(.ref 158),(.bool true),(.int 181 0),(.ref 159),.none,(.ref 160),(.ref 161),(.ref 162),(.int 403 0),(.int 95 0),(.str "/claim/cut.py" 404)]) #[])) ::
 (nat_lit 164,oF "plan" 25 "waxcloth.plans" 390 163) ::
 (nat_lit 165,oT #[]) ::
 (nat_lit 167,oT #[(.str "bolt" 409),(.str "dyes" 410),(.str "moves" 411),(.str "dye" 412),(.str "cells" 413)]) ::
 (nat_lit 168,oT #[]) ::
 (nat_lit 170,(PySem.Obj.mk (.type "code") none (.fields #[(.str "stretch_moves" 406),(.str "stretch_moves" 407),(.str "/claim/cut.py" 408),(.int 106 0),(.int 2 0),(.int 0 0),(.int 0 0),(.int 3 0),(.ref 165),(.bool true),(.int 181 0),(.ref 166),.none,(.ref 167),(.ref 168),(.ref 169),(.int 414 0),(.int 106 0),(.str "/claim/cut.py" 415)]) #[])) ::
 (nat_lit 171,oF "stretch_moves" 26 "waxcloth.plans" 390 170) ::
 (nat_lit 172,oT #[]) ::
 (nat_lit 175,oC "to_keep_off" 417 115 2 3 172 181 173 174) ::
 (nat_lit 176,oF "to_keep_off" 27 "waxcloth.plans" 390 175) ::
 (nat_lit 177,oT #[]) ::
 (nat_lit 179,oT #[(.str "_law_found" 428)]) ::
 (nat_lit 180,oT #[]) ::
 (nat_lit 182,(PySem.Obj.mk (.type "code") none (.fields #[(.str "_law_whole" 425),(.str "_law_whole" 426),(.str "/claim/cut.py" 427),(.int 118 0),(.int 1 0),(.int 0 0),(.int 0 0),(.int 3 0),(.ref 177),(.bool true),(.int 181 0),(.ref 178),.none,(.ref 179),(.ref 180),(.ref 181),(.int 429 0),(.int 118 0),(.str "/claim/cut.py" 430)]) #[])) ::
 (nat_lit 183,oF "_law_whole" 29 "law_waxcloth_k27_whole_any_other_row" 423 182) ::
 (nat_lit 184,oT #[]) ::
 (nat_lit 187,oC "_law_wholes" 432 120 1 3 184 181 185 186) ::
 (nat_lit 188,oF "_law_wholes" 30 "law_waxcloth_k27_whole_any_other_row" 423 187) ::
 (nat_lit 189,oT #[]) ::
 (nat_lit 191,oT #[(.str "_law_script" 441),(.str "_law_seed" 442),(.str "_law_cell_here" 443)]) ::
 (nat_lit 192,oT #[]) ::
 (nat_lit 194,(PySem.Obj.mk (.type "code") none (.fields #[(.str "_law_box" 438),(.str "_law_box" 439),(.str "/claim/cut.py" 440),(.int 122 0),(.int 1 0),(.int 0 0),(.int 0 0),(.int 3 0),(.ref 189),(.bool true),(.int 181 0),(.ref 190),.none,(.ref 191),(.ref 192),(.ref 193),(.int 444 0),(.int 122 0),(.str "/claim/cut.py" 445)]) #[])) ::
 (nat_lit 195,oF "_law_box" 31 "law_waxcloth_k27_whole_any_other_row" 423 194) ::
 (nat_lit 196,oT #[]) ::
 (nat_lit 198,oT #[(.str "_law_number" 450),(.str "_law_turn" 451),(.str "_law_one" 452),(.str "_law_two" 453)]) ::
 (nat_lit 199,oT #[]) ::
 (nat_lit 201,(PySem.Obj.mk (.type "code") none (.fields #[(.str "_law_mixed" 447),(.str "_law_mixed" 448),(.str "/claim/cut.py" 449),(.int 127 0),(.int 2 0),(.int 0 0),(.int 0 0),(.int 3 0),(.ref 196),(.bool true),(.int 181 0),(.ref 197),.none,(.ref 198),(.ref 199),(.ref 200),(.int 454 0),(.int 127 0),(.str "/claim/cut.py" 455)]) #[])) ::
 (nat_lit 202,oF "_law_mixed" 32 "law_waxcloth_k27_whole_any_other_row" 423 201) ::
 (nat_lit 203,oT #[]) ::
 (nat_lit 205,oT #[(.str "_law_box_here" 460),(.str "_law_many" 461),(.str "_law_left" 462),(.str "_law_cell_here" 463)]) ::
 (nat_lit 206,oT #[]) ::
 (nat_lit 208,(PySem.Obj.mk (.type "code") none (.fields #[(.str "_law_take" 457),(.str "_law_take" 458),(.str "/claim/cut.py" 459),(.int 131 0),(.int 2 0),(.int 0 0),(.int 0 0),(.int 3 0),(.ref 203),(.bool true),(.int 181 0),(.ref 204),.none,(.ref 205),(.ref 206),(.ref 207),(.int 464 0),(.int 131 0),(.str "/claim/cut.py" 465)]) #[])) ::
 (nat_lit 209,oF "_law_take" 33 "law_waxcloth_k27_whole_any_other_row" 423 208) ::
 (nat_lit 210,oT #[]) ::
 (nat_lit 213,oC "_law_lacks" 467 145 3 3 210 181 211 212) ::
 (nat_lit 214,oF "_law_lacks" 34 "law_waxcloth_k27_whole_any_other_row" 423 213) ::
 (nat_lit 215,oT #[]) ::
 (nat_lit 217,oT #[(.str "_law_box_here" 476),(.str "_law_row_here" 477),(.str "_law_loose" 478),(.str "_law_wet" 479),(.str "_law_stain" 480),(.str "_law_want" 481),(.str "_law_bit" 482),(.str "_law_shade" 483)]) ::
 (nat_lit 218,oT #[]) ::
 (nat_lit 220,(PySem.Obj.mk (.type "code") none (.fields #[(.str "_law_cell" 473),(.str "_law_cell" 474),(.str "/claim/cut.py" 475),(.int 162 0),(.int 4 0),(.int 0 0),(.int 0 0),(.int 3 0),(.ref 215),(.bool true),(.int 181 0),(.ref 216),.none,(.ref 217),(.ref 218),(.ref 219),(.int 484 0),(.int 162 0),(.str "/claim/cut.py" 485)]) #[])) ::
 (nat_lit 221,oF "_law_cell" 35 "law_waxcloth_k27_whole_any_other_row" 423 220) ::
 (nat_lit 222,oT #[]) ::
 (nat_lit 225,oC "_law_bolt" 487 173 4 3 222 181 223 224) ::
 (nat_lit 226,oF "_law_bolt" 36 "law_waxcloth_k27_whole_any_other_row" 423 225) ::
 (nat_lit 227,oT #[]) ::
 (nat_lit 229,oT #[(.str "_law_box_here" 496)]) ::
 (nat_lit 230,oT #[]) ::
 (nat_lit 232,(PySem.Obj.mk (.type "code") none (.fields #[(.str "_law_sizes" 493),(.str "_law_sizes" 494),(.str "/claim/cut.py" 495),(.int 177 0),(.int 1 0),(.int 0 0),(.int 0 0),(.int 3 0),(.ref 227),(.bool true),(.int 181 0),(.ref 228),.none,(.ref 229),(.ref 230),(.ref 231),(.int 497 0),(.int 177 0),(.str "/claim/cut.py" 498)]) #[])) ::
 (nat_lit 233,oF "_law_sizes" 37 "law_waxcloth_k27_whole_any_other_row" 423 232) ::
 (nat_lit 234,oT #[]) ::
 (nat_lit 237,oC "_law_wax" 500 181 2 3 234 181 235 236) ::
 (nat_lit 238,oF "_law_wax" 38 "law_waxcloth_k27_whole_any_other_row" 423 237) ::
 (nat_lit 239,oT #[]) ::
 (nat_lit 242,oC "_law_dip" 506 183 2 3 239 181 240 241) ::
 (nat_lit 243,oF "_law_dip" 39 "law_waxcloth_k27_whole_any_other_row" 423 242) ::
 (nat_lit 244,oT #[]) ::
 (nat_lit 247,oC "_law_boil" 512 190 1 3 244 181 245 246) ::
 (nat_lit 248,oF "_law_boil" 40 "law_waxcloth_k27_whole_any_other_row" 423 247) ::
 (nat_lit 249,oT #[]) ::
 (nat_lit 252,oC "_law_full" 518 192 2 3 249 181 250 251) ::
 (nat_lit 253,oF "_law_full" 41 "law_waxcloth_k27_whole_any_other_row" 423 252) ::
 (nat_lit 254,oT #[]) ::
 (nat_lit 257,oC "_law_lack" 524 194 2 3 254 181 255 256) ::
 (nat_lit 258,oF "_law_lack" 42 "law_waxcloth_k27_whole_any_other_row" 423 257) ::
 (nat_lit 259,oT #[]) ::
 (nat_lit 262,oC "_law_need" 530 196 2 3 259 181 260 261) ::
 (nat_lit 263,oF "_law_need" 43 "law_waxcloth_k27_whole_any_other_row" 423 262) ::
 (nat_lit 264,oT #[]) ::
 (nat_lit 267,oC "_law_met" 536 198 1 3 264 181 265 266) ::
 (nat_lit 268,oF "_law_met" 44 "law_waxcloth_k27_whole_any_other_row" 423 267) ::
 (nat_lit 269,oT #[]) ::
 (nat_lit 272,oC "_law_wax_good" 542 200 2 3 269 181 270 271) ::
 (nat_lit 273,oF "_law_wax_good" 45 "law_waxcloth_k27_whole_any_other_row" 423 272) ::
 (nat_lit 274,oT #[]) ::
 (nat_lit 276,oT #[(.str "_law_move" 551),(.str "_law_rows" 552),(.str "_law_fresh" 553),(.str "_law_dips" 554)]) ::
 (nat_lit 277,oT #[]) ::
 (nat_lit 279,(PySem.Obj.mk (.type "code") none (.fields #[(.str "_law_dip_good" 548),(.str "_law_dip_good" 549),(.str "/claim/cut.py" 550),(.int 207 0),(.int 4 0),(.int 0 0),(.int 0 0),(.int 3 0),(.ref 274),(.bool true),(.int 181 0),(.ref 275),.none,(.ref 276),(.ref 277),(.ref 278),(.int 555 0),(.int 207 0),(.str "/claim/cut.py" 556)]) #[])) ::
 (nat_lit 280,oF "_law_dip_good" 46 "law_waxcloth_k27_whole_any_other_row" 423 279) ::
 (nat_lit 281,oT #[]) ::
 (nat_lit 283,oT #[(.str "_law_rows" 561),(.str "_law_fresh" 562),(.str "_law_moves" 563),(.str "_law_dips" 564),(.str "_law_boils" 565),(.str "_law_move" 566)]) ::
 (nat_lit 284,oT #[]) ::
 (nat_lit 286,(PySem.Obj.mk (.type "code") none (.fields #[(.str "_law_walk" 558),(.str "_law_walk" 559),(.str "/claim/cut.py" 560),(.int 211 0),(.int 3 0),(.int 0 0),(.int 0 0),(.int 3 0),(.ref 281),(.bool true),(.int 181 0),(.ref 282),.none,(.ref 283),(.ref 284),(.ref 285),(.int 567 0),(.int 211 0),(.str "/claim/cut.py" 568)]) #[])) ::
 (nat_lit 287,oF "_law_walk" 47 "law_waxcloth_k27_whole_any_other_row" 423 286) ::
 (nat_lit 288,oT #[]) ::
 (nat_lit 290,oT #[(.str "_law_box_here" 573),(.str "_law_loose" 574),(.str "_law_pots" 575),(.str "_law_size" 576)]) ::
 (nat_lit 291,oT #[]) ::
 (nat_lit 293,(PySem.Obj.mk (.type "code") none (.fields #[(.str "_law_draw" 570),(.str "_law_draw" 571),(.str "/claim/cut.py" 572),(.int 230 0),(.int 2 0),(.int 0 0),(.int 0 0),(.int 3 0),(.ref 288),(.bool true),(.int 181 0),(.ref 289),.none,(.ref 290),(.ref 291),(.ref 292),(.int 577 0),(.int 230 0),(.str "/claim/cut.py" 578)]) #[])) ::
 (nat_lit 294,oF "_law_draw" 48 "law_waxcloth_k27_whole_any_other_row" 423 293) ::
 (nat_lit 295,oT #[]) ::
 (nat_lit 298,oC "_law_pans" 580 233 3 3 295 181 296 297) ::
 (nat_lit 299,oF "_law_pans" 49 "law_waxcloth_k27_whole_any_other_row" 423 298) ::
 (nat_lit 300,oT #[]) ::
 (nat_lit 303,oC "_law_ready" 586 235 2 3 300 181 301 302) ::
 (nat_lit 304,oF "_law_ready" 50 "law_waxcloth_k27_whole_any_other_row" 423 303) ::
 (nat_lit 305,oT #[]) ::
 (nat_lit 308,oC "_law_row" 592 237 3 3 305 181 306 307) ::
 (nat_lit 309,oF "_law_row" 51 "law_waxcloth_k27_whole_any_other_row" 423 308) ::
 (nat_lit 310,oT #[]) ::
 (nat_lit 312,oT #[(.str "_law_script" 601),(.str "_law_box_here" 602),(.str "_law_pots" 603),(.str "_law_rows" 604),(.str "_law_fresh" 605),(.str "_law_other" 606),(.str "_law_walked" 607)]) ::
 (nat_lit 313,oT #[]) ::
 (nat_lit 315,(PySem.Obj.mk (.type "code") none (.fields #[(.str "law" 598),(.str "law" 599),(.str "/claim/cut.py" 600),(.int 252 0),(.int 1 0),(.int 0 0),(.int 0 0),(.int 3 0),(.ref 310),(.bool true),(.int 181 0),(.ref 311),.none,(.ref 312),(.ref 313),(.ref 314),(.int 608 0),(.int 252 0),(.str "/claim/cut.py" 609)]) #[])) ::
 (nat_lit 316,oF "law" 52 "law_waxcloth_k27_whole_any_other_row" 423 315):: []
noncomputable abbrev RR:PySem.W.RowW:=PySem.W.OpenRow.toRowW (PySem.W.OpenLaw.row PySem.Challenge.rw_waxcloth_k27_whole_any_other_row)
noncomputable def Q:Program:={ RR.prog with main:={ RR.prog.main with body:= [top 1,top 2,top 3,top 4,top 6,top 7,top 8,top 10,top 11,top 12,top 13,top 15,top 16,top 17,top 19,top 20,top 21,top 22,top 23,top 25,top 26,top 27,top 29,top 30,top 31,top 32,top 33,top 34,top 35,top 36,top 37,top 38,top 39,top 40,top 41,top 42,top 43,top 44,top 45,top 46,top 47,top 48,top 49,top 50,top 51,top 52] } }
noncomputable def asL:List Nat:= [2,3,15,22,23,24,25,28,35,36,37,40,47,48,49,52,59,61,62,64,65,66,67,68,71,74,75,76,79,80,81,83,84,86,87,88,91,92,93,96,97,98,100,101,103,104,105,107,108,110,111,112,115,116,117,119,120,122,123,124,127,128,129,132,133,134,137,138,139,142,143,144,146,147,149,150,151,153,154,156,157,158,160,161,163,164,165,167,168,170,171,172,175,176,177,179,180,182,183,184,187,188,189,191,192,194,195,196,198,199,201,202,203,205,206,208,209,210,213,214,215,217,218,220,221,222,225,226,227,229,230,232,233,234,237,238,239,242,243,244,247,248,249,252,253,254,257,258,259,262,263,264,267,268,269,272,273,274,276,277,279,280,281,283,284,286,287,288,290,291,293,294,295,298,299,300,303,304,305,308,309,310,312,313,315,316]
theorem asE:∀ P,asL=(K P).map (·.1):=fun _=>by kernel_rfl
noncomputable def zhd(P:PySem.Params):List (Nat×Obj) :=
 (0,PySem.W.boot_o_0 P) ::
 (1,PySem.W.boot_o_1 P) ::
 (4,PySem.W.boot_o_4 P) ::
 (5,PySem.W.boot_o_5 P) ::
 (6,PySem.W.boot_o_6 P) ::
 (7,PySem.W.boot_o_7 P) ::
 (8,PySem.W.boot_o_8 P) ::
 (9,PySem.W.boot_o_9 P) ::
 (10,PySem.W.boot_o_10 P) ::
 (11,oT #[]) ::
 (12,(o3 [(2,20),(4,33),(6,45),(8,57),(14,74),(20,79),(22,86),(25,91),(27,96),(32,103),(40,110),(49,115),(51,122),(57,127),(60,132),(65,137),(74,142),(79,149),(87,156),(95,163),(106,170),(115,175),(118,182),(120,187),(122,194),(127,201),(131,208),(145,213),(162,220),(173,225),(177,232),(181,237),(183,242),(190,247),(192,252),(194,257),(196,262),(198,267),(200,272),(207,279),(211,286),(230,293),(233,298),(235,303),(237,308),(252,315)])) ::
 (13,oK "<module>" 182 1 11 181 12) ::
 (14,oR 13 3 "__main__" 164) ::
 (16,oB) ::
 (17,(PySem.Obj.mk (.type "dict") none (.dict #[(dE P "__module__" 196 (.str "waxcloth.errors" 187)),(dE P "__qualname__" 198 (.str "WaxError" 197)),(dE P "__firstlineno__" 200 (.int 2 199)),dR P "__static_attributes__" 201 22] 4) #[])) ::
 (18,oT #[]) ::
 (19,oZ) ::
 (20,oK "WaxError" 191 2 18 181 19) ::
 (21,oR 20 17 "waxcloth.errors" 187) ::
 (26,oS 24) ::
 (27,oI 24) ::
 (29,oB) ::
 (30,(PySem.Obj.mk (.type "dict") none (.dict #[(dE P "__module__" 214 (.str "waxcloth.errors" 187)),(dE P "__qualname__" 216 (.str "NoCell" 215)),(dE P "__firstlineno__" 218 (.int 4 217)),dR P "__static_attributes__" 219 35] 4) #[])) ::
 (31,oT #[]) ::
 (32,oZ) ::
 (33,oK "NoCell" 209 4 31 181 32) ::
 (34,oR 33 30 "waxcloth.errors" 187) ::
 (38,oS 37) ::
 (39,oI 37) ::
 (41,oB) ::
 (42,(PySem.Obj.mk (.type "dict") none (.dict #[(dE P "__module__" 230 (.str "waxcloth.errors" 187)),(dE P "__qualname__" 232 (.str "Twice" 231)),(dE P "__firstlineno__" 234 (.int 6 233)),dR P "__static_attributes__" 235 47] 4) #[])) ::
 (43,oT #[]) ::
 (44,oZ) ::
 (45,oK "Twice" 225 6 43 181 44) ::
 (46,oR 45 42 "waxcloth.errors" 187) ::
 (50,oS 49) ::
 (51,oI 49) ::
 (53,oB) ::
 (54,(PySem.Obj.mk (.type "dict") none (.dict #[(dE P "__module__" 246 (.str "waxcloth.errors" 187)),(dE P "__qualname__" 248 (.str "Barred" 247)),(dE P "__firstlineno__" 250 (.int 8 249)),dR P "__init__" 258 65,dR P "__static_attributes__" 260 66] 5) #[])) ::
 (55,oT #[]) ::
 (56,(PySem.Obj.mk .none none (.fields #[(.int 10 0),(.int 4 0),(.ref 64)]) #[])) ::
 (57,oK "Barred" 241 8 55 181 56) ::
 (58,oR 57 54 "waxcloth.errors" 187) ::
 (60,oZ) ::
 (63,(PySem.Obj.mk .none none (.func (PySem.FuncData.mk "__init__" "Barred.__init__" (PySem.Arguments.mk [] [(PySem.Arg.mk "self" none (PySem.Pos.mk 10 17 10 21)),(PySem.Arg.mk "bars" none (PySem.Pos.mk 10 23 10 27))] none [] [] none []) (PySem.FuncBody.stmts [(.Expr (.Call (.Attribute (.Name "WaxError" (PySem.Pos.mk 11 8 11 16)) "__init__" (PySem.Pos.mk 11 8 11 25)) [(.Name "self" (PySem.Pos.mk 11 26 11 30)),(.Constant (PySem.Const.str "bars stand against the plan") 0 (PySem.Pos.mk 11 32 11 61))] [] (PySem.Pos.mk 11 8 11 62)) (PySem.Pos.mk 11 8 11 62)),(.Assign [(.Attribute (.Name "self" (PySem.Pos.mk 12 8 12 12)) "bars" (PySem.Pos.mk 12 8 12 17))] (.Call (.Name "list" (PySem.Pos.mk 12 20 12 24)) [(.Name "bars" (PySem.Pos.mk 12 25 12 29))] [] (PySem.Pos.mk 12 20 12 30)) (PySem.Pos.mk 12 8 12 30))]) (PySem.Scope.mk PySem.ScopeKind.function [("self",PySem.NameKind.local),("bars",PySem.NameKind.local),("WaxError",PySem.NameKind.globalImplicit),("list",PySem.NameKind.globalImplicit)] false false []) 0 [] .none .none .none .none none .none .none 0)) #[])) ::
 (69,oS 68) ::
 (70,oI 68) ::
 (72,oZ) ::
 (73,oG "with_wax" 6) ::
 (77,oZ) ::
 (78,oG "boiled" 7) ::
 (82,oZ) ::
 (85,oG "has_cell" 8) ::
 (89,oZ) ::
 (90,oG "lacking" 10) ::
 (94,oZ) ::
 (95,oG "needed" 11) ::
 (99,oZ) ::
 (102,oG "bars" 12) ::
 (106,oZ) ::
 (109,oG "bar_word" 13) ::
 (113,oZ) ::
 (114,oG "with_cells" 15) ::
 (118,oZ) ::
 (121,oG "is_lower" 16) ::
 (125,oZ) ::
 (126,oG "lacking_under_wax" 17) ::
 (130,oZ) ::
 (131,oG "stretches" 19) ::
 (135,oZ) ::
 (136,oG "places_above" 20) ::
 (140,oZ) ::
 (141,oG "followers" 21) ::
 (145,oZ) ::
 (148,oG "settle" 22) ::
 (152,oZ) ::
 (155,oG "row_behind" 23) ::
 (159,oZ) ::
 (162,oG "plan" 25) ::
 (166,oZ) ::
 (169,oG "stretch_moves" 26) ::
 (173,oZ) ::
 (174,oG "to_keep_off" 27) ::
 (178,oZ) ::
 (181,oG "_law_whole" 29) ::
 (185,oZ) ::
 (186,oG "_law_wholes" 30) ::
 (190,oZ) ::
 (193,oG "_law_box" 31) ::
 (197,oZ) ::
 (200,oG "_law_mixed" 32) ::
 (204,oZ) ::
 (207,oG "_law_take" 33) ::
 (211,oZ) ::
 (212,oG "_law_lacks" 34) ::
 (216,oZ) ::
 (219,oG "_law_cell" 35) ::
 (223,oZ) ::
 (224,oG "_law_bolt" 36) ::
 (228,oZ) ::
 (231,oG "_law_sizes" 37) ::
 (235,oZ) ::
 (236,oG "_law_wax" 38) ::
 (240,oZ) ::
 (241,oG "_law_dip" 39) ::
 (245,oZ) ::
 (246,oG "_law_boil" 40) ::
 (250,oZ) ::
 (251,oG "_law_full" 41) ::
 (255,oZ) ::
 (256,oG "_law_lack" 42) ::
 (260,oZ) ::
 (261,oG "_law_need" 43) ::
 (265,oZ) ::
 (266,oG "_law_met" 44) ::
 (270,oZ) ::
 (271,oG "_law_wax_good" 45) ::
 (275,oZ) ::
 (278,oG "_law_dip_good" 46) ::
 (282,oZ) ::
 (285,oG "_law_walk" 47) ::
 (289,oZ) ::
 (292,oG "_law_draw" 48) ::
 (296,oZ) ::
 (297,oG "_law_pans" 49) ::
 (301,oZ) ::
 (302,oG "_law_ready" 50) ::
 (306,oZ) ::
 (307,oG "_law_row" 51) ::
 (311,oZ) ::
 (314,oG "law" 52):: []
noncomputable def mix:Nat->Nat->List (Nat×Obj)->List (Nat×Obj)->List Obj
 |0,_,_,_=> []
 |n+1,i,(a,x)::l,(b,y)::r=>match Nat.beq a i with
  |true=>x::mix n (i+1) l ((b,y)::r)
  |false=>y::mix n (i+1) ((a,x)::l) r
 |n+1,i,(_,x)::l,[]=>x::mix n (i+1) l []
 |n+1,i,[],(_,y)::r=>y::mix n (i+1) [] r
 |_+1,_,[],[]=> []
noncomputable def ev:Bool->List Obj->List Obj
 |_,[]=> []
 |true,x::r=>x::ev false r
 |false,_::r=>ev true r
noncomputable def bt:Nat->List Obj->PySem.W.BT
 |0,_=>.nil
 |_+1,[]=>.nil
 |n+1,x::r=>.node x (bt n (ev true r)) (bt n (ev false r))
noncomputable def lf:Life:=(.mk [] [] [] 0 [] [] false #[] [] 0 false false false 0 [2000,10,10] false 0 true [] [] 0 false)
noncomputable def zha(P:PySem.Params):List Obj:=mix 317 0 (K P) (zhd P)
noncomputable def zfv:Env:={ scope:=RR.prog.main.scope,locals:=mainNs,globals:=mainNs,cells:= [],code:=.ref 13,frame:=some 14 }
noncomputable def bH:List Stmt:=PySem.W.behindTheImports RR.prog
noncomputable def cH:Code:=.body bH zfv
noncomputable abbrev BH:List Frame:= [PySem.W.topFrame ⟨0,0,0,0⟩]
noncomputable def zgk (P:PySem.Params):List Obj:= [PySem.W.boot_o_0 P,PySem.W.boot_o_1 P,PySem.W.boot_o_2 P,PySem.W.boot_o_3 P,PySem.W.boot_o_4 P,PySem.W.boot_o_5 P,PySem.W.boot_o_6 P,PySem.W.boot_o_7 P,PySem.W.boot_o_8 P,PySem.W.boot_o_9 P,PySem.W.boot_o_10 P,oT #[],oZ,oK "<module>" 182 1 11 181 12,oR 13 3 "__main__" 164]
set_option maxHeartbeats 0 in
theorem preH:∀ w:World,(fun os=>PySem.W.topGo treeTable RR.prog w 11 (some (.ref 6)) 12 ⟨PySem.W.boot_heap w.params,Array.mk [],PySem.W.boot_drawn,PySem.W.boot_toks,os⟩ (PySem.W.topStub RR.prog))=fun os=>some (⟨⟨(zgk w.params).toArray,lf⟩,Array.mk [],PySem.W.boot_drawn,187,os⟩,⟨denote treeTable cH,cH,⟨0,0,0,0⟩,BH⟩):=fun w=>by kernel_rfl
noncomputable def tr0(P:PySem.Params):PySem.W.BT:=bt 14 (zgk P)
set_option maxHeartbeats 0 in
theorem zfU:∀ w:World,(fun os=>PySem.W.segRun treeTable RR.prog w 11 (some (.ref 6)) 1 1 ⟨⟨(zgk w.params).toArray,lf⟩,Array.mk [],PySem.W.boot_drawn,187,os⟩ (PySem.W.blockOf bH zfv cH ⟨0,0,0,0⟩ BH))=fun os=>some (.next,(PySem.W.SharedT.mk (tr0 w.params) 15 lf (Array.mk []) PySem.W.boot_drawn 187 os).abs,cH,⟨0,0,0,0⟩):=fun w=>by kernel_rfl
noncomputable def tr1(P:PySem.Params):PySem.W.BT:=bt 14 (zha P)
noncomputable def zho:List Stmt:=bH
set_option maxHeartbeats 0 in
theorem zhh:∀ w:World,(fun os=>PySem.W.segRunT treeTable RR.prog w 11 (some (.ref 6)) 1 2132 (PySem.W.SharedT.mk (tr0 w.params) 15 lf (Array.mk []) PySem.W.boot_drawn 187 os) (PySem.W.piecesOf zho zfv cH ⟨0,0,0,0⟩ BH))=fun os=>some (.next,(PySem.W.SharedT.mk (tr1 w.params) 317 lf (Array.mk []) PySem.W.boot_drawn 611 os),cH,⟨252,0,260,101⟩):=fun w=>by kernel_rfl
noncomputable def hE(P:PySem.Params):Heap:=⟨(zha P).toArray,lf⟩
set_option maxHeartbeats 0 in
theorem finH:∀ w:World,(fun os=>PySem.W.topRun treeTable RR.prog w 11 (some (.ref 6)) 2 (PySem.W.SharedT.mk (tr1 w.params) 317 lf (Array.mk []) PySem.W.boot_drawn 611 os).abs ⟨PySem.W.doneF .next,cH,⟨252,0,260,101⟩,BH⟩)=fun os=>some ⟨hE w.params,Array.mk [],PySem.W.boot_drawn,611,os⟩:=fun w=>by kernel_rfl
theorem zhP:bH=zho++([]):=by kernel_rfl
theorem runH(w:World)(os:OsState):PySem.W.topRun treeTable RR.prog w 11 (some (.ref 6)) (12+(1+(2132+2))) ⟨PySem.W.boot_heap w.params,Array.mk [],PySem.W.boot_drawn,PySem.W.boot_toks,os⟩ (PySem.W.topStub RR.prog)=some ⟨hE w.params,Array.mk [],PySem.W.boot_drawn,611,os⟩:=by
 refine PySem.W.go_top (congrFun (preH w) os) (PySem.W.piece_block (congrFun (zfU w) os) ?_)
 rw[zhP]
 exact PySem.W.piece_app (PySem.W.segRun_of (congrFun (zhh w) os)) (PySem.W.piece_nil (congrFun (finH w) os))
noncomputable abbrev XtH:Shared->Bool:=fun s=>PySem.W.xlAt Q [] s&&PySem.W.recOk (PySem.W.RowW.records RR) s
set_option maxHeartbeats 0 in
theorem zfj:∀ w:World,(fun os=>((PySem.W.staticsOk (importedModules RR.prog.main.body) (PySem.W.boot_heap w.params) (hE w.params)&&PySem.W.namesBound RR.prog (hE w.params)&&PySem.W.gensDone ⟨hE w.params,Array.mk [],PySem.W.boot_drawn,611,os⟩&&PySem.W.laidKept (PySem.W.boot_heap w.params) (hE w.params)),PySem.W.openSeen Q [] (importedModules RR.prog.main.body) XtH true ⟨hE w.params,Array.mk [],PySem.W.boot_drawn,611,os⟩,(PySem.W.Hook.obs (PySem.W.kHook K asL asE)) ⟨hE w.params,Array.mk [],PySem.W.boot_drawn,611,os⟩))=fun _=>(true,PySem.W.openGood Q [],PySem.W.Hook.val (PySem.W.kHook K asL asE) w):=fun w=>by kernel_rfl
theorem zhJ:PySem.W.opening RR.prog=PySem.W.plainProg RR.prog.main.scope.names:=by kernel_rfl
theorem zfQ:∀ s,fenceModules? RR.prog s=some s:=fun s=>by kernel_rfl
theorem zgS:∀ w:World,((PySem.W.boot_heap w.params).isNs mainGlobals&&(Array.mk ([]:List GenState)).size==0,(PySem.W.boot_heap w.params).objs.size,(PySem.W.boot_heap w.params).nsMap mainGlobals "__annotations__")=(true,11,(some (.ref 6))):=fun w=>by kernel_rfl
theorem left:PySem.W.LeftO RR.prog Q [] XtH (PySem.W.Hook.obs (PySem.W.kHook K asL asE)) (PySem.W.Hook.val (PySem.W.kHook K asL asE)) 4388 :=
 PySem.W.LeftO.of_pieces (PySem.W.boot_open zhJ (by decide +kernel) zfQ) zgS runH (by decide +kernel) zfj
set_option maxHeartbeats 0 in
theorem saidL:PySem.W.OpenLaw.wellSaid PySem.Challenge.rw_waxcloth_k27_whole_any_other_row=true:=by kernel_rfl
end Wx
open PySem PySem.W PyProof.Rows
set_option maxHeartbeats 0 in
theorem PySem.Challenge.cw_waxcloth_k27_whole_any_other_row_holds : PySem.Challenge.rw_waxcloth_k27_whole_any_other_row.Holds := by
 w_on;refine PySem.W.holds_law Wx.saidL fun said=>?_
 refine PySem.W.holds_open (q:=Wx.Q) (loose:= []) (XP:=PySem.W.XL Wx.Q []) (YP:=PySem.W.Hook.says (PySem.W.kHook Wx.K Wx.asL Wx.asE)) (N:=4388) Wx.left (PySem.W.Hook.of (PySem.W.kHook Wx.K Wx.asL Wx.asE)) (PySem.W.Hook.keeps (PySem.W.kHook Wx.K Wx.asL Wx.asE)) (fun s e=>PySem.W.xl_of s (Bool.and_eq_true_iff.mp e).1) PySem.W.XL.keeps (by rfl) (by rfl) (by rfl) (fun s e=>PySem.W.recFacts_of (Bool.and_eq_true_iff.mp e).2) (by rfl) (by first | assumption | decide +kernel) (by decide +kernel) ⟨rfl,rfl,rfl,rfl,rfl,by decide +kernel⟩ ?hw ?hc
 (case hw=>w_witness2)
 k_fill
 refine L2.walkL (l:=PySem.Challenge.rw_waxcloth_k27_whole_any_other_row) (k:=22) (st:=Wx.sLaw) rfl rfl ⟨rfl,by decide,by decide⟩ (fun w h Y=>PySem.W.kIn_of Y) ?F
 case F=>
  intro w mg fa h KX G hmg
  have HD:∀ d∈Wx.defs,L2.Df (L2.KOf KX) mg d.name d.st d.ps/\d.ok Wx.W=true:=by
   refine' Wx.hdd ?_ ?_ ?_ ?_ ?_ ?_ ?_ ?_ ?_ ?_ ?_ ?_ ?_ ?_ ?_ ?_ ?_ ?_ ?_ ?_ ?_ ?_ ?_ ?_ ?_ ?_ ?_ ?_ ?_ ?_ ?_ ?_ ?_ ?_ ?_ ?_ ?_ ?_ ?_ ?_
   all_goals (dsimp only [L2.KOf];(first | refine' L2.Df.of KX G ?a ?l ?c ?k (fun _ _ _ _ _ _ us hl=>match us,hl with | [_],_=>rfl) | refine' L2.Df.of KX G ?a ?l ?c ?k (fun _ _ _ _ _ _ us hl=>match us,hl with | [_,_],_=>rfl) | refine' L2.Df.of KX G ?a ?l ?c ?k (fun _ _ _ _ _ _ us hl=>match us,hl with | [_,_,_],_=>rfl) | refine' L2.Df.of KX G ?a ?l ?c ?k (fun _ _ _ _ _ _ us hl=>match us,hl with | [_,_,_,_],_=>rfl));(case a=>k_is);(case l=>k_is);(case c=>k_is);(case k=>k_is))
  have DB:L2.Df (L2.KOf KX) mg "_law_box" Wx.sBox ["_law_script"]:=by
   dsimp only [L2.KOf]
   refine' L2.Df.of KX G ?a ?l ?c ?k (fun _ _ _ _ _ _ us hl=>match us,hl with | [_],_=>rfl)
   (case a=>k_is);(case l=>k_is);(case c=>k_is);(case k=>k_is)
  have B:Wx.Bi mg:=by
   refine' Wx.Bi.of KX G ?_ ?_ ?_ ?_ ?_ ?_ ?_ ?_ ?_ ?_ ?_ ?_ ?_ ?_ ?_
   all_goals k_is
  have L:L2.Dl (L2.KOf KX) "law" Wx.sLaw fa "_law_script" :=by
   dsimp only [L2.KOf]
   refine' L2.Dl.of KX G hmg ?a ?l ?c ?k ?b
   (case a=>k_is);(case l=>k_is);(case c=>k_is);(case k=>k_is)
   (case b=>exact fun s u=>.of_eq rfl)
  have HX:=by
   refine' Wx.hexm KX G ?n0 ?n1 ?x0 ?x1 ?r0_0 ?r0_1 ?r1_0 ?r1_1
   (case n0=>k_is)
   (case n1=>k_is)
   (case x0=>kernel_rfl)
   (case x1=>kernel_rfl)
   (case r0_0=>kernel_rfl)
   (case r0_1=>kernel_rfl)
   (case r1_0=>kernel_rfl)
   (case r1_1=>kernel_rfl)
  refine⟨L,fun fd Ff base=>?_⟩
  exact L3.law_ok Ff Wx.okS (Wx.kn_box DB B) (by decide) (L3.wk_all HD Wx.hfl (Wx.hbi B) Wx.hgi Wx.hgs Wx.hfx HX.1 HX.2 20) (by decide) rfl rfl rfl rfl (by first | exact Or.inl rfl | exact Or.inr rfl) rfl Wx.okLaw (fun cells i l t s hi=>Wx.law_run _ (Wx.ok27 0) cells i l t s hi)
