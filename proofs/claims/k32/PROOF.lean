import PyProof.Rows.All
import Wide.All
import OpenK.AllK
import Wide.FinOn
import Lean
import PyProof.EqAt
import PyProof.EqKinds
import PyProof.TupleCall
import PyProof.NeData
import PyProof.DictCompW
import PyProof.WalksEnum
import PyProof.Rows.SortWalk
import PyProof.Rows.SetFrom
import PyProof.SetKind
import PyProof.SetRoads
import PyProof.Tail
import PyProof.FactsAll.set_2
import KE.KRevIter
import PyProof.Rows.StrWeight2
import PyProof.Rows.StrNews2
import PyProof.CallStr
import PyProof.FString
import PyProof.StrBlockH
import PyProof.SliceStr2
import KE.KIntText
import PyProof.Rows.StrNews
import PyProof.StrLoop
import PyProof.StrCalls
import PyProof.StrWalks
import PyProof.ZipIter
import PyProof.WalksMore
import KE.KDictList
import PyProof.Rows.SortStr
import PyProof.DictWalks
import PyProof.DictItems
import KE.KPairComp
import PyProof.Rows.ListMul
import PyProof.StrLawsTight
import PyProof.StrLawsChain
import PyProof.Rows.StrSliceCases
import PyProof.Rows.StrClose5
import PyProof.Rows.StrJoinMade
import KE.IntTextLaws
import PyProof.StrBlockI
import PySem.Challenge.RW_waxcloth_k32_a_book_refused
set_option maxHeartbeats 0
set_option maxRecDepth 100000
set_option bootstrap.genMatcherCode false
set_option compiler.extract_closed false
abbrev xa:=@Bool.and_eq_true
abbrev xb:=@List.getElem?_eq_some_iff
abbrev xc:=@List.getElem?_append_left
abbrev xf:=@List.getElem?_append_right
abbrev xg:=@List.getElem?_set_ne
abbrev xh:=@List.getElem?_set_self
abbrev xi:=@Nat.le_refl
abbrev xj:=@List.mem_cons_of_mem
abbrev xk:=@List.length_cons
abbrev xl:=@Nat.ne_of_lt
abbrev xm:=@List.map_cons
abbrev xn:=@Nat.lt_of_lt_of_le
abbrev xo:=@List.size_toArray
abbrev xp:=@List.mem_cons_self
abbrev xq:=@List.forall_mem_cons
abbrev xr:=@List.lookup_cons
abbrev xt:=@List.length_map
abbrev xu:=@List.mem_cons
abbrev xv:=@List.mem_append_right
abbrev xw:=@Bool.false_eq_true
abbrev xy:=@Bool.and_eq_true_iff
abbrev xz:=@List.getElem?_eq_none
abbrev xA:=@List.getElem?_map
abbrev xB:=@List.all_eq_true
abbrev xC:=@Nat.le_trans
abbrev xD:=@List.getElem?_eq_getElem
abbrev xE:=@List.mem_append
abbrev xF:=@List.length_append
abbrev xG:=@List.nodup_cons
abbrev xH:=@Bool.or_eq_true
abbrev xI:=@List.mem_map
abbrev xJ:=@List.length_take
abbrev xK:=@List.getElem?_replicate
abbrev xL:=@List.length_set
abbrev xM:=@List.getElem?_take_of_lt
abbrev xN:=@List.append_nil
abbrev xO:=@Nat.lt_irrefl
abbrev xP:=@List.any_cons
abbrev xQ:=@List.elem_iff
abbrev xR:=@List.filterMap_cons
abbrev xS:=@Array.length_toList
abbrev xT:=@List.replicate_succ
abbrev xU:=@List.mem_append_left
abbrev xV:=@Nat.zero_le
abbrev xX:=@List.map_map
abbrev xY:=@Array.getElem?_eq_some_iff
abbrev xZ:=@List.nil_append
abbrev ua:=@Nat.le_of_lt
abbrev ub:=@List.mem_of_getElem?
abbrev uc:=@List.flatten_cons
abbrev ud:=@List.append_assoc
abbrev ue:=@List.ext_getElem?
abbrev uf:=@List.cons_append
abbrev ug:=@List.not_mem_nil
abbrev uh:=@List.getElem?_cons_succ
abbrev ui:=@Bool.eq_iff_iff
abbrev uj:=@List.all_cons
abbrev uk:=@List.length_replicate
abbrev ul:=@List.getD_eq_getElem?_getD
abbrev um:=@List.length_drop
abbrev uo:=@List.getElem_mem
abbrev uq:=@List.drop_eq_getElem_cons
abbrev ur:=@List.getElem?_range
abbrev ut:=@Nat.mul_le_mul_left
abbrev uu:=@List.mem_filterMap
abbrev uv:=@Bool.false_ne_true
abbrev uw:=@Int.emod_lt_of_pos
abbrev ux:=@Nat.ne_of_gt
abbrev uy:=@List.map_nil
abbrev uz:=@Array.all_eq_true
abbrev uA:=@List.length_eq_one_iff
abbrev uC:=@List.drop_length
abbrev uD:=@Int.emod_nonneg
set_option Elab.async false
set_option linter.all false
namespace L2
open PySem PySem.Spec PyProof.Rows
noncomputable abbrev Key:=Sum Int Str
noncomputable def vm:Key->Value->Bool
 |.inl k,v=>Value.isInt k v
 |.inr x,v=>Value.isStrOf x v
noncomputable def keyH(w:World):Key->Int
 |.inl k=>hashInt k
 |.inr x=>hashStr w x
theorem zE:∀ {k:Key}{v:Value},vm k v=true->(∃ i t,k=Sum.inl i/\v=Value.int i t)∨(∃ x t,k=Sum.inr x/\v=Value.str x t)
 |.inl i,v,h=>by
  obtain⟨t,e⟩:=Value.isInt_shape (k:=i) (v:=v) h
  exact .inl ⟨i,t,rfl,e⟩
 |.inr x,v,h=>by
  obtain⟨t,e⟩:=Value.isStrOf_shape (x:=x) (v:=v) h
  exact .inr ⟨x,t,rfl,e⟩
theorem Ke(i:Int)(t:Tok):vm (.inl i) (.int i t)=true:=by simp[vm,Value.isInt]
theorem Kf(x:Str)(t:Tok):vm (.inr x) (.str x t)=true:=by simp[vm,Value.isStrOf]
theorem zfl(a b:Int):decide ((Sum.inl a:Key)=Sum.inl b)=(a==b):=by
 by_cases e:a=b
 ·subst e;simp
 ·have h:¬ (Sum.inl a:Key)=Sum.inl b:=fun q=>e (Sum.inl.inj q)
  rw[decide_eq_false h]
  exact (beq_eq_false_iff_ne.mpr e).symm
theorem zfo(a b:Str):decide ((Sum.inr a:Key)=Sum.inr b)=decide (a=b):=by
 by_cases e:a=b
 ·subst e;simp
 ·have h:¬ (Sum.inr a:Key)=Sum.inr b:=fun q=>e (Sum.inr.inj q)
  rw[decide_eq_false h,decide_eq_false e]
theorem zfm(a:Int)(b:Str):decide ((Sum.inl a:Key)=Sum.inr b)=false:=decide_eq_false (fun q=>nomatch q)
theorem zfn(a:Str)(b:Int):decide ((Sum.inr a:Key)=Sum.inl b)=false:=decide_eq_false (fun q=>nomatch q)
noncomputable def qG(prog:Program)(w:World):PySem.KeyKind prog w Key where
 is:=vm
 hash:=keyH w
 inj:=fun v a b ha hb=>by
  rcases zE ha with ⟨i,t,rfl,rfl⟩ | ⟨x,t,rfl,rfl⟩
  ·rcases zE hb with ⟨j,u,rfl,e⟩ | ⟨y,u,rfl,e⟩
   ·injection e with e1 _;rw[e1]
   ·exact nomatch e
  ·rcases zE hb with ⟨j,u,rfl,e⟩ | ⟨y,u,rfl,e⟩
   ·exact nomatch e
   ·injection e with e1 _;rw[e1]
 byValue:=fun k v h=>by
  rcases zE h with ⟨i,t,rfl,rfl⟩ | ⟨x,t,rfl,rfl⟩<;>rfl
 pyHash:=fun hv h=>by
  rcases zE hv with ⟨i,t,rfl,rfl⟩ | ⟨x,t,rfl,rfl⟩
  ·exact wpAny_pyHash_int h
  ·exact wpAny_pyHash_str h
 eqBool:=fun hu hv h=>by
  rcases zE hu with ⟨i,t,rfl,rfl⟩ | ⟨x,t,rfl,rfl⟩
  ·rcases zE hv with ⟨j,u,rfl,rfl⟩ | ⟨y,u,rfl,rfl⟩
   ·rw[zfl]at h;exact wpAny_eqBool_int h
   ·rw[zfm]at h;exact SeqAt.EqAt.int_str i t y u _ _ _ _ h
  ·rcases zE hv with ⟨j,u,rfl,rfl⟩ | ⟨y,u,rfl,rfl⟩
   ·rw[zfn]at h;exact SeqAt.EqAt.str_int x t j u _ _ _ _ h
   ·rw[zfo]at h;exact wpAny_eqBool_str h
 «strs»:=fun k x t v h=>by
  rcases zE h with ⟨i,u,rfl,e⟩ | ⟨y,u,rfl,e⟩
  ·exact nomatch e
  ·injection e with e1 _
   subst e1
   cases v<;>rfl
theorem V7(prog:Program)(w:World)(i:Int)(t:Tok):(qG prog w).is (.inl i) (.int i t)=true:=Ke i t
theorem V8(prog:Program)(w:World)(x:Str)(t:Tok):(qG prog w).is (.inr x) (.str x t)=true:=Kf x t
inductive V where
 |non | bl (b:Bool) | int (i:Int) | str (x:Str) | byt (b:Array UInt8) | flt (b:UInt64) | ref (a:Addr) | ty (n:String)
 deriving DecidableEq
noncomputable def RelV:V->Value->Prop
 |.non,u=>u=Value.none
 |.bl b,u=>u=Value.bool b
 |.int i,u=>∃ t,u=Value.int i t
 |.str x,u=>∃ t,u=Value.str x t
 |.byt b,u=>∃ t,u=Value.bytes b t
 |.flt b,u=>∃ t,u=Value.float b t
 |.ref a,u=>u=Value.ref a
 |.ty n,u=>u=Value.type n
noncomputable abbrev Vals:List V->List Value->Prop:=Paired RelV
theorem Vals.length{xs:List V}{us:List Value}(r:Vals xs us):xs.length=us.length:=Paired.length r
theorem Vals.get:∀ {xs:List V}{us:List Value}{i:Nat}{x:V},Vals xs us->xs[i]?=some x->∃ u,us[i]?=some u/\RelV x u
 |_,_,_,_,.nil,e=>by simp at e
 |_,_,0,_,.cons r _,e=>by simp at e;subst e;exact⟨_,rfl,r⟩
 |_,_,i+1,x,.cons _ t,e=>by
  obtain⟨u,h1,h2⟩:=Vals.get (i:=i) (x:=x) t (by simpa using e)
  exact⟨u,by simpa using h1,h2⟩
theorem Vals.set{x:V}{u:Value}(r:RelV x u):∀ {xs:List V}{us:List Value}(i:Nat),Vals xs us->Vals (xs.set i x) (us.set i u)
 |_,_,_,.nil=>.nil
 |_,_,0,.cons _ t=>.cons r t
 |_,_,i+1,.cons q t=>.cons q (Vals.set r i t)
theorem Vals.append:∀ {xs ys:List V}{us ws:List Value},Vals xs us->Vals ys ws->Vals (xs++ys) (us++ws)
 |_,_,_,_,.nil,s=>s
 |_,_,_,_,.cons r t,s=>.cons r (Vals.append t s)
theorem Vals.take:∀ {xs:List V}{us:List Value}(n:Nat),Vals xs us->Vals (xs.take n) (us.take n)
 |_,_,0,_=>.nil
 |_,_,_+1,.nil=>.nil
 |_,_,n+1,.cons r t=>.cons r (Vals.take n t)
theorem Vals.drop:∀ {xs:List V}{us:List Value}(n:Nat),Vals xs us->Vals (xs.drop n) (us.drop n)
 |_,_,0,r=>r
 |_,_,_+1,.nil=>.nil
 |_,_,n+1,.cons _ t=>Vals.drop n t
noncomputable def RelO:Option V->Option Value->Prop
 |some v,some u=>RelV v u
 |none,none=>True
 |_,_=>False
noncomputable def KV{κ:Type}:List (κ×V)->List (κ×Value)->Prop:=Paired fun (p:κ×V) (q:κ×Value)=>p.1=q.1/\RelV p.2 q.2
noncomputable def kV:Key->V
 |.inl i=>.int i
 |.inr x=>.str x
inductive HO where
 /-- a list -/
 |lst (xs:List V)
 /-- a tuple (never changes) -/
 |tup (xs:List V)
 /-- a dict whose keys are ints and texts;one whose keys are tuples of ints and texts (the empty one is zU) -/
 |dK (kvs:List (Key×V)) | dT (kvs:List (List Key×V))
 /-- a set of ints: its members,its size -/
 |set (S:Int->Bool) (n:Nat)
 /-- an instance of the class at C,its dict at dx,its attributes -/
 |ins (C dx:Addr) (fs:List (Str×V))
 /-- the dict of the instance at x -/
 |own (x:Addr)
 /-- the dict of an exception -/
 |xd (fs:List (Str×V))
 /-- a bound method,f of x -/
 |met (f x:Addr)
 /-- a range object lo,lo+1,.. below hi -/
 |rng (lo hi:Int)
 /-- a thing that is known to the object (the script;a dict while a loop walks it): read,never written while it is so -/
 |frz (o:Obj) (u:HO)
 /-- a code object's table -/
 |tbl (ps:Array Value)
 /-- any other thing,by what is true of its one object (a def of one's own: SetO a S n:=HO.ext fun h=>..) -/
 |ext (φ:Heap->Prop)
noncomputable abbrev Hp:=Addr->Option HO
noncomputable def upd(H:Hp)(a:Addr)(o:HO):Hp:=fun b=>if b=a then some o else H b
theorem zf{H:Hp}{a:Addr}{o:HO}:upd H a o a=some o:=by unfold upd;rw[if_pos rfl]
theorem zd{H:Hp}{a b:Addr}{o:HO}(h:b≠a):upd H a o b=H b:=by unfold upd;rw[if_neg h]
theorem zg8{H:Hp}{a b:Addr}{o u:HO}(h:H a=some o)(h':H b=some u)(d:o≠u):a≠b:=by
 intro e;subst e;rw[h]at h';exact d (Option.some.inj h')
theorem zA{H:Hp}{a b:Addr}{o:HO}(h:H a=some o)(h':H b=none):a≠b:=by
 intro e;subst e;rw[h]at h';cases h'
section
variable (P:Program) (w:World)
noncomputable def ObjOk(H:Hp)(h:Heap)(a:Addr):HO->Prop
 |.lst xs=>xs.length<=sizeLine/\∃ (its:List Value) (n:Nat),Vals xs its/\h.get? a=some { cls:=.type "list",data:=.seq its.toArray n }
 |.tup xs=>xs.length<=sizeLine/\∃ its:List Value,Vals xs its/\IsTup h a its.toArray
 |.dK kvs=>kvs.length<=sizeLine/\(a==sysModules)=false/\∃ vs,KV kvs vs/\h.DictOf (qG P w) a vs
 |.dT kvs=>kvs.length<=sizeLine/\(a==sysModules)=false/\∃ xs:List (List Key×Addr×Value),
   Paired (fun (p:List Key×V) (q:List Key×Addr×Value)=>p.1=q.1/\H q.2.1=some (.tup (p.1.map kV))/\RelV p.2 q.2.2) kvs xs /\
   ∃ o es ep,h.get? a=some o/\o.ExactDict/\o.data=.dict es ep/\es.toList=xs.map (entryOfKey (tupleKind (qG P w)))/\(xs.map (·.1)).Nodup
 |.set S n=>h.SetOf (intKind P w) a S n
 |.ins C dx fs=>H dx=some (.own a)/\fs.length<=1000/\dx≠a/\h.get? a=some (PySem.W.instObj C dx) /\
   ∃ mA,h.Ns1 dx mA/\(∀ f,RelO (fs.lookup f) (mA f))/\PySem.Within mA (fs.map (·.1))
 |.own _=>∃ o,h.get? a=some o
 |.xd fs=>∃ mA,h.Ns1 a mA/\∀ f,RelO (fs.lookup f) (mA f)
 |.rng lo hi=>∃ t u v,h.get? a=some { cls:=.type "range",data:=.fields #[.int lo t,.int hi u,.int 1 v] }
 |.frz o u=>h.get? a=some o/\ObjOk H h a u
 |.tbl ps=>h.get? a=some { cls:=.none,data:=.fields ps }
 |.met f x=>h.get? a=some (PySem.W.methodObj (.ref f) (.ref x))
 |.ext φ=>φ h/\(∃ o,h.get? a=some o)/\∀ h1 h2:Heap,φ h1->(∀ o,h1.get? a=some o->h2.get? a=some o)->φ h2
noncomputable def HOk(H:Hp)(h:Heap):Prop:=∀ a o,H a=some o->ObjOk P w H h a o
end
section
variable {P:Program} {w:World} {H H':Hp} {h h':Heap} {a:Addr} {o:HO}
theorem ObjOk.lt(x:ObjOk P w H h a o):a<h.objs.size:=by
 cases o with
 |lst xs=>obtain⟨_,_,_,_,e⟩:=x;exact Heap.lt_size e
 |tup xs=>obtain⟨_,_,_,p⟩:=x;exact p.lt
 |dK kvs=>obtain⟨_,_,_,_,o,_,_,e,_⟩:=x;exact Heap.lt_size e
 |dT kvs=>obtain⟨_,_,_,_,o,_,_,e,_⟩:=x;exact Heap.lt_size e
 |set S n=>obtain⟨o,_,_,_,e,_⟩:=x;exact Heap.lt_size e
 |ins C dx fs=>obtain⟨_,_,_,e,_⟩:=x;exact Heap.lt_size e
 |own y=>obtain⟨_,e⟩:=x;exact Heap.lt_size e
 |xd fs=>obtain⟨_,⟨_,_,_,e,_⟩,_⟩:=x;exact Heap.lt_size e
 |rng lo hi=>obtain⟨_,_,_,e⟩:=x;exact Heap.lt_size e
 |frz ob u=>obtain⟨e,_⟩:=x;exact Heap.lt_size e
 |tbl ps=>exact Heap.lt_size (show h.get? a=some _ from x)
 |met f y=>exact Heap.lt_size (show h.get? a=some _ from x)
 |ext φ=>obtain⟨_,⟨_,e⟩,_⟩:=x;exact Heap.lt_size e
theorem Paired.mapP{α β:Type}{F G:α->β->Prop}:∀ {l₁:List α} {l₂:List β},Paired F l₁ l₂->(∀ a b,F a b->G a b)->Paired G l₁ l₂
 |_,_,.nil,_=>.nil
 |_,_,.cons r t,f=>.cons (f _ _ r) (Paired.mapP t f)
theorem ObjOk.stay(x:ObjOk P w H h a o)(k:∀ b u,(b=a∨H b=some (.own a))->h.get? b=some u->h'.get? b=some u)
  (ho:∀ b,H b=some (.own a)->H' b=some (.own a)) (ht:∀ b xs,H b=some (.tup xs)->H' b=some (.tup xs)):ObjOk P w H' h' a o:=by
 induction o with
 |lst xs=>obtain⟨z,its,n,r,e⟩:=x;exact⟨z,its,n,r,k _ _ (.inl rfl) e⟩
 |tup xs=>obtain⟨z,its,r,ob,e,c⟩:=x;exact⟨z,its,r,ob,k _ _ (.inl rfl) e,c⟩
 |dK kvs=>obtain⟨z,y,vs,r,ob,es,ep,e,c⟩:=x;exact⟨z,y,vs,r,ob,es,ep,k _ _ (.inl rfl) e,c⟩
 |dT kvs=>
  obtain⟨z,y,xs,r,ob,es,ep,e,c⟩:=x
  exact⟨z,y,xs,Paired.mapP r fun p q z=>⟨z.1,ht _ _ z.2.1,z.2.2⟩,ob,es,ep,k _ _ (.inl rfl) e,c⟩
 |set S n=>obtain⟨ob,es,ep,t,e,c⟩:=x;exact⟨ob,es,ep,t,k _ _ (.inl rfl) e,c⟩
 |ins C dx fs=>
  obtain⟨d,z,ne,e,mA,⟨od,es,ep,e2,c⟩,r⟩:=x
  exact⟨ho _ d,z,ne,k _ _ (.inl rfl) e,mA,⟨od,es,ep,k _ _ (.inr d) e2,c⟩,r⟩
 |own y=>obtain⟨ob,e⟩:=x;exact⟨ob,k _ _ (.inl rfl) e⟩
 |xd fs=>obtain⟨mA,⟨od,es,ep,e,c⟩,r⟩:=x;exact⟨mA,⟨od,es,ep,k _ _ (.inl rfl) e,c⟩,r⟩
 |rng lo hi=>obtain⟨t,u,v,e⟩:=x;exact⟨t,u,v,k _ _ (.inl rfl) e⟩
 |frz ob u ih=>obtain⟨e,q⟩:=x;exact⟨k _ _ (.inl rfl) e,ih q⟩
 |tbl ps=>
  have e:h.get? a=some { cls:=.none,data:=.fields ps }:=x
  show h'.get? a=some { cls:=.none,data:=.fields ps }
  exact k a _ (.inl rfl) e
 |met f y=>
  have e:h.get? a=some (PySem.W.methodObj (.ref f) (.ref y)):=x
  show h'.get? a=some (PySem.W.methodObj (.ref f) (.ref y))
  exact k a _ (.inl rfl) e
 |ext φ=>obtain⟨p,⟨o,e⟩,st⟩:=x;exact⟨st _ _ p fun o q=>k _ _ (.inl rfl) q,⟨o,k _ _ (.inl rfl) e⟩,st⟩
theorem HOk.lt(x:HOk P w H h)(e:H a=some o):a<h.objs.size:=(x a o e).lt
theorem HOk.fresh(x:HOk P w H h)(e:h.objs.size<=a):H a=none:=by
 cases q:H a with
 |none=>rfl
 |some u=>exact absurd (xn (x.lt q) e) (xO _)
theorem HOk.kept(x:HOk P w H h)(k:∀ b u,h.get? b=some u->h'.get? b=some u):HOk P w H h':=fun a o e=>
 (x a o e).stay (fun b u _ q=>k b u q) (fun _ q=>q) fun _ _ q=>q
theorem HOk.laid(x:HOk P w H h)(k:∀ b u,h.get? b=some u->h'.get? b=some u)(hp:h.objs.size<=a)(new:ObjOk P w (upd H a o) h' a o):HOk P w (upd H a o) h':=fun b u e=>by
 have hn:=x.fresh hp
 by_cases hb:b=a
 ·subst hb;rw[zf]at e;cases e;exact new
 ·rw[zd hb]at e
  exact (x b u e).stay (fun c v _ q=>k c v q) (fun c q=>by rw[zd (zA q hn)];exact q) fun c xs q=>by rw[zd (zA q hn)];exact q
end
noncomputable def Rd(H:Hp)(a:Addr)(u:HO):Prop:=H a=some u∨∃ o,H a=some (.frz o u)
theorem Rd.ok{P:Program}{w:World}{H:Hp}{h:Heap}{a:Addr}{u:HO}(r:Rd H a u)(x:HOk P w H h):ObjOk P w H h a u:=by
 rcases r with r | ⟨o,r⟩
 ·exact x a u r
 ·obtain⟨_,q⟩:=x a _ r
  exact q
noncomputable def Mut:Option HO->Prop
 |some (.lst _)=>True
 |some (.dK _)=>True
 |some (.dT _)=>True
 |some (.set _ _)=>True
 |some (.ins _ _ _)=>True
 |some (.ext _)=>True
 |_=>False
section
variable {P:Program} {w:World} {H:Hp} {h h':Heap} {x e:Addr} {o':HO}
theorem HOk.write(ok:HOk P w H h)(mu:Mut (H x))(he:e=x∨H e=some (.own x))(k:∀ b u,b≠e->h.get? b=some u->h'.get? b=some u)(heo:∃ u,h'.get? e=some u)
  (new:ObjOk P w (upd H x o') h' x o'):HOk P w (upd H x o') h':=fun b u q=>by
 have nown:∀ c y,H c=some (.own y)->c≠x:=fun c y r z=>by subst z;rw[r]at mu;exact mu
 have ntup:∀ c xs,H c=some (.tup xs)->c≠x:=fun c xs r z=>by subst z;rw[r]at mu;exact mu
 by_cases hb:b=x
 ·subst hb;rw[zf]at q;cases q;exact new
 ·rw[zd hb]at q
  by_cases hbe:b=e
  ·have q':H b=some (.own x):=by
    rcases he with z | z
    ·exact absurd (hbe.trans z) hb
    ·rw[hbe];exact z
   rw[q]at q';cases q'
   obtain⟨v,hv⟩:=heo
   exact⟨v,by rw[hbe];exact hv⟩
  ·refine (ok b u q).stay (fun c v hc r=>k c v ?_ r) (fun c r=>by rw[zd (nown c b r)];exact r) fun c xs r=>by rw[zd (ntup c xs r)];exact r
   rcases hc with rfl | hc
   ·exact hbe
   ·rintro rfl
    rcases he with z | z
    ·exact nown c b hc z
    ·rw[hc]at z;cases z;exact hb rfl
end
structure Un(fs ex:List Addr)(H H':Hp)(h h':Heap):Prop where
 keep:∀ b o,h.get? b=some o->H b=none->b∉fs->b∉ex->h'.get? b=some o
 slot:∀ b o,h.get? b=some o->H b=none->b∈fs->b∉ex->∃ sl,h'.get? b=some { o with slots:=sl }
 free:∀ b o,h.get? b=some o->H b=none->b∉ex->H' b=none
 there:∀ b o,h.get? b=some o->b∉ex->∃ o',h'.get? b=some o'
 tups:∀ b xs,H b=some (.tup xs)->H' b=some (.tup xs)
 frzs:∀ b o u,H b=some (.frz o u)->H' b=some (.frz o u)
 tbls:∀ b ps,H b=some (.tbl ps)->∃ more,H' b=some (.tbl (ps++more))
section
variable {fs fs' ex ex':List Addr} {H H1 H2:Hp} {h h1 h2 h':Heap} {a x e:Addr} {o:HO}
theorem Un.any(u:Un fs ex H H1 h h1){b:Addr}{ob:Obj}(q:h.get? b=some ob)(n:H b=none)(hx:b∉ex):∃ sl,h1.get? b=some { ob with slots:=sl }:=by
 by_cases hb:b∈fs
 ·exact u.slot b ob q n hb hx
 ·exact⟨ob.slots,u.keep b ob q n hb hx⟩
theorem Un.kept(k:∀ b u,h.get? b=some u->h'.get? b=some u):Un fs ex H H h h' :=
 ⟨fun b ob q _ _ _=>k b ob q,fun b ob q _ _ _=>⟨ob.slots,k b ob q⟩,fun _ _ _ n _=>n,fun b ob q _=>⟨ob,k b ob q⟩,fun _ _ q=>q,fun _ _ _ q=>q,fun _ ps q=>⟨#[],by rw[q];simp⟩⟩
theorem Un.refl:Un fs ex H H h h:=Un.kept fun _ _ q=>q
theorem Un.laid(k:∀ b u,h.get? b=some u->h'.get? b=some u)(hp:h.objs.size<=a)(hn:H a=none):Un fs ex H (upd H a o) h h' where
 keep:=fun b u q _ _ _=>k b u q
 slot:=fun b u q _ _ _=>⟨u.slots,k b u q⟩
 free:=fun b u q n _=>by rw[zd (xl (xn (Heap.lt_size q) hp))];exact n
 there:=fun b u q _=>⟨u,k b u q⟩
 tups:=fun b xs q=>by rw[zd (zA q hn)];exact q
 frzs:=fun b u xs q=>by rw[zd (zA q hn)];exact q
 tbls:=fun b ps q=>⟨#[],by rw[zd (zA q hn),q];simp⟩
theorem Un.write(mu:Mut (H x))(he:e=x∨H e=some (.own x))(k:∀ b u,b≠e->h.get? b=some u->h'.get? b=some u)(heo:∃ u,h'.get? e=some u):Un fs ex H (upd H x o) h h':=by
 have hx:∀ b,H b=none->b≠x:=fun b n z=>by subst z;rw[n]at mu;exact mu
 have hb:∀ b,H b=none->b≠e:=fun b n z=>by
  subst z
  rcases he with r | r
  ·exact hx b n r
  ·rw[n]at r;cases r
 have hm:∀ b u,H b=some u->¬ Mut (some u)->b≠x:=fun b u q nm z=>by subst z;rw[q]at mu;exact nm mu
 refine⟨fun b u q n _ _=>k b u (hb b n) q,fun b u q n _ _=>⟨u.slots,k b u (hb b n) q⟩,fun b u q n _=>by rw[zd (hx b n)];exact n,fun b u q _=>?_,
  fun b xs q=>by rw[zd (hm b _ q fun z=>z)];exact q,fun b u xs q=>by rw[zd (hm b _ q fun z=>z)];exact q,fun b ps q=>⟨#[],by rw[zd (hm b _ q fun z=>z),q];simp⟩⟩
 by_cases hbe:b=e
 ·subst hbe;exact heo
 ·exact⟨u,k b u hbe q⟩
end
noncomputable def trk(h:Heap)(H:Hp):List Addr:=(List.range h.objs.size).filter fun a=>(H a).isSome
noncomputable def Vc(h:Heap)(H:Hp):Heap:=PySem.W.hideAll h (trk h H)
theorem k9(h:Heap)(H:Hp):(Vc h H).objs.size=h.objs.size:=PySem.W.hideAll_size _ _
theorem zay{h:Heap}{H:Hp}{b:Addr}{o:Obj}(e:h.get? b=some o)(n:H b=none):(Vc h H).get? b=some o :=
 PySem.W.hideAll_get _ e fun hm=>by
  have q:(H b).isSome=true:=(List.mem_filter.mp hm).2
  rw[n]at q;simp at q
theorem zc3{h:Heap}{H:Hp}{b:Addr}{o:Obj}(e:(Vc h H).get? b=some o):h.get? b=some o/\H b=none:=by
 have e':h.get? b=some o:=PySem.W.of_hideAll (trk h H) e
 refine⟨e',?_⟩
 cases q:H b with
 |none=>rfl
 |some x=>
  have hm:b∈trk h H:=List.mem_filter.mpr ⟨List.mem_range.mpr (Heap.lt_size e'),by simp[q]⟩
  have z:(Vc h H).get? b=none:=PySem.W.hideAll_none (trk h H) hm
  rw[z]at e;cases e
structure Mod(K:PySem.W.Frag)(mg:Str->Option Value)(base:Heap):Prop where
 kin:K.In base
 glob:base.Ns mainGlobals mg
 blt:∃ mb,base.Ns builtinsNs mb/\∀ x:Str,x≠ "__name__" ->mb x=bootBuiltins x
 nolimit:base.NoLimit
structure Cx where
 prog:Program
 w:World
 K:PySem.W.Frag
 mg:Str->Option Value
 base:Heap
 A:Around
 N:List Str
 s₀:Shared
 H₀:Hp
 env:Env
 outer:List Env
 stack:List Env
 ex:List Addr
 fn:Str->Bool
 calm:Bool
 pn:List (Addr×Obj)
 xe:Value->Shared->Prop
noncomputable def frs(l:List Env):List Addr:=l.filterMap (·.frame)
noncomputable abbrev Cx.fs(X:Cx):List Addr:=frs X.outer
noncomputable def Vis(sc:Scope)(x:Str):Prop:=sc.names.lookup x=some .local∨sc.names.lookup x=some .cell∨sc.names.lookup x=some .free
noncomputable def Loc(sc:Scope)(x:Str):Prop:=sc.names.lookup x=some .local∨sc.names.lookup x=some .cell
noncomputable def Look(env:Env)(h:Heap)(m:Str->Option Value)(x:Str)(u:Value):Prop :=
 (env.kindOf x=some .local/\m x=some u)∨((env.kindOf x=some .cell∨env.kindOf x=some .free)/\∃ c,env.cells.lookup x=some c/\h.IsCell c (some u))
structure Cx.Ok(X:Cx):Prop where
 mod:Mod X.K X.mg X.base
 kind:X.env.scope.kind=.function
 glob:X.env.globals=mainGlobals
 blt:X.env.builtins=builtinsNs
 above:X.s₀.heap.objs.size<=X.env.locals
 inj:∀ x y c,X.env.cells.lookup x=some c->X.env.cells.lookup y=some c->x=y
 has:∀ x,(X.env.kindOf x=some .cell∨X.env.kindOf x=some .free)->∃ c,X.env.cells.lookup x=some c
 cab:∀ x c,X.fn x=true->X.env.cells.lookup x=some c->X.s₀.heap.objs.size<=c
 hd:X.calm=true->X.A.handled=none
 frames:X.A.frames=some X.stack
 stk:X.stack=X.outer∨(X.stack=X.env::X.outer/\X.env.frame=some X.env.locals)
 exf:∀ b∈X.ex,b≠X.env.locals/\∀ x c,X.env.cells.lookup x=some c->c≠b
 bs:∀ b o,X.base.get? b=some o->X.s₀.heap.get? b=some o/\X.H₀ b=none
 bsz:X.base.objs.size<=X.s₀.heap.objs.size
 noex:∀ b o,X.base.get? b=some o->b∉X.ex
 exfs:∀ b∈X.ex,b∉X.fs
 funs:X.s₀.heap.FunFrames X.base X.outer
 frf:∀ b∈X.fs,X.H₀ b=none
structure Inv(X:Cx)(pins:List (Addr×Obj))(σ:List (Option V))(H:Hp)(s:Shared):Prop where
 ok:X.Ok
 os:s.os=X.s₀.os
 bare:AllBare s.gens
 base:Un X.fs X.ex X.H₀ H X.s₀.heap s.heap
 loc:∃ m,s.heap.Ns X.env.locals m/\∀ (i:Nat) (x:Str) (v:V),X.N[i]?=some x->σ[i]?=some (some v)->Vis X.env.scope x->∃ u,RelV v u/\Look X.env s.heap m x u
 cell:∀ x c,X.env.cells.lookup x=some c->∃ v,s.heap.IsCell c v
 free:H X.env.locals=none
 freeC:∀ x c,X.env.cells.lookup x=some c->H c=none
 pin:∀ p∈X.pn++pins,s.heap.get? p.1=some p.2/\H p.1=none/\p.1≠X.env.locals/\p.1∉X.fs/\∀ v,p.2.data≠ .cell v
 hok:HOk X.prog X.w H s.heap
 len:σ.length=X.N.length
section
variable {X:Cx} {pins:List (Addr×Obj)} {σ:List (Option V)} {H H':Hp} {s:Shared} {h':Heap}
theorem Cx.Ok.nofr(ok:X.Ok){b:Addr}{o:Obj}(e:X.base.get? b=some o):b∉X.fs:=fun hb=>by
 have:=(ok.funs.mem hb).1
 rw[e]at this;cases this
theorem Inv.bs(I:Inv X pins σ H s):∀ b o,X.base.get? b=some o->s.heap.get? b=some o/\H b=none:=fun b o e=>
 ⟨I.base.keep b o (I.ok.bs b o e).1 (I.ok.bs b o e).2 (I.ok.nofr e) (I.ok.noex b o e),I.base.free b o (I.ok.bs b o e).1 (I.ok.bs b o e).2 (I.ok.noex b o e)⟩
theorem Inv.bk(I:Inv X pins σ H s):∀ b o,X.base.get? b=some o->s.heap.get? b=some o:=fun b o e=>(I.bs b o e).1
theorem Inv.mod(I:Inv X pins σ H s):Mod X.K X.mg X.base:=I.ok.mod
theorem Inv.kIn(I:Inv X pins σ H s):X.K.In s.heap:=I.ok.mod.kin.keeps I.bk
theorem Inv.fr(I:Inv X pins σ H s):∃ m,Fr X.base X.env.locals s.heap m :=
 let ⟨m,hn,_⟩:=I.loc
 ⟨m,hn,I.bk,xC I.ok.bsz I.ok.above⟩
theorem Inv.lt(I:Inv X pins σ H s):X.env.locals<s.heap.objs.size:=let ⟨_,hn,_⟩:=I.loc;hn.lt
theorem Inv.sz(I:Inv X pins σ H s):X.s₀.heap.objs.size<=s.heap.objs.size:=xC I.ok.above (ua I.lt)
theorem Inv.nofs(I:Inv X pins σ H s){a:Addr}(h:s.heap.objs.size<=a):a∉X.fs:=fun hb=>by
 obtain⟨_,o,ho,_⟩:=I.ok.funs.mem hb
 exact absurd (xn (Heap.lt_size ho) (xC I.sz h)) (xO _)
theorem Inv.cne(I:Inv X pins σ H s):∀ x c,X.env.cells.lookup x=some c->c≠X.env.locals:=fun x c e z=>by
 obtain⟨v,o,ho,hd⟩:=I.cell x c e
 obtain⟨m,⟨o',es,ep,ho',hd',_⟩,_⟩:=I.loc
 rw[z,ho']at ho;cases ho;rw[hd']at hd;cases hd
theorem Inv.funs(I:Inv X pins σ H s):s.heap.FunFrames X.base X.outer:=by
 have all:∀ (l:List Env),(∀ b∈frs l,b∈X.fs)->X.s₀.heap.FunFrames X.base l->s.heap.FunFrames X.base l:=by
  intro l
  induction l with
  |nil=>intro _ _;trivial
  |cons env r ih=>
   intro hs hl
   obtain⟨hk,⟨L,o,hf,hn,ho,hd⟩,hr⟩:=hl
   have hL:L∈X.fs:=hs L (by unfold frs;rw[xR,hf];exact xp)
   obtain⟨sl,e⟩:=I.base.slot L o ho (I.ok.frf L hL) hL fun z=>I.ok.exfs L z hL
   exact⟨hk,⟨L,_,hf,hn,e,hd⟩,ih (fun b hb=>hs b (by unfold frs;rw[xR,hf];exact xj _ hb)) hr⟩
 exact all X.outer (fun _ hb=>hb) I.ok.funs
theorem Inv.stack(I:Inv X pins σ H s):s.heap.FunFrames X.base X.stack:=by
 rcases I.ok.stk with e | ⟨e,hf⟩
 ·rw[e];exact I.funs
 ·rw[e]
  obtain⟨m,hn,_⟩:=I.loc
  refine .cons (by rw[I.ok.kind];decide) hf hn ?_ I.funs
  exact Heap.get?_none_of_le (xC I.ok.bsz I.ok.above)
theorem Inv.stkSub(I:Inv X pins σ H s):∀ b∈frs X.stack,b∈X.env.locals::X.fs:=fun b hb=>by
 rcases I.ok.stk with e | ⟨e,hf⟩
 ·rw[e]at hb;exact xj _ hb
 ·rw[e]at hb
  unfold frs at hb
  rw[xR,hf]at hb
  exact hb
theorem Inv.stkFree(I:Inv X pins σ H s):∀ b∈frs X.stack,H b=none:=fun b hb=>by
 rcases xu.mp (I.stkSub b hb)with e | hb
 ·rw[e];exact I.free
 ·obtain⟨_,o,ho,_⟩:=I.ok.funs.mem hb
  exact I.base.free b o ho (I.ok.frf b hb) fun z=>I.ok.exfs b z hb
theorem Inv.step{g':Array GenState}{t':Nat}{d':Drawn}{ch:List Addr}(I:Inv X pins σ H s)
  (hch:∀ b∈ch,(b∈X.ex∨X.s₀.heap.objs.size<=b)/\b≠X.env.locals/\(∀ x c,X.env.cells.lookup x=some c->c≠b)/\∀ p∈X.pn++pins,p.1≠b)
  (keep:∀ b o,b≠X.env.locals->b∉X.fs->b∉ch->s.heap.get? b=some o->H b=none->h'.get? b=some o)
  (slot:∀ b o,b≠X.env.locals->b∈X.fs->b∉ch->s.heap.get? b=some o->H b=none->∃ sl,h'.get? b=some { o with slots:=sl }) (free:∀ b o,b∉ch->s.heap.get? b=some o->H b=none->H' b=none)
  (there:∀ b o,b∉ch->s.heap.get? b=some o->∃ o',h'.get? b=some o')
  (tups:∀ b xs,H b=some (.tup xs)->H' b=some (.tup xs)) (frzs:∀ b o u,H b=some (.frz o u)->H' b=some (.frz o u)) (tbls:∀ b ps,H b=some (.tbl ps)->∃ more,H' b=some (.tbl (ps++more)))
  (ns:∀ m,s.heap.Ns X.env.locals m->h'.Ns X.env.locals m) (hok:HOk X.prog X.w H' h') (hg:AllBare g') :
  Inv X pins σ H' { s with heap:=h',gens:=g',drawn:=d',toks:=t' }:=by
 have neL:∀ b o,X.s₀.heap.get? b=some o->b≠X.env.locals:=fun b o e=>xl (xn (Heap.lt_size e) I.ok.above)
 have neC:∀ b o,X.s₀.heap.get? b=some o->b∉X.ex->b∉ch:=fun b o e hx hb=>by
  rcases (hch b hb).1 with z | z
  ·exact hx z
  ·exact absurd (xn (Heap.lt_size e) z) (xO _)
 have cellK:∀ x c,X.env.cells.lookup x=some c->∀ v,s.heap.IsCell c v->h'.IsCell c v:=fun x c e v ⟨o,ho,hd⟩=>by
  have nch:c∉ch:=fun z=>(hch c z).2.2.1 x c e rfl
  by_cases hc:c∈X.fs
  ·obtain⟨sl,q⟩:=slot c o (I.cne x c e) hc nch ho (I.freeC x c e)
   exact⟨_,q,hd⟩
  ·exact⟨o,keep c o (I.cne x c e) hc nch ho (I.freeC x c e),hd⟩
 refine⟨I.ok,I.os,hg,⟨fun b o e n hb hx=>?_,fun b o e n hb hx=>?_,fun b o e n hx=>?_,fun b o e hx=>?_,fun b xs e=>tups b xs (I.base.tups b xs e),fun b o xs e=>frzs b o xs (I.base.frzs b o xs e),fun b ps e=>?_⟩,?_,fun x c e=>?_,?_,fun x c e=>?_,fun p hp=>?_,hok,I.len⟩
 ·exact keep b o (neL b o e) hb (neC b o e hx) (I.base.keep b o e n hb hx) (I.base.free b o e n hx)
 ·obtain⟨sl,e1⟩:=I.base.slot b o e n hb hx
  obtain⟨sl',e2⟩:=slot b _ (neL b o e) hb (neC b o e hx) e1 (I.base.free b o e n hx)
  exact⟨sl',e2⟩
 ·obtain⟨o',e1⟩:=I.base.there b o e hx
  exact free b o' (neC b o e hx) e1 (I.base.free b o e n hx)
 ·obtain⟨o',e1⟩:=I.base.there b o e hx
  exact there b o' (neC b o e hx) e1
 ·obtain⟨m1,e1⟩:=I.base.tbls b ps e
  obtain⟨m2,e2⟩:=tbls b _ e1
  exact⟨m1++m2,by rw[e2,Array.append_assoc]⟩
 ·obtain⟨m,hn,hl⟩:=I.loc
  refine⟨m,ns m hn,fun i x v e1 e2 e3=>?_⟩
  obtain⟨u,r,l⟩:=hl i x v e1 e2 e3
  refine⟨u,r,?_⟩
  rcases l with l | ⟨k,c,e,z⟩
  ·exact .inl l
  ·exact .inr ⟨k,c,e,cellK x c e _ z⟩
 ·obtain⟨v,z⟩:=I.cell x c e
  exact⟨v,cellK x c e v z⟩
 ·obtain⟨m,⟨o,_,_,ho,_⟩,_⟩:=I.loc
  exact free _ o (fun z=>(hch _ z).2.1 rfl) ho I.free
 ·obtain⟨v,o,ho,hd⟩:=I.cell x c e
  exact free c o (fun z=>(hch c z).2.2.1 x c e rfl) ho (I.freeC x c e)
 ·obtain⟨e,n,ne,nf,d⟩:=I.pin p hp
  have nch:p.1∉ch:=fun z=>(hch p.1 z).2.2.2 p hp rfl
  exact⟨keep p.1 p.2 ne nf nch e n,free p.1 p.2 nch e n,ne,nf,d⟩
theorem Inv.un{t':Nat}(I:Inv X pins σ H s)(u:Un X.fs [] H H' s.heap h')(hok:HOk X.prog X.w H' h'):Inv X pins σ H' { s with heap:=h',toks:=t' }:=by
 obtain⟨m,⟨o,es,ep,ho,r⟩,_⟩:=id I.loc
 obtain⟨sl,hL⟩:=u.any ho I.free (by simp)
 exact I.step (g':=s.gens) (d':=s.drawn) (ch:= []) (fun _ z=>nomatch z) (fun b o _ hb _ e n=>u.keep b o e n hb (by simp)) (fun b o _ hb _ e n=>u.slot b o e n hb (by simp)) (fun b o _ e n=>u.free b o e n (by simp)) (fun b o _ e=>u.there b o e (by simp)) u.tups u.frzs u.tbls (fun m' hm=>by
  obtain⟨o',es',ep',ho',r'⟩:=hm
  rw[ho]at ho';cases ho'
  exact⟨_,es',ep',hL,r'⟩) hok I.bare
theorem Inv.call{g':Array GenState}{t':Nat}{d':Drawn}{ch:List Addr}(I:Inv X pins σ H s)(u:Un (frs X.stack) ch H H' s.heap h')(hok:HOk X.prog X.w H' h')(hg:AllBare g')
  (hch:∀ b∈ch,(b∈X.ex∨X.s₀.heap.objs.size<=b)/\b≠X.env.locals/\(∀ x c,X.env.cells.lookup x=some c->c≠b)/\∀ p∈X.pn++pins,p.1≠b) :
  Inv X pins σ H' { s with heap:=h',gens:=g',drawn:=d',toks:=t' }:=by
 obtain⟨m,⟨o,es,ep,ho,r⟩,_⟩:=id I.loc
 obtain⟨sl,hL⟩:=u.any ho I.free fun z=>(hch _ z).2.1 rfl
 exact I.step (ch:=ch) hch (fun b o hL hb hc e n=>u.keep b o e n (fun z=>(xu.mp (I.stkSub b z)).elim hL hb) hc) (fun b o _ _ hc e n=>u.any e n hc) (fun b o hc e n=>u.free b o e n hc) (fun b o hc e=>u.there b o e hc) u.tups u.frzs u.tbls (fun m' hm=>by
  obtain⟨o',es',ep',ho',r'⟩:=hm
  rw[ho]at ho';cases ho'
  exact⟨_,es',ep',hL,r'⟩) hok hg
theorem Inv.turned{t':Nat}{it:Addr}(I:Inv X pins σ H s)(k:∀ b o,b≠it->s.heap.get? b=some o->h'.get? b=some o)(hn:H it=none)(hL:it≠X.env.locals)
  (h1:it∈X.ex∨X.s₀.heap.objs.size<=it) (h2:∀ x c,X.env.cells.lookup x=some c->c≠it) (h3:∀ p∈X.pn++pins,p.1≠it):Inv X pins σ H { s with heap:=h',toks:=t' }:=by
 have nit:∀ b u,H b=some u->b≠it:=fun b u e z=>by rw[z,hn]at e;cases e
 refine I.step (g':=s.gens) (d':=s.drawn) (ch:= [it]) (fun b hb=>?_) (fun b o _ _ hc e _=>k b o (fun z=>hc (by simp[z])) e) (fun b o _ _ hc e _=>⟨o.slots,k b o (fun z=>hc (by simp[z])) e⟩) (fun _ _ _ _ n=>n)
  (fun b o hc e=>⟨o,k b o (fun z=>hc (by simp[z])) e⟩) (fun _ _ e=>e) (fun _ _ _ e=>e) (fun b ps e=>⟨#[],by rw[e];simp⟩) (fun m hm=>?_) (fun b u e=>?_) I.bare
 ·have e:b=it:=by simpa using hb
  subst e
  exact⟨h1,hL,h2,h3⟩
 ·obtain⟨o,es,ep,ho,r⟩:=hm
  exact⟨o,es,ep,k _ o (Ne.symm hL) ho,r⟩
 ·refine (I.hok b u e).stay (fun c v hc q=>k c v ?_ q) (fun _ q=>q) fun _ _ q=>q
  rcases hc with z | z
  ·rw[z];exact nit b u e
  ·exact nit c _ z
theorem Inv.tok(I:Inv X pins σ H s)(t:Nat):Inv X pins σ H { s with toks:=t }:=I.un (h':=s.heap) (t':=t) Un.refl I.hok
theorem Inv.kept{t':Nat}(I:Inv X pins σ H s)(k:∀ b u,s.heap.get? b=some u->h'.get? b=some u):Inv X pins σ H { s with heap:=h',toks:=t' }:=I.un (Un.kept k) (I.hok.kept k)
theorem Inv.laid{a:Addr}{o:HO}{t':Nat}(I:Inv X pins σ H s)(k:∀ b u,s.heap.get? b=some u->h'.get? b=some u)(hp:s.heap.objs.size<=a)(new:ObjOk X.prog X.w (upd H a o) h' a o) :
  Inv X pins σ (upd H a o) { s with heap:=h',toks:=t' }:=I.un (Un.laid k hp (I.hok.fresh hp)) (I.hok.laid k hp new)
theorem Inv.write{x e:Addr}{o:HO}{t':Nat}(I:Inv X pins σ H s)(mu:Mut (H x))(he:e=x∨H e=some (.own x))(k:∀ b u,b≠e->s.heap.get? b=some u->h'.get? b=some u)(heo:∃ u,h'.get? e=some u)
  (new:ObjOk X.prog X.w (upd H x o) h' x o):Inv X pins σ (upd H x o) { s with heap:=h',toks:=t' }:=I.un (Un.write mu he k heo) (I.hok.write mu he k heo new)
theorem Inv.weak{σ':List (Option V)}(I:Inv X pins σ H s)(hl:σ'.length=σ.length)(w:∀ (i:Nat) v,σ'[i]?=some (some v)->σ[i]?=some (some v)):Inv X pins σ' H s :=
 ⟨I.ok,I.os,I.bare,I.base,let ⟨m,hn,hl'⟩:=I.loc;⟨m,hn,fun i x v e1 e2 e3=>hl' i x v e1 (w i v e2) e3⟩,I.cell,I.free,I.freeC,I.pin,I.hok,hl.trans I.len⟩
theorem Inv.pins_of{pins':List (Addr×Obj)}(I:Inv X pins σ H s)(h:∀ p∈pins',s.heap.get? p.1=some p.2/\H p.1=none/\p.1≠X.env.locals/\p.1∉X.fs/\∀ v,p.2.data≠ .cell v):Inv X pins' σ H s :=
 ⟨I.ok,I.os,I.bare,I.base,I.loc,I.cell,I.free,I.freeC,fun p hp=>(xE.mp hp).elim (fun z=>I.pin p (xU _ z)) (h p),I.hok,I.len⟩
theorem V9{N:List Str}(hN:N.Nodup){i j:Nat}{x:Str}(a:N[i]?=some x)(b:N[j]?=some x):i=j:=by
 obtain⟨h1,e1⟩:=xb.mp a
 obtain⟨h2,e2⟩:=xb.mp b
 exact (List.getElem_inj hN).mp (e1.trans e2.symm)
theorem JS{M:Model}{A:Around}{E:Value->Shared->Prop}{i:Nat}{x:Str}{v:V}{u:Value}{Q:Unit->Shared->Prop}(I:Inv X pins σ H s)(hN:X.N.Nodup)(hi:X.N[i]?=some x)(hx:Loc X.env.scope x)(r:RelV v u)
  (h:∀ s',Inv X pins (σ.set i (some v)) H s'->(∃ a,Heap.SameBut a s.heap s'.heap/\(a=X.env.locals∨X.env.cells.lookup x=some a))->Q () s') (hf:X.fn x=true∨X.env.scope.names.lookup x=some .local:=by first | exact .inl rfl | exact .inr rfl | assumption):wpAny M A (storeName X.env x u) Q E s:=by
 obtain⟨m,hn,hl⟩:=id I.loc
 have hcls:(X.env.scope.kind==.class||(X.env.scope.kind==.module&&X.env.locals !=X.env.globals))=false:=by rw[I.ok.kind];rfl
 have hiσ:i<σ.length:=by rw[I.len];exact (xb.mp hi).1
 have cne:=I.cne
 have tracked:∀ {a:Addr} {h':Heap},(∃ o,s.heap.get? a=some o/\H a=none)->Heap.SameBut a s.heap h'->HOk X.prog X.w H h':=fun {a h'} ha hs b ob e=>by
  obtain⟨_,_,hfree⟩:=ha
  refine (I.hok b ob e).stay (fun c w' hc q=>(hs.2 c ?_).trans q) (fun _ q=>q) fun _ _ q=>q
  rintro rfl
  rcases hc with rfl | hc
  ·rw[hfree]at e;cases e
  ·rw[hfree]at hc;cases hc
 rcases hx with hk | hk
 ·refine wpAny_storeName_local hk hn (fun h' hn' hs=>?_) hcls
  obtain⟨oL,_,_,hoL,_⟩:=id hn
  refine h _ ⟨I.ok,I.os,I.bare,⟨fun b o e n hb hx=>?_,fun b o e n hb hx=>?_,I.base.free,fun b o e hx=>?_,I.base.tups,I.base.frzs,I.base.tbls⟩,⟨_,hn',fun j y v' e1 e2 e3=>?_⟩,fun y c e=>?_,I.free,I.freeC,fun p hp=>?_,tracked ⟨oL,hoL,I.free⟩ hs,by simpa using I.len⟩ ⟨_,hs,.inl rfl⟩
  ·exact (hs.2 b (xl (xn (Heap.lt_size e) I.ok.above))).trans (I.base.keep b o e n hb hx)
  ·obtain⟨sl,e1⟩:=I.base.slot b o e n hb hx
   exact⟨sl,(hs.2 b (xl (xn (Heap.lt_size e) I.ok.above))).trans e1⟩
  ·obtain⟨o',e1⟩:=I.base.there b o e hx
   exact⟨o',(hs.2 b (xl (xn (Heap.lt_size e) I.ok.above))).trans e1⟩
  ·by_cases hj:j=i
   ·subst hj
    rw[hi]at e1;cases e1
    rw[xh hiσ]at e2
    cases e2
    exact⟨u,r,.inl ⟨hk,by simp⟩⟩
   ·rw[xg (Ne.symm hj)]at e2
    obtain⟨u',r',q⟩:=hl j y v' e1 e2 e3
    refine⟨u',r',?_⟩
    rcases q with ⟨k,e⟩ | ⟨k,c,e,z⟩
    ·refine .inl ⟨k,?_⟩
     have:y≠x:=fun e=>hj (V9 hN e1 (e ▸ hi))
     simp[this,e]
    ·exact .inr ⟨k,c,e,z.sameBut hs (cne y c e)⟩
  ·obtain⟨w',z⟩:=I.cell y c e
   exact⟨w',z.sameBut hs (cne y c e)⟩
  ·obtain⟨e,n,ne,nf,d⟩:=I.pin p hp
   exact⟨(hs.2 p.1 ne).trans e,n,ne,nf,d⟩
 ·have hfn:X.fn x=true:=by
   rcases hf with z | z
   ·exact z
   ·rw[z]at hk;cases hk
  obtain⟨c,hc⟩:=I.ok.has x (.inl hk)
  obtain⟨w',z⟩:=I.cell x c hc
  refine wpAny_storeName_cell I.ok.kind hk hc z (fun h' hc' hs=>?_)
  obtain⟨oc,hoc,hocd⟩:=id z
  refine h { s with heap:=h' } ⟨I.ok,I.os,I.bare,⟨fun b o e n hb hx=>?_,fun b o e n hb hx=>?_,I.base.free,fun b o e hx=>?_,I.base.tups,I.base.frzs,I.base.tbls⟩,⟨m,hn.sameBut hs (Ne.symm (cne x c hc)),fun j y v' e1 e2 e3=>?_⟩,fun y c' e=>?_,I.free,I.freeC,fun p hp=>?_,tracked ⟨oc,hoc,I.freeC x c hc⟩ hs,by simpa using I.len⟩ ⟨c,hs,.inr hc⟩
  ·exact (hs.2 b (xl (xn (Heap.lt_size e) (I.ok.cab x c hfn hc)))).trans (I.base.keep b o e n hb hx)
  ·obtain⟨sl,e1⟩:=I.base.slot b o e n hb hx
   exact⟨sl,(hs.2 b (xl (xn (Heap.lt_size e) (I.ok.cab x c hfn hc)))).trans e1⟩
  ·obtain⟨o',e1⟩:=I.base.there b o e hx
   exact⟨o',(hs.2 b (xl (xn (Heap.lt_size e) (I.ok.cab x c hfn hc)))).trans e1⟩
  ·by_cases hj:j=i
   ·subst hj
    rw[hi]at e1;cases e1
    rw[xh hiσ]at e2
    cases e2
    exact⟨u,r,.inr ⟨.inl hk,c,hc,hc'⟩⟩
   ·rw[xg (Ne.symm hj)]at e2
    obtain⟨u',r',q⟩:=hl j y v' e1 e2 e3
    refine⟨u',r',?_⟩
    rcases q with q | ⟨k,c',e,z'⟩
    ·exact .inl q
    ·refine .inr ⟨k,c',e,z'.sameBut hs ?_⟩
     rintro rfl
     exact hj (V9 hN e1 (I.ok.inj _ _ _ e hc ▸ hi))
  ·by_cases hcc:c'=c
   ·subst hcc;exact⟨_,hc'⟩
   ·obtain⟨w2,z2⟩:=I.cell y c' e
    exact⟨w2,z2.sameBut hs hcc⟩
  ·obtain⟨e,n,ne,nf,d⟩:=I.pin p hp
   refine⟨(hs.2 p.1 ?_).trans e,n,ne,nf,d⟩
   intro q
   rw[q,hoc]at e
   have q':oc=p.2:=Option.some.inj e
   exact d w' (by rw[<- q'];exact hocd)
theorem QY{M:Model}{A:Around}{E:Value->Shared->Prop}{i:Nat}{x:Str}{v:V}{u:Value}{Q:Unit->Shared->Prop}(I:Inv X pins σ H s)(hN:X.N.Nodup)(hi:X.N[i]?=some x)(hx:Loc X.env.scope x)(r:RelV v u)
  (h:∀ s',Inv X pins (σ.set i (some v)) H s'->Q () s') (hf:X.fn x=true∨X.env.scope.names.lookup x=some .local:=by first | exact .inl rfl | exact .inr rfl | assumption):wpAny M A (storeName X.env x u) Q E s :=
 JS I hN hi hx r (fun s' I' _=>h s' I') hf
theorem Inv.call'{s':Shared}{ch:List Addr}(I:Inv X pins σ H s)(ho:s'.os=s.os)(u:Un (frs X.stack) ch H H' s.heap s'.heap)(hok:HOk X.prog X.w H' s'.heap)(hg:AllBare s'.gens)
  (hch:∀ b∈ch,(b∈X.ex∨X.s₀.heap.objs.size<=b)/\b≠X.env.locals/\(∀ x c,X.env.cells.lookup x=some c->c≠b)/\∀ p∈X.pn++pins,p.1≠b):Inv X pins σ H' s':=by
 obtain⟨h',g',d',t',o'⟩:=s'
 have e:o'=s.os:=ho
 subst e
 exact I.call (g':=g') (t':=t') (d':=d') u hok hg hch
end
noncomputable abbrev XK:=Value->Option Addr->Hp->Prop
noncomputable abbrev St:=List (Option V)
noncomputable abbrev VK:=V->Hp->Prop
noncomputable abbrev TE:=St->Hp->VK->Prop
noncomputable abbrev TT:=St->Hp->(Bool->Hp->Prop)->Prop
noncomputable abbrev TA:=St->Hp->(List V->Hp->Prop)->Prop
structure qQ where
 nx:St->Hp->Prop
 rt:VK
 bk:St->Hp->Prop:=fun _ _=>False
 ct:St->Hp->Prop:=fun _ _=>False
noncomputable abbrev TS:=qQ->St->Hp->Prop
noncomputable def EP(X:Cx)(pins:List (Addr×Obj))(σ:St)(Q:VK)(u:Value)(s':Shared):Prop:=∃ v H',Inv X pins σ H' s'/\RelV v u/\Q v H'
noncomputable def TP(X:Cx)(pins:List (Addr×Obj))(σ:St)(Q:Bool->Hp->Prop)(b:Bool)(s':Shared):Prop:=∃ H',Inv X pins σ H' s'/\Q b H'
noncomputable def AP(X:Cx)(pins:List (Addr×Obj))(σ:St)(Q:List V->Hp->Prop)(us:List Value)(s':Shared):Prop:=∃ vs H',Inv X pins σ H' s'/\Vals vs us/\Q vs H'
noncomputable def SP(X:Cx)(pins:List (Addr×Obj))(D:qQ)(f:Flow)(s':Shared):Prop :=
 match f with
 |.next=>∃ σ' H',Inv X pins σ' H' s'/\D.nx σ' H'
 |.brk=>∃ σ' H',Inv X pins σ' H' s'/\D.bk σ' H'
 |.cont=>∃ σ' H',Inv X pins σ' H' s'/\D.ct σ' H'
 |.ret u=>∃ v σ' H',Inv X pins σ' H' s'/\RelV v u/\D.rt v H'
noncomputable def PE(X:Cx)(e:Expr)(t:TE):Prop :=
 ∀ (pins:List (Addr×Obj)) (s:Shared) (σ:St) (H:Hp) (Q:VK),Inv X pins σ H s->t σ H Q->wpAny (model X.prog X.w) X.A (eval e X.env) (EP X pins σ Q) X.xe s
noncomputable def PT(X:Cx)(e:Expr)(t:TT):Prop :=
 ∀ (pins:List (Addr×Obj)) (s:Shared) (σ:St) (H:Hp) (Q:Bool->Hp->Prop),Inv X pins σ H s->t σ H Q->wpAny (model X.prog X.w) X.A (isTrue e X.env (eval e X.env)) (TP X pins σ Q) X.xe s
noncomputable def PW(X:Cx)(e:Expr)(t:TT):Prop :=
 ∀ (whole:Sem Value) (pins:List (Addr×Obj)) (s:Shared) (σ:St) (H:Hp) (Q:Bool->Hp->Prop),Inv X pins σ H s->t σ H Q->wpAny (model X.prog X.w) X.A (isTrue e X.env whole) (TP X pins σ Q) X.xe s
noncomputable def PA(X:Cx)(es:List Expr)(t:TA):Prop :=
 ∀ (pos:Pos) (pins:List (Addr×Obj)) (s:Shared) (σ:St) (H:Hp) (Q:List V->Hp->Prop),Inv X pins σ H s->t σ H Q->wpAny (model X.prog X.w) X.A (spliced (backTo pos (starEach es X.env))) (AP X pins σ Q) X.xe s
noncomputable def PS(X:Cx)(st:Stmt)(t:TS):Prop :=
 ∀ (pins:List (Addr×Obj)) (s:Shared) (σ:St) (H:Hp) (D:qQ),Inv X pins σ H s->t D σ H->wpAny (model X.prog X.w) X.A (exec st X.env) (SP X pins D) X.xe s
noncomputable def PSs(X:Cx)(st:List Stmt)(t:TS):Prop :=
 ∀ (pins:List (Addr×Obj)) (s:Shared) (σ:St) (H:Hp) (D:qQ),Inv X pins σ H s->t D σ H->wpAny (model X.prog X.w) X.A (execs st X.env) (SP X pins D) X.xe s
theorem thn{α:Type}{t:Sem α}{Q Q':α->Shared->Prop}{M:Model}{A:Around}{E:Value->Shared->Prop}{s:Shared}(h:wpAny M A t Q E s)(hQ:∀ a s,Q a s->Q' a s):wpAny M A t Q' E s:=wpAny_mono h hQ fun _ _ x=>x
section
variable {X:Cx}
theorem bin{a b:Expr}{ta tb:TE}(ha:PE X a ta)(hb:PE X b tb){pins:List (Addr×Obj)}{s:Shared}{σ:St}{H:Hp}{R:V->V->Hp->Prop}(I:Inv X pins σ H s)(h:ta σ H fun x H1=>tb σ H1 fun y H2=>R x y H2)
  {α:Type} {Q:α->Shared->Prop} {f:Value->Value->Sem α}
  (hf:∀ v u s2 x y H2,Inv X pins σ H2 s2->RelV x v->RelV y u->R x y H2->wpAny (model X.prog X.w) X.A (f v u) Q X.xe s2) :
  wpAny (model X.prog X.w) X.A (eval a X.env) (fun v s₁=>wpAny (model X.prog X.w) X.A (eval b X.env) (fun u s₂=>wpAny (model X.prog X.w) X.A (f v u) Q X.xe s₂) X.xe s₁) X.xe s:=by
 refine thn (ha pins s σ H _ I h) fun v s1 ⟨x,H1,I1,r1,q1⟩=>?_
 refine thn (hb pins s1 σ H1 _ I1 q1) fun u s2 ⟨y,H2,I2,r2,q2⟩=>?_
 exact hf v u s2 x y H2 I2 r1 r2 q2
noncomputable def zhK(i:Nat):TE:=fun σ H Q=>∃ v,σ[i]?=some (some v)/\Q v H
noncomputable def tC(v:V):TE:=fun _ H Q=>Q v H
theorem qB {i:Nat}{x:Str}{pos:Pos}(hN:X.N[i]?=some x) (hv:Vis X.env.scope x) (hd:(x==("__debug__" :Str))=false:=by decide) (hcd:(x==("__classdict__" :Str))=false:=by decide):PE X (.Name x pos) (zhK i):=by
 intro pins s σ H Q I h
 obtain⟨v,e,h⟩:=h
 obtain⟨m,hn,hl⟩:=I.loc
 obtain⟨u,r,l⟩:=hl i x v hN e hv
 have fin:EP X pins σ Q u s:=⟨v,H,I,r,h⟩
 rcases l with ⟨hk,hm⟩ | ⟨hk,c,hc,hcell⟩
 ·exact wpAny_Name (wpAny_loadName_local I.ok.kind hk hn hm fin) hd
 ·rcases hk with hk | hk
  ·exact wpAny_Name (wpAny_loadName_cell I.ok.kind hk hc hcell fin) hd
  ·exact wpAny_Name (wpAny_loadName_free I.ok.kind hk hc hcell fin hcd) hd
theorem pe_int{i j pos}:PE X (.Constant (.int i) j pos) (tC (.int i)):=fun _ _ _ H _ I h=>wpAny_Constant_int ⟨.int i,H,I.tok _,⟨_,rfl⟩,h⟩
theorem pe_bl{b j pos}:PE X (.Constant (.bool b) j pos) (tC (.bl b)):=fun _ _ _ H _ I h=>Constant_bool ⟨.bl b,H,I,rfl,h⟩
theorem pe_non{j pos}:PE X (.Constant .none j pos) (tC .non):=fun _ _ _ H _ I h=>Constant_none ⟨.non,H,I,rfl,h⟩
theorem pe_str{x j pos}:PE X (.Constant (.str x) j pos) (tC (.str x)):=fun _ _ _ H _ I h=>Calls.Constant_str ⟨.str x,H,I.tok _,⟨_,rfl⟩,h⟩
noncomputable def Gl(X:Cx)(x:Str):Prop:=X.env.kindOf x=some .globalImplicit
theorem j4{E:Value->Shared->Prop}{pins:List (Addr×Obj)}{s:Shared}{σ:St}{H:Hp}{x:Str}{u:Value}{pos:Pos}{Q:Value->Shared->Prop}(I:Inv X pins σ H s)(hg:Gl X x)(hm:X.mg x=some u)(h:Q u s)
  (hd:(x==("__debug__" :Str))=false:=by decide):wpAny (model X.prog X.w) X.A (eval (.Name x pos) X.env) Q E s :=
 Calls.Name_function_global I.ok.kind hg (Calls.loadGlobal_global (by rw[I.ok.glob];exact I.mod.glob.keeps I.bk) hm h) hd
theorem wP{E:Value->Shared->Prop}{pins:List (Addr×Obj)}{s:Shared}{σ:St}{H:Hp}{x:Str}{u:Value}{pos:Pos}{Q:Value->Shared->Prop}(I:Inv X pins σ H s)(hg:Gl X x)(hm:X.mg x=none)(hv:bootBuiltins x=some u)(h:Q u s)
  (hn:x≠ "__name__" :=by decide) (hd:(x==("__debug__" :Str))=false:=by decide):wpAny (model X.prog X.w) X.A (eval (.Name x pos) X.env) Q E s:=by
 obtain⟨mb,h1,h2⟩:=I.mod.blt
 exact Calls.Name_function_global I.ok.kind hg (Calls.loadGlobal_builtin (by rw[I.ok.glob];exact I.mod.glob.keeps I.bk) hm (by rw[I.ok.blt];exact h1.keeps I.bk) ((h2 x hn).trans hv) h) hd
theorem wt {x:Str}{v:V}{u:Value}{pos:Pos}(hg:Gl X x) (hm:X.mg x=some u) (r:RelV v u) (hd:(x==("__debug__" :Str))=false:=by decide):PE X (.Name x pos) (tC v) :=
 fun _ _ _ H _ I h=>j4 I hg hm ⟨v,H,I,r,h⟩ hd
theorem zc9 {x:Str}{v:V}{u:Value}{pos:Pos}(hg:Gl X x) (hm:X.mg x=none) (hv:bootBuiltins x=some u) (r:RelV v u) (hn:x≠ "__name__" :=by decide) (hd:(x==("__debug__" :Str))=false:=by decide):PE X (.Name x pos) (tC v) :=
 fun _ _ _ H _ I h=>wP I hg hm hv ⟨v,H,I,r,h⟩ hn hd
variable {a b:Expr} {ta tb:TE} {pos:Pos}
variable {tA tB':TT} {rest:List Expr}
noncomputable def tAnd(t u:TT):TT:=fun σ H Q=>t σ H fun c H1=>if c=true then u σ H1 Q else Q false H1
noncomputable def tOr(t u:TT):TT:=fun σ H Q=>t σ H fun c H1=>if c=true then Q true H1 else u σ H1 Q
noncomputable def tNot(t:TT):TT:=fun σ H Q=>t σ H fun c H1=>Q (!c) H1
theorem zdh(ha:PT X a tA):PW X (.BoolOp .And [a] pos) tA:=by
 intro wh pins s σ H Q I h
 refine isTrue_and (thn (ha pins s σ H Q I h) fun c s1 e=>?_)
 cases c with
 |true=>exact isTrue_and_nil e
 |false=>exact e
theorem zfT(ha:PT X a tA):PW X (.BoolOp .Or [a] pos) tA:=by
 intro wh pins s σ H Q I h
 refine isTrue_or (thn (ha pins s σ H Q I h) fun c s1 e=>?_)
 cases c with
 |false=>exact isTrue_or_nil e
 |true=>exact e
theorem zfS(ha:PT X a tA)(hb:PW X (.BoolOp .And (b::rest) pos) tB'):PW X (.BoolOp .And (a::b::rest) pos) (tAnd tA tB'):=by
 intro wh pins s σ H Q I h
 refine isTrue_and (thn (ha pins s σ H _ I h) fun c s1 ⟨H1,I1,q1⟩=>?_)
 cases c with
 |true=>exact hb wh pins s1 σ H1 Q I1 q1
 |false=>exact⟨H1,I1,q1⟩
theorem zhl(ha:PT X a tA)(hb:PW X (.BoolOp .Or (b::rest) pos) tB'):PW X (.BoolOp .Or (a::b::rest) pos) (tOr tA tB'):=by
 intro wh pins s σ H Q I h
 refine isTrue_or (thn (ha pins s σ H _ I h) fun c s1 ⟨H1,I1,q1⟩=>?_)
 cases c with
 |true=>exact⟨H1,I1,q1⟩
 |false=>exact hb wh pins s1 σ H1 Q I1 q1
theorem zfQ(ha:PT X a tA):PT X (.UnaryOp .Not a pos) (tNot tA):=by
 intro pins s σ H Q I h
 exact isTrue_not (ha pins s σ H (fun c H1=>Q (!c) H1) I h)
noncomputable def zhD(ta tb:TE):TE:=fun σ H Q=>ta σ H fun x H1=>∃ c,x=.bl c/\if c=true then tb σ H1 Q else Q (.bl false) H1
noncomputable def tOrV(ta tb:TE):TE:=fun σ H Q=>ta σ H fun x H1=>∃ c,x=.bl c/\if c=true then Q (.bl true) H1 else tb σ H1 Q
theorem zfJ{op}{t:TE}(h:PE X a t):PE X (.BoolOp op [a] pos) t:=fun pins s σ H Q I hw=>BoolOp_one (h pins s σ H Q I hw)
theorem zfI(ha:PE X a ta)(hb:PE X (.BoolOp .And (b::rest) pos) tb):PE X (.BoolOp .And (a::b::rest) pos) (zhD ta tb):=by
 intro pins s σ H Q I h
 refine BoolOp_and (thn (ha pins s σ H _ I h) fun v s1 ⟨x,H1,I1,r1,q1⟩=>?_)
 obtain⟨c,rfl,q1⟩:=q1
 cases r1
 refine wpAny_truthy_bool ?_
 cases c with
 |true=>exact hb pins s1 σ H1 Q I1 q1
 |false=>exact⟨.bl false,H1,I1,rfl,q1⟩
theorem zhj(ha:PE X a ta)(hb:PE X (.BoolOp .Or (b::rest) pos) tb):PE X (.BoolOp .Or (a::b::rest) pos) (tOrV ta tb):=by
 intro pins s σ H Q I h
 refine BoolOp_or (thn (ha pins s σ H _ I h) fun v s1 ⟨x,H1,I1,r1,q1⟩=>?_)
 obtain⟨c,rfl,q1⟩:=q1
 cases r1
 refine wpAny_truthy_bool ?_
 cases c with
 |false=>exact hb pins s1 σ H1 Q I1 q1
 |true=>exact⟨.bl true,H1,I1,rfl,q1⟩
noncomputable def tIf(t:TT)(ta tb:TE):TE:=fun σ H Q=>t σ H fun c H1=>if c=true then ta σ H1 Q else tb σ H1 Q
theorem za2{c:Expr}(hc:PT X c tA)(ha:PE X a ta)(hb:PE X b tb):PE X (.IfExp c a b pos) (tIf tA ta tb):=by
 intro pins s σ H Q I h
 refine wpAny_IfExp (thn (hc pins s σ H _ I h) fun d s1 ⟨H1,I1,q1⟩=>?_)
 cases d with
 |true=>exact ha pins s1 σ H1 Q I1 q1
 |false=>exact hb pins s1 σ H1 Q I1 q1
end
noncomputable def SqL(K:PySem.W.Frag)(H:Hp)(a:Addr)(xs:List V):Prop :=
 Rd H a (.lst xs) ∨
  ∃ (o:Obj) (its:Array Value) (n:Nat),K.lookup a=some o/\o.cls=.type "list" /\o.dict=none/\o.data=.seq its n/\its.size<=sizeLine/\Vals xs its.toList
noncomputable def SqT(K:PySem.W.Frag)(H:Hp)(a:Addr)(xs:List V):Prop :=
 Rd H a (.tup xs) ∨
  ∃ (o:Obj) (its:Array Value) (n:Nat),K.lookup a=some o/\o.cls=.type "tuple" /\o.data=.seq its n/\its.size<=sizeLine/\Vals xs its.toList
noncomputable def absV:Value->Option V
 |.none=>some .non
 |.bool b=>some (.bl b)
 |.int i _=>some (.int i)
 |.str x _=>some (.str x)
 |.bytes b _=>some (.byt b)
 |.float b _=>some (.flt b)
 |.ref a=>some (.ref a)
 |.type n=>some (.ty n)
 |_=>none
theorem RelV.abs{x:V}{u:Value}(r:RelV x u):absV u=some x:=by
 cases x with
 |non=>cases r;rfl
 |bl _=>cases r;rfl
 |int _=>obtain⟨t,rfl⟩:=r;rfl
 |str _=>obtain⟨t,rfl⟩:=r;rfl
 |byt _=>obtain⟨t,rfl⟩:=r;rfl
 |flt _=>obtain⟨t,rfl⟩:=r;rfl
 |ref _=>cases r;rfl
 |ty _=>cases r;rfl
theorem RelV.inj{x y:V}{u:Value}(r:RelV x u)(q:RelV y u):x=y:=Option.some.inj (r.abs.symm.trans q.abs)
theorem Vals.inj:∀ {xs ys:List V}{us:List Value},Vals xs us->Vals ys us->xs=ys
 |_,_,_,.nil,.nil=>rfl
 |_,_,_,.cons r t,.cons r' t'=>by rw[r.inj r',Vals.inj t t']
section
variable {X:Cx} {pins:List (Addr×Obj)} {σ:St} {H:Hp} {s:Shared} {a:Addr} {xs ys:List V}
theorem SqL.of{K:PySem.W.Frag}(h:H a=some (.lst xs)):SqL K H a xs:=.inl (.inl h)
theorem SqT.of{K:PySem.W.Frag}(h:H a=some (.tup xs)):SqT K H a xs:=.inl (.inl h)
theorem Inv.list(I:Inv X pins σ H s)(h:SqL X.K H a xs):∃ its:List Value,Vals xs its/\PlainL s.heap a its.toArray/\xs.length<=sizeLine:=by
 rcases h with h | ⟨o,its,n,hk,hc,hd,hs,hz,r⟩
 ·obtain⟨z,its,n,r,e⟩:=h.ok I.hok
  exact⟨its,r,⟨_,n,e,rfl,rfl,rfl⟩,z⟩
 ·refine⟨its.toList,r,⟨o,n,I.kIn a o hk,hc,hd,by simpa using hs⟩,?_⟩
  have e:=r.length
  simp only[xS]at e
  omega
theorem Inv.tuple(I:Inv X pins σ H s)(h:SqT X.K H a xs):∃ its:List Value,Vals xs its/\IsTup s.heap a its.toArray/\xs.length<=sizeLine:=by
 rcases h with h | ⟨o,its,n,hk,hc,hs,hz,r⟩
 ·obtain⟨z,its,r,p⟩:=h.ok I.hok
  exact⟨its,r,p,z⟩
 ·refine⟨its.toList,r,⟨o,I.kIn a o hk,hc,n,by simpa using hs⟩,?_⟩
  have e:=r.length
  simp only[xS]at e
  omega
theorem Inv.list_inj(I:Inv X pins σ H s)(h:SqL X.K H a xs)(h':SqL X.K H a ys):xs=ys:=by
 obtain⟨its,r,⟨o,n,e,_,_,d⟩,_⟩:=I.list h
 obtain⟨its',r',⟨o',n',e',_,_,d'⟩,_⟩:=I.list h'
 rw[e]at e';cases e'
 rw[d]at d'
 injection d' with d1 _
 have:its=its':=by simpa using congrArg Array.toList d1
 subst this
 exact r.inj r'
theorem Inv.tuple_inj(I:Inv X pins σ H s)(h:SqT X.K H a xs)(h':SqT X.K H a ys):xs=ys:=by
 obtain⟨its,r,⟨o,e,_,n,d⟩,_⟩:=I.tuple h
 obtain⟨its',r',⟨o',e',_,n',d'⟩,_⟩:=I.tuple h'
 rw[e]at e';cases e'
 rw[d]at d'
 injection d' with d1 _
 have:its=its':=by simpa using congrArg Array.toList d1
 subst this
 exact r.inj r'
end
noncomputable abbrev Cx.wish(X:Cx)(E:Value->Shared->Prop):Cx:={ X with xe:=E }
noncomputable abbrev Cx.nox(X:Cx):Cx:=X.wish fun _ _=>False
theorem Cx.Ok.wish{X:Cx}(ok:X.Ok)(E:Value->Shared->Prop):(X.wish E).Ok :=
 ⟨ok.mod,ok.kind,ok.glob,ok.blt,ok.above,ok.inj,ok.has,ok.cab,ok.hd,ok.frames,ok.stk,ok.exf,ok.bs,ok.bsz,ok.noex,ok.exfs,ok.funs,ok.frf⟩
theorem Cx.Ok.unwish{X:Cx}{E:Value->Shared->Prop}(ok:(X.wish E).Ok):X.Ok :=
 ⟨ok.mod,ok.kind,ok.glob,ok.blt,ok.above,ok.inj,ok.has,ok.cab,ok.hd,ok.frames,ok.stk,ok.exf,ok.bs,ok.bsz,ok.noex,ok.exfs,ok.funs,ok.frf⟩
section
variable {X:Cx} {pins:List (Addr×Obj)} {σ:St} {H:Hp} {s:Shared} {E:Value->Shared->Prop}
theorem Inv.wish(I:Inv X pins σ H s)(E:Value->Shared->Prop):Inv (X.wish E) pins σ H s:=⟨I.ok.wish E,I.os,I.bare,I.base,I.loc,I.cell,I.free,I.freeC,I.pin,I.hok,I.len⟩
theorem Inv.unwish(I:Inv (X.wish E) pins σ H s):Inv X pins σ H s:=⟨I.ok.unwish,I.os,I.bare,I.base,I.loc,I.cell,I.free,I.freeC,I.pin,I.hok,I.len⟩
theorem SP.unwish{D:qQ}{f:Flow}{s':Shared}(h:SP (X.wish E) pins D f s'):SP X pins D f s':=by
 cases f with
 |next=>obtain⟨σ',H',I,q⟩:=h;exact⟨σ',H',I.unwish,q⟩
 |brk=>obtain⟨σ',H',I,q⟩:=h;exact⟨σ',H',I.unwish,q⟩
 |cont=>obtain⟨σ',H',I,q⟩:=h;exact⟨σ',H',I.unwish,q⟩
 |ret u=>obtain⟨v,σ',H',I,r,q⟩:=h;exact⟨v,σ',H',I.unwish,r,q⟩
theorem PSs.nox{st:List Stmt}{t:TS}(h:PSs X.nox st t):PSs X st t:=fun pins s σ H D I hw=>
 wpAny_mono (h pins s σ H D (I.wish _) hw) (fun _ _ q=>q.unwish) fun _ _ z=>False.elim z
end
section
variable {X:Cx} {st:Stmt} {rest:List Stmt} {t u:TS} {e:Expr} {te:TE} {pos:Pos}
noncomputable def zeC:TS:=fun D σ H=>D.nx σ H
noncomputable def tSeq(t u:TS):TS:=fun D σ H=>t { D with nx:=u D } σ H
theorem pss_nil:PSs X [] zeC:=fun _ _ σ H _ I h=>wpAny_execs_nil ⟨σ,H,I,h⟩
theorem Zo(h1:PS X st t)(h2:PSs X rest u):PSs X (st::rest) (tSeq t u):=by
 intro pins s σ H D I h
 refine wpAny_execs_cons (thn (h1 pins s σ H { D with nx:=u D } I h) fun f s1 q=>?_)
 cases f with
 |next=>
  obtain⟨σ',H',I',q⟩:=q
  exact h2 pins s1 σ' H' D I' q
 |ret v=>exact q
 |brk=>exact q
 |cont=>exact q
theorem QR(h1:PS X st t):PSs X [st] t:=by
 intro pins s σ H D I h
 refine wpAny_execs_cons (thn (h1 pins s σ H D I h) fun f s1 q=>?_)
 cases f with
 |next=>exact wpAny_execs_nil q
 |ret v=>exact q
 |brk=>exact q
 |cont=>exact q
theorem ps_pass:PS X (.Pass pos) zeC:=fun _ _ σ H _ I h=>wpAny_Pass ⟨σ,H,I,h⟩
theorem Inv.quiet{pins:List (Addr×Obj)}{σ:St}{H:Hp}{s:Shared}(I:Inv X pins σ H s):interactive X.env=false:=by simp[interactive,I.ok.kind]
noncomputable def zhF(te:TE):TS:=fun D σ H=>te σ H fun _ H1=>D.nx σ H1
theorem Y4(he:PE X e te)(hs:swapsWith e none pos.line X.env=pure false:=by rfl):PS X (.Expr e pos) (zhF te):=by
 intro pins s σ H D I h
 exact wpAny_Expr_any (thn (he pins s σ H _ I h) fun v s1 ⟨x,H1,I1,r1,q1⟩=>⟨σ,H1,I1,q1⟩) I.quiet hs
noncomputable def tRet(te:TE):TS:=fun D σ H=>te σ H D.rt
theorem Yf(he:PE X e te):PS X (.Return (some e) pos) (tRet te):=by
 intro pins s σ H D I h
 exact wpAny_Return_some (thn (he pins s σ H _ I h) fun v s1 ⟨x,H1,I1,r1,q1⟩=>⟨x,σ,H1,I1,r1,q1⟩)
noncomputable def tIfS(c:TT)(t u:TS):TS:=fun D σ H=>c σ H fun b H1=>if b=true then t D σ H1 else u D σ H1
theorem zhk{c:Expr}{a b:List Stmt}{tc:TT}(hc:PT X c tc)(ha:PSs X a t)(hb:PSs X b u):PS X (.If c a b pos) (tIfS tc t u):=by
 intro pins s σ H D I h
 refine wpAny_If (thn (hc pins s σ H _ I h) fun d s1 ⟨H1,I1,q1⟩=>?_)
 cases d with
 |true=>exact ha pins s1 σ H1 D I1 q1
 |false=>exact hb pins s1 σ H1 D I1 q1
end
noncomputable abbrev TG:=V->St->Hp->(St->Hp->Prop)->Prop
noncomputable abbrev TGs:=List V->St->Hp->(St->Hp->Prop)->Prop
noncomputable def PG(X:Cx)(target:Expr)(t:TG):Prop :=
 ∀ (pins:List (Addr×Obj)) (s:Shared) (σ:St) (H:Hp) (v:V) (u:Value) (Q:St->Hp->Prop),Inv X pins σ H s->RelV v u->t v σ H Q ->
  wpAny (model X.prog X.w) X.A (assign target X.env u) (fun _ s'=>∃ σ' H',Inv X pins σ' H' s'/\Q σ' H') X.xe s
noncomputable def PGs(X:Cx)(ts:List Expr)(t:TGs):Prop :=
 ∀ (pins:List (Addr×Obj)) (s:Shared) (σ:St) (H:Hp) (vs:List V) (us:List Value) (Q:St->Hp->Prop),Inv X pins σ H s->Vals vs us->t vs σ H Q ->
  wpAny (model X.prog X.w) X.A (assignInOrder ((assignEach ts X.env).map (·.2)) us) (fun _ s'=>∃ σ' H',Inv X pins σ' H' s'/\Q σ' H') X.xe s
noncomputable abbrev zcm:=V->V->V->Hp->(Hp->Prop)->Prop
noncomputable def zeK(X:Cx)(t:zcm):Prop :=
 ∀ (pins:List (Addr×Obj)) (s:Shared) (σ:St) (H:Hp) (o i v:V) (ov iv u:Value) (Q:Hp->Prop),Inv X pins σ H s->RelV o ov->RelV i iv->RelV v u->t o i v H Q ->
  wpAny (model X.prog X.w) X.A (setItem ov iv u) (fun _ s'=>∃ H',Inv X pins σ H' s'/\Q H') X.xe s
section
variable {X:Cx} {pos:Pos}
noncomputable def wI(i:Nat):TG:=fun v σ H Q=>Q (σ.set i (some v)) H
theorem Y0{i:Nat}{x:Str}(hN:X.N.Nodup)(hi:X.N[i]?=some x)(hx:Loc X.env.scope x)(hf:X.fn x=true∨X.env.scope.names.lookup x=some .local:=by first | exact .inl rfl | exact .inr rfl | assumption):PG X (.Name x pos) (wI i):=by
 intro pins s σ H v u Q I r h
 exact wpAny_assign_Name (QY I hN hi hx r (fun s' I'=>⟨_,H,I',h⟩) hf)
noncomputable def gNil:TGs:=fun vs σ H Q=>vs= []/\Q σ H
noncomputable def zg1(t:TG)(u:TGs):TGs:=fun vs σ H Q=>∃ v r,vs=v::r/\t v σ H fun σ' H'=>u r σ' H' Q
theorem pgs_nil:PGs X [] gNil:=by
 intro pins s σ H vs us Q I r h
 obtain⟨e,h⟩:=h
 subst e
 cases r
 exact assignInOrder_nil ⟨σ,H,I,h⟩
theorem za6{e:Expr}{es:List Expr}{t:TG}{u:TGs}(h1:PG X e t)(h2:PGs X es u)
  (hs:(assignEach (e::es) X.env).map (·.2)=assign e X.env::(assignEach es X.env).map (·.2):=by rfl):PGs X (e::es) (zg1 t u):=by
 intro pins s σ H vs us Q I r h
 obtain⟨v,vr,e1,h⟩:=h
 subst e1
 cases r with
 |cons r rr=>
  rw[hs]
  refine assignInOrder_cons (thn (h1 pins s σ H _ _ _ I r h) fun _ s1 ⟨σ1,H1,I1,q1⟩=>?_)
  exact h2 pins s1 σ1 H1 _ _ Q I1 rr q1
noncomputable def gTup(K:PySem.W.Frag)(n:Nat)(t:TGs):TG:=fun v σ H Q=>∃ a xs,v=.ref a/\SqT K H a xs/\xs.length=n/\t xs σ H Q
theorem zfN{es:List Expr}{k:Nat}{t:TGs}{n:Nat}(hc:X.calm=true)(h:PGs X es t)
  (hn:(assignEach es X.env).length=n:=by rfl) (hst:(assignEach es X.env).findIdx? (·.1)=none:=by rfl):PG X (.Tuple es k pos) (gTup X.K n t):=by
 intro pins s σ H v u Q I r hw
 obtain⟨a,xs,e1,hq,hl,hw⟩:=hw
 subst e1
 cases r
 obtain⟨its,rv,ht,hz⟩:=I.tuple hq
 refine assign_Tuple_tuple (I.ok.hd hc) ht (by simp[hn,<- hl,rv.length]) hst fun h' hx=>?_
 have I1:Inv X pins σ H { s with heap:=h' }:=I.kept (t':=s.toks) fun b o e=>hx b o (xl (Heap.lt_size e)) e
 exact h pins _ σ H xs _ Q I1 (by simpa using rv) hw
noncomputable def zg2(to ti:TE)(t:zcm):TG:=fun v σ H Q=>to σ H fun o H1=>ti σ H1 fun i H2=>t o i v H2 fun H3=>Q σ H3
theorem zfM{o i:Expr}{to ti:TE}{t:zcm}(ho:PE X o to)(hi:PE X i ti)(hs:zeK X t)
  (ha:∀ v,assign (.Subscript o i pos) X.env v=(do
   let ov<-holding [v] (eval o X.env)
   let iv<-holding [v,ov] (eval i X.env)
   standAt pos
   holding [v,ov,iv] (setItem ov iv v)
   release [v,ov,iv] []):=by intro _;rfl):PG X (.Subscript o i pos) (zg2 to ti t):=by
 intro pins s σ H v u Q I r h
 rw[ha]
 refine wpAny_bind (wpAny_holding (thn (ho pins s σ H _ I h) fun ov s1 ⟨x,H1,I1,r1,q1⟩=>?_))
 refine wpAny_bind (wpAny_holding (thn (hi pins s1 σ H1 _ I1 q1) fun iv s2 ⟨y,H2,I2,r2,q2⟩=>?_))
 refine wpAny_bind (wpAny_standAt (wpAny_bind (wpAny_holding (thn (hs pins s2 σ H2 x y v ov iv u _ I2 r1 r2 r q2) fun _ s3 ⟨H3,I3,q3⟩=>?_))))
 exact wpAny_release ⟨σ,H3,I3,q3⟩
noncomputable def yt(te:TE)(g:TG):TS:=fun D σ H=>te σ H fun x H1=>g x σ H1 D.nx
theorem za8{tg e:Expr}{te:TE}{g:TG}(he:PE X e te)(hg:PG X tg g)(hs:swapsWithSole [tg] e pos.line X.env=pure false:=by rfl)(hw:swappedStores [tg] e X.env=pure none:=by rfl)
    (h1:(assignEach [tg] X.env).map (·.2)= [assign tg X.env]:=by rfl):PS X (.Assign [tg] e pos) (yt te g):=by
  intro pins s σ H D I h
  refine wpAny_Assign_stores (thn (he pins s σ H _ I h) fun v s1 ⟨x,H1,I1,r1,q1⟩=>?_) hs hw
  rw[h1]
  exact thn (hg pins s1 σ H1 x v _ I1 r1 q1) fun _ s2 q=>q
theorem JQ{i:Nat}{x:Str}{e:Expr}{te:TE}{pos':Pos}(hN:X.N.Nodup)(hi:X.N[i]?=some x)(hx:Loc X.env.scope x)(he:PE X e te)(hs:swapsWith e (some (.Name x pos')) pos.line X.env=pure false:=by rfl)(hf:X.fn x=true∨X.env.scope.names.lookup x=some .local:=by first | exact .inl rfl | exact .inr rfl | assumption) :
    PS X (.Assign [.Name x pos'] e pos) (yt te (wI i)):=by
  intro pins s σ H D I h
  refine wpAny_Assign_Name (thn (he pins s σ H _ I h) fun v s1 ⟨y,H1,I1,r1,q1⟩=>?_) hs
  exact QY I1 hN hi hx r1 (fun s2 I2=>⟨_,H1,I2,q1⟩) hf
end
section
variable {X:Cx} {pos:Pos}
end
structure It where
 go:Nat->Hp->Prop
 yld:Nat->Hp->V->Hp->Prop
 stop:Nat->Hp->Prop
noncomputable def Qn(X:Cx)(pins:List (Addr×Obj))(H:Hp)(b:Addr):Prop :=
 H b=none/\b≠X.env.locals/\b∉X.fs/\(b∈X.ex∨X.s₀.heap.objs.size<=b)/\(∀ x c,X.env.cells.lookup x=some c->c≠b)/\∀ p∈X.pn++pins,p.1≠b
theorem Inv.fpOk{X:Cx}{pins:List (Addr×Obj)}{σ:St}{H H':Hp}{s:Shared}{b:Addr}(I:Inv X pins σ H s)(hb:s.heap.objs.size<=b)(hn:H' b=none):Qn X pins H' b:=by
 refine⟨hn,ux (xn I.lt hb),I.nofs hb,.inr (xC I.sz hb),fun x c e z=>?_,fun p hp z=>?_⟩
 ·obtain⟨v,q⟩:=I.cell x c e
  exact absurd (xn q.lt (by rw[z];exact hb)) (xO _)
 ·exact absurd (xn (Heap.lt_size (I.pin p hp).1) (by rw[z];exact hb)) (xO _)
structure vO(P:Program)(w:World)(K:PySem.W.Frag)(tg:Expr)(J:It)(fp:List Addr)(it:Addr)(tn:Nat->Heap->Prop):Prop where
 mem:it∈fp
 obj:∀ i h,tn i h->∀ b∈fp,∃ o,h.get? b=some o/\∀ v,o.data≠ .cell v
 keep:∀ i h h',tn i h->(∀ b∈fp,∀ o,h.get? b=some o->h'.get? b=some o)->tn i h'
 item:∀ (X:Cx),X.prog=P->X.w=w->X.K=K->X.calm=true->∀ (i:Nat) (pins:List (Addr×Obj)) (s:Shared) (σ:St) (H:Hp) (E:Value->Shared->Prop),Inv X pins σ H s->(∀ b∈fp,Qn X pins H b)->tn i s.heap->J.go i H ->
  wpAny (model P w) X.A (pyNext (.ref it)) (fun r s1=>∃ u,r=some u /\
   wpAny (model P w) X.A (letOwnedTupleGo tg (.ref it) u) (fun _ s2=>∃ x H',Inv X pins σ H' s2/\RelV x u/\J.yld i H x H'/\tn (i+1) s2.heap/\∀ b∈fp,H' b=none) E s1) E s
 done:∀ (X:Cx),X.prog=P->X.w=w->X.K=K->X.calm=true->∀ (i:Nat) (pins:List (Addr×Obj)) (s:Shared) (σ:St) (H:Hp) (E:Value->Shared->Prop),Inv X pins σ H s->(∀ b∈fp,Qn X pins H b)->tn i s.heap->J.stop i H ->
  wpAny (model P w) X.A (pyNext (.ref it)) (fun r s1=>r=none/\Inv X pins σ H s1) E s
 self:∀ (A:Around) (i:Nat) (s:Shared) (Q:Value->Shared->Prop) (E:Value->Shared->Prop),tn i s.heap->Q (.ref it) s->wpAny (model P w) A (pyIter (.ref it)) Q E s
noncomputable abbrev TI:=St->Hp->(It->Hp->Prop)->Prop
noncomputable def PIE(X:Cx)(pins:List (Addr×Obj))(σ:St)(tg:Expr)(R:It->Hp->Prop)(itv:Value)(s2:Shared):Prop :=
 ∃ (it:Addr) (fp:List Addr) (tn:Nat->Heap->Prop) (J:It) (H':Hp),itv=.ref it/\Inv X pins σ H' s2/\vO X.prog X.w X.K tg J fp it tn/\tn 0 s2.heap/\(∀ b∈fp,Qn X pins H' b)/\R J H'
noncomputable def PI(X:Cx)(tg iter:Expr)(wi:TI):Prop :=
 ∀ (pins:List (Addr×Obj)) (s:Shared) (σ:St) (H:Hp) (R:It->Hp->Prop),Inv X pins σ H s->wi σ H R ->
  wpAny (model X.prog X.w) X.A (eval iter X.env) (fun v s1=>wpAny (model X.prog X.w) X.A (pyIter v) (PIE X pins σ tg R) X.xe s1) X.xe s
theorem YM{M:Model}{A:Around}{E:Value->Shared->Prop}{s:Shared}{tg:Expr}{it:Addr}{u:Value}{o:Obj}{n:String}{vs:Array Value}{Q:Unit->Shared->Prop}(ho:s.heap.get? it=some o)(hc:o.cls=.type n)(hd:o.data=.fields vs)
    (hn: ["enumerate","zip","dict_itemiterator","dict_reverseitemiterator","odict_iterator","itertools.zip_longest","itertools.pairwise"].contains n=false) (hQ:Q () s):wpAny M A (letOwnedTupleGo tg (.ref it) u) Q E s:=by
  unfold letOwnedTupleGo
  cases tg<;>first
    |exact wpAny_pure hQ
    | (cases u<;>first
        |exact wpAny_pure hQ
        | (refine wpAny_bind (wpAny_load ho ?_)
           rw[hc,hd]
           show wpAny M A (if (["enumerate","zip","dict_itemiterator","dict_reverseitemiterator","odict_iterator","itertools.zip_longest","itertools.pairwise"].contains n&&vs[0]?==some (rawInt _))=true then _ else _) Q E s
           rw[if_neg (by intro h;rw[hn,Bool.false_and]at h;cases h)]
           exact wpAny_pure hQ))
noncomputable def Itl(K:PySem.W.Frag)(a:Addr):It :=
 ⟨fun i H=>∃ xs x,SqL K H a xs/\xs[i]?=some x,fun i H x H'=>H'=H/\∀ xs,SqL K H a xs->xs[i]?=some x,fun i H=>∃ xs,SqL K H a xs/\xs.length<=i⟩
noncomputable def Itt(K:PySem.W.Frag)(a:Addr):It :=
 ⟨fun i H=>∃ xs x,SqT K H a xs/\xs[i]?=some x,fun i H x H'=>H'=H/\∀ xs,SqT K H a xs->xs[i]?=some x,fun i H=>∃ xs,SqT K H a xs/\xs.length<=i⟩
noncomputable def Itr(lo:Int)(n:Nat):It:=⟨fun i _=>i<n,fun i H x H'=>H'=H/\x=.int (lo+i),fun i _=>n<=i⟩
theorem KJ{P:Program}{w:World}{K:PySem.W.Frag}{tg:Expr}(a it:Addr):vO P w K tg (Itl K a) [it] it (fun i h=>h.IsListIter it a i) where
 mem:=by simp
 obj:=fun i h st b hb=>by
  have e:b=it:=by simpa using hb
  subst e
  obtain⟨o,e,c,d⟩:=st
  exact⟨o,e,fun v z=>by rw[d]at z;cases z⟩
 keep:=fun i h h' st k=>st.at fun o e=>k it (by simp) o e
 item:=by
  intro X hP hw hK hc i pins s σ H E I hf st hg
  subst hP hw hK
  obtain⟨xs,x,hq,hx⟩:=hg
  obtain⟨its,rv,p,hz⟩:=I.list hq
  obtain⟨u,hu,ru⟩:=rv.get hx
  obtain⟨f0,f1,f2,f3,f4,f5⟩:=hf it (by simp)
  refine wpAny_pyNext_list_item st p.isList (x:=u) (by simpa using hu) fun h' st' sb=>?_
  have I1:Inv X pins σ H { s with heap:=h' }:=I.turned (t':=s.toks) (fun b o hb e=>(sb.2 b hb).trans e) f0 f1 f3 f4 f5
  obtain⟨o,e,c,d⟩:=id st'
  exact⟨u,rfl,YM (s:={ s with heap:=h' }) e c d (by decide) ⟨x,H,I1,ru,⟨rfl,fun ys hy=>by rw[I.list_inj hy hq];exact hx⟩,st',fun b hb=>(hf b hb).1⟩⟩
 done:=by
  intro X hP hw hK hc i pins s σ H E I hf st hg
  subst hP hw hK
  obtain⟨xs,hq,hx⟩:=hg
  obtain⟨its,rv,p,hz⟩:=I.list hq
  obtain⟨f0,f1,f2,f3,f4,f5⟩:=hf it (by simp)
  have hl:=rv.length
  exact wpAny_pyNext_list_end (I.ok.hd hc) st p.isList (by simp;omega) fun h' eb=>⟨rfl,I.turned (t':=s.toks) (fun b o hb e=>eb b o hb e) f0 f1 f3 f4 f5⟩
 self:=fun _ _ _ _ _ st h=>wpAny_pyIter_listiter st h
theorem Yu{P:Program}{w:World}{K:PySem.W.Frag}{tg:Expr}(a it:Addr):vO P w K tg (Itt K a) [it] it (fun i h=>h.IsTupleIter it a i) where
 mem:=by simp
 obj:=fun i h st b hb=>by
  have e:b=it:=by simpa using hb
  subst e
  obtain⟨o,e,c,d⟩:=st
  exact⟨o,e,fun v z=>by rw[d]at z;cases z⟩
 keep:=fun i h h' st k=>st.at fun o e=>k it (by simp) o e
 item:=by
  intro X hP hw hK hc i pins s σ H E I hf st hg
  subst hP hw hK
  obtain⟨xs,x,hq,hx⟩:=hg
  obtain⟨its,rv,p,hz⟩:=I.tuple hq
  obtain⟨u,hu,ru⟩:=rv.get hx
  obtain⟨f0,f1,f2,f3,f4,f5⟩:=hf it (by simp)
  refine wpAny_pyNext_tuple_item st (show s.heap.IsTuple a its.toArray from p) (x:=u) (by simpa using hu) fun h' st' sb=>?_
  have I1:Inv X pins σ H { s with heap:=h' }:=I.turned (t':=s.toks) (fun b o hb e=>(sb.2 b hb).trans e) f0 f1 f3 f4 f5
  obtain⟨o,e,c,d⟩:=id st'
  exact⟨u,rfl,YM (s:={ s with heap:=h' }) e c d (by decide) ⟨x,H,I1,ru,⟨rfl,fun ys hy=>by rw[I.tuple_inj hy hq];exact hx⟩,st',fun b hb=>(hf b hb).1⟩⟩
 done:=by
  intro X hP hw hK hc i pins s σ H E I hf st hg
  subst hP hw hK
  obtain⟨xs,hq,hx⟩:=hg
  obtain⟨its,rv,p,hz⟩:=I.tuple hq
  obtain⟨f0,f1,f2,f3,f4,f5⟩:=hf it (by simp)
  have hl:=rv.length
  exact wpAny_pyNext_tuple_end (I.ok.hd hc) st (show s.heap.IsTuple a its.toArray from p) (by simp;omega) fun h' eb=>⟨rfl,I.turned (t':=s.toks) (fun b o hb e=>eb b o hb e) f0 f1 f3 f4 f5⟩
 self:=fun _ _ _ _ _ st h=>wpAny_pyIter_tupleiter st h
theorem Yt{P:Program}{w:World}{K:PySem.W.Frag}{tg:Expr}(it:Addr)(lo:Int)(n:Nat):vO P w K tg (Itr lo n) [it] it (fun i h=>IsRangeIter h it (lo+(i:Nat)*1) ((n:Int)-(i:Nat)) 1) where
 mem:=by simp
 obj:=fun i h st b hb=>by
  have e:b=it:=by simpa using hb
  subst e
  exact⟨_,st,fun v z=>by
   have z':Data.fields _=Data.cell v:=z
   cases z'⟩
 keep:=fun i h h' st k=>k it (by simp) _ st
 item:=by
  intro X hP hw hK hc i pins s σ H E I hf st hg
  subst hP hw hK
  obtain⟨f0,f1,f2,f3,f4,f5⟩:=hf it (by simp)
  have W:=Walks.range (prog:=X.prog) (w:=X.w) (I.ok.hd hc) it lo 1 n
  refine W.item i s _ _ hg st fun v h' tk hv st' kk=>?_
  obtain⟨t,rfl⟩:=hv
  have I1:Inv X pins σ H { s with heap:=h',toks:=tk }:=I.turned (fun b o hb e=>kk b o (by simpa using hb) e) f0 f1 f3 f4 f5
  refine⟨_,rfl,YM (s:={ s with heap:=h',toks:=tk }) (n:= "range_iterator") st' rfl rfl (by decide) ⟨.int (lo+i),H,I1,⟨t,?_⟩,⟨rfl,rfl⟩,st',fun b hb=>(hf b hb).1⟩⟩
  rw[Int.mul_one]
 done:=by
  intro X hP hw hK hc i pins s σ H E I hf st hg
  subst hP hw hK
  obtain⟨f0,f1,f2,f3,f4,f5⟩:=hf it (by simp)
  exact wpAny_pyNext_range_end (I.ok.hd hc) st (by have:n<=i:=hg;omega) fun h' eb=>⟨rfl,I.turned (t':=s.toks) (fun b o hb e=>eb b o hb e) f0 f1 f3 f4 f5⟩
 self:=fun _ _ _ _ _ st h=>wpAny_pyIter_rangeiter st h
section
variable {X:Cx} {tg:Expr}
noncomputable def zg4(K:PySem.W.Frag)(tl:TE):TI:=fun σ H R=>tl σ H fun x H1=>∃ a,x=.ref a/\(∃ xs,SqL K H1 a xs)/\R (Itl K a) H1
noncomputable def iTup(K:PySem.W.Frag)(tl:TE):TI:=fun σ H R=>tl σ H fun x H1=>∃ a,x=.ref a/\(∃ xs,SqT K H1 a xs)/\R (Itt K a) H1
theorem Y2{l:Expr}{tl:TE}(hl:PE X l tl):PI X tg l (zg4 X.K tl):=by
 intro pins s σ H R I h
 refine thn (hl pins s σ H _ I h) fun v s1 ⟨x,H1,I1,r1,q1⟩=>?_
 obtain⟨a,e,⟨xs,hq⟩,q⟩:=q1
 subst e
 cases r1
 obtain⟨its,rv,p,hz⟩:=I1.list hq
 refine wpAny_pyIter_list p.isList ?_
 refine⟨s1.heap.objs.size,[s1.heap.objs.size],_,_,H1,rfl,I1.kept (t':=s1.toks) fun b o e=>Heap.get?_push_of_some _ e,KJ a _,⟨_,Heap.get?_push_size _ rfl,rfl,rfl⟩,fun b hb=>?_,q⟩
 have e:b=s1.heap.objs.size:=by simpa using hb
 subst e
 exact I1.fpOk (xi _) (I1.hok.fresh (xi _))
theorem zfO{l:Expr}{tl:TE}(hl:PE X l tl):PI X tg l (iTup X.K tl):=by
 intro pins s σ H R I h
 refine thn (hl pins s σ H _ I h) fun v s1 ⟨x,H1,I1,r1,q1⟩=>?_
 obtain⟨a,e,⟨xs,hq⟩,q⟩:=q1
 subst e
 cases r1
 obtain⟨its,rv,p,hz⟩:=I1.tuple hq
 refine wpAny_pyIter_tuple (show s1.heap.IsTuple a its.toArray from p) ?_
 refine⟨s1.heap.objs.size,[s1.heap.objs.size],_,_,H1,rfl,I1.kept (t':=s1.toks) fun b o e=>Heap.get?_push_of_some _ e,Yu a _,⟨_,Heap.get?_push_size _ rfl,rfl,rfl⟩,fun b hb=>?_,q⟩
 have e:b=s1.heap.objs.size:=by simpa using hb
 subst e
 exact I1.fpOk (xi _) (I1.hok.fresh (xi _))
theorem zbf{pins:List (Addr×Obj)}{σ:St}{H:Hp}{s:Shared}{R:It->Hp->Prop}{E:Value->Shared->Prop}{lo hi:Int}{t u v:Tok}{tk:Nat}(I:Inv X pins σ H s)(h1: -(2 ^ 62)<=lo)(h2:lo<2 ^ 62)(h3: -(2 ^ 62)<=hi)(h4:hi<2 ^ 62)
  (q:R (Itr lo (hi-lo).toNat) H):wpAny (model X.prog X.w) X.A (pyIter (.ref s.heap.objs.size)) (PIE X pins σ tg R) E { s with heap:=s.heap.push { cls:=.type "range",data:=.fields #[.int lo t,.int hi u,.int 1 v] },toks:=tk }:=by
 refine wpAny_pyIter_range (IsRange.new ..) (small_one h1 h2 h3 h4) ?_
 have I1:Inv X pins σ H { s with heap:=s.heap.push { cls:=.type "range",data:=.fields #[.int lo t,.int hi u,.int 1 v] },toks:=tk }:=I.kept fun b o e=>Heap.get?_push_of_some _ e
 refine⟨(s.heap.push { cls:=.type "range",data:=.fields #[.int lo t,.int hi u,.int 1 v] }).objs.size,[(s.heap.push { cls:=.type "range",data:=.fields #[.int lo t,.int hi u,.int 1 v] }).objs.size],_,_,H,rfl,
  I1.kept (t':=tk) fun b o e=>Heap.get?_push_of_some _ e,Yt _ lo (hi-lo).toNat,?_,fun b hb=>?_,q⟩
 ·have e1:lo+((0:Nat):Int)*1=lo:=by simp
  have e2:(((hi-lo).toNat:Nat):Int)-((0:Nat):Int)=Builtin.Range.rangeSize lo hi 1:=by rw[rangeSize_one];split<;>omega
  show IsRangeIter _ _ (lo+((0:Nat):Int)*1) ((((hi-lo).toNat:Nat):Int)-((0:Nat):Int)) 1
  rw[e1,e2]
  exact Heap.get?_push_size _ rfl
 ·have e:b=(s.heap.push { cls:=.type "range",data:=.fields #[.int lo t,.int hi u,.int 1 v] }).objs.size:=by simpa using hb
  subst e
  exact I1.fpOk (xi _) (I1.hok.fresh (xi _))
noncomputable def zg5(ta:TA):TI:=fun σ H R=>ta σ H fun vs H1=>∃ j:Int,vs= [.int j]/\ -(2 ^ 62)<=j/\j<2 ^ 62/\R (Itr 0 j.toNat) H1
theorem Kq {a:Expr}{ta:TA}{p pos:Pos}(hg:Gl X "range") (hm:X.mg "range" =none) (ha:PA X [a] ta) (hs:starEach [a] X.env= [(false,eval a X.env)]:=by rfl):PI X tg (.Call (.Name "range" p) [a] [] pos) (zg5 ta):=by
 intro pins s σ H R I h
 refine Call_ (wP I hg hm boot_range (PyProof.Rows.callWith_type1 (thn (ha pos pins s σ H _ I h) fun us s1 ⟨vs,H1,I1,r1,q1⟩=>?_) hs rfl))
 obtain⟨j,e,q1,q2,q⟩:=q1
 subst e
 cases r1 with
 |cons r rr=>
  cases rr
  obtain⟨t,rfl⟩:=r
  exact call_range_1 (zbf I1 (by omega) (by omega) q1 q2 (by simpa using q))
noncomputable def tFor(wi:TI)(g:TG)(tb:TS):TS:=fun D σ H=>wi σ H fun J H1=>∃ W:Nat->Nat->St->Hp->Prop,(∃ m,W 0 m σ H1)/\∀ i m σ H,W i m σ H ->
 (J.stop i H/\D.nx σ H)∨(J.go i H/\∃ N:St->Hp->Prop,(∀ σ' H',N σ' H'->∃ m',m'<m/\W (i+1) m' σ' H')/\∀ x H',J.yld i H x H'->g x σ H' fun σ2 H2=>tb { D with nx:=N,ct:=N,bk:=D.nx } σ2 H2)
noncomputable def wX(fp:List Addr)(h:Heap):List (Addr×Obj):=fp.filterMap fun b=>(h.get? b).map fun o=>(b,o)
theorem jf{fp:List Addr}{h:Heap}{b:Addr}{o:Obj}(hb:b∈fp)(e:h.get? b=some o):(b,o)∈wX fp h:=uu.mpr ⟨b,hb,by rw[e];rfl⟩
theorem Kl{fp:List Addr}{h:Heap}{p:Addr×Obj}(hp:p∈wX fp h):p.1∈fp/\h.get? p.1=some p.2:=by
 obtain⟨b,hb,e⟩:=uu.mp hp
 cases q:h.get? b with
 |none=>rw[q]at e;cases e
 |some o=>
  rw[q]at e
  have e':(b,o)=p:=Option.some.inj e
  subst e'
  exact⟨hb,q⟩
theorem Inv.pinned{pins:List (Addr×Obj)}{σ:St}{H:Hp}{s:Shared}{fp:List Addr}(I:Inv X pins σ H s)(hf:∀ b∈fp,Qn X pins H b)(ho:∀ b∈fp,∃ o,s.heap.get? b=some o/\∀ v,o.data≠ .cell v):Inv X (pins++wX fp s.heap) σ H s :=
 I.pins_of fun p hp=>(xE.mp hp).elim (fun z=>I.pin p (xv _ z)) fun z=>by
  obtain⟨hb,e⟩:=Kl z
  obtain⟨f0,f1,f2,_⟩:=hf p.1 hb
  obtain⟨o,e',d⟩:=ho p.1 hb
  rw[e]at e';cases e'
  exact⟨e,f0,f1,f2,d⟩
theorem Inv.unpinned{pins pl:List (Addr×Obj)}{σ:St}{H:Hp}{s:Shared}(I:Inv X (pins++pl) σ H s):Inv X pins σ H s:=I.pins_of fun p hp=>I.pin p (xv _ (xU _ hp))
theorem za9{iter:Expr}{body:List Stmt}{wi:TI}{g:TG}{tb:TS}{pos:Pos}(hp:PassesOwn (model X.prog X.w) X.A X.env X.xe)(hc:X.calm=true)(hi:PI X tg iter wi)(hg:PG X tg g)(hb:PSs X body tb)
  (hs:∀ x,foldedSetIterable iter X.env x=pure x:=by intro _;rfl):PS X (.For tg iter body [] pos) (tFor wi g tb):=by
 intro pins s σ H D I h
 refine wpAny_For (thn (hi pins s σ H _ I h) fun v s1 h1=>thn h1 fun itv s2 h2=>?_) hs
 obtain⟨it,fp,tn,J,H2,e,I2,T,st2,f2,W,⟨m0,w0⟩,turn⟩:=h2
 subst e
 -- what stays true of the iterator's objects through the loop
 have stat:∀ {H':Hp},(∀ b∈fp,H' b=none)->∀ b∈fp,Qn X pins H' b:=fun hn b hb=>⟨hn b hb,(f2 b hb).2⟩
 refine codeAny_forLoop_any (fun n s'=>∃ i σ' H',Inv X pins σ' H' s'/\tn i s'.heap/\(∀ b∈fp,H' b=none)/\W i n σ' H') ?_ m0 ⟨0,σ,H2,I2,st2,fun b hb=>(f2 b hb).1,w0⟩
 rintro n s3 ⟨i,σ3,H3,I3,st3,fr3,w3⟩
 rcases turn i n σ3 H3 w3 with ⟨stop,qn⟩ | ⟨go,N,hN,step⟩
 ·refine wpAny_passesOwn hp (thn (T.done X rfl rfl rfl hc i pins s3 σ3 H3 X.xe I3 (stat fr3) st3 stop) fun r s4 ⟨hr,I4⟩=>?_)
  subst hr
  exact wpAny_execs_nil ⟨σ3,H3,I4,qn⟩
 ·refine wpAny_passesOwn hp (thn (T.item X rfl rfl rfl hc i pins s3 σ3 H3 X.xe I3 (stat fr3) st3 go) fun r s4 ⟨u,hr,h4⟩=>?_)
  subst hr
  refine wpAny_passesOwn hp (thn h4 fun _ s5 ⟨x,H5,I5,r5,y5,st5,fr5⟩=>?_)
  have I5':=I5.pinned (stat fr5) (T.obj _ _ st5)
  refine wpAny_passesOwn hp (thn (hg _ s5 σ3 H5 x u _ I5' r5 (step x H5 y5)) fun _ s6 ⟨σ6,H6,I6,q6⟩=>?_)
  refine wpAny_passesOwn hp (thn (hb _ s6 σ6 H6 _ I6 q6) fun f s7 q7=>?_)
  have again:∀ {σ7:St} {H7:Hp},Inv X (pins++wX fp s5.heap) σ7 H7 s7->N σ7 H7->∃ m,m<n/\∃ i σ' H',Inv X pins σ' H' s7/\tn i s7.heap/\(∀ b∈fp,H' b=none)/\W i m σ' H':=fun {σ7 H7} I7 n7=>by
   obtain⟨m',hm,w7⟩:=hN σ7 H7 n7
   refine⟨m',hm,i+1,σ7,H7,I7.unpinned,T.keep _ _ _ st5 fun b hb o e=>(I7.pin (b,o) (xv _ (xv _ (jf hb e)))).1,fun b hb=>?_,w7⟩
   obtain⟨o,e,d⟩:=T.obj _ _ st5 b hb
   exact (I7.pin (b,o) (xv _ (xv _ (jf hb e)))).2.1
  cases f with
  |next=>obtain⟨σ7,H7,I7,n7⟩:=q7;exact again I7 n7
  |cont=>obtain⟨σ7,H7,I7,n7⟩:=q7;exact again I7 n7
  |brk=>obtain⟨σ7,H7,I7,q7⟩:=q7;exact⟨σ7,H7,I7.unpinned,q7⟩
  |ret v=>obtain⟨x7,σ7,H7,I7,r7,q7⟩:=q7;exact⟨x7,σ7,H7,I7.unpinned,r7,q7⟩
end
theorem zaw{K:PySem.W.Frag}{a:Addr}{xs:List V}{g:TG}{tb:TS}{D:qQ}{σ:St}{H:Hp}(Pv:Nat->St->Hp->Prop)(h0:Pv 0 σ H)(hl:∀ i σ H,i<=xs.length->Pv i σ H->SqL K H a xs)
  (hs:∀ i x σ H,xs[i]?=some x->Pv i σ H->g x σ H fun σ2 H2=>tb { D with nx:=Pv (i+1),ct:=Pv (i+1),bk:=D.nx } σ2 H2) (hd:∀ σ H,Pv xs.length σ H->D.nx σ H) :
  ∃ W:Nat->Nat->St->Hp->Prop,(∃ m,W 0 m σ H)/\∀ i m σ H,W i m σ H ->
   ((Itl K a).stop i H/\D.nx σ H)∨((Itl K a).go i H/\∃ N:St->Hp->Prop,(∀ σ' H',N σ' H'->∃ m',m'<m/\W (i+1) m' σ' H')/\∀ x H',(Itl K a).yld i H x H'->g x σ H' fun σ2 H2=>tb { D with nx:=N,ct:=N,bk:=D.nx } σ2 H2):=by
 refine⟨fun i m σ H=>m=xs.length-i/\i<=xs.length/\Pv i σ H,⟨xs.length,by simp,xV _,h0⟩,?_⟩
 rintro i m σ H ⟨rfl,hi,p⟩
 have q:=hl i σ H hi p
 by_cases hlt:i<xs.length
 ·refine .inr ⟨⟨xs,xs[i],q,by simp[hlt]⟩,Pv (i+1),fun σ' H' p'=>⟨xs.length-(i+1),by omega,rfl,hlt,p'⟩,fun x H' y=>?_⟩
  obtain⟨e,y⟩:=y
  subst e
  exact hs i x σ _ (y xs q) p
 ·have e:i=xs.length:=by omega
  subst e
  exact .inl ⟨⟨xs,q,xi _⟩,hd σ H p⟩
noncomputable abbrev R2:=V->V->Hp->VK->Prop
noncomputable def OpR(X:Cx)(f:Value->Value->Sem Value)(r:R2):Prop :=
 ∀ (pins:List (Addr×Obj)) (s:Shared) (σ:St) (H:Hp) (x y:V) (v u:Value) (Q:VK),Inv X pins σ H s->RelV x v->RelV y u->r x y H Q ->
  wpAny (model X.prog X.w) X.A (f v u) (EP X pins σ Q) X.xe s
noncomputable def UnR(X:Cx)(f:Value->Sem Value)(r:V->Hp->VK->Prop):Prop :=
 ∀ (pins:List (Addr×Obj)) (s:Shared) (σ:St) (H:Hp) (x:V) (v:Value) (Q:VK),Inv X pins σ H s->RelV x v->r x H Q ->
  wpAny (model X.prog X.w) X.A (f v) (EP X pins σ Q) X.xe s
noncomputable def jj(X:Cx)(f:Value)(r:List V->Hp->VK->Prop):Prop :=
 ∀ (pins:List (Addr×Obj)) (s:Shared) (σ:St) (H:Hp) (xs:List V) (us:List Value) (Q:VK),Inv X pins σ H s->Vals xs us->r xs H Q ->
  wpAny (model X.prog X.w) X.A (call f us) (EP X pins σ Q) X.xe s
noncomputable def TruR(X:Cx)(r:V->Hp->(Bool->Hp->Prop)->Prop):Prop :=
 ∀ (pins:List (Addr×Obj)) (s:Shared) (σ:St) (H:Hp) (x:V) (v:Value) (Q:Bool->Hp->Prop),Inv X pins σ H s->RelV x v->r x H Q ->
  wpAny (model X.prog X.w) X.A (truthy v) (TP X pins σ Q) X.xe s
noncomputable def tOp(r:R2)(ta tb:TE):TE:=fun σ H Q=>ta σ H fun x H1=>tb σ H1 fun y H2=>r x y H2 Q
noncomputable def tUn(r:V->Hp->VK->Prop)(ta:TE):TE:=fun σ H Q=>ta σ H fun x H1=>r x H1 Q
noncomputable def rI(C:Int->Int->Prop)(g:Int->Int->V):R2:=fun x y H Q=>∃ i j,x=.int i/\y=.int j/\C i j/\Q (g i j) H
noncomputable def rI0(g:Int->Int->V):R2:=fun x y H Q=>∃ i j,x=.int i/\y=.int j/\Q (g i j) H
noncomputable def rU(g:Int->V):V->Hp->VK->Prop:=fun x H Q=>∃ i,x=.int i/\Q (g i) H
section
variable {X:Cx} {a b c:Expr} {ta tb tc:TE} {pos:Pos}
theorem zeN(ha:PE X a ta)(hb:PE X b tb){pins:List (Addr×Obj)}{s:Shared}{σ:St}{H:Hp}{R:V->V->Hp->Prop}(I:Inv X pins σ H s)
  (h:ta σ H fun x H1=>tb σ H1 fun y H2=>R x y H2) {Q:Value->Shared->Prop} {f:Value->Value->Sem Value}
  (hf:∀ v u s2 x y H2,Inv X pins σ H2 s2->RelV x v->RelV y u->R x y H2->wpAny (model X.prog X.w) X.A (f v u) Q X.xe s2) :
  wpAny (model X.prog X.w) X.A (eval a X.env) (fun v s₁=>wpAny (model X.prog X.w) X.A (eval b X.env) (fun u s₂=>wpAny (model X.prog X.w) X.A (f v u) Q X.xe s₂) X.xe s₁) X.xe s:=by
 refine thn (ha pins s σ H _ I h) fun v s1 ⟨x,H1,I1,r1,q1⟩=>?_
 refine thn (hb pins s1 σ H1 _ I1 q1) fun u s2 ⟨y,H2,I2,r2,q2⟩=>?_
 exact hf v u s2 x y H2 I2 r1 r2 q2
theorem yc{op:Operator}{r:R2}(ho:OpR X (binaryOp op) r)(ha:PE X a ta)(hb:PE X b tb):PE X (.BinOp a op b pos) (tOp r ta tb):=by
 intro pins s σ H Q I h
 exact wpAny_BinOp (zeN ha hb I h fun v u s2 x y H2 I2 rx ry q=>ho pins s2 σ H2 x y v u Q I2 rx ry q)
theorem zeu{op:UnaryOp}{r:V->Hp->VK->Prop}(ho:UnR X (unaryOp op) r)(ha:PE X a ta):PE X (.UnaryOp op a pos) (tUn r ta):=by
 intro pins s σ H Q I h
 exact UnaryOp_ (thn (ha pins s σ H _ I h) fun v s1 ⟨x,H1,I1,r1,q1⟩=>ho pins s1 σ H1 x v Q I1 r1 q1)
theorem opI{f:Value->Value->Sem Value}{C:Int->Int->Prop}{g:Int->Int->Int}
  (rule:∀ (i j:Int) (t u:Tok) (s:Shared) (Q:Value->Shared->Prop) (E:Value->Shared->Prop),C i j->Q (.int (g i j) s.toks) { s with toks:=s.toks+1 }->wpAny (model X.prog X.w) X.A (f (.int i t) (.int j u)) Q E s) :
  OpR X f (rI C fun i j=>.int (g i j)):=by
 intro pins s σ H x y v u Q I rx ry h
 obtain⟨i,j,rfl,rfl,hc,q⟩:=h
 obtain⟨t,rfl⟩:=rx
 obtain⟨t',rfl⟩:=ry
 exact rule i j t t' s _ _ hc ⟨.int (g i j),H,I.tok _,⟨_,rfl⟩,q⟩
theorem zfA{f:Value->Value->Sem Value}{g:Int->Int->Int}
  (rule:∀ (i j:Int) (t u:Tok) (s:Shared) (Q:Value->Shared->Prop) (E:Value->Shared->Prop),Q (.int (g i j) s.toks) { s with toks:=s.toks+1 }->wpAny (model X.prog X.w) X.A (f (.int i t) (.int j u)) Q E s) :
  OpR X f (rI0 fun i j=>.int (g i j)):=by
 intro pins s σ H x y v u Q I rx ry h
 obtain⟨i,j,rfl,rfl,q⟩:=h
 obtain⟨t,rfl⟩:=rx
 obtain⟨t',rfl⟩:=ry
 exact rule i j t t' s _ _ ⟨.int (g i j),H,I.tok _,⟨_,rfl⟩,q⟩
theorem zc4{f:Value->Value->Sem Value}{g:Int->Int->Bool}
  (rule:∀ (i j:Int) (t u:Tok) (s:Shared) (Q:Value->Shared->Prop) (E:Value->Shared->Prop),Q (.bool (g i j)) s->wpAny (model X.prog X.w) X.A (f (.int i t) (.int j u)) Q E s) :
  OpR X f (rI0 fun i j=>.bl (g i j)):=by
 intro pins s σ H x y v u Q I rx ry h
 obtain⟨i,j,rfl,rfl,q⟩:=h
 obtain⟨t,rfl⟩:=rx
 obtain⟨t',rfl⟩:=ry
 exact rule i j t t' s _ _ ⟨.bl (g i j),H,I,rfl,q⟩
noncomputable def CDiv(i j:Int):Prop:=0<j/\j<1073741824
noncomputable def zgN(i j:Int):Prop:=0<=j/\j<=1000000/\i.natAbs<2 ^ 64
noncomputable def CMul(i j:Int):Prop:=(-(2 ^ 64)<i/\i<2 ^ 64)∨(-(2 ^ 64)<j/\j<2 ^ 64)
theorem CMul.ok{i j:Int}(h:CMul i j):IntMulOk i j:=by
 rcases h with ⟨h1,h2⟩ | ⟨h1,h2⟩
 ·exact .of_left (intBits_le_64 h1 h2)
 ·exact .of_right (intBits_le_64 h1 h2)
theorem Yv(k:Nat):(0:Int)<=2 ^ k:=by
 rw[two_pow_cast]
 exact Int.natCast_nonneg _
theorem Ye:OpR X (binaryOp .Add) (rI0 fun i j=>.int (i+j)):=zfA fun _ _ _ _ _ _ _ q=>add_int q
theorem zfH:OpR X (binaryOp .Sub) (rI0 fun i j=>.int (i-j)):=zfA fun _ _ _ _ _ _ _ q=>sub_int q
theorem zaX:OpR X (binaryOp .Mult) (rI CMul fun i j=>.int (i*j)):=opI fun _ _ _ _ _ _ _ hc q=>mul_int q hc.ok
theorem zc5:OpR X (binaryOp .FloorDiv) (rI CDiv fun i j=>.int (i / j)):=opI fun i j _ _ _ _ _ hc q=>by
 have h1:(0:Int)<j:=hc.1
 have h2:j<1073741824:=hc.2
 exact floordiv_int (by omega) (by rw[Int.fdiv_eq_ediv_of_nonneg i (by omega)];exact q) (.inl (PyProof.noPylong_small (by omega)))
theorem zaW:OpR X (binaryOp .Mod) (rI (fun _ j=>0<j) fun i j=>.int (i % j)):=opI fun i j _ _ _ _ _ hc q=>by
 have h1:(0:Int)<j:=hc
 exact mod_int' (by omega) (by rw[Int.fmod_eq_emod_of_nonneg i (by omega)];exact q)
theorem zfD:OpR X (binaryOp .Pow) (rI zgN fun i j=>.int (i ^ j.toNat)):=opI fun _ _ _ _ _ _ _ hc q=>pow_int_small hc.1 hc.2.1 hc.2.2 q
theorem zfE:OpR X (binaryOp .LShift) (rI zgN fun i j=>.int (i*2 ^ j.toNat)):=opI fun _ _ _ _ _ _ _ hc q=>lshift_int_small hc.1 hc.2.1 hc.2.2 q
theorem zfF:OpR X (binaryOp .RShift) (rI (fun _ j=>0<=j) fun i j=>.int (i / 2 ^ j.toNat)):=opI fun i j _ _ _ _ _ hc q=>
 rshift_int hc (by rw[Int.fdiv_eq_ediv_of_nonneg i (Yv _)];exact q)
theorem zfB:OpR X (binaryOp .BitAnd) (rI0 fun i j=>.int (Builtin.bitAnd i j)):=zfA fun _ _ _ _ _ _ _ q=>and_int q
theorem unI{f:Value->Sem Value}{g:Int->Int}
  (rule:∀ (i:Int) (t:Tok) (s:Shared) (Q:Value->Shared->Prop) (E:Value->Shared->Prop),Q (.int (g i) s.toks) { s with toks:=s.toks+1 }->wpAny (model X.prog X.w) X.A (f (.int i t)) Q E s) :
  UnR X f (rU fun i=>.int (g i)):=by
 intro pins s σ H x v Q I rx h
 obtain⟨i,rfl,q⟩:=h
 obtain⟨t,rfl⟩:=rx
 exact rule i t s _ _ ⟨.int (g i),H,I.tok _,⟨_,rfl⟩,q⟩
theorem zgH:UnR X (unaryOp .USub) (rU fun i=>.int (-i)):=unI fun _ _ _ _ _ q=>neg_int q
end
section
variable {X:Cx} {a b c:Expr} {ta tb tc:TE} {pos:Pos}
theorem zav{pins:List (Addr×Obj)}{σ:St}{H:Hp}{s:Shared}{Q:VK}{k k':Bool}(I:Inv X pins σ H s)(q:Q (.bl k) H)(e:k=k'):EP X pins σ Q (.bool k') s:=by
 subst e
 exact⟨.bl k,H,I,rfl,q⟩
theorem zhf:OpR X (compareOp .Lt) (rI0 fun i j=>.bl (decide (i<j))):=zc4 fun _ _ _ _ _ _ _ q=>lt_int q
theorem zhe:OpR X (compareOp .LtE) (rI0 fun i j=>.bl (decide (i<=j))):=zc4 fun _ _ _ _ _ _ _ q=>le_int q
theorem zhd:OpR X (compareOp .Gt) (rI0 fun i j=>.bl (decide (j<i))):=zc4 fun _ _ _ _ _ _ _ q=>gt_int q
theorem zhc:OpR X (compareOp .GtE) (rI0 fun i j=>.bl (decide (j<=i))):=zc4 fun _ _ _ _ _ _ _ q=>ge_int q
theorem zfC:OpR X (compareOp .Is) (fun x y H Q=>y=.non/\Q (.bl (decide (x=.non))) H):=by
 intro pins s σ H x y v u Q I rx ry h
 obtain⟨rfl,q⟩:=h
 cases ry
 refine is_none_gen (zav I q ?_)
 cases x<;>first
  | (cases rx;rfl)
  | (obtain⟨t,rfl⟩:=rx;rfl)
theorem zc6:OpR X (compareOp .IsNot) (fun x y H Q=>y=.non/\Q (.bl (!decide (x=.non))) H):=by
 intro pins s σ H x y v u Q I rx ry h
 obtain⟨rfl,q⟩:=h
 cases ry
 refine isnot_none_gen (zav I q ?_)
 cases x<;>first
  | (cases rx;rfl)
  | (obtain⟨t,rfl⟩:=rx;rfl)
theorem YZ{op:CmpOp}{r:R2}(ho:OpR X (compareOp op) r)(ha:PE X a ta)(hb:PE X b tb)(hm:behindInMarks op b=false):PE X (.Compare a [op] [b] pos) (tOp r ta tb):=by
 intro pins s σ H Q I h
 exact wpAny_Compare1 (zeN ha hb I h fun v u s2 x y H2 I2 rx ry q=>ho pins s2 σ H2 x y v u Q I2 rx ry q) hm
noncomputable def zeD(t:TE):TT:=fun σ H Q=>t σ H fun x H'=>∃ k,x=.bl k/\Q k H'
theorem Y6{op:CmpOp}{r:R2}(ho:OpR X (compareOp op) r)(ha:PE X a ta)(hb:PE X b tb)(hm:behindInMarks op b=false):PT X (.Compare a [op] [b] pos) (zeD (tOp r ta tb)):=by
 intro pins s σ H Q I h
 refine wpAny_isTrue_Compare1 (thn (ha pins s σ H _ I h) fun v s1 ⟨x,H1,I1,r1,q1⟩=>thn (hb pins s1 σ H1 _ I1 q1) fun u s2 ⟨y,H2,I2,r2,q2⟩=>
  thn (ho pins s2 σ H2 x y v u _ I2 r1 r2 q2) fun c s3 ⟨z,H3,I3,r3,k,e,q3⟩=>?_) hm
 subst e
 cases r3
 exact wpAny_truthy_bool ⟨H3,I3,q3⟩
noncomputable def Yp(r r':R2)(ta tb tc:TE):TE:=fun σ H Q=>ta σ H fun x H1=>tb σ H1 fun y H2=>r x y H2 fun z H3=>∃ k,z=.bl k /\
 (if k=true then tc σ H3 fun w' H4=>r' y w' H4 Q else Q (.bl false) H3)
theorem zaY{op op':CmpOp}{r r':R2}(ho:OpR X (compareOp op) r)(ho':OpR X (compareOp op') r')(ha:PE X a ta)(hb:PE X b tb)(hc:PE X c tc)
  (hm:lastMarks [op,op'] [b,c]=false:=by with_unfolding_all rfl):PE X (.Compare a [op,op'] [b,c] pos) (Yp r r' ta tb tc):=by
 intro pins s σ H Q I h
 refine Compare_chain (thn (ha pins s σ H _ I h) fun v s1 ⟨x,H1,I1,r1,q1⟩=>chain_link (thn (hb pins s1 σ H1 _ I1 q1) fun u s2 ⟨y,H2,I2,r2,q2⟩=>
  thn (ho pins s2 σ H2 x y v u _ I2 r1 r2 q2) fun d s3 ⟨z,H3,I3,r3,k,e,q3⟩=>?_)) hm
 subst e
 cases r3
 refine wpAny_truthy_bool ?_
 cases k with
 |false=>exact ite_ff ⟨.bl false,H3,I3,rfl,q3⟩
 |true=>exact ite_tt (chain_last (thn (hc pins s3 σ H3 _ I3 q3) fun w' s4 ⟨z',H4,I4,r4,q4⟩=>ho' pins s4 σ H4 y z' u w' Q I4 r2 r4 q4))
theorem zbc{op op':CmpOp}{r r':R2}(ho:OpR X (compareOp op) r)(ho':OpR X (compareOp op') r')(ha:PE X a ta)(hb:PE X b tb)(hc:PE X c tc)
  (hm:lastMarks [op,op'] [b,c]=false:=by with_unfolding_all rfl):PT X (.Compare a [op,op'] [b,c] pos) (zeD (Yp r r' ta tb tc)):=by
 intro pins s σ H Q I h
 refine isTrue_chain (thn (ha pins s σ H _ I h) fun v s1 ⟨x,H1,I1,r1,q1⟩=>test_link (thn (hb pins s1 σ H1 _ I1 q1) fun u s2 ⟨y,H2,I2,r2,q2⟩=>
  thn (ho pins s2 σ H2 x y v u _ I2 r1 r2 q2) fun d s3 ⟨z,H3,I3,r3,k,e,q3⟩=>?_)) hm
 subst e
 cases r3
 refine wpAny_truthy_bool ?_
 cases k with
 |false=>
  obtain⟨k',e',q'⟩:=q3
  cases e'
  exact ite_ff ⟨H3,I3,q'⟩
 |true=>
  refine ite_tt (test_last (thn (hc pins s3 σ H3 _ I3 q3) fun w' s4 ⟨z',H4,I4,r4,q4⟩=>thn (ho' pins s4 σ H4 y z' u w' _ I4 r2 r4 q4) fun d' s5 ⟨z2,H5,I5,r5,k2,e2,q5⟩=>?_))
  subst e2
  cases r5
  exact wpAny_truthy_bool ⟨H5,I5,q5⟩
noncomputable def zcn(K:PySem.W.Frag)(x:V)(H:Hp)(k:Bool):Prop :=
 match x with
 |.non=>k=false
 |.bl b=>k=b
 |.int i=>k=(i !=0)
 |.str y=>y.length<=sizeLine/\k=((y.length:Int) !=0)
 |.byt y=>y.size<=sizeLine/\k=((y.size:Int) !=0)
 |.ref p=>(∃ xs,SqL K H p xs/\k= !xs.isEmpty)∨(∃ xs,SqT K H p xs/\k= !xs.isEmpty)∨∃ kvs,H p=some (.dK kvs)/\k= !kvs.isEmpty
 |_=>False
theorem y7{κ:Type}{kvs:List (κ×V)}{vs:List (κ×Value)}(r:KV kvs vs):(!vs.isEmpty)= !kvs.isEmpty:=by
 cases r<;>rfl
theorem wN{xs:List V}{its:List Value}(r:Vals xs its):(!its.toArray.isEmpty)= !xs.isEmpty:=by
 cases r<;>simp
theorem JN:(sizeLine:Nat)<2 ^ 63:=by rw[sizeLine_eq];decide
theorem zbS:TruR X (fun x H Q=>∃ k,zcn X.K x H k/\Q k H):=by
 intro pins s σ H x v Q I rx h
 obtain⟨k,e,q⟩:=h
 have hl:=JN
 have hs:sizeLine=16777216:=sizeLine_eq
 cases x with
 |non=>
  cases rx
  have e':k=false:=e
  subst e'
  exact truthy_none ⟨H,I,q⟩
 |bl b=>
  cases rx
  have e':k=b:=e
  subst e'
  exact wpAny_truthy_bool ⟨H,I,q⟩
 |int i=>
  obtain⟨t,rfl⟩:=rx
  have e':k=(i !=0):=e
  subst e'
  exact PySem.P.truthy_int ⟨H,I,q⟩
 |str y=>
  obtain⟨t,rfl⟩:=rx
  obtain⟨hy,e'⟩:y.length<=sizeLine/\k=((y.length:Int) !=0):=e
  subst e'
  exact PySem.P.truthy_str (by omega) ⟨H,I.tok _,q⟩
 |byt y=>
  obtain⟨t,rfl⟩:=rx
  obtain⟨hy,e'⟩:y.size<=sizeLine/\k=((y.size:Int) !=0):=e
  subst e'
  exact PySem.W.truthy_bytes (by omega) ⟨H,I.tok _,q⟩
 |ref p=>
  cases rx
  have e':(∃ xs,SqL X.K H p xs/\k= !xs.isEmpty)∨(∃ xs,SqT X.K H p xs/\k= !xs.isEmpty)∨∃ kvs,H p=some (.dK kvs)/\k= !kvs.isEmpty:=e
  rcases e' with ⟨xs,hx,e'⟩ | ⟨xs,hx,e'⟩ | ⟨kvs,hx,e'⟩
  ·subst e'
   obtain⟨its,r,pl,hz⟩:=I.list hx
   have hlen:=r.length
   exact wpAny_truthy_list pl.isList (by simp only[xo];omega) ⟨H,I.tok _,by rw[wN r];exact q⟩
  ·subst e'
   obtain⟨its,r,pl,hz⟩:=I.tuple hx
   have hlen:=r.length
   exact truthy_tuple pl (by simp only[xo];omega) ⟨H,I.tok _,by rw[wN r];exact q⟩
  ·subst e'
   obtain⟨hz,hS,vs,r,m⟩:kvs.length<=sizeLine/\(p==sysModules)=false/\∃ vs,KV kvs vs/\s.heap.DictOf (qG X.prog X.w) p vs:=I.hok p _ hx
   have hlen:kvs.length=vs.length:=Paired.length r
   exact wpAny_truthy_dict hS m (by omega) ⟨H,I.tok _,by rw[y7 r];exact q⟩
 |_=>exact (show False from e).elim
theorem zbd(ha:PE X a ta)(he:∀ whole,isTrue a X.env whole=(do let v<-whole;standAt a.pos;holding [v] (truthy v))) :
  PT X a (fun σ H Q=>ta σ H fun x H'=>∃ k,zcn X.K x H' k/\Q k H'):=by
 intro pins s σ H Q I h
 exact isTrue_plain (thn (ha pins s σ H _ I h) fun v s1 ⟨x,H1,I1,r1,q1⟩=>zbS pins s1 σ H1 x v Q I1 r1 q1) (he _)
theorem Zd{x:V}{us:List Value}(r:Vals [x] us):∃ u,us= [u]/\RelV x u:=by
 cases r with
 |cons r1 r2=>cases r2;exact⟨_,rfl,r1⟩
theorem kG{x y:V}{us:List Value}(r:Vals [x,y] us):∃ u w',us= [u,w']/\RelV x u/\RelV y w':=by
 cases r with
 |cons r1 r2=>
  cases r2 with
  |cons r3 r4=>cases r4;exact⟨_,_,rfl,r1,r3⟩
theorem kX (hc:X.calm=true):jj X (.builtin "max") (fun xs H Q=>∃ i j,xs= [.int i,.int j]/\Q (.int (if j>i then j else i)) H):=by
 intro pins s σ H xs us Q I r h
 obtain⟨i,j,rfl,q⟩:=h
 obtain⟨u,w',rfl,⟨t,rfl⟩,⟨t',rfl⟩⟩:=kG r
 refine max_two_ints (I.ok.hd hc) fun h' tk k=>⟨_,H,I.kept k,?_,q⟩
 by_cases hj:j>i
 ·rw[if_pos hj,if_pos hj];exact⟨_,rfl⟩
 ·rw[if_neg hj,if_neg hj];exact⟨_,rfl⟩
end
structure ObjM(h:Heap)(x dx C:Addr)(mA:Str->Option Value):Prop where
 obj:h.get? x=some (PySem.W.instObj C dx)
 ns:h.Ns1 dx mA
 ne:dx≠x
theorem Ki{h:Heap}{dx:Addr}{mA:Str->Option Value}(n:h.Ns1 dx mA):∃ od,h.get? dx=some od/\∀ name,PySem.W.lookIn name od=some (mA name):=by
 obtain⟨o,es,ep,ho,hd,hk,_,hm⟩:=n
 refine⟨o,ho,fun name=>?_⟩
 have e:=hm name
 unfold nsFind findBy at e
 rw[<- Array.find?_toList]at e
 unfold PySem.W.lookIn
 rw[hd]
 dsimp only
 split
 ·rename_i y q
  rw[q]at e
  exact congrArg some e
 ·rename_i q
  rw[q]at e
  have a:es.toList.any (·.refKey)=false:=by
   rw[List.any_eq_false]
   intro y hy
   obtain⟨z,t,hkey⟩:=hk y (Array.mem_toList_iff.mp hy)
   simp[DictEntry.refKey,hkey]
  have a':¬ es.toList.any (·.refKey)=true:=by rw[a];exact uv
  rw[if_neg a']
  exact congrArg some e
theorem ObjM.look{h:Heap}{x dx C:Addr}{mA:Str->Option Value}(I:ObjM h x dx C mA):∃ od,PySem.W.InstAt h x (PySem.W.instObj C dx) C (some od)/\∀ name,PySem.W.lookIn name od=some (mA name) :=
 let ⟨od,ho,hl⟩:=Ki I.ns
 ⟨od,⟨I.obj,rfl,rfl,ho⟩,hl⟩
section
variable {prog:Program} {w:World} {A:Around} {E:Value->Shared->Prop} {s:Shared} {K:PySem.W.Frag} {x dx C f:Addr} {mA:Str->Option Value} {name:Str} {v:Value}
end
section
variable {P:Program} {w:World} {H H':Hp} {h h':Heap} {a C dx:Addr} {fs fs':List (Str×V)}
theorem zcL(hok:HOk P w H h)(e:H a=some (.ins C dx fs)):∃ mA,ObjM h a dx C mA/\(∀ f,RelO (fs.lookup f) (mA f))/\PySem.Within mA (fs.map (·.1))/\fs.length<=1000/\H dx=some (.own a):=by
 obtain⟨d,z,ne,ob,mA,n,r,q⟩:=(show ObjOk P w H h a (.ins C dx fs) from hok a _ e)
 exact⟨mA,⟨ob,n,ne⟩,r,q,z,d⟩
end
structure Cls(K:PySem.W.Frag)(C:Addr):Prop where
 pg:PySem.W.plainGet K C Str.empty=true
 hd:PySem.W.hasDictIn K C=true
 po:PySem.W.plainOver K C=true
 sa:PySem.W.findIn K (.ref C) "__setattr__" =some (some (.builtin "object.__setattr__"))
theorem Cls.get{K:PySem.W.Frag}{C:Addr}(c:Cls K C)(f:Str):PySem.W.plainGet K C f=true:=c.pg
noncomputable def Z7(K:PySem.W.Frag)(C:Addr)(f:Str):Prop:=PySem.W.findIn K (.ref C) f=some none
structure zeH(K:PySem.W.Frag)(C:Addr)(m:Str)(f:Addr):Prop where
 at_:PySem.W.findIn K (.ref C) m=some (some (.ref f))
 fn:PySem.W.isFn K (.ref f)=true
 kp:PySem.W.keepIn K (.ref f)=true
section
variable {X:Cx} {pins:List (Addr×Obj)} {σ:St} {H:Hp} {s:Shared} {a C dx:Addr} {fs:List (Str×V)} {f:Str} {v:V} {A:Around} {E:Value->Shared->Prop}
end
section
variable {X:Cx} {o e value:Expr} {f:Str} {pos pos' tpos:Pos} {ta tv:TE}
end
section
variable {X:Cx} {pins:List (Addr×Obj)} {σ:St} {H:Hp} {s:Shared} {A:Around} {E:Value->Shared->Prop} {Q:Value->Shared->Prop} {c:Value} {b:Bool}
inductive Qo(K:PySem.W.Frag)(H:Hp):V->Value->Prop where
 |non:Qo K H .non (.type "NoneType")
 |bl (x:Bool):Qo K H (.bl x) (.type "bool")
 |int (i:Int):Qo K H (.int i) (.type "int")
 |str (x:Str):Qo K H (.str x) (.type "str")
 |flt (x:UInt64):Qo K H (.flt x) (.type "float")
 |lst {a:Addr} {xs:List V} (e:H a=some (.lst xs)):Qo K H (.ref a) (.type "list")
 |frz {a:Addr} {o:Obj} {xs:List V} (e:H a=some (.frz o (.lst xs))):Qo K H (.ref a) (.type "list")
 |tup {a:Addr} {xs:List V} (e:H a=some (.tup xs)):Qo K H (.ref a) (.type "tuple")
 |dK {a:Addr} {kvs:List (Key×V)} (e:H a=some (.dK kvs)):Qo K H (.ref a) (.type "dict")
 |dT {a:Addr} {kvs:List (List Key×V)} (e:H a=some (.dT kvs)):Qo K H (.ref a) (.type "dict")
 |ins {a C dx:Addr} {fs:List (Str×V)} (e:H a=some (.ins C dx fs)) (cl:Cls K C) (ha:PySem.W.findIn K (.ref C) "__class__" =some (some (.builtin "object.__class__")))
   (hn:PySem.W.specialIn K (.builtin "object.__class__") "__get__" =some (some (.builtin "getset_descriptor.__get__"))) (htk:PySem.W.takesIn K (.builtin "object.__class__")=some true)
   (hm:PySem.W.mroIn K C (.type "object")=some true):Qo K H (.ref a) (.ref C)
theorem Kc{x:V}{u t:Value}(I:Inv X pins σ H s)(rx:RelV x u)(ty:Qo X.K H x t)(e:PySem.W.kitOne X.K t c=some b)(h:∀ tk,Q (.bool b) { s with toks:=tk }) :
  wpAny (model X.prog X.w) A (call (.builtin "isinstance") [u,c]) Q E s:=by
 cases ty with
 |non=>cases (show u=Value.none from rx);exact PySem.W.kia_one PySem.W.kitx_none I.kIn True.intro e (fun z=>nomatch z) h
 |bl y=>cases (show u=Value.bool y from rx);exact PySem.W.kia_one PySem.W.kitx_bool I.kIn True.intro e (fun z=>nomatch z) h
 |int i=>obtain⟨t,q⟩:=(show ∃ t,u=Value.int i t from rx);cases q;exact PySem.W.kia_one PySem.W.kitx_int I.kIn True.intro e (fun z=>nomatch z) h
 |str y=>obtain⟨t,q⟩:=(show ∃ t,u=Value.str y t from rx);cases q;exact PySem.W.kia_one PySem.W.kitx_str I.kIn True.intro e (fun z=>nomatch z) h
 |flt y=>obtain⟨t,q⟩:=(show ∃ t,u=Value.float y t from rx);cases q;exact PySem.W.kia_one PySem.W.kitx_float I.kIn True.intro e (fun z=>nomatch z) h
 | @lst a xs ea=>
  cases (show u=Value.ref a from rx)
  obtain⟨_,_,n,_,h1⟩:=(show ObjOk X.prog X.w H s.heap a (.lst xs) from I.hok a _ ea)
  exact PySem.W.kia_one PySem.W.kitx_list I.kIn ⟨_,h1,rfl⟩ e (fun z=>nomatch z) h
 | @frz a ob xs ea=>
  cases (show u=Value.ref a from rx)
  obtain⟨_,_,_,n,_,h1⟩:=(show ObjOk X.prog X.w H s.heap a (.frz ob (.lst xs)) from I.hok a _ ea)
  exact PySem.W.kia_one PySem.W.kitx_list I.kIn ⟨_,h1,rfl⟩ e (fun z=>nomatch z) h
 | @tup a xs ea=>
  cases (show u=Value.ref a from rx)
  obtain⟨_,_,_,p⟩:=(show ObjOk X.prog X.w H s.heap a (.tup xs) from I.hok a _ ea)
  obtain⟨o,h1,h2,_⟩:=p
  exact PySem.W.kia_one PySem.W.kitx_tuple I.kIn ⟨o,h1,h2⟩ e (fun z=>nomatch z) h
 | @dK a kvs ea=>
  cases (show u=Value.ref a from rx)
  obtain⟨_,_,vs,_,p⟩:=(show ObjOk X.prog X.w H s.heap a (.dK kvs) from I.hok a _ ea)
  obtain⟨o,es,ep,h1,h2,_⟩:=p
  exact PySem.W.kia_one PySem.W.kitx_dict I.kIn ⟨o,h1,h2.1⟩ e (fun z=>nomatch z) h
 | @dT a kvs ea=>
  cases (show u=Value.ref a from rx)
  obtain⟨_,_,xs,_,o,es,ep,h1,h2,_⟩:=(show ObjOk X.prog X.w H s.heap a (.dT kvs) from I.hok a _ ea)
  exact PySem.W.kia_one PySem.W.kitx_dict I.kIn ⟨o,h1,h2.1⟩ e (fun z=>nomatch z) h
 | @ins a C dx fs ea cl ha hn htk hm=>
  cases (show u=Value.ref a from rx)
  obtain⟨mA,O,_⟩:=zcL I.hok ea
  obtain⟨od,J,_⟩:=O.look
  exact PySem.W.kia_one (PySem.W.kitx_own (cl.get _) cl.hd ha hn htk hm) I.kIn J e (fun z=>nomatch z) h
end
structure Room(k:Nat)(A:Around):Prop where
 hd:A.handled=none
 dp:A.depth+3*k+5<recursionLimit
 un:A.units+16*k+200<cLine
theorem Room.mono{j k:Nat}{A:Around}(r:Room k A)(h:j<=k):Room j A:=⟨r.hd,by have:=r.dp;omega,by have:=r.un;omega⟩
theorem Room.deeper{k:Nat}{A:Around}(r:Room (k+1) A)(env:Env):Room k (A.deeper env) :=
 ⟨r.hd,by have:=r.dp;show A.depth+1+3*k+5<_;omega,by have:=r.un;show A.units+3+16*k+200<_;omega⟩
theorem Room.in1{k:Nat}{A:Around}(r:Room (k+1) A):Room k A.in1 :=
 ⟨r.hd,by have:=r.dp;show A.depth+3*k+5<_;omega,by have:=r.un;show A.units+1+16*k+200<_;omega⟩
theorem Room.depth{k:Nat}{A:Around}(r:Room k A):A.depth<recursionLimit:=by have:=r.dp;omega
theorem Room.units{k:Nat}{A:Around}(r:Room k A):A.units+64<cLine:=by have:=r.un;omega
noncomputable def zhG:TA:=fun _ H Q=>Q [] H
noncomputable def zbP(ta:TE)(tr:TA):TA:=fun σ H Q=>ta σ H fun x H1=>tr σ H1 fun xs H2=>Q (x::xs) H2
section
variable {X:Cx} {e:Expr} {es:List Expr} {te:TE} {t:TA} {pos:Pos}
theorem pa_nil:PA X [] zhG:=fun _ _ _ _ H Q I h=>Calls.spliced_nil ⟨[],H,I,.nil,h⟩
theorem zq(ha:PE X e te)(hr:PA X es t)(hs:starEach (e::es) X.env=(false,eval e X.env)::starEach es X.env:=by rfl):PA X (e::es) (zbP te t):=by
 intro pos pins s σ H Q I h
 rw[hs]
 show wpAny _ _ (spliced ((false,eval e X.env)::backTo pos (starEach es X.env))) _ _ s
 refine Calls.spliced_cons (thn (ha pins s σ H _ I h) fun u s1 ⟨x,H1,I1,r1,q1⟩=>?_)
 exact thn (hr pos pins s1 σ H1 _ I1 q1) fun us s2 ⟨xs,H2,I2,r2,q2⟩=>⟨x::xs,H2,I2,.cons r1 r2,q2⟩
noncomputable def tTup(t:TA):TE:=fun σ H Q=>t σ H fun xs H1=>xs.length<=sizeLine/\∀ p,H1 p=none->Q (.ref p) (upd H1 p (.tup xs))
noncomputable def tLst(t:TA):TE:=fun σ H Q=>t σ H fun xs H1=>xs.length<=sizeLine/\∀ p,H1 p=none->Q (.ref p) (upd H1 p (.lst xs))
theorem zfK{x1}(h:PA X es t):PE X (.Tuple es x1 pos) (tTup t):=by
 intro pins s σ H Q I hq
 refine wpAny_Tuple_spliced (thn (h pos pins s σ H _ I hq) fun us s1 ⟨xs,H1,I1,r,z,q⟩=>⟨by rw[<- r.length];exact z,?_⟩)
 have hf:H1 s1.heap.objs.size=none:=I1.hok.fresh (xi _)
 refine⟨.ref s1.heap.objs.size,upd H1 s1.heap.objs.size (.tup xs),I1.laid (t':=s1.toks) (fun b u e=>Heap.get?_push_of_some _ e) (xi _) ?_,rfl,q _ hf⟩
 exact⟨z,us,r,⟨_,Heap.get?_push_size _ rfl,rfl,_,rfl⟩⟩
theorem za3(h:PA X es t):PE X (.List es pos) (tLst t):=by
 intro pins s σ H Q I hq
 refine wpAny_List_spliced (thn (h pos pins s σ H _ I hq) fun us s1 ⟨xs,H1,I1,r,z,q⟩=>⟨by rw[<- r.length];exact z,?_⟩)
 have hf:H1 s1.heap.objs.size=none:=I1.hok.fresh (xi _)
 refine⟨.ref s1.heap.objs.size,upd H1 s1.heap.objs.size (.lst xs),I1.laid (t':=s1.toks) (fun b u e=>Heap.get?_push_of_some _ e) (xi _) ?_,rfl,q _ hf⟩
 exact⟨z,us,0,r,Heap.get?_push_size _ rfl⟩
end
noncomputable abbrev Sp:=List V->Hp->VK->XK->Prop
noncomputable abbrev CXT:=List Env->Hp->Shared->XK->Value->Shared->Prop
structure zck(P:Program)(w:World)(K:PySem.W.Frag)(mg:Str->Option Value)(base:Heap)(A:Around)(outer:List Env)(s:Shared)(H:Hp):Prop where
 frames:A.frames=some outer
 mod:Mod K mg base
 bs:∀ b o,base.get? b=some o->s.heap.get? b=some o/\H b=none
 bsz:base.objs.size<=s.heap.objs.size
 funs:s.heap.FunFrames base outer
 frf:∀ b∈frs outer,H b=none
 hok:HOk P w H s.heap
 bare:AllBare s.gens
noncomputable def CE(outer:List Env)(P:Program)(w:World)(H:Hp)(s:Shared)(Q:VK)(u:Value)(s':Shared):Prop :=
 ∃ v H',s'.os=s.os/\AllBare s'.gens/\Un (frs outer) [] H H' s.heap s'.heap/\HOk P w H' s'.heap/\RelV v u/\Q v H'
noncomputable def CR(CX:CXT)(outer:List Env)(P:Program)(w:World)(H:Hp)(s:Shared)(Q:VK)(E:XK)(r:Result)(s':Shared):Prop :=
 match r with
 |.ok (.ret u)=>CE outer P w H s Q u s'
 |.ok _=>False
 |.error e=>CX outer H s E e s'
structure FnOk(P:Program)(w:World)(K:PySem.W.Frag)(mg:Str->Option Value)(base:Heap)(CX:CXT)(k:Nat)(f:Addr)(fd:FuncData)(ps:List Str)(sp:Sp):Prop where
 len:∀ vs H Q E,sp vs H Q E->vs.length=ps.length
 run:∀ (A:Around) (outer:List Env) (s:Shared) (H:Hp) (args:Args) (us:List Value) (vs:List V) (Q:VK) (E:XK),Room k A->zck P w K mg base A outer s H->BindsTo s fd args (ps.zip us)->Vals vs us->sp vs H Q E ->
  codeAny (model P w) A (.call (.ref f) args) (CR CX outer P w H s Q E) s
theorem FnOk.mono{P:Program}{w:World}{K:PySem.W.Frag}{mg:Str->Option Value}{base:Heap}{CX:CXT}{j k:Nat}{f:Addr}{fd:FuncData}{ps:List Str}{sp:Sp}(F:FnOk P w K mg base CX j f fd ps sp)(h:j<=k) :
  FnOk P w K mg base CX k f fd ps sp:=⟨F.len,fun A outer s H args us vs Q E hr=>F.run A outer s H args us vs Q E (hr.mono h)⟩
section
variable {X:Cx} {pins:List (Addr×Obj)} {σ:St} {H:Hp} {s s':Shared}
theorem Inv.env0(I:Inv X pins σ H s):zck X.prog X.w X.K X.mg X.base X.A X.stack s H :=
 ⟨I.ok.frames,I.ok.mod,I.bs,xC I.ok.bsz I.sz,I.stack,I.stkFree,I.hok,I.bare⟩
theorem Inv.after{Q:VK}{u:Value}(I:Inv X pins σ H s)(h:CE X.stack X.prog X.w H s Q u s'):EP X pins σ Q u s':=by
 obtain⟨v,H',os,bare,un,hok,r,q⟩:=h
 obtain⟨hh,g,d,t,os'⟩:=s'
 obtain rfl:os'=s.os:=os
 exact⟨v,H',I.call (h':=hh) (g':=g) (d':=d) (t':=t) (ch:= []) un hok bare (fun b z=>absurd z (by simp)),r,q⟩
end
noncomputable def zhE(sp:Sp)(dvs:List V)(E:XK)(t:TA):TE:=fun σ H Q=>t σ H fun vs H1=>sp (vs++dvs) H1 Q E
noncomputable def Binds(K:PySem.W.Frag)(fd:FuncData)(ps:List Str)(ds:List Value):Prop :=
 ∀ (s:Shared) (us:List Value),K.In s.heap->(us++ds).length=ps.length->BindsTo s fd ⟨us,[]⟩ (ps.zip (us++ds))
theorem Binds.all{K:PySem.W.Frag}{fd:FuncData}{ps:List Str}(h:∀ us:List Value,us.length=ps.length->bindArgs fd ⟨us,[]⟩=pure (ps.zip us)):Binds K fd ps []:=fun s us _ hl=>by
 rw[xN]at hl |-
 exact .of_eq (h us hl)
noncomputable def vL(CX:CXT)(X:Cx)(E:XK):Prop:=∀ (pins:List (Addr×Obj)) (σ:St) (H:Hp) (s:Shared) (e:Value) (s':Shared),Inv X pins σ H s->CX X.stack H s E e s'->X.xe e s'
section
variable {X:Cx} {CX:CXT} {k:Nat} {f C:Addr} {fd:FuncData} {ps:List Str} {sp:Sp} {dvs:List V} {ds:List Value} {E:XK} {x m:Str} {p pos apos:Pos} {e o:Expr} {es:List Expr} {ta:TE} {t:TA}
theorem zfX{pins:List (Addr×Obj)}{σ:St}{H:Hp}{s:Shared}{Q:VK}{us:List Value}{vs:List V}(F:FnOk X.prog X.w X.K X.mg X.base CX k f fd ps sp)(hr:Room k X.A)(hb:Binds X.K fd ps ds)(hd:Vals dvs ds)(hx:vL CX X E)
  (I:Inv X pins σ H s) (r:Vals vs us) (h:sp (vs++dvs) H Q E):wpAny (model X.prog X.w) X.A (call (.ref f) us) (EP X pins σ Q) X.xe s:=by
 have r2:Vals (vs++dvs) (us++ds):=r.append hd
 have hl:(us++ds).length=ps.length:=by rw[<- r2.length];exact F.len _ _ _ _ h
 refine wpAny_call (codeAny_mono (F.run X.A X.stack s H ⟨us,[]⟩ (us++ds) (vs++dvs) Q E hr I.env0 (hb s us I.kIn hl) r2 h) fun r s' hq=>?_)
 cases r with
 |error e=>exact hx pins σ H s e s' I hq
 |ok fl=>
  cases fl with
  |ret u=>exact I.after hq
  |next=>exact False.elim hq
  |brk=>exact False.elim hq
  |cont=>exact False.elim hq
theorem zda(F:FnOk X.prog X.w X.K X.mg X.base CX k f fd ps sp)(hr:Room k X.A)(hg:Gl X x)(hm:X.mg x=some (.ref f))(hk:PySem.W.keepIn X.K (.ref f)=true)(hb:Binds X.K fd ps ds)(hd:Vals dvs ds)(hx:vL CX X E)
  (ha:PA X (e::es) t) (hdb:(x==("__debug__" :Str))=false:=by decide) (he:starEach (e::es) X.env=(false,eval e X.env)::starEach es X.env:=by rfl) (hpl:(backTo pos (starEach es X.env)).any (·.1)=false:=by rfl) :
  PE X (.Call (.Name x p) (e::es) [] pos) (zhE sp dvs E t):=by
 intro pins s σ H Q I h
 refine wpAny_Call_Name_kw (j4 I hg hm ?_ hdb)
 refine PySem.W.callWith_K (h₀:=X.base) I.ok.mod.kin hk (thn (ha pos pins s σ H _ I h) fun us s1 ⟨vs,H1,I1,r,q⟩=>⟨I1.kIn,?_⟩) he hpl
 exact zfX F hr hb hd hx I1 r q
structure Mk(K:PySem.W.Frag)(C f:Addr):Prop where
 makes:PySem.W.makesIn K C=true
 init:PySem.W.findIn K (.ref C) "__init__" =some (some (.ref f))
 fn:PySem.W.isFn K (.ref f)=true
 kp:PySem.W.keepIn K (.ref C)=true
end
section
variable {X:Cx} {CX:CXT} {k:Nat} {f C:Addr} {fd:FuncData} {ps ks:List Str} {sp:Sp} {E:XK} {x m:Str} {p pos apos kpos:Pos} {e o:Expr} {es:List Expr} {kws:List Keyword} {te ta:TE} {t tk:TA} {nm:Option Str}
variable {g:List Value->List Value->List Value} {gV:List V->List V->List V}
end
structure jk(N P:List Str)(sc:Scope):Prop where
 kind:sc.kind=.function
 co:sc.isCoroutine=false
 gen:sc.isGenerator=false
 nd:N.Nodup
 pre:N.take P.length=P
 par:∀ x∈P,sc.names.lookup x=some .local∨sc.names.lookup x=some .cell
 nofree:∀ y∈sc.names,y.2≠ .free
theorem WY{kindOf:Str->Option NameKind}{x:Str}:∀ {binds:List (Str×Value)}{m:Str->Option Value},(∀ v,(x,v)∉binds)->bindL kindOf binds m x=m x
 |[],_,_=>rfl
 | (n,v)::r,m,h=>by
  unfold bindL
  rw[WY fun w hw=>h w (xj _ hw)]
  split
  ·have:x≠n:=by rintro rfl;exact h v xp
   simp[this]
  ·rfl
theorem WW{kindOf:Str->Option NameKind}{x:Str}:∀ {binds:List (Str×Value)}{m:Str->Option Value},(∀ v,(x,v)∉binds)->bindC kindOf binds m x=m x
 |[],_,_=>rfl
 | (n,v)::r,m,h=>by
  unfold bindC
  rw[WW fun w hw=>h w (xj _ hw)]
  split
  ·rfl
  ·have:x≠n:=by rintro rfl;exact h v xp
   simp[this]
theorem WX{kindOf:Str->Option NameKind}{x:Str}{v:Value}:∀ {P:List Str}{vs:List Value}{i:Nat}{m:Str->Option Value},P.Nodup->P[i]?=some x->vs[i]?=some v->kindOf x=some .local ->
  bindL kindOf (P.zip vs) m x=some v
 |[],_,_,_,_,h,_,_=>by simp at h
 |_::_,[],_,_,_,_,h,_=>by simp at h
 |p::P,w::vs,0,m,nd,h1,h2,hk=>by
  simp at h1 h2;subst h1;subst h2
  show bindL kindOf ((p,w)::P.zip vs) m p=_
  unfold bindL
  rw[WY fun v hv=>(xG.mp nd).1 (List.of_mem_zip hv).1,if_pos hk]
  simp
 |p::P,w::vs,i+1,m,nd,h1,h2,hk=>by
  show bindL kindOf ((p,w)::P.zip vs) m x=_
  unfold bindL
  exact WX (i:=i) (xG.mp nd).2 (by simpa using h1) (by simpa using h2) hk
theorem WV{kindOf:Str->Option NameKind}{x:Str}{v:Value}:∀ {P:List Str}{vs:List Value}{i:Nat}{m:Str->Option Value},P.Nodup->P[i]?=some x->vs[i]?=some v->kindOf x≠some .local ->
  bindC kindOf (P.zip vs) m x=some v
 |[],_,_,_,_,h,_,_=>by simp at h
 |_::_,[],_,_,_,_,h,_=>by simp at h
 |p::P,w::vs,0,m,nd,h1,h2,hk=>by
  simp at h1 h2;subst h1;subst h2
  show bindC kindOf ((p,w)::P.zip vs) m p=_
  unfold bindC
  rw[WW fun v hv=>(xG.mp nd).1 (List.of_mem_zip hv).1,if_neg hk]
  simp
 |p::P,w::vs,i+1,m,nd,h1,h2,hk=>by
  show bindC kindOf ((p,w)::P.zip vs) m x=_
  unfold bindC
  exact WV (i:=i) (xG.mp nd).2 (by simpa using h1) (by simpa using h2) hk
noncomputable def start(N:List Str)(vs:List V):St:=vs.map some++List.replicate (N.length-vs.length) none
noncomputable def Qd(CX:CXT)(P:Program)(w:World)(K:PySem.W.Frag)(mg:Str->Option Value)(base:Heap)(N:List Str)(qual:Str)(scope:Scope)(f:Addr)(cd:Value)(A:Around)(outer:List Env)(s:Shared)(H:Hp)(E:XK):Cx where
 prog:=P
 w:=w
 K:=K
 mg:=mg
 base:=base
 A:=A.deeper (envOfC qual scope s.heap.objs.size f cd)
 N:=N
 s₀:=s
 H₀:=H
 env:=envOfC qual scope s.heap.objs.size f cd
 outer:=outer
 stack:=envOfC qual scope s.heap.objs.size f cd::outer
 ex:= []
 calm:=true
 fn:=fun _=>true
 pn:= []
 xe:=fun e s'=>wpAny (model P w) (A.deeper (envOfC qual scope s.heap.objs.size f cd)) (leaving (envOfC qual scope s.heap.objs.size f cd) e) (fun _ s''=>CX outer H s E e s'') (fun e' s''=>CX outer H s E e' s'') s'
theorem Qu{sc:Scope}{n:Nat}{x:Str}(h:sc.names.lookup x=some .cell):∃ c,(cellsFrom n sc.names []).lookup x=some c:=by
 have q:=PySem.W.cellsFrom_some sc.names n [] (.inl h)
 exact Option.isSome_iff_exists.mp q
theorem Ka{CX:CXT}{P:Program}{w:World}{K:PySem.W.Frag}{mg:Str->Option Value}{base:Heap}{N ps:List Str}{qual:Str}{scope:Scope}{f:Addr}{cd:Value}{A:Around}{outer:List Env}{s s1:Shared}{H:Hp}{E:XK}{us:List Value}{vs:List V}
  (S:jk N ps scope) (hd:A.handled=none) (e0:zck P w K mg base A outer s H) (hl:vs.length=ps.length) (r:Vals vs us)
  (x:InCallC s s.heap.objs.size (bindL (envOfC qual scope s.heap.objs.size f cd).kindOf (ps.zip us) fun _=>none) (cellsFrom (s.heap.objs.size+1) scope.names []) (bindC (envOfC qual scope s.heap.objs.size f cd).kindOf (ps.zip us) fun _=>none) s1) :
  Inv (Qd CX P w K mg base N qual scope f cd A outer s H E) [] (start N vs) H s1:=by
 have hpl:ps.length<=N.length:=by have:=congrArg List.length S.pre;rw[xJ]at this;omega
 obtain⟨h1,tk,rfl,hk⟩:=x.done
 have noA:∀ b:Addr,b∉(Qd CX P w K mg base N qual scope f cd A outer s H E).ex:=fun b z=>absurd (show b∈([]:List Addr) from z) (by simp)
 refine⟨⟨e0.mod,S.kind,rfl,rfl,xi _,fun y z c h1 h2=>?_,fun y hy=>?_,fun y c _ h=>?_,fun _=>hd,Around.frames_deeper e0.frames,.inr ⟨rfl,rfl⟩,fun b z=>absurd z (noA b),e0.bs,e0.bsz,fun b _ _=>noA b,fun b z=>absurd z (noA b),e0.funs,e0.frf⟩,
  rfl,e0.bare,Un.kept hk,⟨_,x.toInCall.ns,fun i y v h1 h2 h3=>?_⟩,fun y c h=>⟨_,x.cell y c h⟩,e0.hok.fresh (xi _),fun y c h=>?_,fun p hp=>absurd (show p∈([]:List (Addr×Obj)) from hp) (by simp),e0.hok.kept hk,?_⟩
 ·exact name_of_addr x.apart (PySem.mem_of_lookup h1) (PySem.mem_of_lookup h2)
 ·have hy:scope.names.lookup y=some .cell∨scope.names.lookup y=some .free:=hy
  rcases hy with hy | hy
  ·exact Qu hy
  ·exact absurd rfl (S.nofree _ (PySem.mem_of_lookup hy))
 ·exact ua (x.above y c (PySem.mem_of_lookup h))
 ·have hi:i<vs.length:=by
   unfold start at h2
   by_cases hi:i<vs.length
   ·exact hi
   ·rw[xf (by simpa using hi)]at h2
    rw[xK]at h2
    split at h2<;>cases h2
  have ha:vs[i]?=some v:=by
   unfold start at h2
   rw[xc (by simpa using hi),xA]at h2
   cases e:vs[i]? with
   |none=>rw[e]at h2;cases h2
   |some a=>rw[e]at h2;cases h2;rfl
  obtain⟨u,hu,rv⟩:=r.get ha
  have hp:ps[i]?=some y:=by
   rw[<- S.pre,xM (by omega)];exact h1
  have ndP:ps.Nodup:=by rw[<- S.pre];exact S.nd.sublist (List.take_sublist _ _)
  refine⟨u,rv,?_⟩
  rcases S.par y (ub hp)with k | k
  ·exact .inl ⟨k,WX ndP hp hu k⟩
  ·obtain⟨c,e⟩:=Qu (n:=s.heap.objs.size+1) k
   refine .inr ⟨.inl k,c,e,?_⟩
   have q:=x.cell y c e
   rw[WV ndP hp hu (by show scope.names.lookup y≠_;rw[k];decide)]at q
   exact q
 ·exact e0.hok.fresh (ua (x.above y c (PySem.mem_of_lookup h)))
 ·unfold start
  show _=N.length
  rw[xF,xt,uk]
  omega
theorem zeo{CX:CXT}{P:Program}{w:World}{K:PySem.W.Frag}{mg:Str->Option Value}{base:Heap}{k:Nat}{f:Addr}{name qual:Str}{params:Arguments}{body:List Stmt}{scope:Scope}{dV kV doc pm cdv ct oc:Value}{an od:Option Addr}
  {osl:Array (Option Value)} {N ps:List Str} {sp:Sp} (lk:K.lookup f=some ⟨oc,od,.func (PySem.W.fnOf name qual params body scope dV kV doc pm an cdv ct),osl⟩) (hcd:PySem.W.codeIn K cdv qual=true) (S:jk N ps scope)
  (len:∀ vs H Q E,sp vs H Q E->vs.length=ps.length)
  (hbody:∀ (A:Around) (outer:List Env) (s:Shared) (H:Hp) (vs:List V) (Q:VK) (E:XK),Room k (A.deeper (envOfC qual scope s.heap.objs.size f cdv))->sp vs H Q E ->
   ∃ t,PSs (Qd CX P w K mg base N qual scope f cdv A outer s H E) body t/\t { nx:=fun _ H'=>Q .non H',rt:=Q } (start N vs) H) :
  FnOk P w K mg base CX (k+1) f (PySem.W.fnOf name qual params body scope dV kV doc pm an cdv ct) ps sp:=by
 refine⟨len,fun A outer s H args us vs Q E hr e0 hb r hsp=>?_⟩
 have hl:=len _ _ _ _ hsp
 have KX:K.In s.heap:=e0.mod.kin.keeps fun b o e=>(e0.bs b o e).1
 have lim:s.heap.NoLimit:=e0.mod.nolimit.keeps fun b o e=>(e0.bs b o e).1
 have hkind:∀ y∈ps.zip us,scope.names.lookup y.1=some .local∨(scope.names.lookup y.1=some .cell/\((cellsFrom (s.heap.objs.size+1) scope.names []).lookup y.1).isSome=true):=fun ⟨n,v⟩ hy=>by
  rcases S.par n (List.of_mem_zip hy).1 with q | q
  ·exact .inl q
  ·exact .inr ⟨q,PySem.W.cellsFrom_some _ _ _ (.inl q)⟩
 refine codeAny_call_function hr.depth (KX _ _ lk) rfl S.co S.gen rfl (PySem.W.codeRec_of KX hcd) (hb _ _ _ _ ?_)
 refine wpAny_newFunctionEnv_cells S.kind hkind fun env he s1 x=>?_
 subst he
 refine⟨lim.keeps x.toInCall.keep,codeAny_func ?_⟩
 obtain⟨t,ht,hq⟩:=hbody A outer s H vs Q E (hr.deeper _) hsp
 have I:Inv (Qd CX P w K mg base N qual scope f cdv A outer s H E) [] (start N vs) H s1:=Ka S hr.hd e0 hl r x
 refine wpAny_mono (ht [] s1 (start N vs) H _ I hq) (fun fl s' hs=>?_) fun e s' hs=>hs
 have fin:∀ {σ':St} {H':Hp} {v:V} {u:Value},Inv (Qd CX P w K mg base N qual scope f cdv A outer s H E) [] σ' H' s'->RelV v u->Q v H'->CE outer P w H s Q u s' :=
  fun {σ' H' v u} J rv q=>⟨v,H',J.os,J.bare,J.base,J.hok,rv,q⟩
 cases fl with
 |ret u=>
  obtain⟨v,σ',H',J,rv,q⟩:=hs
  exact fin J rv q
 |next=>
  obtain⟨σ',H',J,q⟩:=hs
  exact fin (v:=V.non) (u:=Value.none) J rfl q
 |brk=>
  obtain⟨_,_,_,q⟩:=hs
  exact False.elim q
 |cont=>
  obtain⟨_,_,_,q⟩:=hs
  exact False.elim q
section
variable {X:Cx} {x:Str} {p pos:Pos} {e:Expr} {es:List Expr} {t:TA} {id T:String} {r:List V->Hp->VK->Prop}
noncomputable def tCB(r:List V->Hp->VK->Prop)(t:TA):TE:=fun σ H Q=>t σ H fun vs H1=>r vs H1 Q
theorem wU (hc:jj X (.builtin id) r) (hg:Gl X x) (hm:X.mg x=none) (hv:bootBuiltins x=some (.builtin id)) (ha:PA X (e::es) t) (hn:x≠ "__name__" :=by decide) (hdb:(x==("__debug__" :Str))=false:=by decide)
    (he:starEach (e::es) X.env=(false,eval e X.env)::starEach es X.env:=by rfl) (hpl:(backTo pos (starEach es X.env)).any (·.1)=false:=by rfl):PE X (.Call (.Name x p) (e::es) [] pos) (tCB r t):=by
  intro pins s σ H Q I h
  refine wpAny_Call_Name_kw (wP I hg hm hv ?_ hn hdb)
  exact PyProof.Rows.callWith_builtin1 (thn (ha pos pins s σ H _ I h) fun us s1 ⟨vs,H1,I1,r1,q1⟩=>hc pins s1 σ H1 vs us Q I1 r1 q1) he hpl
theorem ZU (hc:jj X (.type T) r) (hg:Gl X x) (hm:X.mg x=none) (hv:bootBuiltins x=some (.type T)) (ha:PA X (e::es) t) (hn:x≠ "__name__" :=by decide) (hdb:(x==("__debug__" :Str))=false:=by decide)
    (he:starEach (e::es) X.env=(false,eval e X.env)::starEach es X.env:=by rfl) (hpl:(backTo pos (starEach es X.env)).any (·.1)=false:=by rfl):PE X (.Call (.Name x p) (e::es) [] pos) (tCB r t):=by
  intro pins s σ H Q I h
  refine wpAny_Call_Name_kw (wP I hg hm hv ?_ hn hdb)
  exact PyProof.Rows.callWith_type1 (thn (ha pos pins s σ H _ I h) fun us s1 ⟨vs,H1,I1,r1,q1⟩=>hc pins s1 σ H1 vs us Q I1 r1 q1) he hpl
end
end L2
namespace HT
open PySem PyProof.Rows
section
open PySem.SeqAt
open PySem.AutoSeq1 (wpAny_loadPart')
open PySem.MeetsSeq PySem.MeetsSeq2 PySem.MeetsSeq3
end
section
variable {prog:Program} {w:World} {A:Around} {E:Value->Shared->Prop} {s:Shared}
theorem cat_tup{t b:Addr}{vs ws:List Value}{Q:Value->Shared->Prop}(ht:IsTup s.heap t vs.toArray)(hb:IsTup s.heap b ws.toArray)(hv:vs≠ [])
  (h1:ws= []->Q (.ref t) s) (h2:ws≠ []->Q (.ref s.heap.objs.size) { s with heap:=s.heap.push { cls:=.type "tuple",data:=.seq (vs++ws).toArray } })
  (hsz:vs.length+ws.length<=sizeLine):wpAny (model prog w) A (binaryOp .Add (.ref t) (.ref b)) Q E s:=by
 obtain⟨⟨cls,dd,data,sl⟩,ho,hc,n,hd⟩:=id ht
 obtain⟨⟨cls2,dd2,data2,sl2⟩,ho2,hc2,n2,hd2⟩:=id hb
 simp only at hc hd hc2 hd2
 subst hc hd hc2 hd2
 have e:vs.toArray++ws.toArray=(vs++ws).toArray:=by simp
 by_cases hw:ws= []
 ·exact concat_meets ⟨_,ho,rfl⟩ ⟨_,ho2,rfl⟩ noFill_tuple_add seq_tuple_add PySem.F.slot_tuple_add PySem.F.entry_tuple_add (PySem.F.args_tuple_add_2 _ _)
   (tuple_addW1 t b vs.toArray ws.toArray n n2 dd dd2 sl sl2 (by simpa using hv) (by simp[hw])) ⟨ho,ho2,h1 hw⟩
 ·refine concat_meets ⟨_,ho,rfl⟩ ⟨_,ho2,rfl⟩ noFill_tuple_add seq_tuple_add PySem.F.slot_tuple_add PySem.F.entry_tuple_add (PySem.F.args_tuple_add_2 _ _)
   (tuple_addW2 t b vs.toArray ws.toArray n n2 dd dd2 sl sl2 (by simpa using hv) (by simpa using hw) (by rw[xo,xo];exact hsz)) ⟨ho,ho2,?_⟩
  rw[e]
  exact h2 hw
noncomputable def sIx(n d:Nat):Option Int->Nat
 |none=>d
 |some v=>if v<0 then (v+(n:Int)).toNat else min v.toNat n
end
end HT
namespace L2
open PySem PySem.Spec PyProof.Rows
noncomputable abbrev TO:=St->Hp->(Option Int->Hp->Prop)->Prop
noncomputable def PO(X:Cx)(e:Option Expr)(t:TO):Prop :=
 ∀ (pins:List (Addr×Obj)) (s:Shared) (σ:St) (H:Hp) (Q:Option Int->Hp->Prop),Inv X pins σ H s->t σ H Q ->
  wpAny (model X.prog X.w) X.A (evalPart e X.env) (fun u s'=>∃ o H',Inv X pins σ H' s'/\IsPart u o/\Q o H') X.xe s
noncomputable def zdZ:TO:=fun _ H Q=>Q none H
noncomputable def zhH(t:TE):TO:=fun σ H Q=>t σ H fun x H1=>∃ i,x=.int i/\Q (some i) H1
section
variable {X:Cx} {e:Expr} {te:TE} {lo hi:Option Expr} {tl th:TO} {pos p2:Pos}
theorem Vk:PO X none zdZ:=by
 intro pins s σ H Q I h
 rw[evalPart_none]
 exact wpAny_pure ⟨none,H,I,.none,h⟩
theorem Vl(h:PE X e te):PO X (some e) (zhH te):=by
 intro pins s σ H Q I hw
 rw[evalPart_some]
 refine thn (h pins s σ H _ I hw) fun u s1 ⟨x,H1,I1,r1,q1⟩=>?_
 obtain⟨i,rfl,q⟩:=q1
 obtain⟨t,rfl⟩:=r1
 exact⟨some i,H1,I1,.int i t,q⟩
noncomputable def SlR(X:Cx)(r:V->Option Int->Option Int->Hp->VK->Prop):Prop :=
 ∀ (pins:List (Addr×Obj)) (s:Shared) (σ:St) (H:Hp) (x:V) (v vl vu:Value) (lo hi:Option Int) (sl:Addr) (Q:VK),Inv X pins σ H s->RelV x v->s.heap.IsSliceOf sl vl vu .none->IsPart vl lo->IsPart vu hi->r x lo hi H Q ->
  ∃ T id,typeLookup (.type T) "__getitem__" =pure (some (.builtin id))/\s.TypeIs v T/\wpAny (model X.prog X.w) X.A (getItem v (.ref sl)) (EP X pins σ Q) X.xe s
noncomputable def tSl(r:V->Option Int->Option Int->Hp->VK->Prop)(te:TE)(tl th:TO):TE:=fun σ H Q=>te σ H fun x H1=>tl σ H1 fun l H2=>th σ H2 fun u H3=>r x l u H3 Q
theorem QH{r:V->Option Int->Option Int->Hp->VK->Prop}(hr:SlR X r)(he:PE X e te)(hl:PO X lo tl)(hu:PO X hi th):PE X (.Subscript e (.Slice lo hi none p2) pos) (tSl r te tl th):=by
 intro pins s σ H Q I h
 refine Subscript_ (thn (he pins s σ H _ I h) fun v s1 ⟨x,H1,I1,r1,q1⟩=>?_)
 refine wpAny_Slice (thn (hl pins s1 σ H1 _ I1 q1) fun vl s2 ⟨l,H2,I2,pl,q2⟩=>thn (hu pins s2 σ H2 _ I2 q2) fun vu s3 ⟨u,H3,I3,pu,q3⟩=>?_)
 rw[evalPart_none]
 refine wpAny_pure ?_
 have I4:Inv X pins σ H3 { s3 with heap:=s3.heap.push { cls:=.type "slice",data:=.fields #[vl,vu,.none] } }:=I3.kept (t':=s3.toks) fun b ob q=>Heap.get?_push_of_some _ q
 obtain⟨T,id,hT,ht,hg⟩:=hr pins { s3 with heap:=s3.heap.push { cls:=.type "slice",data:=.fields #[vl,vu,.none] } } σ H3 x v vl vu l u s3.heap.objs.size Q I4 r1 (Heap.IsSliceOf.new ..) pl pu q3
 show wpAny (model X.prog X.w) X.A (subscriptTail e (.Slice lo hi none p2) v (.ref s3.heap.objs.size)) (EP X pins σ Q) X.xe { s3 with heap:=s3.heap.push { cls:=.type "slice",data:=.fields #[vl,vu,.none] } }
 exact tail_any (ops:= [.ref s3.heap.objs.size,v]) ht hT hg (by with_unfolding_all rfl)
noncomputable def JF(xs:List V)(lo hi:Option Int):List V:=(xs.drop (HT.sIx xs.length 0 lo)).take (HT.sIx xs.length xs.length hi-HT.sIx xs.length 0 lo)
theorem VM(xs:List V)(lo hi:Option Int):(JF xs lo hi).length<=xs.length:=by
 unfold JF
 rw[xJ,um]
 omega
theorem Vals.nil_iff{xs:List V}{us:List Value}(r:Vals xs us):us= []↔xs= []:=by
 cases r with
 |nil=>simp
 |cons _ _=>simp
end
noncomputable def ixN(n:Nat)(i:Int):Option Nat:=if 0<=i then (if i<n then some i.toNat else none) else if -(n:Int)<=i then some (i+n).toNat else none
noncomputable def atI{α:Type}(xs:List α)(i:Int):Option α:=(ixN xs.length i).bind fun j=>xs[j]?
theorem YO{n:Nat}{i:Int}{j:Nat}(h:ixN n i=some j):seqIndex? i n=some j/\j<n/\ -(n:Int)<=i/\i<n:=by
 unfold ixN at h
 by_cases h0:0<=i
 ·rw[if_pos h0]at h
  by_cases h1:i<n
  ·rw[if_pos h1]at h
   have e:i.toNat=j:=Option.some.inj h
   exact⟨by rw[seqIndex_of h0 h1,e],by omega,by omega,h1⟩
  ·rw[if_neg h1]at h;cases h
 ·rw[if_neg h0]at h
  by_cases h1: -(n:Int)<=i
  ·rw[if_pos h1]at h
   have e:(i+n).toNat=j:=Option.some.inj h
   exact⟨by rw[seqIndex_neg (by omega) h1,e],by omega,h1,by omega⟩
  ·rw[if_neg h1]at h;cases h
theorem vR{α:Type}{xs:List α}{i:Int}{v:α}(h:atI xs i=some v):∃ j,seqIndex? i xs.length=some j/\xs[j]?=some v/\j<xs.length/\ -(xs.length:Int)<=i/\i<xs.length:=by
 unfold atI at h
 cases e:ixN xs.length i with
 |none=>rw[e]at h;cases h
 |some j=>
  rw[e]at h
  obtain⟨h1,h2,h3,h4⟩:=YO e
  exact⟨j,h1,h,h2,h3,h4⟩
theorem zX{α:Type}{xs:List α}{j:Nat}{v:α}(h:xs[j]?=some v):atI xs (j:Int)=some v:=by
 have hj:j<xs.length:=(xb.mp h).1
 have e:ixN xs.length (j:Int)=some j:=by
  unfold ixN
  rw[if_pos (by omega),if_pos (by omega)];simp
 unfold atI;rw[e];exact h
theorem zae{α:Type}(xs:List α)(v:α):atI (xs++ [v]) (-1)=some v:=by
 have hl:(xs++ [v]).length=xs.length+1:=by simp
 have e:ixN (xs++ [v]).length (-1)=some xs.length:=by
  unfold ixN
  rw[hl,if_neg (by decide),if_pos (by omega)]
  congr 1
  omega
 unfold atI
 rw[e]
 show (xs++ [v])[xs.length]?=some v
 simp
noncomputable def wj(b:Expr):Prop:=∀ o i,subscripted b false o i=operate [o,i] (getItem o i)
noncomputable def IxR(X:Cx)(r:R2):Prop :=
 ∀ (value slice:Expr) (pins:List (Addr×Obj)) (s:Shared) (σ:St) (H:Hp) (x y:V) (v u:Value) (Q:VK),Inv X pins σ H s->RelV x v->RelV y u->r x y H Q ->
  subscripted slice false v u=operate [v,u] (getItem v u)->wpAny (model X.prog X.w) X.A (subscriptTail value slice v u) (EP X pins σ Q) X.xe s
noncomputable def MtR(X:Cx)(id:String)(r:V->List V->Hp->VK->Prop):Prop :=
 ∀ (pins:List (Addr×Obj)) (s:Shared) (σ:St) (H:Hp) (x:V) (xs:List V) (v:Value) (us:List Value) (Q:VK),Inv X pins σ H s->RelV x v->Vals xs us->r x xs H Q ->
  wpAny (model X.prog X.w) X.A (call (.builtin id) (v::us)) (EP X pins σ Q) X.xe s
section
variable {X:Cx} {a b:Expr} {ta tb:TE} {pos:Pos}
theorem IxR.or{r r':R2}(h:IxR X r)(h':IxR X r'):IxR X (fun x y H Q=>r x y H Q∨r' x y H Q):=by
 intro value slice pins s σ H x y v u Q I rx ry q hs
 rcases q with q | q
 ·exact h value slice pins s σ H x y v u Q I rx ry q hs
 ·exact h' value slice pins s σ H x y v u Q I rx ry q hs
theorem zet{r:R2}(hr:IxR X r)(ha:PE X a ta)(hb:PE X b tb)(hs:wj b):PE X (.Subscript a b pos) (tOp r ta tb):=by
 intro pins s σ H Q I h
 exact Subscript_ (zeN ha hb I h fun v u s2 x y H2 I2 rx ry q=>hr a b pins s2 σ H2 x y v u Q I2 rx ry q (hs _ _))
noncomputable def rIxL(K:PySem.W.Frag):R2:=fun x y H Q=>∃ p xs i v,x=.ref p/\y=.int i/\SqL K H p xs/\atI xs i=some v/\Q v H
noncomputable def rIxT(K:PySem.W.Frag):R2:=fun x y H Q=>∃ p xs i v,x=.ref p/\y=.int i/\SqT K H p xs/\atI xs i=some v/\Q v H
noncomputable def rIxS:R2:=fun x y H Q=>∃ z i c,x=.str z/\y=.int i/\z.length<=sizeLine/\atI z.cps.toList i=some c/\Q (.str ⟨#[c]⟩) H
theorem ix_list:IxR X (rIxL X.K):=by
 intro value slice pins s σ H x y v u Q I rx ry h hs
 obtain⟨p,xs,i,z,rfl,rfl,hq,he,q⟩:=h
 cases rx
 obtain⟨t,rfl⟩:=ry
 obtain⟨its,r,pl,hz⟩:=I.list hq
 obtain⟨j,h1,h2,h3,h4,h5⟩:=vR he
 obtain⟨w,ew,rw'⟩:=r.get h2
 have hl:=r.length
 have hn:=JN
 have fin:EP X pins σ Q w s:=⟨z,H,I,rw',q⟩
 by_cases h0:0<=i
 ·have hj:i.toNat=j:=by
   rw[seqIndex_of h0 h5]at h1
   exact Option.some.inj h1
  exact item_listR pl.isList h0 (by omega) (by rw[hj];simpa using ew) fin hs
 ·have hj:(i+(its.toArray.size:Int)).toNat=j:=by
   rw[seqIndex_neg (by omega) h4]at h1
   rw[xo,<- hl]
   exact Option.some.inj h1
  exact subscriptTail_builtinR (x:=w) pl.isList.typeIs slot_list_getitem.lookup
   (wpAny_getItem_list_neg (Q:=fun r s'=>r=w/\EP X pins σ Q r s') pl.isList (by omega) (by rw[xo]<;>omega) (by omega) (by rw[hj];simpa using ew) ⟨rfl,fin⟩) hs
theorem zfj:IxR X (rIxT X.K):=by
 intro value slice pins s σ H x y v u Q I rx ry h hs
 obtain⟨p,xs,i,z,rfl,rfl,hq,he,q⟩:=h
 cases rx
 obtain⟨t,rfl⟩:=ry
 obtain⟨its,r,pl,hz⟩:=I.tuple hq
 obtain⟨j,h1,h2,h3,h4,h5⟩:=vR he
 obtain⟨w,ew,rw'⟩:=r.get h2
 have hl:=r.length
 have hn:=JN
 have fin:EP X pins σ Q w s:=⟨z,H,I,rw',q⟩
 exact subscriptTail_builtinR (x:=w) pl.typeIs slot_tuple_getitem.lookup
  (getItem_tuple (j:=j) (Q:=fun r s'=>r=w/\EP X pins σ Q r s') pl (by omega) (by omega) (by rw[xo,<- hl];exact h1) (by simpa using ew) ⟨rfl,fin⟩) hs
theorem zfi:IxR X rIxS:=by
 intro value slice pins s σ H x y v u Q I rx ry h hs
 obtain⟨z,i,c,rfl,rfl,hz,he,q⟩:=h
 obtain⟨t,rfl⟩:=rx
 obtain⟨t',rfl⟩:=ry
 obtain⟨j,h1,h2,h3,h4,h5⟩:=vR he
 have hl:z.cps.toList.length=z.length:=by simp[Str.length]
 rw[hl]at h1 h4 h5
 have hn:=JN
 exact tail_any (typeIs_str s z t) slot_str_getitem.lookup (getItem_str (c:=c) (by
  have e1:decide (i< -(2 ^ 63:Int))=false:=decide_eq_false (by omega)
  have e2:decide (i≥2 ^ 63)=false:=decide_eq_false (by omega)
  rw[e1,e2,Bool.or_false]) (by rw[h1];simpa using h2) ⟨.str ⟨#[c]⟩,H,I.tok _,⟨_,rfl⟩,q⟩) hs
theorem Yb (its:List Value) (n j:Nat) (u:Value):Obj.mapSeq (·.setIfInBounds j u) { cls:=.type "list",data:=.seq its.toArray n }={ cls:=.type "list",data:=.seq (its.set j u).toArray n }:=by
 simp[Obj.mapSeq]
theorem Inv.lst{pins:List (Addr×Obj)}{σ:St}{H:Hp}{s:Shared}{p:Addr}{xs:List V}(I:Inv X pins σ H s)(h:H p=some (.lst xs)) :
  ∃ (its:List Value) (n:Nat),Vals xs its/\s.heap.get? p=some { cls:=.type "list",data:=.seq its.toArray n }/\xs.length<=sizeLine:=by
 obtain⟨z,its,n,r,e⟩:=I.hok p _ h
 exact⟨its,n,r,e,z⟩
theorem Inv.lstUpd{pins:List (Addr×Obj)}{σ:St}{H:Hp}{s:Shared}{p:Addr}{xs ys:List V}{its its':List Value}{n n':Nat}{f:Obj->Obj}(I:Inv X pins σ H s)(h:H p=some (.lst xs))
  (ho:s.heap.get? p=some { cls:=.type "list",data:=.seq its.toArray n }) (hf:f { cls:=.type "list",data:=.seq its.toArray n }={ cls:=.type "list",data:=.seq its'.toArray n' }) (r:Vals ys its') (hz:ys.length<=sizeLine) (t:Nat) :
  Inv X pins σ (upd H p (.lst ys)) { s with heap:=s.heap.update p f,toks:=t }:=by
 have e:(s.heap.update p f).get? p=some { cls:=.type "list",data:=.seq its'.toArray n' }:=by
  rw[Heap.get?_update_self f ho (by rw[hf]<;>rfl),hf]
 refine I.write (x:=p) (e:=p) (by rw[h];trivial) (.inl rfl) (fun b u hb q=>(Heap.get?_update_other _ _ (Ne.symm hb)).trans q) ⟨_,e⟩ ?_
 exact⟨hz,its',n',r,e⟩
noncomputable def zho:V->V->V->Hp->(Hp->Prop)->Prop:=fun o i v H Q=>∃ p xs k j,o=.ref p/\i=.int k/\H p=some (.lst xs)/\ixN xs.length k=some j/\Q (upd H p (.lst (xs.set j v)))
theorem zbz:zeK X zho:=by
 intro pins s σ H o i v ov iv u Q I ro ri rv h
 obtain⟨p,xs,k,j,rfl,rfl,hp,hj,q⟩:=h
 cases ro
 obtain⟨t,rfl⟩:=ri
 obtain⟨its,n,r,ho,hz⟩:=I.lst hp
 obtain⟨h1,h2,h3,h4⟩:=YO hj
 have hl:=r.length
 have hn:=JN
 have I':Inv X pins σ (upd H p (.lst (xs.set j v))) { s with heap:=s.heap.update p (Obj.mapSeq (·.setIfInBounds j u)) } :=
  I.lstUpd hp ho (Yb its n j u) (r.set rv j) (by rw[xL];exact hz) s.toks
 by_cases h0:0<=k
 ·have hk:k.toNat=j:=by
   rw[seqIndex_of h0 h4]at h1
   exact Option.some.inj h1
  exact PySem.W.ki_setAt ho h0 (by omega) (by rw[xo,<- hl];exact h4) (by rw[hk];exact⟨_,I',q⟩)
 ·have hk:(k+(its.toArray.size:Int)).toNat=j:=by
   rw[seqIndex_neg (by omega) h3]at h1
   rw[xo,<- hl]
   exact Option.some.inj h1
  exact PySem.W.ki_setBack ho (by omega) (by rw[xo,<- hl];exact h3) (by omega) (by rw[hk];exact⟨_,I',q⟩)
theorem Vt(lo hi:Option Int)(n:Nat):(sliceBounds lo hi none n).1=((HT.sIx n 0 lo:Nat):Int)/\(sliceBounds lo hi none n).2.1=((HT.sIx n n hi:Nat):Int)/\(sliceBounds lo hi none n).2.2=1:=by
 refine⟨?_,?_,rfl⟩
 ·cases lo with
  |none=>simp[sliceBounds,HT.sIx]
  |some i=>
   simp only[sliceBounds,HT.sIx,Option.getD_none,show (1:Int)>0 by decide,if_true]
   by_cases h:i<0
   ·simp only[h,if_true]<;>omega
   ·simp only[h,if_false]<;>omega
 ·cases hi with
  |none=>simp[sliceBounds,HT.sIx]
  |some i=>
   simp only[sliceBounds,HT.sIx,Option.getD_none,show (1:Int)>0 by decide,if_true]
   by_cases h:i<0
   ·simp only[h,if_true]<;>omega
   ·simp only[h,if_false]<;>omega
theorem WN(its:List Value)(lo hi:Option Int):slicePick its.toArray lo hi none=((its.drop (HT.sIx its.length 0 lo)).take (HT.sIx its.length its.length hi-HT.sIx its.length 0 lo)).toArray:=by
 obtain⟨h1,h2,h3⟩:=Vt lo hi its.toArray.size
 unfold slicePick
 rw[h1,h2,h3]
 simp only[sliceRange_one,pick_run,xo]<;>rfl
noncomputable def rSlL(K:PySem.W.Frag):V->Option Int->Option Int->Hp->VK->Prop:=fun x lo hi H Q=>∃ a xs,x=.ref a/\SqL K H a xs/\∀ p,H p=none->Q (.ref p) (upd H p (.lst (JF xs lo hi)))
theorem Vs:SlR X (rSlL X.K):=by
 intro pins s σ H x v vl vu lo hi sl Q I rx hs pl pu h
 obtain⟨a,xs,rfl,hx,q⟩:=h
 cases rx
 obtain⟨its,r,ht,hz⟩:=I.list hx
 have hlen:=r.length
 refine⟨"list",_,slot_list_getitem.lookup,ht.isList.typeIs,?_⟩
 refine wpAny_getItem_list_slice ht.isList hs pl pu .none (by simp) ?_ (by rw[xo]<;>omega)
 rw[WN,<- hlen]
 refine⟨.ref s.heap.objs.size,_,I.laid (t':=s.toks) (o:=.lst (JF xs lo hi)) (fun b ob q=>Heap.get?_push_of_some _ q) (xi _) ?_,rfl,q _ (I.hok.fresh (xi _))⟩
 exact⟨xC (VM xs lo hi) hz,_,0,(r.drop (HT.sIx xs.length 0 lo)).take (HT.sIx xs.length xs.length hi-HT.sIx xs.length 0 lo),Heap.get?_push_size _ rfl⟩
theorem Qs:jj X (.builtin "len") (fun xs H Q=>∃ p ys,xs= [.ref p]/\(SqL X.K H p ys∨SqT X.K H p ys)/\Q (.int ys.length) H):=by
 intro pins s σ H xs us Q I r h
 obtain⟨p,ys,rfl,hq,q⟩:=h
 obtain⟨u,rfl,rx⟩:=Zd r
 cases rx
 have hn:=JN
 rcases hq with hq | hq
 ·obtain⟨its,r',pl,hz⟩:=I.list hq
  have hlen:=r'.length
  exact Calls.call_len_list pl.isList (by simp only[xo]<;>omega) ⟨.int ys.length,H,I.tok _,⟨s.toks+1,by rw[xo,hlen]⟩,q⟩
 ·obtain⟨its,r',pl,hz⟩:=I.tuple hq
  have hlen:=r'.length
  exact len_tuple pl (by simp only[xo]<;>omega) ⟨.int ys.length,H,I.tok _,⟨s.toks+1,by rw[xo,hlen]⟩,q⟩
theorem Qt:jj X (.type "list") (fun xs H Q=>∃ p ys,xs= [.ref p]/\(SqL X.K H p ys∨SqT X.K H p ys)/\∀ l,H l=none->Q (.ref l) (upd H l (.lst ys))):=by
 intro pins s σ H xs us Q I r h
 obtain⟨p,ys,rfl,hq,q⟩:=h
 obtain⟨u,rfl,rx⟩:=Zd r
 cases rx
 have fin:∀ (its:List Value),Vals ys its->ys.length<=sizeLine->∀ (h':Heap) (c':Nat),(∀ b o',s.heap.get? b=some o'->h'.get? b=some o') ->
   h'.get? s.heap.objs.size=some { cls:=.type "list",dict:=none,data:=.seq its.toArray c',slots:=#[] }->EP X pins σ Q (.ref s.heap.objs.size) { s with heap:=h' }:=fun its r' hz h' c' kp e=>
  ⟨.ref s.heap.objs.size,_,I.laid (t':=s.toks) kp (xi _) (show ObjOk X.prog X.w _ h' _ (.lst ys) from ⟨hz,its,c',r',e⟩),rfl,q _ (I.hok.fresh (xi _))⟩
 rcases hq with hq | hq
 ·obtain⟨its,r',pl,hz⟩:=I.list hq
  have hlen:=r'.length
  obtain⟨o,ho,hc,n,hd⟩:=pl.isList
  exact call_list_seq p (.inl rfl) ho hc hd (fun h' c' kp e=>fin its r' hz h' c' kp e) (by simp only[xo]<;>omega)
 ·obtain⟨its,r',pl,hz⟩:=I.tuple hq
  have hlen:=r'.length
  obtain⟨o,ho,hc,n,hd⟩:=pl
  exact call_list_seq p (.inr rfl) ho hc hd (fun h' c' kp e=>fin its r' hz h' c' kp e) (by simp only[xo]<;>omega)
theorem Wr:jj X (.type "tuple") (fun xs H Q=>∃ p ys,xs= [.ref p]/\((SqL X.K H p ys/\∀ l,H l=none->Q (.ref l) (upd H l (.tup ys)))∨(SqT X.K H p ys/\Q (.ref p) H))):=by
 intro pins s σ H xs us Q I r h
 obtain⟨p,ys,rfl,h⟩:=h
 obtain⟨u,rfl,rx⟩:=Zd r
 cases rx
 rcases h with ⟨hq,q⟩ | ⟨hq,q⟩
 ·obtain⟨its,r',pl,hz⟩:=I.list hq
  have hlen:=r'.length
  refine call_tuple_list pl.isList (fun h' kp=>?_) (by simp only[xo]<;>omega)
  have I1:Inv X pins σ H { s with heap:=h' }:=I.kept (t':=s.toks) kp
  have I2:Inv X pins σ (upd H h'.objs.size (.tup ys)) { s with heap:=h'.push { cls:=.type "tuple",data:=.seq its.toArray } } :=
   I1.laid (t':=s.toks) (fun b o e=>Heap.get?_push_of_some _ e) (xi _) (show ObjOk X.prog X.w _ _ _ (.tup ys) from ⟨hz,its,r',IsTup.new _ _⟩)
  exact⟨.ref h'.objs.size,_,I2,rfl,q _ (I1.hok.fresh (xi _))⟩
 ·obtain⟨its,r',pl,hz⟩:=I.tuple hq
  exact call_tuple_same pl ⟨.ref p,H,I,rfl,q⟩
noncomputable def tyV(K:PySem.W.Frag)(T:String)(x:V)(H:Hp):Prop:=match x with
 |.str _=>T= "str"
 |.int _=>T= "int"
 |.ref p=>(T= "list" /\∃ xs,SqL K H p xs)∨(T= "tuple" /\∃ o,K.lookup p=some o/\o.cls=.type "tuple" /\o.dict=none) ∨
   (T= "dict" /\((∃ kvs,H p=some (.dK kvs))∨∃ kvs,H p=some (.dT kvs)))∨(T= "set" /\∃ S n,H p=some (.set S n))
 |_=>False
theorem zgA{pins:List (Addr×Obj)}{σ:St}{H:Hp}{s:Shared}{T:String}{x:V}{v:Value}(I:Inv X pins σ H s)(r:RelV x v)(ty:tyV X.K T x H) :
  s.TypeIs v T/\∀ a,v=.ref a->∃ ob,s.heap.get? a=some ob/\ob.dict=none:=by
 cases x with
 |str z=>
  obtain⟨t,rfl⟩:=r
  cases (show T= "str" from ty)
  exact⟨typeIs_str s z t,fun _ e=>nomatch e⟩
 |int i=>
  obtain⟨t,rfl⟩:=r
  cases (show T= "int" from ty)
  exact⟨typeIs_int s i t,fun _ e=>nomatch e⟩
 |ref p=>
  cases r
  rcases ty with ⟨rfl,xs,hq⟩ | ⟨rfl,o,hk,hc,hd⟩ | ⟨rfl,hk⟩ | ⟨rfl,S,n,hk⟩
  ·obtain⟨its,_,pl,_⟩:=I.list hq
   refine⟨pl.isList.typeIs,fun a e=>?_⟩
   cases e
   obtain⟨o,n,e,c,hd,_⟩:=pl
   exact⟨o,e,hd⟩
  ·refine⟨⟨o,I.kIn p o hk,hc⟩,fun a e=>?_⟩
   cases e
   exact⟨o,I.kIn _ o hk,hd⟩
  ·have z:∃ o,s.heap.get? p=some o/\o.ExactDict:=by
    rcases hk with ⟨kvs,hk⟩ | ⟨kvs,hk⟩
    ·obtain⟨_,_,_,_,o,_,_,e,ex,_⟩:=I.hok p _ hk
     exact⟨o,e,ex⟩
    ·obtain⟨_,_,_,_,o,_,_,e,ex,_⟩:=I.hok p _ hk
     exact⟨o,e,ex⟩
   obtain⟨o,e,ex⟩:=z
   refine⟨⟨o,e,ex.1⟩,fun a e2=>?_⟩
   cases e2
   exact⟨o,e,ex.2.1⟩
  ·obtain⟨o,_,_,_,e,ex,_⟩:=I.hok p _ hk
   refine⟨⟨o,e,ex.1⟩,fun a e2=>?_⟩
   cases e2
   exact⟨o,e,ex.2.1⟩
 |_=>exact False.elim ty
noncomputable def tBM(K:PySem.W.Frag)(T:String)(r:V->List V->Hp->VK->Prop)(to:TE)(t:TA):TE:=fun σ H Q=>to σ H fun x H1=>tyV K T x H1/\t σ H1 fun xs H2=>r x xs H2 Q
variable {o e:Expr} {es:List Expr} {to:TE} {t:TA} {name:Str} {apos cpos:Pos} {T id:String} {r:V->List V->Hp->VK->Prop}
theorem YY (pa:PlainAttrs T) (slot:Slot T name id) (hty:typeOf (.builtin id)=pure (.type "method_descriptor")) (hm:MtR X id r) (ho:PE X o to) (ha:PA X (e::es) t)
  (hbase:attributeBase o name X.env (eval o X.env)=eval o X.env:=by rfl)
  (hfew:((backTo cpos (starEach (e::es) X.env)).all (fun x=> !x.1)&&(backToKw cpos (keywordEach [] X.env)).all (fun x=>x.1.isSome)
   && decide ((e::es).length+([]:List Keyword).length+(if ([]:List Keyword).isEmpty then 0 else 1)<30))=true:=by rfl)
  (hline:(apos.endLine==cpos.line)=true:=by rfl) (hs:starEach (e::es) X.env=(false,eval e X.env)::starEach es X.env:=by rfl) (hplain:(backTo cpos (starEach es X.env)).any (·.1)=false:=by rfl) :
  PE X (.Call (.Attribute o name apos) (e::es) [] cpos) (tBM X.K T r to t):=by
 intro pins s σ H Q I h
 refine wpAny_Call_method_late hbase hfew hline rfl (thn (ho pins s σ H _ I h) fun v s1 ⟨x,H1,I1,r1,ty,q1⟩=>?_)
 obtain⟨h1,h2⟩:=zgA I1 r1 ty
 refine⟨T,id,pa,slot,hty,h1,h2,?_⟩
 have hA:=ha cpos pins s1 σ H1 _ I1 q1
 rw[hs]at hA |-
 refine Calls.callWith_builtin (by show (false||(backTo cpos (starEach es X.env)).any (·.1))=false;rw[hplain]<;>rfl) (Calls.evalArgs_plain ?_)
 exact thn hA fun us s2 ⟨vs,H2,I2,r2,q2⟩=>hm pins s2 σ H2 x vs v us Q I2 r1 r2 q2
end
noncomputable def MtM(X:Cx)(id:String)(r:V->List V->Hp->VK->Prop):Prop :=
 ∀ (pins:List (Addr×Obj)) (s:Shared) (σ:St) (H:Hp) (x:V) (xs:List V) (v:Value) (us:List Value) (Q:VK),Inv X pins σ H s->RelV x v->Vals xs us->r x xs H Q ->
  wpAny (model X.prog X.w) X.A (call (.builtin id) (v::us)) (EP X pins σ Q) X.xe s
theorem Vals.rep{xs:List V}{us:List Value}(h:Vals xs us):∀ k:Nat,Vals (List.replicate k xs).flatten (List.replicate k us).flatten
 |0=>.nil
 |k+1=>by
  rw[xT,xT,uc,uc]
  exact Vals.append h (Vals.rep h k)
theorem vh(its:List Value):∀ (k:Nat) (acc:List Value),
  List.foldl (fun x1 x2=>x1++x2) acc.toArray (List.replicate k its.toArray)=(acc++(List.replicate k its).flatten).toArray
 |0,acc=>by simp
 |k+1,acc=>by
  have e:acc.toArray++its.toArray=(acc++its).toArray:=by simp
  have e2:(acc++its)++(List.replicate k its).flatten=acc++(List.replicate (k+1) its).flatten:=by
   rw[xT,uc,ud]
  rw[<- e2,<- vh its k (acc++its),<- e,xT,List.foldl_cons]
section
variable {X:Cx} {pins:List (Addr×Obj)} {σ:St} {H:Hp} {s:Shared} {l b:Addr} {xs ys zs:List V}
theorem Inv.lset{its its':List Value}{n:Nat}{f:Array Value->Array Value}{t':Nat}(I:Inv X pins σ H s)(hH:H l=some (.lst xs))
  (e:s.heap.get? l=some { cls:=.type "list",data:=.seq its.toArray n }) (hf:f its.toArray=its'.toArray) (hv:Vals ys its') (hz:ys.length<=sizeLine) :
  Inv X pins σ (upd H l (.lst ys)) { s with heap:=s.heap.update l (Obj.mapSeq f),toks:=t' }:=by
 have q:=PySem.IsL.update e f
 rw[hf]at q
 refine I.write (x:=l) (e:=l) (by rw[hH];exact trivial) (.inl rfl) (fun b' u hb hu=>(Heap.get?_update_other s.heap (Obj.mapSeq f) (Ne.symm hb)).trans hu) ⟨_,q⟩ ?_
 exact⟨hz,its',_,hv,q⟩
theorem Inv.lnew{its:List Value}{t':Nat}(I:Inv X pins σ H s)(hv:Vals ys its)(hz:ys.length<=sizeLine) :
  Inv X pins σ (upd H s.heap.objs.size (.lst ys)) { s with heap:=s.heap.push { cls:=.type "list",data:=.seq its.toArray },toks:=t' } :=
 I.laid (fun _ _ q=>Heap.get?_push_of_some _ q) (xi _) ⟨hz,its,0,hv,Heap.get?_push_size _ rfl⟩
theorem Inv.fresh(I:Inv X pins σ H s):H s.heap.objs.size=none:=I.hok.fresh (xi _)
theorem Inv.lstM (I:Inv X pins σ H s) (hH:H l=some (.lst xs)):xs.length<=sizeLine/\∃ (its:List Value) (n:Nat),Vals xs its/\xs.length=its.length/\s.heap.get? l=some { cls:=.type "list",data:=.seq its.toArray n }:=by
 obtain⟨z,its,n,r,e⟩:=I.hok l _ hH
 exact⟨z,its,n,r,r.length,e⟩
end
section
variable {X:Cx}
theorem YV{α:Type}(xs:List α)(k:Nat):(List.replicate k xs).flatten.length=k*xs.length:=by
 induction k with
 |zero=>simp
 |succ k ih=>rw[xT,uc,xF,ih,Nat.succ_mul,Nat.add_comm]
end
section
variable {prog:Program} {w:World} {A:Around} {E:Value->Shared->Prop} {s:Shared}
end
section
variable {X:Cx}
end
end L2
namespace Att
open PySem PySem.W PySem.Calls PyProof.Rows
theorem wf{P:Params}{h:Heap}:∀ (ns:List Int) (vs:List Value),WellAll P h vs (ns.map WData.int)->IntsAre vs ns:=by
 intro ns
 induction ns with
 |nil=>
  intro vs w
  rw[uy]at w
  cases w
  exact .nil
 |cons n ns ih=>
  intro vs w
  rw[xm]at w
  cases w with
  |cons a b=>
   cases a
   exact .cons _ _ (ih _ b)
theorem KA{l:OpenLaw}{n:Nat}(hn:l.most=some n){P:Params}{h:Heap}{args:List WData}{vals:List Value}
  (hpre:l.row.toRowW.claim.pre args=true) (hwl:WellAll P h vals args) :
  ∃ a vs ns,vals= [Value.ref a]/\args= [WData.list (ns.map WData.int)]/\h.get? a=some { cls:=.type "list",data:=.seq vs.toArray }/\IntsAre vs ns/\ns.length<=n:=by
 have hsh:WShape.hasAll [] args [.list .int]=true:=(pre_splitW hpre).1
 have hc:l.pre.holds [] { args:=args }=true:=(pre_splitW hpre).2
 obtain⟨d,r,rfl,h1,h2⟩:=hasAllW_cons hsh
 obtain rfl:=hasAllW_nil h2
 obtain⟨xs,rfl,h3⟩:=hasW_list h1
 obtain⟨ns,rfl⟩:=items_int h3
 have hlen:ns.length<=n:=by
  unfold OpenLaw.pre at hc
  have h4:(WTm.not (.lt (.lit (.int (n:Int))) (.len (.arg 0)))).holds [] { args:= [.list (ns.map .int)] }=true:=by
   have h4:=(holds_andW hc).1
   rw[hn]at h4
   exact h4
  have h5:=condW_of h4 (w_not (w_lt w_lit (w_len_list (w_arg rfl))))
  rw[xt]at h5
  refine Nat.le_of_not_lt fun q=>?_
  have q':(n:Int)<((ns.length:Nat):Int):=by omega
  first
   | (rw[decide_eq_true q']at h5;exact absurd h5 (by decide))
   | (simp at h5;omega)
 cases hwl with
 |cons w1 w2=>
  cases w2
  cases w1 with
  |list ho hall=>exact⟨_,_,ns,rfl,rfl,ho,wf ns _ hall,hlen⟩
theorem Kt(l:OpenLaw)(args:List WData):l.row.toRowW.claim.post args (.bool true) args=true :=
 postW_of (r:=l.row.toRowW) (X:=(true==true))
  (show WShape.has [] (.bool true) .bool=true by first | rfl | decide | simp[WShape.has,WShape.arms,WShape.armsAll])
  (show (WTm.eq .res (.lit (.bool true))).value [] { args:=args,res:=some (.bool true),after:=args }=some (.bool (true==true)) from w_eq_bool (w_res rfl) w_lit) rfl
theorem attach_call{l:OpenLaw}{n:Nat}{q:Program}{loose:List Str}{XP:(Str->Option Value)->Heap->Prop}{YP:World->Heap->Prop}{d:DefRec}
  (hn:l.most=some n) (hdf:d.params.defaults= [])
  (call:∀ (w:World) (s₀ s₁:Shared) (mg mb:Str->Option Value) (fa:Addr) (o:Obj) (pm cd doc:Value) (a:Addr) (vs:List Value) (ns:List Int),
   Ground q loose [] XP w s₀ mg mb s₁.heap->YP w s₁.heap ->
   s₁.heap.get? fa=some o->o.data=.func (docDef d.name d.params d.body d.scope pm cd doc)->s₁.heap.CodeRec cd d.name->mg d.name=some (.ref fa) ->
   s₁.heap.get? a=some { cls:=.type "list",data:=.seq vs.toArray }->IntsAre vs ns->ns.length<=n->s₁.gens=#[] ->
   codeAny (model l.prog w) callerA (.call (.ref fa) ⟨[.ref a],[]⟩) (fun r s'=>r=.ok (.ret (.bool true))/\OldK s₁.heap s'.heap/\s'.os=s₁.os/\AllBare s'.gens) s₁) :
  WalkO q loose XP YP l.row.toRowW d [] (fun f vs=>PySem.call f vs):=by
 intro w s₀ s₁ mg mb G Y fa o pm cd doc dV kV ho hd hcd hD hmg hg args vals as hpre hlay hrd hwl hlo
 obtain rfl:dV=.none:=Dflts.none hD hdf
 obtain rfl:kV=.none:=Dflts.noKw hD
 obtain⟨a,vs,ns,rfl,rfl,hobj,hints,hlen⟩:=KA hn hpre hwl
 refine enter_call (codeAny_mono (call w s₀ s₁ mg mb fa o pm cd doc a vs ns G Y ho (fd_plain hd) hcd hmg hobj hints hlen hg) fun r s' hq=>?_)
 obtain⟨rfl,h2,h3,h4⟩:=hq
 exact⟨.inl ⟨.bool true,.bool true,[],rfl,fun _=>rfl,.bool true,Kt l _,fun _=>⟨List.Pairwise.nil,fun _ hm=>(nomatch hm)⟩⟩,h2,h3,h4⟩
section
variable {prog:Program} {w:World} {A:Around} {E:Value->Shared->Prop} {s:Shared} {K:Frag}
end
end Att
namespace L2
open PySem PySem.Spec PyProof.Rows
theorem ZY:∀ {vs:List Value}{ns:List Int},IntsAre vs ns->Vals (ns.map V.int) vs
 |_,_,.nil=>.nil
 |_,_,.cons n t h=>.cons ⟨t,rfl⟩ (ZY h)
noncomputable def zeJ(H:Hp):Prop:=∀ b,H b=none∨∃ o xs,H b=some (.frz o (.lst xs))
theorem zaE{P:Program}{w:World}{K:PySem.W.Frag}{mg mb:Str->Option Value}{CX:CXT}{k:Nat}{fa a:Addr}{fd:FuncData}{x:Str}{sp:Sp}{s₁:Shared}{vs:List Value}{ns:List Int}
  (KX:K.In s₁.heap) (hns:s₁.heap.Ns mainGlobals mg) (hb:s₁.heap.Ns builtinsNs mb) (hbb:∀ x:Str,x≠ "__name__" ->mb x=bootBuiltins x) (hlim:s₁.heap.NoLimit) (hg:s₁.gens=#[])
  (ha:s₁.heap.get? a=some { cls:=.type "list",data:=.seq vs.toArray }) (hi:IntsAre vs ns) (hl:ns.length<=sizeLine) (hr:Room k callerA)
  (F:∀ base:Heap,K.In base->base.Ns mainGlobals mg->FnOk P w K mg base CX k fa fd [x] sp) (hbind:∀ (s:Shared) (u:Value),BindsTo s fd ⟨[u],[]⟩ [(x,u)])
  (hsp:∀ H:Hp,zeJ H->SqL K H a (ns.map V.int)->sp [.ref a] H (fun v _=>v=.bl true) fun _ _ _=>False)
  (hCX:∀ H e s',CX [] H s₁ (fun _ _ _=>False) e s'->False) :
  codeAny (model P w) callerA (.call (.ref fa) ⟨[.ref a],[]⟩) (fun r s'=>r=.ok (.ret (.bool true))/\OldK s₁.heap s'.heap/\s'.os=s₁.os/\AllBare s'.gens) s₁:=by
 have rv:=ZY hi
 have lenV:=hi.length
 -- from an abstract heap in which nothing but the script may be tracked
 have core:∀ H:Hp,zeJ H->SqL K H a (ns.map V.int)->HOk P w H s₁.heap->(∀ b,H b≠none->b=a)->(H a≠none->K.lookup a=none) ->
   codeAny (model P w) callerA (.call (.ref fa) ⟨[.ref a],[]⟩) (fun r s'=>r=.ok (.ret (.bool true))/\OldK s₁.heap s'.heap/\s'.os=s₁.os/\AllBare s'.gens) s₁:=by
  intro H hO hS hok hA hK
  have Qr:∀ {b:Addr} {o:Obj},s₁.heap.get? b=some o->H b=none->(Vc s₁.heap H).get? b=some o:=fun e n=>zay e n
  have noA:∀ {b:Addr} {o:Obj} {es:Array DictEntry} {ep:Nat},s₁.heap.get? b=some o->o.data=.dict es ep->H b=none:=fun {b o es ep} e d=>by
   cases q:H b with
   |none=>rfl
   |some u=>
    have e':b=a:=hA b (by rw[q];simp)
    subst e'
    rw[ha]at e;cases e
    have d':Data.seq vs.toArray _=Data.dict es ep:=d
    cases d'
  have nsK:∀ {b:Addr} {m:Str->Option Value},s₁.heap.Ns b m->(Vc s₁.heap H).Ns b m:=fun {b m} ⟨o,es,ep,e,d,r⟩=>⟨o,es,ep,Qr e (noA e d),d,r⟩
  have hKb:K.In (Vc s₁.heap H):=fun b o e=>Qr (KX b o e) (by
   cases q:H b with
   |none=>rfl
   |some u=>
    have e':b=a:=hA b (by rw[q];simp)
    subst e'
    rw[hK (by rw[q];simp)]at e;cases e)
  have hM:Mod K mg (Vc s₁.heap H):=⟨hKb,nsK hns,⟨mb,nsK hb,hbb⟩,let ⟨mc,h1,h2⟩:=hlim;⟨mc,nsK h1,h2⟩⟩
  have e0:zck P w K mg (Vc s₁.heap H) callerA [] s₁ H:=⟨rfl,hM,fun b o e=>zc3 e,Nat.le_of_eq (k9 _ _),trivial,fun b hb=>absurd (show b∈([]:List Addr) from hb) (by simp),hok,.of_eq hg⟩
  refine codeAny_mono ((F _ hKb (nsK hns)).run callerA [] s₁ H ⟨[.ref a],[]⟩ [.ref a] [.ref a] _ _ hr e0 (hbind s₁ (.ref a)) (.cons rfl .nil) (hsp H hO hS)) fun r s' h=>?_
  cases r with
  |error e=>exact (hCX H e s' h).elim
  |ok fl=>
   cases fl with
   |next=>exact False.elim h
   |brk=>exact False.elim h
   |cont=>exact False.elim h
   |ret u=>
    obtain⟨v,H',os,bare,un,hok',r',q⟩:=h
    have q':v=.bl true:=q
    subst q'
    obtain rfl:u=Value.bool true:=r'
    refine⟨rfl,OldK.of_keep fun b o e=>?_,os,bare⟩
    cases q:H b with
    |none=>exact un.keep b o e q (by intro z;exact absurd (show b∈([]:List Addr) from z) (by simp)) (by simp)
    |some u=>
     rcases hO b with z | ⟨ob,xs,z⟩
     ·rw[q]at z;cases z
     ·have z2:=un.frzs b ob _ z
      obtain⟨e1,_⟩:=hok b _ z
      obtain⟨e2,_⟩:=hok' b _ z2
      rw[e]at e1;cases e1
      exact e2
 cases hk:K.lookup a with
 |some o=>
  -- the script is one of the module's own objects
  have e:=KX a o hk
  rw[ha]at e
  cases e
  refine core (fun _=>none) (fun _=>.inl rfl) (.inr ⟨_,vs.toArray,_,hk,rfl,rfl,rfl,by rw[xo,lenV];exact hl,by simpa using rv⟩) (fun b u z=>by have z':(none:Option HO)=some u:=z;cases z') (fun b z=>absurd rfl z) fun z=>absurd rfl z
 |none=>
  refine core (fun b=>if b=a then some (.frz { cls:=.type "list",data:=.seq vs.toArray } (.lst (ns.map V.int))) else none) (fun b=>?_) (.inl (.inr ⟨{ cls:=.type "list",data:=.seq vs.toArray },if_pos rfl⟩)) (fun b u z=>?_) (fun b z=>?_) fun _=>hk
  ·by_cases hb:b=a
   ·exact .inr ⟨_,_,if_pos hb⟩
   ·exact .inl (if_neg hb)
  ·by_cases hb:b=a
   ·have z':=(if_pos hb).symm.trans z
    cases z'
    subst hb
    exact⟨ha,by rw[xt];exact hl,vs,_,rv,ha⟩
   ·have z':=(if_neg hb).symm.trans z
    cases z'
  ·by_cases hb:b=a
   ·exact hb
   ·exact absurd (if_neg hb) z
noncomputable abbrev KOf{K:PySem.W.Frag}{h:Heap}(_:K.In h):PySem.W.Frag:=K
theorem walk_of{l:PySem.W.OpenLaw}{n k:Nat}{q:Program}{loose:List Str}{XP:(Str->Option Value)->Heap->Prop}{YP:World->Heap->Prop}{d:DefRec}{K:Params->PySem.W.Frag}{CX:World->CXT}{sp:World->Sp}{x:Str}
  (hn:l.most=some n) (hn2:n<=sizeLine) (hdf:d.params.defaults= []) (hr:Room k callerA)
  (hY:∀ (w:World) (h:Heap),YP w h->(K w.params).In h)
  (F:∀ (w:World) (mg:Str->Option Value) (fa:Addr) (h:Heap),(K w.params).In h->h.Ns mainGlobals mg->mg d.name=some (.ref fa) ->
   ∃ fd:FuncData,(∀ (s:Shared) (u:Value),BindsTo s fd ⟨[u],[]⟩ [(x,u)]) /\
    ∀ base:Heap,(K w.params).In base->base.Ns mainGlobals mg->FnOk l.prog w (K w.params) mg base (CX w) k fa fd [x] (sp w))
  (hsp:∀ (w:World) (H:Hp) (a:Addr) (ns:List Int),ns.length<=n->zeJ H->SqL (K w.params) H a (ns.map V.int)->sp w [.ref a] H (fun v _=>v=.bl true) fun _ _ _=>False)
  (hCX:∀ (w:World) (H:Hp) (s:Shared) (e:Value) (s':Shared),CX w [] H s (fun _ _ _=>False) e s'->False) :
  PySem.W.WalkO q loose XP YP l.row.toRowW d [] (fun f vs=>PySem.call f vs):=by
 refine Att.attach_call hn hdf fun w s₀ s₁ mg mb fa o pm cd doc a vs ns G Y ho hd hcd hmg hobj hints hlen hg=>?_
 have KX:=hY w _ Y
 obtain⟨fd,hb,hF⟩:=F w mg fa _ KX G.T.g hmg
 exact zaE KX G.T.g G.T.b G.T.builtins G.T.nolimit hg hobj hints (xC hlen hn2) hr hF hb (fun H hO hS=>hsp w H a ns hlen hO hS) fun H e s'=>hCX w H s₁ e s'
noncomputable def qc(s:Stmt):Arguments:=match s with
 |.FunctionDef _ a _ _ _ _ _ _ _ _=>a
 |_=>{ posonlyargs:= [],args:= [],vararg:=none,kwonlyargs:= [],kw_defaults:= [],kwarg:=none,defaults:= [] }
noncomputable def defBody(s:Stmt):List Stmt:=match s with
 |.FunctionDef _ _ b _ _ _ _ _ _ _=>b
 |_=> []
noncomputable def defScope(s:Stmt):Scope:=match s with
 |.FunctionDef _ _ _ _ _ _ sc _ _ _=>sc
 |_=>{ kind:=.function,names:= [],isGenerator:=false,isCoroutine:=false }
noncomputable abbrev CX0:CXT:=fun _ _ _ _ _ _=>False
noncomputable abbrev E0:XK:=fun _ _ _=>False
theorem zhh{X:Cx}:vL CX0 X E0:=fun _ _ _ _ _ _ _ h=>h.elim
structure Fun(K:PySem.W.Frag)(x qual:Str)(st:Stmt)(f:Addr)(fd:FuncData):Prop where
 ex:∃ (oc:Value) (od:Option Addr) (kV doc pm:Value) (an:Option Addr) (cdv ct:Value) (osl:Array (Option Value)),
  fd=PySem.W.fnOf x qual (qc st) (defBody st) (defScope st) .none kV doc pm an cdv ct/\K.lookup f=some ⟨oc,od,.func fd,osl⟩/\PySem.W.codeIn K cdv qual=true
 kp:PySem.W.keepIn K (.ref f)=true
section
variable {P:Program} {w:World} {K:PySem.W.Frag} {mg:Str->Option Value} {base:Heap}
theorem Fun.ok{x qual:Str}{st:Stmt}{f:Addr}{fd:FuncData}{N ps:List Str}{k:Nat}{sp:Sp}(F:Fun K x qual st f fd)(S:jk N ps (defScope st))(len:∀ vs H Q E,sp vs H Q E->vs.length=ps.length)
  (hbody:∀ (cdv:Value) (A:Around) (outer:List Env) (s:Shared) (H:Hp) (vs:List V) (Q:VK) (E:XK),Room k (A.deeper (envOfC qual (defScope st) s.heap.objs.size f cdv))->sp vs H Q E ->
   ∃ t,PSs (Qd CX0 P w K mg base N qual (defScope st) f cdv A outer s H E).nox (defBody st) t/\t { nx:=fun _ H'=>Q .non H',rt:=Q } (start N vs) H):FnOk P w K mg base CX0 (k+1) f fd ps sp:=by
 obtain⟨oc,od,kV,doc,pm,an,cdv,ct,osl,rfl,lk,hcd⟩:=F.ex
 refine zeo lk hcd S len fun A outer s H vs Q E hr hsp=>?_
 obtain⟨t,h,q⟩:=hbody cdv A outer s H vs Q E hr hsp
 exact⟨t,h.nox,q⟩
theorem Fun.binds{x qual:Str}{st:Stmt}{f:Addr}{fd:FuncData}{ps:List Str}(F:Fun K x qual st f fd)
  (h:∀ (kV doc pm:Value) (an:Option Addr) (cdv ct:Value) (us:List Value),us.length=ps.length->bindArgs (PySem.W.fnOf x qual (qc st) (defBody st) (defScope st) .none kV doc pm an cdv ct) ⟨us,[]⟩=pure (ps.zip us)):Binds K fd ps []:=by
 obtain⟨oc,od,kV,doc,pm,an,cdv,ct,osl,rfl,lk,hcd⟩:=F.ex
 exact .all (h kV doc pm an cdv ct)
theorem Qf{x qual:Str}{st:Stmt}{f:Addr}{oc:Value}{od an:Option Addr}{osl:Array (Option Value)}{kV doc pm cdv ct:Value}(l:K.lookup f=some ⟨oc,od,.func (PySem.W.fnOf x qual (qc st) (defBody st) (defScope st) .none kV doc pm an cdv ct),osl⟩)
  (c:PySem.W.codeIn K cdv qual=true) (k:PySem.W.keepIn K (.ref f)=true):Fun K x qual st f (PySem.W.fnOf x qual (qc st) (defBody st) (defScope st) .none kV doc pm an cdv ct):=⟨⟨oc,od,kV,doc,pm,an,cdv,ct,osl,rfl,l,c⟩,k⟩
end
section
variable {X:Cx}
theorem pv (i:Nat){x:Str}{pos:Pos}(hN:X.N[i]?=some x:=by rfl) (hv:Vis X.env.scope x:=by first | exact Or.inl rfl | exact Or.inr (Or.inl rfl) | exact Or.inr (Or.inr rfl)) (hd:(x==("__debug__" :Str))=false:=by decide)
    (hcd:(x==("__classdict__" :Str))=false:=by decide):PE X (.Name x pos) (zhK i):=qB hN hv hd hcd
end
theorem VX{A B:Prop}(h:B):if false=true then A else B:=by
 rw[if_neg uv]
 exact h
theorem VY{A B:Prop}(h:A):if true=true then A else B:=by
 rw[if_pos rfl]
 exact h
noncomputable def Same(H H':Hp):Prop:=∀ b o,H b=some o->H' b=some o
theorem Same.refl(H:Hp):Same H H:=fun _ _ h=>h
theorem Same.trans{H H1 H2:Hp}(a:Same H H1)(b:Same H1 H2):Same H H2:=fun c o h=>b c o (a c o h)
theorem Same.free{H H':Hp}(e:Same H H'){l:Addr}(h:H' l=Option.none):H l=Option.none:=by
 cases q:H l with
 |none=>rfl
 |some o=>
  rw[e l o q]at h
  cases h
theorem Same.seq{K:PySem.W.Frag}{H H':Hp}{a:Addr}{xs:List V}(e:Same H H')(h:SqL K H a xs):SqL K H' a xs:=by
 rcases h with (h | ⟨o,h⟩) | h
 ·exact .inl (.inl (e _ _ h))
 ·exact .inl (.inr ⟨o,e _ _ h⟩)
 ·exact .inr h
section
variable {κ:Type} [DecidableEq κ]
noncomputable def yG(kvs:List (κ×V))(k:κ):Option V:=(kvs.find? fun kv=>decide (kv.1=k)).map (·.2)
noncomputable def Yg(kvs:List (κ×V))(k:κ)(v:V):List (κ×V) :=
 if (kvs.any fun kv=>decide (kv.1=k))=true then kvs.map (fun kv=>if kv.1=k then (kv.1,v) else kv) else kvs++ [(k,v)]
theorem Wo{p:κ×V}{r:List (κ×V)}{k:κ}(e:p.1=k):yG (p::r) k=some p.2:=by simp[yG,e]
theorem Wn{p:κ×V}{r:List (κ×V)}{k:κ}(e:¬ p.1=k):yG (p::r) k=yG r k:=by simp[yG,e]
theorem yH(k:κ):∀ kvs:List (κ×V),(kvs.any fun kv=>decide (kv.1=k))=(yG kvs k).isSome
 |[]=>rfl
 |p::r=>by
  rw[xP]
  by_cases e:p.1=k
  ·simp only[Wo e,decide_eq_true e,Bool.true_or,Option.isSome_some]
  ·rw[Wn e,decide_eq_false e,Bool.false_or];exact yH k r
theorem KV.any{kvs:List (κ×V)}{vs:List (κ×Value)}(r:KV kvs vs)(k:κ):(kvs.any fun kv=>decide (kv.1=k))=vs.any fun kv=>decide (kv.1=k):=by
 unfold KV at r
 induction r with
 |nil=>rfl
 |cons h t ih=>rw[xP,xP,ih,h.1]
theorem KV.repl{kvs:List (κ×V)}{vs:List (κ×Value)}(r:KV kvs vs)(k:κ){y:V}{u:Value}(ry:RelV y u) :
  KV (kvs.map fun kv=>if kv.1=k then (kv.1,y) else kv) (vs.map fun kv=>if kv.1=k then (kv.1,u) else kv):=by
 unfold KV at r |-
 induction r with
 |nil=>exact .nil
 | @cons p q ps qs h t ih=>
  rw[xm,xm]
  refine .cons ?_ ih
  obtain⟨h1,h2⟩:=h
  by_cases e:p.1=k
  ·rw[if_pos e,if_pos (h1.symm.trans e)];exact⟨h1,ry⟩
  ·rw[if_neg e,if_neg (fun z=>e (h1.trans z))];exact⟨h1,h2⟩
theorem KV.put{kvs:List (κ×V)}{vs:List (κ×Value)}(r:KV kvs vs)(k:κ){y:V}{u:Value}(ry:RelV y u):KV (Yg kvs k y) (stored vs k u):=by
 unfold Yg stored
 rw[r.any k]
 by_cases e:(vs.any fun kv=>decide (kv.1=k))=true
 ·rw[if_pos e,if_pos e];exact r.repl k ry
 ·rw[if_neg e,if_neg e];exact Paired.snoc r ⟨rfl,ry⟩
theorem KV.length{kvs:List (κ×V)}{vs:List (κ×Value)}(r:KV kvs vs):kvs.length=vs.length:=Paired.length r
end
theorem zes{P:Program}{w:World}{k:Key}{u:Value}(r:RelV (kV k) u):(qG P w).is k u=true:=by
 cases k with
 |inl i=>obtain⟨t,e⟩:=(show ∃ t,u=Value.int i t from r);subst e;exact V7 P w i t
 |inr x=>obtain⟨t,e⟩:=(show ∃ t,u=Value.str x t from r);subst e;exact V8 P w x t
section
variable {P:Program} {w:World} {H:Hp} {h:Heap} {a:Addr}
end
section
variable {X:Cx} {pins:List (Addr×Obj)} {σ:St} {H:Hp} {s:Shared} {a:Addr} {y v:V} {u r:Value} {o:Option V} {A:Around} {E:Value->Shared->Prop}
theorem Inv.big(I:Inv X pins σ H s):sysModules<s.heap.objs.size:=by
 have h:mainGlobals<s.heap.objs.size:=(I.mod.glob.keeps I.bk).lt
 exact Nat.lt_trans (by decide) h
theorem ze7{P:Program}{w:World}{H':Hp}{h':Heap}{kvs:List (Key×V)}{vs:List (Key×Value)}(z:kvs.length<=sizeLine)(hd:(a==sysModules)=false)(rel:KV kvs vs)(dd:h'.DictOf (qG P w) a vs) :
  ObjOk P w H' h' a (.dK kvs):=⟨z,hd,vs,rel,dd⟩
end
section
variable {X:Cx} {pins:List (Addr×Obj)} {σ:St} {H:Hp} {s:Shared} {a:Addr} {kvs:List (Key×V)} {k:Key} {u:Value} {A:Around} {E:Value->Shared->Prop}
end
section
variable {X:Cx} {o i e value:Expr} {pos pos' tpos:Pos} {td ty tv:TE}
end
theorem zaq {P:Program}{w:World}{H:Hp}(h:Heap) (hb:sysModules<h.objs.size):ObjOk P w H (h.push { cls:=.type "dict",data:=.dict #[] }) h.objs.size (.dK []) :=
 ⟨xV _,beq_eq_false_iff_ne.mpr (Ne.symm (xl hb)),[],.nil,Heap.DictOf.new h⟩
noncomputable def zgv:TE:=fun _ H Q=>∀ p,H p=none->Q (.ref p) (upd H p (.dK []))
section
variable {X:Cx} {pos:Pos}
theorem pe_dnewK:PE X (.Dict [] [] pos) zgv:=fun pins s σ H Q I h=>
 wpAny_Dict_empty ⟨.ref s.heap.objs.size,_,I.laid (a:=s.heap.objs.size) (o:=.dK []) (t':=s.toks) (fun _ _ q=>Heap.get?_push_of_some _ q) (xi _) (zaq s.heap I.big),rfl,h _ (I.hok.fresh (xi _))⟩
end
section
variable {X:Cx} {pins:List (Addr×Obj)} {σ:St} {H:Hp} {s:Shared} {a:Addr} {y d:V} {u r:Value} {o:Option V} {A:Around} {E:Value->Shared->Prop}
end
section
variable {X:Cx} {o e f:Expr} {apos cpos:Pos} {td ty tx:TE}
end
section
variable {X:Cx} {pins:List (Addr×Obj)} {σ:St} {H:Hp} {s:Shared} {a:Addr} {kvs:List (Key×V)} {A:Around} {E:Value->Shared->Prop}
end
section
variable {X:Cx} {pins:List (Addr×Obj)} {σ:St} {H:Hp} {s:Shared} {a:Addr} {y:V} {u:Value} {A:Around} {E:Value->Shared->Prop}
end
section
variable {X:Cx}
end
theorem zS{α β:Type}[BEq α][LawfulBEq α]:∀ {l:List (α×β)}{x:α}{v:β},l.lookup x=some v->(x,v)∈l
 |[],_,_,h=>by simp at h
 | (a,b)::r,x,v,h=>by
  rw[xr]at h
  cases e:x==a with
  |true=>rw[e]at h;have e':=eq_of_beq e;subst e';cases h;exact xp
  |false=>rw[e]at h;exact xj _ (zS h)
theorem Qc{env:Env}:∀ (names:List (Str×NameKind)) (cs:List (Str×Addr)),
    (∀ y∈names,y.2=.free->∃ c,env.cells.lookup y.1=some c)->(∀ x c,cs.lookup x=some c->env.cells.lookup x=some c) ->
    ∃ cl,(forIn names cs fun x r=>if (x.snd==NameKind.free)=true then do
                let z<-cellOf env x.fst
                pure (ForInStep.yield ((x.fst,z)::r))
              else pure (ForInStep.yield r):Sem (List (Str×Addr)))=pure cl/\(∀ x c,cl.lookup x=some c->env.cells.lookup x=some c) /\
      (∀ x,(∃ c,cs.lookup x=some c)∨(x,NameKind.free)∈names->∃ c,cl.lookup x=some c)
  |[],cs,_,h2=>⟨cs,by simp,h2,fun x hx=>by
      rcases hx with h | h
      · exact h
      · cases h⟩
  | (n,k)::r,cs,h1,h2=>by
    rw[List.forIn_cons]
    by_cases hk:k=.free
    · subst hk
      obtain⟨c,hc⟩:=h1 (n,.free) xp rfl
      have e:cellOf env n=pure c:=by unfold cellOf;rw[hc]
      obtain⟨cl,e1,h3,h4⟩:=Qc r ((n,c)::cs) (fun y hy=>h1 y (xj _ hy)) (fun x c' hx=>by
        rw[xr]at hx
        cases q:x==n with
        |true=>rw[q]at hx;cases hx;rw[eq_of_beq q];exact hc
        |false=>rw[q]at hx;exact h2 x c' hx)
      refine⟨cl,?_,h3,fun x hx=>h4 x ?_⟩
      · simp only [beq_self_eq_true, if_true, e, pure_bind]
        exact e1
      · by_cases q : x = n
        · subst q;exact .inl ⟨c,by simp⟩
        · rcases hx with ⟨c', hx⟩ | hx
          · exact .inl ⟨c',by rw[xr,beq_eq_false_iff_ne.mpr q];exact hx⟩
          · rcases List.mem_cons.mp hx with z | z
            · exact absurd (congrArg Prod.fst z) q
            · exact .inr z
    · have hb : (k == NameKind.free) = false := by simpa using hk
      obtain⟨cl,e1,h3,h4⟩:=Qc r cs (fun y hy=>h1 y (xj _ hy)) h2
      refine⟨cl,?_,h3,fun x hx=>h4 x ?_⟩
      · simp only [hb, Bool.false_eq_true, if_false, pure_bind]
        exact e1
      · rcases hx with hx | hx
        · exact .inl hx
        · rcases List.mem_cons.mp hx with z | z
          · exact absurd (congrArg Prod.snd z).symm hk
          · exact .inr z
theorem yW{sc:Scope}{env:Env}(h:∀ y∈sc.names,y.2=.free->∃ c,env.cells.lookup y.1=some c) :
  ∃ cl,closureFor sc env=pure cl/\(∀ x c,cl.lookup x=some c->env.cells.lookup x=some c)/\(∀ x,(x,NameKind.free)∈sc.names->∃ c,cl.lookup x=some c):=by
 obtain⟨cl,e,h1,h2⟩:=Qc (env:=env) sc.names [] h (fun x c z=>by simp at z)
 refine⟨cl,?_,h1,fun x hx=>h2 x (.inr hx)⟩
 simp only[closureFor]
 rw[bind_pure]
 exact e
noncomputable def kJ (X:Cx) (C:Addr) (x:Value) (s':Shared):Prop:=∃ m,s'.heap.Ns C m/\∀ h',Heap.SameBut C s'.heap h'->∀ cenv:Env,cenv.locals=C->wpAny (model X.prog X.w) X.A (passOn "comprehension.variables-let-go" x cenv:Sem Value) (fun _ _=>False) X.xe { s' with heap:=h' }
noncomputable abbrev Cx.comp(X:Cx)(N':List Str)(scope:Scope)(cl:List (Str×Addr))(C:Addr)(s2:Shared)(H2:Hp)(fp:List Addr):Cx :=
 { X with N:=N',env:=compEnvC scope cl C X.env,s₀:=s2,H₀:=H2,outer:=X.stack,stack:=X.stack,ex:=fp,fn:=fun x=>decide (scope.names.lookup x=some .cell),pn:= [],xe:=notedBy (model X.prog X.w) X.A (compEnvC scope cl C X.env) (kJ X C) }
noncomputable def Cat(X:Cx)(σ:St)(C:Addr)(s2:Shared)(H2:Hp)(fp:List Addr):Prop:=∃ pins,Inv X pins σ H2 s2/\(∀ b∈fp,Qn X pins H2 b)/\s2.heap.objs.size<=C
structure CSc(psc:Scope)(N:List Str)(sc:Scope)(N':List Str)(k:Nat)(ix:List Nat):Prop where
 kind:sc.kind=.function
 cel:∀ y∈sc.names,y.2=.cell->sc.names.lookup y.1=some .cell
 loc:∀ y∈sc.names,y.2=.local->sc.names.lookup y.1=some .local
 fre:∀ y∈sc.names,y.2=.free->psc.names.lookup y.1=some .cell∨psc.names.lookup y.1=some .free
 len:N'.length=k+ix.length
 nd:N'.Nodup
 cap:∀ (j i:Nat),ix[j]?=some i->∃ y,N'[k+j]?=some y/\N[i]?=some y/\sc.names.lookup y=some .free
noncomputable def YF(psc:Scope)(N:List Str)(sc:Scope)(N':List Str)(k:Nat)(ix:List Nat):Bool :=
 decide (sc.kind=.function)&&sc.names.all (fun y=>(decide (y.2≠ .cell)||decide (sc.names.lookup y.1=some .cell))&&(decide (y.2≠ .local)||decide (sc.names.lookup y.1=some .local))&&(decide (y.2≠ .free)||decide (psc.names.lookup y.1=some .cell)||decide (psc.names.lookup y.1=some .free))) &&
 decide (N'.length=k+ix.length)&&decide N'.Nodup&&(List.range ix.length).all (fun j=>match N'[k+j]?,N[ix.getD j 0]? with
  |some y,some z=>decide (y=z)&&decide (sc.names.lookup y=some .free)
  |_,_=>false)
theorem CSc.of{psc:Scope}{N:List Str}{sc:Scope}{N':List Str}{k:Nat}{ix:List Nat}(h:YF psc N sc N' k ix=true):CSc psc N sc N' k ix:=by
 unfold YF at h
 simp only[xa,decide_eq_true_eq,xB,xH]at h
 obtain⟨⟨⟨⟨h1,h2⟩,h3⟩,h4⟩,h5⟩:=h
 refine⟨h1,fun y hy e=>?_,fun y hy e=>?_,fun y hy e=>?_,h3,h4,fun j i e=>?_⟩
 ·rcases (h2 y hy).1.1 with z | z
  ·exact absurd e z
  ·exact z
 ·rcases (h2 y hy).1.2 with z | z
  ·exact absurd e z
  ·exact z
 ·rcases (h2 y hy).2 with (z | z) | z
  ·exact absurd e z
  ·exact .inl z
  ·exact .inr z
 ·obtain⟨hj,ei⟩:=xb.mp e
  have:=h5 j (List.mem_range.mpr hj)
  have e2:ix.getD j 0=i:=by rw[ul,e];rfl
  rw[e2]at this
  split at this
  ·rename_i y z ey ez
   simp only[xa,decide_eq_true_eq]at this
   obtain⟨rfl,hl⟩:=this
   exact⟨y,ey,ez,hl⟩
  ·cases this
noncomputable def cS(k:Nat)(ix:List Nat)(σ:St):St:=List.replicate k none++ix.map fun i=>(σ[i]?).join
theorem QV{env:Env}:∀ {names:List (Str×NameKind)}{x:Str},
    ((names.map fun (n,k)=>if (k==NameKind.free&&env.scope.kind==.function&&env.kindOf n==some .cell) then (n,NameKind.cell) else (n,k)).lookup x=some .cell ∨
     (names.map fun (n,k)=>if (k==NameKind.free&&env.scope.kind==.function&&env.kindOf n==some .cell) then (n,NameKind.cell) else (n,k)).lookup x=some .free)->names.lookup x=some .free∨names.lookup x=some .cell
  |[],_,h=>by simp at h
  | (n,k)::r,x,h=>by
    have ih:=@QV env r x
    rw[xm]at h
    dsimp only at h
    by_cases hcd:(k==NameKind.free&&env.scope.kind==.function&&env.kindOf n==some .cell)=true
    · have hkf : k = .free := by
        simp only[xa]at hcd
        exact eq_of_beq hcd.1.1
      rw[if_pos hcd]at h
      cases hx:x==n with
      |true=>rw[xr,hx,hkf];exact .inl rfl
      |false=>simp only[xr,hx]at h;simp only[xr,hx];exact ih h
    · rw [if_neg hcd] at h
      cases hx:x==n with
      |true=>
        simp only[xr,hx]at h
        rw[xr,hx]
        rcases h with h | h
        · exact .inr h
        · exact .inl h
      |false=>simp only[xr,hx]at h;simp only[xr,hx];exact ih h
theorem J4{env:Env}:∀ {names:List (Str×NameKind)}{x:Str},names.lookup x=some .free ->
    ((names.map fun (n,k)=>if (k==NameKind.free&&env.scope.kind==.function&&env.kindOf n==some .cell) then (n,NameKind.cell) else (n,k)).lookup x=some .cell ∨
     (names.map fun (n,k)=>if (k==NameKind.free&&env.scope.kind==.function&&env.kindOf n==some .cell) then (n,NameKind.cell) else (n,k)).lookup x=some .free)
  |[],_,h=>by simp at h
  | (n,k)::r,x,h=>by
    have ih:=@J4 env r x
    rw[xm]
    dsimp only
    cases hx:x==n with
    |true=>
      rw[xr,hx]at h
      cases h
      by_cases hcd:(NameKind.free==NameKind.free&&env.scope.kind==.function&&env.kindOf n==some .cell)=true
      · rw[if_pos hcd];simp[xr,hx]
      · rw[if_neg hcd];simp[xr,hx]
    |false=>
      rw[xr,hx]at h
      by_cases hcd:(k==NameKind.free&&env.scope.kind==.function&&env.kindOf n==some .cell)=true
      · rw[if_pos hcd];simp only[xr,hx];exact ih h
      · rw[if_neg hcd];simp only[xr,hx];exact ih h
structure ClOk(X:Cx)(sc:Scope)(cl:List (Str×Addr))(C:Addr)(h4:Heap):Prop where
 src:∀ x c,cl.lookup x=some c->X.env.cells.lookup x=some c∨(C<c/\h4.IsCell c none)
 inj:∀ x y c,cl.lookup x=some c->cl.lookup y=some c->x=y
 has:∀ x,(sc.names.lookup x=some .free∨sc.names.lookup x=some .cell)->∃ c,cl.lookup x=some c
 own:∀ x c,sc.names.lookup x=some .cell->cl.lookup x=some c->C<c
 old:∀ x c,sc.names.lookup x=some .free->cl.lookup x=some c->X.env.cells.lookup x=some c
theorem zW:∀ (names:List (Str×NameKind)) (n:Nat) (acc:List (Str×Addr)),cellsFrom n names acc=cellsFrom n names []++acc
 |[],n,acc=>rfl
 | (x,k)::r,n,acc=>by
  unfold cellsFrom
  split
  ·rw[zW r (n+1) ((x,n)::acc),zW r (n+1) [(x,n)],ud];rfl
  ·exact zW r n acc
theorem jW:∀ (names:List (Str×NameKind)) (n:Nat) (y:Str×Addr),y∈cellsFrom n names []->(y.1,NameKind.cell)∈names
 |[],n,y,h=>by cases h
 | (x,k)::r,n,y,h=>by
  unfold cellsFrom at h
  split at h
  ·rename_i hk
   rw[zW]at h
   rcases xE.mp h with h | h
   ·exact xj _ (jW r _ y h)
   ·have e:y=(x,n):=by simpa using h
    subst e
    have hk':k=.cell:=eq_of_beq hk
    subst hk'
    exact xp
  ·exact xj _ (jW r _ y h)
theorem Qg{β:Type}:∀ (l1 l2:List (Str×β)) (x:Str),(l1++l2).lookup x=(match l1.lookup x with | some v=>some v | none=>l2.lookup x)
 |[],l2,x=>rfl
 | (a,b)::l1,l2,x=>by
  rw[uf,xr,xr]
  cases x==a with
  |true=>rfl
  |false=>exact Qg l1 l2 x
theorem WO{M:Model}{A:Around}{E:Value->Shared->Prop}{s:Shared}{scope:Scope}{globals:Addr}{cl:List (Str×Addr)}{qual:Str}{env:Env}{builtins:Addr}{Q:Env->Shared->Prop}
  (hQ:Q (newEnv scope s.heap.objs.size globals (cellsFrom (s.heap.objs.size+1) scope.names cl) qual none .none (some env) builtins) { s with heap:=pushCells (s.heap.push { cls:=.type "dict",data:=.dict #[] }) scope.names }) :
  wpAny M A (newFunctionEnv scope globals cl [] qual none .none (some env) builtins) Q E s:=by
 simp only[newFunctionEnv,Option.isSome_some,if_true]
 refine wpAny_bind (wpAny_alloc ?_)
 refine wpAny_bind (wpAny_layCells _ (fun name kind cells=>by cases hkc:kind==NameKind.cell<;>simp[hkc]) _ _ _ _ ?_)
 rw[show ({ s with heap:=s.heap.push { cls:=.type "dict",data:=.dict #[] } }:Shared).heap.objs.size=s.heap.objs.size+1 from Heap.size_push ..]
 simp only[List.forIn_nil]
 exact wpAny_bind (wpAny_pure (wpAny_pure hQ))
section
variable {X:Cx} {pins:List (Addr×Obj)} {σ:St} {H:Hp} {s2:Shared}
theorem ClOk.of{sc:Scope}{N':List Str}{ix:List Nat}{k:Nat}(I:Inv X pins σ H s2)(S:CSc X.env.scope X.N sc N' k ix){cl:List (Str×Addr)}(hcl1:∀ x c,cl.lookup x=some c->X.env.cells.lookup x=some c)(hcl2:∀ x,(x,NameKind.free)∈sc.names->∃ c,cl.lookup x=some c)
  {g:Heap} {o:Obj} (hg:s2.heap.objs.size<=g.objs.size):ClOk X sc (cellsFrom (g.objs.size+1) sc.names cl) g.objs.size (pushCells (g.push o) sc.names):=by
 have ok:=cellsFrom_ok sc.names (g.push o) (g.objs.size+1) [] ⟨(fun _ _ hm=>nomatch hm),List.Pairwise.nil⟩ (by rw[Heap.size_push];exact xi _)
 rw[Heap.size_push]at ok
 rw[zW]
 have hnew:∀ x c,(cellsFrom (g.objs.size+1) sc.names []).lookup x=some c->g.objs.size<c/\(pushCells (g.push o) sc.names).IsCell c none/\(x,NameKind.cell)∈sc.names:=fun x c e=>by
  have hm:=zS e
  have:=ok.empty x c hm
  exact⟨Nat.lt_of_succ_le this.2,this.1,jW _ _ _ hm⟩
 have hold:∀ x c,cl.lookup x=some c->c<g.objs.size:=fun x c e=>by
  obtain⟨v,ob,hob,_⟩:=I.cell x c (hcl1 x c e)
  exact xn (Heap.lt_size hob) hg
 have hget:∀ x c,(cellsFrom (g.objs.size+1) sc.names []++cl).lookup x=some c->((cellsFrom (g.objs.size+1) sc.names []).lookup x=some c)∨((cellsFrom (g.objs.size+1) sc.names []).lookup x=none/\cl.lookup x=some c):=fun x c e=>by
  rw[Qg]at e
  cases q:(cellsFrom (g.objs.size+1) sc.names []).lookup x with
  |some v=>rw[q]at e;exact .inl e
  |none=>rw[q]at e;exact .inr ⟨rfl,e⟩
 have hnone:∀ x,sc.names.lookup x=some .free->(cellsFrom (g.objs.size+1) sc.names []).lookup x=none:=fun x hx=>by
  cases q:(cellsFrom (g.objs.size+1) sc.names []).lookup x with
  |none=>rfl
  |some c=>
   have:=S.cel (x,.cell) (hnew x c q).2.2 rfl
   rw[hx]at this;cases this
 refine⟨fun x c e=>?_,fun x y c e1 e2=>?_,fun x hx=>?_,fun x c hx e=>?_,fun x c hx e=>?_⟩
 ·rcases hget x c e with q | ⟨_,q⟩
  ·exact .inr ⟨(hnew x c q).1,(hnew x c q).2.1⟩
  ·exact .inl (hcl1 x c q)
 ·rcases hget x c e1 with q1 | ⟨_,q1⟩
  ·rcases hget y c e2 with q2 | ⟨_,q2⟩
   ·have m1:=zS q1
    have m2:=zS q2
    by_cases hxy:x=y
    ·exact hxy
    ·exfalso
     have:=ok.apart
     obtain⟨i,hi,ei⟩:=List.getElem_of_mem m1
     obtain⟨j,hj,ej⟩:=List.getElem_of_mem m2
     have pw:=List.pairwise_iff_getElem.mp this
     rcases Nat.lt_trichotomy i j with h | h | h
     ·have:=pw i j hi hj h
      rw[ei,ej]at this;exact this rfl
     ·subst h
      rw[ei]at ej
      exact hxy (congrArg Prod.fst ej)
     ·have:=pw j i hj hi h
      rw[ei,ej]at this;exact this rfl
   ·exact absurd (hold y c q2) (Nat.not_lt.mpr (ua (hnew x c q1).1))
  ·rcases hget y c e2 with q2 | ⟨_,q2⟩
   ·exact absurd (hold x c q1) (Nat.not_lt.mpr (ua (hnew y c q2).1))
   ·exact I.ok.inj x y c (hcl1 x c q1) (hcl1 y c q2)
 ·rw[Qg]
  rcases hx with hx | hx
  ·rw[hnone x hx]
   exact hcl2 x (zS hx)
  ·obtain⟨c,hc⟩:=Qu (n:=g.objs.size+1) hx
   rw[hc];exact⟨c,rfl⟩
 ·rcases hget x c e with q | ⟨q,_⟩
  ·exact (hnew x c q).1
  ·obtain⟨c',hc⟩:=Qu (n:=g.objs.size+1) hx
   rw[hc]at q;cases q
 ·rcases hget x c e with q | ⟨_,q⟩
  ·rw[hnone x hx]at q;cases q
  ·exact hcl1 x c q
theorem Inv.child{fp:List Addr}{sc:Scope}{N':List Str}{ix:List Nat}{k:Nat}(I:Inv X pins σ H s2)(S:CSc X.env.scope X.N sc N' k ix)(hf:∀ b∈fp,Qn X pins H b)
  (hfo:∀ b∈fp,∃ o,s2.heap.get? b=some o) {cl:List (Str×Addr)}
  {C:Addr} {s4:Shared} (L:ClOk X sc cl C s4.heap) (hC:s2.heap.objs.size<=C) (keep:∀ b o,s2.heap.get? b=some o->s4.heap.get? b=some o) {m0:Str->Option Value} (hns:s4.heap.Ns C m0) (ho:s4.os=s2.os) (hg:AllBare s4.gens) :
  Inv (X.comp N' sc cl C s2 H fp) [] (cS k ix σ) H s4 where
 ok:={
  mod:=I.ok.mod
  kind:=S.kind
  glob:=I.ok.glob
  blt:=I.ok.blt
  above:=hC
  inj:=L.inj
  has:=fun x hx=>L.has x (QV (env:=X.env) hx)
  cab:=fun x c h e=>xC hC (ua (L.own x c (of_decide_eq_true h) e))
  hd:=I.ok.hd
  frames:=I.ok.frames
  stk:=.inl rfl
  exf:=fun b hb=>by
   obtain⟨f0,f1,f2,f3,f4,f5⟩:=hf b hb
   obtain⟨o,e⟩:=hfo b hb
   refine⟨xl (xn (Heap.lt_size e) hC),fun x c z=>?_⟩
   rcases L.src x c z with z | z
   ·exact f4 x c z
   ·exact Ne.symm (xl (Nat.lt_trans (xn (Heap.lt_size e) hC) z.1))
  bs:=fun b o e=>I.bs b o e
  bsz:=xC I.ok.bsz I.sz
  noex:=fun b o e hb=>by
   obtain⟨f0,f1,f2,f3,f4,f5⟩:=hf b hb
   rcases f3 with z | z
   ·exact I.ok.noex b o e z
   ·exact absurd (xn (Heap.lt_size (I.ok.bs b o e).1) z) (xO _)
  exfs:=fun b hb hz=>by
   obtain⟨f0,f1,f2,f3,f4,f5⟩:=hf b hb
   rcases xu.mp (I.stkSub b hz)with z | z
   ·exact f1 z
   ·exact f2 z
  funs:=I.stack
  frf:=I.stkFree }
 os:=ho
 bare:=hg
 base:=Un.kept keep
 loc:=⟨m0,hns,fun i x v e1 e2 e3=>by
  unfold cS at e2
  by_cases hi:i<k
  ·rw[xc (by simpa using hi),xK,if_pos hi]at e2
   cases e2
  ·obtain⟨j,rfl⟩:∃ j,i=k+j:=⟨i-k,by omega⟩
   rw[xf (by simp),uk,Nat.add_sub_cancel_left,xA]at e2
   cases q:ix[j]? with
   |none=>rw[q]at e2;cases e2
   |some i0=>
    rw[q]at e2
    obtain⟨y,hy1,hy2,hy3⟩:=S.cap j i0 q
    have ey:y=x:=by
     have:(X.comp N' sc cl C s2 H fp).N[k+j]?=some y:=hy1
     rw[this]at e1;exact Option.some.inj e1
    subst ey
    have ev:σ[i0]?=some (some v):=by
     simp only[Option.map_some,Option.some.injEq]at e2
     cases r:σ[i0]? with
     |none=>rw[r]at e2;cases e2
     |some z=>rw[r]at e2;exact congrArg some e2
    obtain⟨m,hn,hl⟩:=I.loc
    have hfr:=S.fre (y,.free) (zS hy3) rfl
    have hv:Vis X.env.scope y:=.inr hfr
    obtain⟨u,r1,l1⟩:=hl i0 y v hy2 ev hv
    refine⟨u,r1,.inr ⟨J4 (env:=X.env) hy3,?_⟩⟩
    obtain⟨c,hc⟩:=L.has y (.inl hy3)
    refine⟨c,hc,?_⟩
    have hc':=L.old y c hy3 hc
    rcases l1 with ⟨hk,_⟩ | ⟨_,c',hc2,z⟩
    ·have hk':X.env.scope.names.lookup y=some .local:=hk
     rcases hfr with w | w
     ·rw[hk']at w;cases w
     ·rw[hk']at w;cases w
    ·rw[hc']at hc2;cases hc2
     obtain⟨ob,hob,hd⟩:=z
     exact⟨ob,keep _ _ hob,hd⟩⟩
 cell:=fun x c e=>by
  rcases L.src x c e with e | e
  ·obtain⟨v,ob,hob,hd⟩:=I.cell x c e
   exact⟨v,ob,keep _ _ hob,hd⟩
  ·exact⟨none,e.2⟩
 free:=I.hok.fresh hC
 freeC:=fun x c e=>by
  rcases L.src x c e with e | e
  ·exact I.freeC x c e
  ·exact I.hok.fresh (xC hC (ua e.1))
 pin:=fun p hp=>by cases hp
 hok:=I.hok.kept keep
 len:=by
  show (cS k ix σ).length=N'.length
  rw[S.len];unfold cS;simp
theorem Inv.back{fp:List Addr}{sc:Scope}{N':List Str}{cl:List (Str×Addr)}{C:Addr}{pl:List (Addr×Obj)}{σc:St}{H5:Hp}{s5:Shared}(I:Inv X pins σ H s2)(hf:∀ b∈fp,Qn X pins H b)(J:Inv (X.comp N' sc cl C s2 H fp) pl σc H5 s5):Inv X pins σ H5 s5 :=
 I.call' (ch:=fp) J.os J.base J.hok J.bare fun b hb=>by
  obtain⟨f0,f1,f2,f3,f4,f5⟩:=hf b hb
  exact⟨f3,f1,f4,f5⟩
end
section
variable {X:Cx} {pins:List (Addr×Obj)} {σ:St} {H:Hp} {s:Shared}
theorem Inv.track{a:Addr}{o:HO}(I:Inv X pins σ H s)(ha:X.s₀.heap.objs.size<=a)(hn:H a=none)(hL:a≠X.env.locals)(hc:∀ x c,X.env.cells.lookup x=some c->c≠a)(hp:∀ p∈X.pn++pins,p.1≠a)
  (new:ObjOk X.prog X.w (upd H a o) s.heap a o):Inv X pins σ (upd H a o) s where
 ok:=I.ok
 os:=I.os
 bare:=I.bare
 base:={
  keep:=I.base.keep
  slot:=I.base.slot
  free:=fun b ob e n hx=>by
   rw[zd (xl (xn (Heap.lt_size e) ha))]
   exact I.base.free b ob e n hx
  there:=I.base.there
  tups:=fun b xs e=>by
   have:=I.base.tups b xs e
   rw[zd (zA this hn)];exact this
  frzs:=fun b ob u e=>by
   have:=I.base.frzs b ob u e
   rw[zd (zA this hn)];exact this
  tbls:=fun b ps e=>by
   obtain⟨mo,this⟩:=I.base.tbls b ps e
   exact⟨mo,by rw[zd (zA this hn)];exact this⟩ }
 loc:=I.loc
 cell:=I.cell
 free:=by rw[zd (Ne.symm hL)];exact I.free
 freeC:=fun x c e=>by rw[zd (hc x c e)];exact I.freeC x c e
 pin:=fun p h=>by
  obtain⟨e,n,r⟩:=I.pin p h
  exact⟨e,by rw[zd (hp p h)];exact n,r⟩
 hok:=fun b u q=>by
  by_cases hb:b=a
  ·subst hb;rw[zf]at q;cases q;exact new
  ·rw[zd hb]at q
   exact (I.hok b u q).stay (fun c v _ r=>r) (fun c r=>by rw[zd (zA r hn)];exact r) fun c xs r=>by rw[zd (zA r hn)];exact r
 len:=I.len
end
noncomputable def PF(X:Cx)(ifs:List Expr)(t:TT):Prop :=
 ∀ (pins:List (Addr×Obj)) (s:Shared) (σ:St) (H:Hp) (Q:Bool->Hp->Prop),Inv X pins σ H s->t σ H Q ->
  wpAny (model X.prog X.w) X.A (forIn ifs true fun c r=>if r=true then do let ok<-isTrue c X.env (eval c X.env);pure (ForInStep.yield ok) else pure (ForInStep.yield r)) (TP X pins σ Q) X.xe s
noncomputable def zhJ:TT:=fun _ H Q=>Q true H
theorem pf_nil{X:Cx}:PF X [] zhJ:=fun _ _ _ H _ I h=>wpAny_tests_nil ⟨H,I,h⟩
theorem zfL{X:Cx}{c:Expr}{t:TT}(h:PT X c t):PF X [c] t:=fun pins s σ H Q I hw=>wpAny_tests_one (h pins s σ H Q I hw)
theorem VL{prog:Program}{w:World}{A:Around}{R:Result->Shared->Prop}{s:Shared}{e target iter:Expr}{ifs:List Expr}{it acc:Value}{env:Env}{act:Sem Unit}(hlp:∀ (R:Result->Shared->Prop) (s:Shared) (I:Nat->Shared->Prop) (n:Nat),(∀ n s,I n s->wpAny (model prog w) A ((compTurn e 0 it acc env).onRaise (fun x=>do noteFrame x env;theTreesLotGoes x)) (fun fin s'=>match fin with
   |.done f=>R (.ok f) s'
   |.again c'=>c'=Code.compLoop e 0 it acc env/\∃ m,m<n/\I m s') (fun e s'=>R (.error e) s') s)->I n s->codeAny (model prog w) A (.compLoop e 0 it acc env) R s)
  (heq:compTurn e 0 it acc env=(do
   standAt iter.pos
   match<-pyNext it with
   |none=>pure (.done .next)
   |some v=>
    letOwnedTupleGo target it v
    assign target env v
    let mut ok:=true
    for c in ifs do
     if ok then ok<-isTrue c env (eval c env)
    if ok then act
    again (.compLoop e 0 it acc env))) (I:Nat->Shared->Prop)
  (turn:∀ n s,I n s->wpAny (model prog w) A (pyNext it) (fun r s₁=>match r with
   |none=>R (.ok .next) s₁
   |some v=>wpAny (model prog w) A (letOwnedTupleGo target it v) (fun _ s₁=>wpAny (model prog w) A (assign target env v) (fun _ s₂=>
     wpAny (model prog w) A (forIn ifs true fun c r=>if r=true then do let ok<-isTrue c env (eval c env);pure (ForInStep.yield ok) else pure (ForInStep.yield r)) (fun ok s₃=>
      if ok=true then wpAny (model prog w) A act (fun _ s₅=>∃ m,m<n/\I m s₅) (notedBy (model prog w) A env fun e s'=>R (.error e) s') s₃
      else ∃ m,m<n/\I m s₃) (notedBy (model prog w) A env fun e s'=>R (.error e) s') s₂) (notedBy (model prog w) A env fun e s'=>R (.error e) s') s₁) (notedBy (model prog w) A env fun e s'=>R (.error e) s') s₁) (notedBy (model prog w) A env fun e s'=>R (.error e) s') s)
  (n:Nat) (h:I n s):codeAny (model prog w) A (.compLoop e 0 it acc env) R s:=by
 refine hlp R s I n (fun n s hI=>?_) h
 refine wpAny_noted ?_
 rw[heq]
 refine wpAny_bind (wpAny_standAt (wpAny_bind (wpAny_mono (turn n s hI) (fun r s₁ h₁=>?_) fun _ _ f=>f)))
 cases r with
 |none=>exact wpAny_pure h₁
 |some v=>
  refine wpAny_bind (wpAny_mono h₁ (fun _ s₂ h₂=>?_) fun _ _ f=>f)
  refine wpAny_bind (wpAny_mono h₂ (fun _ s₂ h₂=>wpAny_bind (wpAny_mono h₂ (fun ok s₃ h₃=>?_) fun _ _ f=>f)) fun _ _ f=>f)
  cases ok with
  |false=>exact wpAny_pure ⟨rfl,h₃⟩
  |true=>exact wpAny_bind (wpAny_mono h₃ (fun _ s₅ h₅=>wpAny_pure ⟨rfl,h₅⟩) fun _ _ f=>f)
structure Acc(α β:Type) where
 a0:α
 add:α->β->α
 len:α->Nat
 ho:α->HO
noncomputable def vT{α β:Type}(ac:Acc α β)(k:Nat)(ix:List Nat)(g:TG)(tt:TT)(te:St->Hp->(β->Hp->Prop)->Prop)(σ:St)(J:It)(H1:Hp)(Q:α->Hp->Prop):Prop :=
 ∃ W:Nat->Nat->α->Hp->Prop,(∃ m,W 0 m ac.a0 H1)/\∀ i m ys H,W i m ys H->ac.len ys<sizeLine /\
  ((J.stop i H/\Q ys H)∨(J.go i H/\∃ N:α->Hp->Prop,(∀ ys' H',N ys' H'->∃ m',m'<m/\W (i+1) m' ys' H')/\∀ x H',J.yld i H x H'->g x (cS k ix σ) H' fun σ2 H2=>σ2.drop k=(cS k ix σ).drop k/\tt σ2 H2 fun b H3=>
   if b=true then te σ2 H3 fun y H4=>N (ac.add ys y) H4 else N ys H3))
noncomputable abbrev zcp:Acc (List V) V:=⟨[],fun ys y=>ys++ [y],List.length,.lst⟩
noncomputable abbrev zco:Acc (List (Key×V)) (Key×V):=⟨[],fun ys y=>Yg ys y.1 y.2,List.length,.dK⟩
noncomputable def vB(k:Nat)(ix:List Nat)(wi:TI)(g:St->TG)(tt:St->TT)(te:St->TE):TE:=fun σ H Q=>
 wi σ H fun J H1=>vT zcp k ix (g σ) (tt σ) (te σ) σ J H1 fun ys H2=>∀ p,H2 p=none->Q (.ref p) (upd H2 p (.lst ys))
noncomputable def yu(tk tv:TE):St->Hp->(Key×V->Hp->Prop)->Prop:=fun σ H Q=>tk σ H fun x H1=>tv σ H1 fun y H2=>∃ k,x=kV k/\Q (k,y) H2
noncomputable def JU(k:Nat)(ix:List Nat)(wi:TI)(g:St->TG)(tt:St->TT)(te:St->St->Hp->(Key×V->Hp->Prop)->Prop):TE:=fun σ H Q=>
 wi σ H fun J H1=>vT zco k ix (g σ) (tt σ) (te σ) σ J H1 fun ys H2=>∀ p,H2 p=none->Q (.ref p) (upd H2 p (.dK ys))
structure zeE(P:Program)(w:World){α β γ:Type}(ac:Acc α β)(OK:α->Obj->Prop)(RB:β->γ->Prop)(o0:Obj)(na:Sem Value)(st:Addr->γ->Sem Unit):Prop where
 new:∀ (A:Around) (E:Value->Shared->Prop) (s:Shared) (Q:Value->Shared->Prop),Q (.ref s.heap.objs.size) { s with heap:=s.heap.push o0 }->wpAny (model P w) A na Q E s
 z0:OK ac.a0 o0
 live:o0.isFreed=false
 cell:∀ a o,OK a o->∀ v,o.data≠ .cell v
 st:∀ (A:Around) (E:Value->Shared->Prop) (s:Shared) (Q:Unit->Shared->Prop) (D:Addr) (a:α) (o:Obj) (y:β) (b:γ),OK a o->ac.len a<sizeLine->RB y b->s.heap.get? D=some o ->
  (∀ h' o' t',Heap.SameBut D s.heap h'->h'.get? D=some o'->OK (ac.add a y) o'->Q () { s with heap:=h',toks:=t' })->wpAny (model P w) A (st D b) Q E s
 ok:∀ (H:Hp) (h:Heap) (D:Addr) (a:α) (o:Obj),OK a o->ac.len a<=sizeLine->sysModules<D->h.get? D=some o->ObjOk P w H h D (ac.ho a)
noncomputable def PEv(X:Cx){β γ:Type}(RB:β->γ->Prop)(st:Addr->γ->Sem Unit)(act:Addr->Env->Sem Unit)(te:St->Hp->(β->Hp->Prop)->Prop):Prop:=∀ (D:Addr) (pins:List (Addr×Obj)) (s:Shared) (σ:St) (H:Hp) (Q:β->Hp->Prop) (R:Unit->Shared->Prop),Inv X pins σ H s->te σ H Q ->
 (∀ y b s' H',Inv X pins σ H' s'->RB y b->Q y H'->wpAny (model X.prog X.w) X.A (st D b) R X.xe s')->wpAny (model X.prog X.w) X.A (act D X.env) R X.xe s
section
variable {X:Cx} {pins:List (Addr×Obj)} {σ:St} {H:Hp} {s2:Shared}
theorem vc{α β γ:Type}{ac:Acc α β}{OK:α->Obj->Prop}{RB:β->γ->Prop}{o0:Obj}{na:Sem Value}{sto:Addr->γ->Sem Unit}{act:Addr->Env->Sem Unit}{e tg iter:Expr}{ifs:List Expr}{scope:Scope}{N':List Str}{k:Nat}{ix:List Nat}{g:TG}{tt:TT}{te:St->Hp->(β->Hp->Prop)->Prop}{cl:List (Str×Addr)}{it:Addr}{fp:List Addr}{tn:Nat->Heap->Prop}{J:It}
  {Q:α->Hp->Prop} {RR:Value->Addr->Result->Shared->Prop} {E:Value->Shared->Prop} (AK:zeE X.prog X.w ac OK RB o0 na sto)
  (hlp:∀ (it acc:Value) (env:Env) (R:Result->Shared->Prop) (s:Shared) (I:Nat->Shared->Prop) (n:Nat),(∀ n s,I n s->wpAny (model X.prog X.w) X.A ((compTurn e 0 it acc env).onRaise (fun x=>do noteFrame x env;theTreesLotGoes x)) (fun fin s'=>match fin with
   |.done f=>R (.ok f) s'
   |.again c'=>c'=Code.compLoop e 0 it acc env/\∃ m,m<n/\I m s') (fun e s'=>R (.error e) s') s)->I n s->codeAny (model X.prog X.w) X.A (.compLoop e 0 it acc env) R s)
  (heq:∀ it D env,compTurn e 0 it (.ref D) env=(do
   standAt iter.pos
   match<-pyNext it with
   |none=>pure (.done .next)
   |some v=>
    letOwnedTupleGo tg it v
    assign tg env v
    let mut ok:=true
    for c in ifs do
     if ok then ok<-isTrue c env (eval c env)
    if ok then act D env
    again (.compLoop e 0 it (.ref D) env)))
  (hstart:∀ (R:Result->Shared->Prop) (s:Shared) (it acc:Value) (env:Env),codeAny (model X.prog X.w) X.A (.compLoop e 0 it acc env) R s->wpAny (model X.prog X.w) X.A (pyIter it) (fun it' s'=>codeAny (model X.prog X.w) X.A (.compLoop e 0 it' acc env) R s') (notedBy (model X.prog X.w) X.A env fun x s'=>R (.error x) s') s ->
   codeAny (model X.prog X.w) X.A (.compStart e 0 it acc env) R s) (hcalm:X.calm=true)
  (S:CSc X.env.scope X.N scope N' k ix)
  (hg:∀ cl C s2 H2 fp,Cat X σ C s2 H2 fp->PG (X.comp N' scope cl C s2 H2 fp) tg g) (ht:∀ cl C s2 H2 fp,Cat X σ C s2 H2 fp->PF (X.comp N' scope cl C s2 H2 fp) ifs tt) (he:∀ cl C s2 H2 fp,Cat X σ C s2 H2 fp->PEv (X.comp N' scope cl C s2 H2 fp) RB sto act te)
  (I2:Inv X pins σ H s2) (T:vO X.prog X.w X.K tg J fp it tn) (st2:tn 0 s2.heap) (f2:∀ b∈fp,Qn X pins H b) (hR:vT ac k ix g tt te σ J H Q)
  (hcl1:∀ x c,cl.lookup x=some c->X.env.cells.lookup x=some c) (hcl2:∀ x,(x,NameKind.free)∈scope.names->∃ c,cl.lookup x=some c)
  (herr:∀ (D C:Addr) (x:Value) (s':Shared),kJ X C x s'->RR (.ref D) C (.error x) s')
  (fin:∀ (D C:Addr) (ys:α) (H5:Hp) (s5:Shared) (m:Str->Option Value),Inv X pins σ (upd H5 D (ac.ho ys)) s5->Q ys H5->H5 D=none->s5.heap.Ns C m->C≠D->s2.heap.objs.size<=C->upd H5 D (ac.ho ys) C=none ->
   RR (.ref D) C (.ok .next) s5) :
  wpAny (model X.prog X.w) X.A na (fun acc s₃=>wpAny (model X.prog X.w) X.A (newFunctionEnv scope X.env.globals cl [] X.env.qual none .none (some X.env)) (fun cenv s₄=>
   codeAny (model X.prog X.w) X.A (.compStart e 0 (.ref it) acc { cenv with scope:=relabel scope X.env }) (RR acc cenv.locals) s₄) E s₃) E s2:=by
 refine AK.new _ _ _ _ (WO ?_)
 dsimp only
 generalize hH2:s2.heap.push o0=G2
 have hC:G2.objs.size=s2.heap.objs.size+1:=by rw[<- hH2,Heap.size_push]
 have hDC:s2.heap.objs.size≠G2.objs.size:=by rw[hC];exact xl (Nat.lt_succ_self _)
 have hCle:s2.heap.objs.size<=G2.objs.size:=by rw[hC];exact Nat.le_succ _
 have cat:Cat X σ G2.objs.size s2 H fp:=⟨pins,I2,f2,hCle⟩
 have L:=ClOk.of I2 S hcl1 hcl2 (g:=G2) (o:={ cls:=.type "dict",data:=.dict #[] }) hCle
 have below:∀ b,b<s2.heap.objs.size->b≠G2.objs.size/\b≠s2.heap.objs.size:=fun b hb=>⟨by rw[hC];exact xl (Nat.lt_succ_of_lt hb),xl hb⟩
 have old:∀ b o,s2.heap.get? b=some o->(pushCells (G2.push { cls:=.type "dict",data:=.dict #[] }) scope.names).get? b=some o:=fun b o e=>pushCells_keeps _ _ b o (Heap.get?_push_of_some _ (hH2 ▸ Heap.get?_push_of_some _ e))
 have hacc:(pushCells (G2.push { cls:=.type "dict",data:=.dict #[] }) scope.names).get? s2.heap.objs.size=some o0:=pushCells_keeps _ _ _ _ (Heap.get?_push_of_some _ (hH2 ▸ Heap.get?_push_size _ AK.live))
 have hns₁:(pushCells (G2.push { cls:=.type "dict",data:=.dict #[] }) scope.names).Ns G2.objs.size _:=(Heap.Ns.new G2 (.type "dict")).keeps (pushCells_keeps _ _)
 generalize pushCells (G2.push { cls:=.type "dict",data:=.dict #[] }) scope.names=h₁ at L old hacc hns₁ |-
 generalize cellsFrom (G2.objs.size+1) scope.names cl=cl2 at L |-
 have st1:tn 0 h₁:=T.keep _ _ _ st2 fun b _ o e=>old b o e
 have hfo:∀ b∈fp,∃ o,s2.heap.get? b=some o:=fun b hb=>let ⟨o,e,_⟩:=T.obj _ _ st2 b hb;⟨o,e⟩
 have Ic:Inv (X.comp N' scope cl2 G2.objs.size s2 H fp) [] (cS k ix σ) H { s2 with heap:=h₁ } :=
  I2.child S f2 hfo L hCle old hns₁ rfl I2.bare
 -- the accumulator D,as a pin
 have dfs:s2.heap.objs.size∉(X.comp N' scope cl2 G2.objs.size s2 H fp).fs:=fun hz=>by
  rcases xu.mp (I2.stkSub _ hz)with z | z
  ·exact absurd I2.lt (by rw[<- z];exact xO _)
  ·exact I2.nofs (xi _) z
 have dcell:∀ x c,cl2.lookup x=some c->c≠s2.heap.objs.size:=fun x c e=>by
  rcases L.src x c e with e | e
  ·obtain⟨v,ob,hob,_⟩:=I2.cell x c e
   exact xl (Heap.lt_size hob)
  ·exact Ne.symm (xl (Nat.lt_of_le_of_lt hCle e.1))
 have dpin:∀ (ys:α) (ob:Obj) (σ':St) (H':Hp) (s':Shared),Inv (X.comp N' scope cl2 G2.objs.size s2 H fp) [] σ' H' s'->OK ys ob->s'.heap.get? s2.heap.objs.size=some ob->H' s2.heap.objs.size=none ->
   Inv (X.comp N' scope cl2 G2.objs.size s2 H fp) [(s2.heap.objs.size,ob)] σ' H' s':=fun ys ob σ' H' s' I' ok e hn=>I'.pins_of fun p hp=>by
  have e':p=(s2.heap.objs.size,ob):=by simpa using hp
  subst e'
  exact⟨e,hn,hDC,dfs,fun v z=>AK.cell _ _ ok v z⟩
 have fpc:∀ (ob:Obj) (H':Hp),(∀ b∈fp,H' b=none)->∀ b∈fp,Qn (X.comp N' scope cl2 G2.objs.size s2 H fp) [(s2.heap.objs.size,ob)] H' b:=fun ob H' hn b hb=>by
  obtain⟨f0,f1,f2',f3,f4,f5⟩:=f2 b hb
  obtain⟨o,e⟩:=hfo b hb
  have hb2:=below b (Heap.lt_size e)
  refine⟨hn b hb,hb2.1,fun hz=>?_,.inl hb,fun x c z=>?_,fun p hp=>?_⟩
  ·rcases xu.mp (I2.stkSub b hz)with z | z
   ·exact f1 z
   ·exact f2' z
  ·rcases L.src x c z with z | z
   ·exact f4 x c z
   ·exact Ne.symm (xl (Nat.lt_trans (xn (Heap.lt_size e) hCle) z.1))
  ·have e':p=(s2.heap.objs.size,ob):=by simpa using hp
   subst e'
   exact Ne.symm hb2.2
 obtain⟨W,⟨m0,w0⟩,turn⟩:=hR
 have loop:codeAny (model X.prog X.w) X.A (.compLoop e 0 (.ref it) (.ref s2.heap.objs.size) (compEnvC scope cl2 G2.objs.size X.env)) (RR (.ref s2.heap.objs.size) G2.objs.size)
   { s2 with heap:=h₁ }:=by
  have hxe:∀ x s',(X.comp N' scope cl2 G2.objs.size s2 H fp).xe x s'->notedBy (model X.prog X.w) X.A (compEnvC scope cl2 G2.objs.size X.env) (fun e s'=>RR (.ref s2.heap.objs.size) G2.objs.size (.error e) s') x s':=fun x s' h=>
   wpAny_mono h (fun _ s'' q=>herr _ _ _ _ q) fun _ s'' q=>herr _ _ _ _ q
  have thnX:∀ {τ:Type} {m:Sem τ} {Q1:τ->Shared->Prop} {Q2:τ->Shared->Prop} {s':Shared},wpAny (model X.prog X.w) X.A m Q1 (X.comp N' scope cl2 G2.objs.size s2 H fp).xe s'->(∀ v s'',Q1 v s''->Q2 v s'')->wpAny (model X.prog X.w) X.A m Q2 (notedBy (model X.prog X.w) X.A (compEnvC scope cl2 G2.objs.size X.env) (fun e s'=>RR (.ref s2.heap.objs.size) G2.objs.size (.error e) s')) s':=fun h k=>wpAny_mono h k hxe
  refine VL (hlp _ _ _) (heq _ _ _) (fun n s'=>∃ i ys ob H',Inv (X.comp N' scope cl2 G2.objs.size s2 H fp) [(s2.heap.objs.size,ob)] (cS k ix σ) H' s'/\OK ys ob/\tn i s'.heap/\(∀ b∈fp,H' b=none)/\W i n ys H') ?_ m0
   ⟨0,_,o0,H,dpin _ _ _ _ _ Ic AK.z0 hacc (I2.hok.fresh (xi _)),AK.z0,st1,fun b hb=>(f2 b hb).1,w0⟩
  rintro n s3 ⟨i,ys,ob,H3,I3,rv,st3,fr3,w3⟩
  obtain⟨hlen,hw⟩:=turn i n ys H3 w3
  have hDn:H3 s2.heap.objs.size=none:=(I3.pin (s2.heap.objs.size,ob) (by simp)).2.1
  have hDe:s3.heap.get? s2.heap.objs.size=some ob:=(I3.pin (s2.heap.objs.size,ob) (by simp)).1
  rcases hw with ⟨stop,q⟩ | ⟨go,N,hN,step⟩
  ·refine thn (T.done (X.comp N' scope cl2 G2.objs.size s2 H fp) rfl rfl rfl hcalm i _ s3 _ H3 _ I3 (fpc _ _ fr3) st3 stop) fun r s4 ⟨hr,I4⟩=>?_
   subst hr
   have hDe4:s4.heap.get? s2.heap.objs.size=some ob:=(I4.pin (s2.heap.objs.size,ob) (by simp)).1
   have Ib:Inv X pins σ H3 s4:=I2.back f2 I4
   have hz:ac.len ys<=sizeLine:=ua hlen
   obtain⟨m',hn',_⟩:=I4.loc
   have It:Inv X pins σ (upd H3 s2.heap.objs.size (ac.ho ys)) s4:=Ib.track I2.sz hDn (Ne.symm (xl I2.lt)) (fun x c e=>by
    obtain⟨v,ob,hob,_⟩:=I2.cell x c e
    exact xl (Heap.lt_size hob)) (fun p hp=>xl (Heap.lt_size (I2.pin p hp).1)) (AK.ok _ _ _ _ _ rv hz I2.big hDe4)
   exact fin _ _ ys H3 s4 m' It q hDn hn' (Ne.symm hDC) hCle (by rw[zd (Ne.symm hDC)];exact I4.free)
  ·refine thn (T.item (X.comp N' scope cl2 G2.objs.size s2 H fp) rfl rfl rfl hcalm i _ s3 _ H3 _ I3 (fpc _ _ fr3) st3 go) fun r s4 ⟨u,hr,h4⟩=>?_
   subst hr
   refine thn h4 fun _ s5 ⟨x,H5,I5,r5,y5,st5,fr5⟩=>?_
   have I5':=I5.pinned (fpc ob H5 fr5) (T.obj _ _ st5)
   refine thnX (hg _ _ _ _ _ cat _ s5 _ H5 x u _ I5' r5 (step x H5 y5)) fun _ s6 ⟨σ6,H6,I6,hσ,q6⟩=>?_
   refine thnX (ht _ _ _ _ _ cat _ s6 σ6 H6 _ I6 q6) fun ok s7 ⟨H7,I7,q7⟩=>?_
   have wk:∀ {pl:List (Addr×Obj)} {H':Hp} {s':Shared},Inv (X.comp N' scope cl2 G2.objs.size s2 H fp) pl σ6 H' s'->Inv (X.comp N' scope cl2 G2.objs.size s2 H fp) pl (cS k ix σ) H' s':=fun {pl H' s'} I'=>
    I'.weak (by rw[Ic.len,I'.len]) fun j v ev=>by
     by_cases hj:j<k
     ·unfold cS at ev
      rw[xc (by simpa using hj),xK,if_pos hj]at ev
      cases ev
     ·obtain⟨j',rfl⟩:∃ j',j=k+j':=⟨j-k,by omega⟩
      rw[<- List.getElem?_drop,hσ,List.getElem?_drop]
      exact ev
   have itk:∀ {σ':St} {H':Hp} {s':Shared},Inv (X.comp N' scope cl2 G2.objs.size s2 H fp) ([(s2.heap.objs.size,ob)]++wX fp s5.heap) σ' H' s'->tn (i+1) s'.heap/\∀ b∈fp,H' b=none:=fun {σ' H' s'} I'=>
    ⟨T.keep _ _ _ st5 fun b hb o e=>(I'.pin (b,o) (xv _ (xv _ (jf hb e)))).1,fun b hb=>by
     obtain⟨o,e,_⟩:=T.obj _ _ st5 b hb
     exact (I'.pin (b,o) (xv _ (xv _ (jf hb e)))).2.1⟩
   cases ok with
   |false=>
    rw[if_neg (by decide)]at q7 |-
    obtain⟨m',hm,w7⟩:=hN _ _ q7
    obtain⟨t7,f7⟩:=itk I7
    exact⟨m',hm,i+1,ys,ob,H7,wk I7.unpinned,rv,t7,f7,w7⟩
   |true=>
    rw[if_pos rfl]at q7 |-
    refine thnX (he _ _ _ _ _ cat s2.heap.objs.size _ s7 σ6 H7 _ _ I7 q7 fun y b s8 H8 I8 r8 n8q=>?_) fun _ _ q=>q
    obtain⟨m',hm,w8⟩:=hN _ _ n8q
    obtain⟨t8,f8⟩:=itk I8
    have I8':Inv (X.comp N' scope cl2 G2.objs.size s2 H fp) [(s2.heap.objs.size,ob)] σ6 H8 s8:=I8.unpinned
    have e8:s8.heap.get? s2.heap.objs.size=some ob:=(I8'.pin (s2.heap.objs.size,ob) (by simp)).1
    have n8:H8 s2.heap.objs.size=none:=(I8'.pin (s2.heap.objs.size,ob) (by simp)).2.1
    refine AK.st _ _ s8 _ _ ys ob y b rv hlen r8 e8 fun h' o' t' sb e9 ok9=>?_
    have I8n:Inv (X.comp N' scope cl2 G2.objs.size s2 H fp) [] σ6 H8 s8:=I8'.pins_of fun p hp=>by cases hp
    have I9:Inv (X.comp N' scope cl2 G2.objs.size s2 H fp) [] σ6 H8 { s8 with heap:=h',toks:=t' } :=
     I8n.turned (t':=t') (fun b o hb e=>(sb.2 b hb).trans e) n8 hDC (.inr (xi _)) (fun x c e=>dcell x c e) (fun p hp=>by cases hp)
    refine⟨m',hm,i+1,_,o',H8,wk (dpin _ _ _ _ _ I9 ok9 e9 n8),ok9,?_,f8,w8⟩
    exact T.keep _ _ _ t8 fun b hb o e=>(sb.2 b (by
     obtain⟨o',e'⟩:=hfo b hb
     exact (below b (Heap.lt_size e')).2)).trans e
 exact hstart _ _ _ _ _ loop (T.self X.A 0 _ _ _ st1 loop)
noncomputable abbrev zg7 (ys:List Value) (n:Nat):Obj:={ cls:=.type "list",data:=.seq ys.toArray n }
theorem kN {P:Program}{w:World}:zeE P w zcp (fun ys o=>∃ its n,Vals ys its/\o=zg7 its n) RelV (zg7 [] 0) (newList []) (fun D b=>do let _<-call (.builtin "list.append") [.ref D,b]) where
 new A E s Q h:=wpAny_newObj_type h
 z0:=⟨[],0,.nil,rfl⟩
 live:=rfl
 cell a o h v z:=by
  obtain⟨its,n,_,rfl⟩:=h
  cases z
 st A E s Q D a o y b h hl r e k:=by
  obtain⟨its,n,rv,rfl⟩:=h
  refine wpAny_bind (call_meets F.slot_list_append ⟨_,e,rfl⟩ F.entry_list_append (F.args_list_append_2 _ _) (PySem.list_append D its.toArray n b (by
   have:=rv.length
   have hl':a.length<sizeLine:=hl
   rw[xo];omega)) ⟨e,wpAny_pure ?_⟩)
  have q9:=PySem.IsL.update e (·.push b)
  rw[show its.toArray.push b=(its++ [b]).toArray by simp]at q9
  exact k _ _ _ ⟨by simp[Heap.update],fun c hc=>Heap.get?_update_other s.heap _ (Ne.symm hc)⟩ q9 ⟨its++ [b],_,rv.append (.cons r .nil),rfl⟩
 ok H h D a o hk hz _ e:=by
  obtain⟨its,n,rv,rfl⟩:=hk
  exact⟨hz,its,n,rv,e⟩
theorem kM {P:Program}{w:World}:zeE P w zco (fun ys o=>∃ vs,KV ys vs/\o.IsDictOf (qG P w) vs) (fun (y:Key×V) (b:Value×Value)=>RelV (kV y.1) b.1/\RelV y.2 b.2) { cls:=.type "dict",data:=.dict #[] } newDict (fun D b=>holding [b.1,b.2] (dictSet D b.1 b.2)) where
 new A E s Q h:=wpAny_newObj_type h
 z0:=by
  refine⟨[],.nil,?_⟩
  exact⟨#[],0,⟨rfl,rfl,rfl⟩,rfl,fun _ he=>by simp at he,Pairs.nil,List.nodup_nil⟩
 live:=rfl
 cell a o h v z:=by
  obtain⟨vs,_,es,ep,_,hd,_⟩:=h
  rw[hd]at z;cases z
 st A E s Q D a o y b h hl r e k:=by
  obtain⟨vs,rv,hd⟩:=h
  refine wpAny_holding (wpAny_dictSet_pairs (knd:=qG P w) (zes r.1) (Heap.dictOf_iff.mpr ⟨o,e,hd⟩) (fun h' dd sb=>?_) (by rw[<- rv.length];exact ua hl))
  obtain⟨o',e',r'⟩:=Heap.dictOf_iff.mp dd
  exact k h' o' _ sb e' ⟨_,rv.put y.1 r.2,r'⟩
 ok H h D a o hk hz hb e:=by
  obtain⟨vs,rv,hd⟩:=hk
  exact⟨hz,beq_eq_false_iff_ne.mpr (ux hb),vs,rv,Heap.dictOf_iff.mpr ⟨o,e,hd⟩⟩
theorem jX{X:Cx}{pins:List (Addr×Obj)}{σ:St}{H:Hp}{s:Shared}{scope:Scope}{N':List Str}{k:Nat}{ix:List Nat}(I:Inv X pins σ H s)(S:CSc X.env.scope X.N scope N' k ix) :
  ∃ cl,closureFor scope X.env=pure cl/\(∀ x c,cl.lookup x=some c->X.env.cells.lookup x=some c)/\(∀ x,(x,NameKind.free)∈scope.names->∃ c,cl.lookup x=some c) :=
 yW fun y hy e=>by
  rcases S.fre y hy e with z | z
  ·exact I.ok.has _ (.inl z)
  ·exact I.ok.has _ (.inr z)
theorem Inv.letgo{H5:Hp}{s5:Shared}{σ5:St}{C:Addr}{h':Heap}(I2:Inv X pins σ H s2)(I5:Inv X pins σ5 H5 s5)(hCs:s2.heap.objs.size<=C)(hCn:H5 C=none)(hs:∀ b,b≠C->h'.get? b=s5.heap.get? b):Inv X pins σ5 H5 { s5 with heap:=h' } :=
 I5.turned (t':=s5.toks) (it:=C) (fun b o hb e=>(hs b hb).trans e) hCn (Ne.symm (xl (xn I2.lt hCs))) (.inr (xC I2.sz hCs))
  (fun x c e=>by
   obtain⟨v,ob,hob,_⟩:=I2.cell x c e
   exact xl (xn (Heap.lt_size hob) hCs))
  (fun p hp=>xl (xn (Heap.lt_size (I2.pin p hp).1) hCs))
end
section
variable {X:Cx} {elt tg iter:Expr} {ifs:List Expr} {scope:Scope} {pos:Pos} {N':List Str} {k:Nat} {ix:List Nat} {g:St->TG} {tt:St->TT} {te:St->TE} {wi:TI}
theorem Ys{it:Value}{D:Addr}{env:Env}:compTurn (.ListComp elt [⟨tg,iter,ifs,0⟩] scope pos) 0 it (.ref D) env=(do
   standAt iter.pos
   match<-pyNext it with
   |none=>pure (.done .next)
   |some v=>
    letOwnedTupleGo tg it v
    assign tg env v
    let mut ok:=true
    for c in ifs do
     if ok then ok<-isTrue c env (eval c env)
    if ok then (do let _<-call (.builtin "list.append") [.ref D,<- eval elt env])
    again (.compLoop (.ListComp elt [⟨tg,iter,ifs,0⟩] scope pos) 0 it (.ref D) env)):=compTurn_list elt tg iter ifs scope pos it (.ref D) env
theorem za5 {X:Cx}{te:TE}(he:PE X elt te):PEv X RelV (fun D b=>do let _<-call (.builtin "list.append") [.ref D,b]) (fun D env=>do let _<-call (.builtin "list.append") [.ref D,<- eval elt env]) te:=fun D pins s σ H Q R I h k=>
 wpAny_bind (wpAny_mono (he pins s σ H Q I h) (fun b s' ⟨y,H',I',r,q⟩=>k y b s' H' I' r q) fun _ _ z=>z)
theorem vf(hcalm:X.calm=true)(S:CSc X.env.scope X.N scope N' k ix)
  {pins:List (Addr×Obj)} {σ:St} {H:Hp} {s2:Shared} {cl:List (Str×Addr)} {it:Addr} {fp:List Addr} {tn:Nat->Heap->Prop} {J:It} {Q:List V->Hp->Prop} {RR:Value->Addr->Result->Shared->Prop} {E:Value->Shared->Prop}
  (hg:∀ cl C s2 H2 fp,Cat X σ C s2 H2 fp->PG (X.comp N' scope cl C s2 H2 fp) tg (g σ)) (ht:∀ cl C s2 H2 fp,Cat X σ C s2 H2 fp->PF (X.comp N' scope cl C s2 H2 fp) ifs (tt σ)) (he:∀ cl C s2 H2 fp,Cat X σ C s2 H2 fp->PE (X.comp N' scope cl C s2 H2 fp) elt (te σ))
  (I2:Inv X pins σ H s2) (T:vO X.prog X.w X.K tg J fp it tn) (st2:tn 0 s2.heap) (f2:∀ b∈fp,Qn X pins H b) (hR:vT zcp k ix (g σ) (tt σ) (te σ) σ J H Q)
  (hcl1:∀ x c,cl.lookup x=some c->X.env.cells.lookup x=some c) (hcl2:∀ x,(x,NameKind.free)∈scope.names->∃ c,cl.lookup x=some c)
  (herr:∀ (D C:Addr) (x:Value) (s':Shared),kJ X C x s'->RR (.ref D) C (.error x) s')
  (fin:∀ (D C:Addr) (ys:List V) (H5:Hp) (s5:Shared) (m:Str->Option Value),Inv X pins σ (upd H5 D (.lst ys)) s5->Q ys H5->H5 D=none->s5.heap.Ns C m->C≠D->s2.heap.objs.size<=C->upd H5 D (.lst ys) C=none->RR (.ref D) C (.ok .next) s5) :
  wpAny (model X.prog X.w) X.A (newList []) (fun acc s₃=>wpAny (model X.prog X.w) X.A (newFunctionEnv scope X.env.globals cl [] X.env.qual none .none (some X.env)) (fun cenv s₄=>
   codeAny (model X.prog X.w) X.A (.compStart (.ListComp elt [⟨tg,iter,ifs,0⟩] scope pos) 0 (.ref it) acc { cenv with scope:=relabel scope X.env }) (RR acc cenv.locals) s₄) E s₃) E s2 :=
 vc kN (act:=fun D env=>do let _<-call (.builtin "list.append") [.ref D,<- eval elt env]) (fun it acc env R s I n h h0=>codeAny_loop rfl I h n h0) (fun _ _ _=>Ys) (fun R s it acc env h0 h=>codeAny_compStart_list h0 h) hcalm S hg ht (fun cl C s2 H2 fp c=>za5 (he cl C s2 H2 fp c)) I2 T st2 f2 hR hcl1 hcl2 herr fin
theorem zdb(hcalm:X.calm=true)(S:CSc X.env.scope X.N scope N' k ix)(hi:PI X tg iter wi)
  (hg:∀ σ cl C s2 H2 fp,Cat X σ C s2 H2 fp->PG (X.comp N' scope cl C s2 H2 fp) tg (g σ)) (ht:∀ σ cl C s2 H2 fp,Cat X σ C s2 H2 fp->PF (X.comp N' scope cl C s2 H2 fp) ifs (tt σ)) (he:∀ σ cl C s2 H2 fp,Cat X σ C s2 H2 fp->PE (X.comp N' scope cl C s2 H2 fp) elt (te σ))
  (hs:∀ x,foldedSetIterable iter X.env x=pure x:=by intro _;rfl):PE X (.ListComp elt [⟨tg,iter,ifs,0⟩] scope pos) (vB k ix wi g tt te):=by
 intro pins s σ H Q I h
 obtain⟨cl,ecl,hcl1,hcl2⟩:=jX I S
 rw[eval_ListComp]
 refine wpAny_comprehension_free (use:=none) rfl hs ecl S.kind S.loc (thn (hi pins s σ H _ I h) fun v s1 h1=>thn h1 fun itv s2 h2=>?_)
 obtain⟨it,fp,tn,J,H2,e,I2,T,st2,f2,hR⟩:=h2
 subst e
 refine vf (RR:=fun acc C=>compPost (model X.prog X.w) X.A X.xe none (EP X pins σ Q) acc C) hcalm S (hg σ) (ht σ) (he σ) I2 T st2 f2 hR hcl1 hcl2 (fun D C x s' h=>h) ?_
 intro D C ys H5 s5 m I5 q hD hn hCD hCs hCn
 exact⟨m,hn,fun h' hs'=>⟨.ref D,upd H5 D (.lst ys),I2.letgo I5 hCs hCn hs'.2,rfl,q D hD⟩⟩
theorem zde{i:Nat}{x:Str}{pos' spos:Pos}(hN:X.N.Nodup)(hi':X.N[i]?=some x)(hx:Loc X.env.scope x)(hcalm:X.calm=true)(S:CSc X.env.scope X.N scope N' k ix)(hi:PI X tg iter wi)
  (hg:∀ σ cl C s2 H2 fp,Cat X σ C s2 H2 fp->PG (X.comp N' scope cl C s2 H2 fp) tg (g σ)) (ht:∀ σ cl C s2 H2 fp,Cat X σ C s2 H2 fp->PF (X.comp N' scope cl C s2 H2 fp) ifs (tt σ)) (he:∀ σ cl C s2 H2 fp,Cat X σ C s2 H2 fp->PE (X.comp N' scope cl C s2 H2 fp) elt (te σ))
  (hsw:swapsWith (.ListComp elt [⟨tg,iter,ifs,0⟩] scope pos) (some (.Name x pos')) spos.line X.env=pure true)
  (hs:∀ x,foldedSetIterable iter X.env x=pure x:=by intro _;rfl) (hf:X.fn x=true∨X.env.scope.names.lookup x=some .local:=by first | exact .inl rfl | exact .inr rfl | assumption) :
  PS X (.Assign [.Name x pos'] (.ListComp elt [⟨tg,iter,ifs,0⟩] scope pos) spos) (yt (vB k ix wi g tt te) (wI i)):=by
 intro pins s σ H D' I h
 obtain⟨cl,ecl,hcl1,hcl2⟩:=jX I S
 rw[exec_Assign_Name_used _ _ _ _ hsw]
 refine wpAny_bind (wpAny_standAt (wpAny_bind ?_))
 show wpAny _ X.A (do let _<-comprehension (.ListComp elt [⟨tg,iter,ifs,0⟩] scope pos) scope X.env _ (newList []) false (eval iter X.env) (some (assign (.Name x pos') X.env))) _ _ s
 refine wpAny_bind (wpAny_mono (wpAny_comprehension_free (use:=some (assign (.Name x pos') X.env)) (Q:=fun _ s'=>SP X pins D' .next s') rfl hs ecl S.kind S.loc
  (thn (hi pins s σ H _ I h) fun v s1 h1=>thn h1 fun itv s2 h2=>?_)) (fun _ s' hq=>wpAny_pure (wpAny_pure hq)) fun _ _ e=>e)
 obtain⟨it,fp,tn,J,H2,e,I2,T,st2,f2,hR⟩:=h2
 subst e
 refine vf (RR:=fun acc C=>compPost (model X.prog X.w) X.A X.xe (some (assign (.Name x pos') X.env)) (fun _ s'=>SP X pins D' .next s') acc C) hcalm S (hg σ) (ht σ) (he σ) I2 T st2 f2 hR hcl1 hcl2 (fun D C x s' h=>h) ?_
 intro D C ys H5 s5 m I5 q hD hn hCD hCs hCn
 show wpAny _ X.A (assign (.Name x pos') X.env (.ref D)) _ _ s5
 refine wpAny_assign_Name (JS (v:=.ref D) I5 hN hi' hx rfl (fun s' I' ⟨a,sb,ha⟩=>?_) hf)
 have hCa:C≠a:=by
  rcases ha with rfl | ha
  ·exact Ne.symm (xl (xn I2.lt hCs))
  ·obtain⟨v,ob,hob,_⟩:=I2.cell x a ha
   exact Ne.symm (xl (xn (Heap.lt_size hob) hCs))
 exact⟨m,hn.sameBut sb hCa,fun h' hs'=>⟨_,_,I2.letgo I' hCs hCn hs'.2,q D hD⟩⟩
end
section
variable {X:Cx} {kx vx tg iter:Expr} {ifs:List Expr} {scope:Scope} {pos:Pos} {N':List Str} {k:Nat} {ix:List Nat} {g:St->TG} {tt:St->TT} {tk tv:St->TE} {wi:TI}
theorem za4{X:Cx}{tk tv:TE}(hk:PE X kx tk)(hv:PE X vx tv):PEv X (fun (y:Key×V) (b:Value×Value)=>RelV (kV y.1) b.1/\RelV y.2 b.2) (fun D b=>holding [b.1,b.2] (dictSet D b.1 b.2)) (fun D env=>do
   let kv<-eval kx env
   let vv<-holding [kv] (eval vx env)
   standAt { kx.pos with endLine:=vx.pos.endLine,endCol:=vx.pos.endCol }
   holding [kv,vv] (dictSet D kv vv)) (yu tk tv):=fun D pins s σ H Q R I h kk=>
 wpAny_bind (wpAny_mono (hk pins s σ H _ I h) (fun kv s1 ⟨x,H1,I1,rx,q1⟩=>wpAny_bind (wpAny_holding (wpAny_mono (hv pins s1 σ H1 _ I1 q1) (fun vv s2 ⟨y,H2,I2,ry,k,ek,q2⟩=>
  wpAny_bind (wpAny_standAt (kk (k,y) (kv,vv) s2 H2 I2 ⟨by rw[<- ek];exact rx,ry⟩ q2))) fun _ _ z=>z))) fun _ _ z=>z)
theorem vd(hcalm:X.calm=true)(S:CSc X.env.scope X.N scope N' k ix)
  {pins:List (Addr×Obj)} {σ:St} {H:Hp} {s2:Shared} {cl:List (Str×Addr)} {it:Addr} {fp:List Addr} {tn:Nat->Heap->Prop} {J:It} {Q:List (Key×V)->Hp->Prop} {RR:Value->Addr->Result->Shared->Prop} {E:Value->Shared->Prop}
  (hg:∀ cl C s2 H2 fp,Cat X σ C s2 H2 fp->PG (X.comp N' scope cl C s2 H2 fp) tg (g σ)) (ht:∀ cl C s2 H2 fp,Cat X σ C s2 H2 fp->PF (X.comp N' scope cl C s2 H2 fp) ifs (tt σ)) (hk:∀ cl C s2 H2 fp,Cat X σ C s2 H2 fp->PE (X.comp N' scope cl C s2 H2 fp) kx (tk σ)) (hv:∀ cl C s2 H2 fp,Cat X σ C s2 H2 fp->PE (X.comp N' scope cl C s2 H2 fp) vx (tv σ))
  (I2:Inv X pins σ H s2) (T:vO X.prog X.w X.K tg J fp it tn) (st2:tn 0 s2.heap) (f2:∀ b∈fp,Qn X pins H b) (hR:vT zco k ix (g σ) (tt σ) (yu (tk σ) (tv σ)) σ J H Q)
  (hcl1:∀ x c,cl.lookup x=some c->X.env.cells.lookup x=some c) (hcl2:∀ x,(x,NameKind.free)∈scope.names->∃ c,cl.lookup x=some c)
  (herr:∀ (D C:Addr) (x:Value) (s':Shared),kJ X C x s'->RR (.ref D) C (.error x) s')
  (fin:∀ (D C:Addr) (ys:List (Key×V)) (H5:Hp) (s5:Shared) (m:Str->Option Value),Inv X pins σ (upd H5 D (.dK ys)) s5->Q ys H5->H5 D=none->s5.heap.Ns C m->C≠D->s2.heap.objs.size<=C->upd H5 D (.dK ys) C=none->RR (.ref D) C (.ok .next) s5) :
  wpAny (model X.prog X.w) X.A newDict (fun acc s₃=>wpAny (model X.prog X.w) X.A (newFunctionEnv scope X.env.globals cl [] X.env.qual none .none (some X.env)) (fun cenv s₄=>
   codeAny (model X.prog X.w) X.A (.compStart (.DictComp kx vx [⟨tg,iter,ifs,0⟩] scope pos) 0 (.ref it) acc { cenv with scope:=relabel scope X.env }) (RR acc cenv.locals) s₄) E s₃) E s2 :=
 vc kM (act:=fun D env=>do
   let kv<-eval kx env
   let vv<-holding [kv] (eval vx env)
   standAt { kx.pos with endLine:=vx.pos.endLine,endCol:=vx.pos.endCol }
   holding [kv,vv] (dictSet D kv vv)) (fun it acc env R s I n h h0=>codeAny_loop rfl I h n h0) (fun it D env=>compTurn_dict kx vx tg iter ifs scope pos it D env) (fun R s it acc env h0 h=>codeAny_compStart_dict h0 h) hcalm S hg ht (fun cl C s2 H2 fp c=>za4 (hk cl C s2 H2 fp c) (hv cl C s2 H2 fp c)) I2 T st2 f2 hR hcl1 hcl2 herr fin
theorem zaZ(hcalm:X.calm=true)(S:CSc X.env.scope X.N scope N' k ix)(hi:PI X tg iter wi)
  (hg:∀ σ cl C s2 H2 fp,Cat X σ C s2 H2 fp->PG (X.comp N' scope cl C s2 H2 fp) tg (g σ)) (ht:∀ σ cl C s2 H2 fp,Cat X σ C s2 H2 fp->PF (X.comp N' scope cl C s2 H2 fp) ifs (tt σ)) (hk:∀ σ cl C s2 H2 fp,Cat X σ C s2 H2 fp->PE (X.comp N' scope cl C s2 H2 fp) kx (tk σ)) (hv:∀ σ cl C s2 H2 fp,Cat X σ C s2 H2 fp->PE (X.comp N' scope cl C s2 H2 fp) vx (tv σ))
  (hs:∀ x,foldedSetIterable iter X.env x=pure x:=by intro _;rfl):PE X (.DictComp kx vx [⟨tg,iter,ifs,0⟩] scope pos) (JU k ix wi g tt (fun σ=>yu (tk σ) (tv σ))):=by
 intro pins s σ H Q I h
 obtain⟨cl,ecl,hcl1,hcl2⟩:=jX I S
 show wpAny _ X.A (comprehension (.DictComp kx vx [⟨tg,iter,ifs,0⟩] scope pos) scope X.env _ newDict false (eval iter X.env)) _ _ s
 refine wpAny_comprehension_free (use:=none) rfl hs ecl S.kind S.loc (thn (hi pins s σ H _ I h) fun v s1 h1=>thn h1 fun itv s2 h2=>?_)
 obtain⟨it,fp,tn,J,H2,e,I2,T,st2,f2,hR⟩:=h2
 subst e
 refine vd (RR:=fun acc C=>compPost (model X.prog X.w) X.A X.xe none (EP X pins σ Q) acc C) hcalm S (hg σ) (ht σ) (hk σ) (hv σ) I2 T st2 f2 hR hcl1 hcl2 (fun D C x s' h=>h) ?_
 intro D C ys H5 s5 m I5 q hD hn hCD hCs hCn
 exact⟨m,hn,fun h' hs'=>⟨.ref D,upd H5 D (.dK ys),I2.letgo I5 hCs hCn hs'.2,rfl,q D hD⟩⟩
theorem zba{i:Nat}{x:Str}{pos' spos:Pos}(hN:X.N.Nodup)(hi':X.N[i]?=some x)(hx:Loc X.env.scope x)(hcalm:X.calm=true)(S:CSc X.env.scope X.N scope N' k ix)(hi:PI X tg iter wi)
  (hg:∀ σ cl C s2 H2 fp,Cat X σ C s2 H2 fp->PG (X.comp N' scope cl C s2 H2 fp) tg (g σ)) (ht:∀ σ cl C s2 H2 fp,Cat X σ C s2 H2 fp->PF (X.comp N' scope cl C s2 H2 fp) ifs (tt σ)) (hk:∀ σ cl C s2 H2 fp,Cat X σ C s2 H2 fp->PE (X.comp N' scope cl C s2 H2 fp) kx (tk σ)) (hv:∀ σ cl C s2 H2 fp,Cat X σ C s2 H2 fp->PE (X.comp N' scope cl C s2 H2 fp) vx (tv σ))
  (hsw:swapsWith (.DictComp kx vx [⟨tg,iter,ifs,0⟩] scope pos) (some (.Name x pos')) spos.line X.env=pure true)
  (hs:∀ x,foldedSetIterable iter X.env x=pure x:=by intro _;rfl) (hf:X.fn x=true∨X.env.scope.names.lookup x=some .local:=by first | exact .inl rfl | exact .inr rfl | assumption) :
  PS X (.Assign [.Name x pos'] (.DictComp kx vx [⟨tg,iter,ifs,0⟩] scope pos) spos) (yt (JU k ix wi g tt (fun σ=>yu (tk σ) (tv σ))) (wI i)):=by
 intro pins s σ H D' I h
 obtain⟨cl,ecl,hcl1,hcl2⟩:=jX I S
 rw[exec_Assign_Name_used _ _ _ _ hsw]
 refine wpAny_bind (wpAny_standAt (wpAny_bind ?_))
 show wpAny _ X.A (do let _<-comprehension (.DictComp kx vx [⟨tg,iter,ifs,0⟩] scope pos) scope X.env _ newDict false (eval iter X.env) (some (assign (.Name x pos') X.env))) _ _ s
 refine wpAny_bind (wpAny_mono (wpAny_comprehension_free (use:=some (assign (.Name x pos') X.env)) (Q:=fun _ s'=>SP X pins D' .next s') rfl hs ecl S.kind S.loc
  (thn (hi pins s σ H _ I h) fun v s1 h1=>thn h1 fun itv s2 h2=>?_)) (fun _ s' hq=>wpAny_pure (wpAny_pure hq)) fun _ _ e=>e)
 obtain⟨it,fp,tn,J,H2,e,I2,T,st2,f2,hR⟩:=h2
 subst e
 refine vd (RR:=fun acc C=>compPost (model X.prog X.w) X.A X.xe (some (assign (.Name x pos') X.env)) (fun _ s'=>SP X pins D' .next s') acc C) hcalm S (hg σ) (ht σ) (hk σ) (hv σ) I2 T st2 f2 hR hcl1 hcl2 (fun D C x s' h=>h) ?_
 intro D C ys H5 s5 m I5 q hD hn hCD hCs hCn
 show wpAny _ X.A (assign (.Name x pos') X.env (.ref D)) _ _ s5
 refine wpAny_assign_Name (JS (v:=.ref D) I5 hN hi' hx rfl (fun s' I' ⟨a,sb,ha⟩=>?_) hf)
 have hCa:C≠a:=by
  rcases ha with rfl | ha
  ·exact Ne.symm (xl (xn I2.lt hCs))
  ·obtain⟨v,ob,hob,_⟩:=I2.cell x a ha
   exact Ne.symm (xl (xn (Heap.lt_size hob) hCs))
 exact⟨m,hn.sameBut sb hCa,fun h' hs'=>⟨_,_,I2.letgo I' hCs hCn hs'.2,q D hD⟩⟩
end
class Cs where
 adr:Str->Addr
variable [Cs]
noncomputable def kK(p:Str×V):Key×V:=(.inr p.1,p.2)
noncomputable def dK(p:Str×PyData):PyData×PyData:=(.str p.1,p.2)
mutual
/-- the value v stands for the data d;no list of it lies in M -/
inductive Rep(M:Addr->Prop)(H:Hp):V->PyData->Prop
 |none:Rep M H .non .none
 |bool (b:Bool):Rep M H (.bl b) (.bool b)
 |int (i:Int):Rep M H (.int i) (.int i)
 |str (x:Str):Rep M H (.str x) (.str x)
 |list {a:Addr} {vs:List V} {ds:List PyData}:H a=some (.lst vs)->¬ M a->RepL M H vs ds->Rep M H (.ref a) (.list ds)
 |tuple {a:Addr} {vs:List V} {ds:List PyData}:H a=some (.tup vs)->RepL M H vs ds->Rep M H (.ref a) (.tuple ds)
 |dict {a:Addr} {kvs:List (Str×V)} {ds:List (Str×PyData)}:Rd H a (.dK (kvs.map kK))->¬ M a->kvs.map (·.1)=ds.map (·.1)->RepL M H (kvs.map (·.2)) (ds.map (·.2))->Rep M H (.ref a) (.dict (ds.map dK))
 |inst {a dx:Addr} {c:Str} {fs:List (Str×V)} {ds:List (Str×PyData)}:H a=some (.ins (Cs.adr c) dx fs)->¬ M a->fs.map (·.1)=ds.map (·.1)->RepL M H (fs.map (·.2)) (ds.map (·.2))->Rep M H (.ref a) (.dict ((.none,.str c)::ds.map dK))
inductive RepL(M:Addr->Prop)(H:Hp):List V->List PyData->Prop
 |nil:RepL M H [] []
 |cons {v:V} {vs:List V} {d:PyData} {ds:List PyData}:Rep M H v d->RepL M H vs ds->RepL M H (v::vs) (d::ds)
end
noncomputable def zgQ(M:Addr->Prop)(H H':Hp):Prop:=∀ b o,¬ M b->H b=some o->H' b=some o
noncomputable def TupM(H H':Hp):Prop:=∀ b xs,H b=some (.tup xs)->H' b=some (.tup xs)
structure zeF(M:Addr->Prop)(H H':Hp):Prop where
 same:zgQ M H H'
 tups:TupM H H'
 stay:∀ b,H b≠none->H' b≠none
theorem Same.grow{M:Addr->Prop}{H H':Hp}(s:Same H H'):zeF M H H' :=
 ⟨fun b o _ e=>s b o e,fun b xs e=>s b _ e,fun b h=>by
  cases q:H b with
  |none=>exact absurd q h
  |some o=>rw[s b o q];exact fun z=>nomatch z⟩
mutual
theorem Rep.grow{M:Addr->Prop}{H H':Hp}(g:zeF M H H'):∀ {v:V}{d:PyData},Rep M H v d->Rep M H' v d
 |_,_,.none=>.none
 |_,_,.bool b=>.bool b
 |_,_,.int i=>.int i
 |_,_,.str x=>.str x
 |_,_,.list e n r=>.list (g.same _ _ n e) n (RepL.grow g r)
 |_,_,.tuple e r=>.tuple (g.tups _ _ e) (RepL.grow g r)
 |_,_,.dict e n k r=>.dict (e.imp (g.same _ _ n) fun ⟨o,z⟩=>⟨o,g.same _ _ n z⟩) n k (RepL.grow g r)
 |_,_,.inst e n k r=>.inst (g.same _ _ n e) n k (RepL.grow g r)
theorem RepL.grow{M:Addr->Prop}{H H':Hp}(g:zeF M H H'):∀ {vs:List V}{ds:List PyData},RepL M H vs ds->RepL M H' vs ds
 |_,_,.nil=>.nil
 |_,_,.cons r t=>.cons (Rep.grow g r) (RepL.grow g t)
end
mutual
/-- fewer addresses may change;or one more that is not there -/
theorem Rep.less{M M':Addr->Prop}{H:Hp}(g:∀ b,M' b->H b≠none->M b):∀ {v:V}{d:PyData},Rep M H v d->Rep M' H v d
 |_,_,.none=>.none
 |_,_,.bool b=>.bool b
 |_,_,.int i=>.int i
 |_,_,.str x=>.str x
 |_,_,.list e n r=>.list e (fun z=>n (g _ z (by rw[e];exact fun z=>nomatch z))) (RepL.less g r)
 |_,_,.tuple e r=>.tuple e (RepL.less g r)
 |_,_,.dict e n k r=>.dict e (fun z=>n (g _ z (by rcases e with e | ⟨o,e⟩<;>rw[e]<;>exact fun z=>nomatch z))) k (RepL.less g r)
 |_,_,.inst e n k r=>.inst e (fun z=>n (g _ z (by rw[e];exact fun z=>nomatch z))) k (RepL.less g r)
theorem RepL.less{M M':Addr->Prop}{H:Hp}(g:∀ b,M' b->H b≠none->M b):∀ {vs:List V}{ds:List PyData},RepL M H vs ds->RepL M' H vs ds
 |_,_,.nil=>.nil
 |_,_,.cons r t=>.cons (Rep.less g r) (RepL.less g t)
end
theorem RepL.length{M:Addr->Prop}{H:Hp}:∀ {vs:List V}{ds:List PyData},RepL M H vs ds->vs.length=ds.length
 |_,_,.nil=>rfl
 |_,_,.cons _ t=>by rw[xk,xk,RepL.length t]
theorem RepL.append{M:Addr->Prop}{H:Hp}:∀ {vs ws:List V}{ds es:List PyData},RepL M H vs ds->RepL M H ws es->RepL M H (vs++ws) (ds++es)
 |_,_,_,_,.nil,s=>s
 |_,_,_,_,.cons r t,s=>.cons r (RepL.append t s)
theorem RepL.get{M:Addr->Prop}{H:Hp}:∀ {vs:List V}{ds:List PyData}{i:Nat}{v:V},RepL M H vs ds->vs[i]?=some v->∃ d,ds[i]?=some d/\Rep M H v d
 |_,_,_,_,.nil,e=>by simp at e
 |_,_,0,_,.cons r _,e=>by simp at e;subst e;exact⟨_,rfl,r⟩
 |_,_,i+1,v,.cons _ t,e=>by
  obtain⟨u,h1,h2⟩:=RepL.get (i:=i) (v:=v) t (by simpa using e)
  exact⟨u,by simpa using h1,h2⟩
theorem RepL.get'{M:Addr->Prop}{H:Hp}{vs:List V}{ds:List PyData}{i:Nat}{d:PyData}(r:RepL M H vs ds)(e:ds[i]?=some d):∃ v,vs[i]?=some v/\Rep M H v d:=by
 have hl:=r.length
 have hi:i<vs.length:=by rw[hl];exact (xb.mp e).1
 obtain⟨d',e',r'⟩:=r.get (i:=i) (v:=vs[i]) (by simp[hi])
 rw[e]at e';cases e'
 exact⟨vs[i],by simp[hi],r'⟩
theorem RepL.take{M:Addr->Prop}{H:Hp}:∀ {vs:List V}{ds:List PyData}(n:Nat),RepL M H vs ds->RepL M H (vs.take n) (ds.take n)
 |_,_,0,_=>.nil
 |_,_,_+1,.nil=>.nil
 |_,_,n+1,.cons r t=>.cons r (RepL.take n t)
theorem RepL.drop{M:Addr->Prop}{H:Hp}:∀ {vs:List V}{ds:List PyData}(n:Nat),RepL M H vs ds->RepL M H (vs.drop n) (ds.drop n)
 |_,_,0,r=>r
 |_,_,_+1,.nil=>.nil
 |_,_,n+1,.cons _ t=>RepL.drop n t
theorem RepL.ints{M:Addr->Prop}{H:Hp}:∀ (ns:List Int),RepL M H (ns.map V.int) (ns.map PyData.int)
 |[]=>.nil
 |n::ns=>.cons (.int n) (RepL.ints ns)
mutual
theorem Rep.reads{P:Program}{w:World}{M:Addr->Prop}{H:Hp}{h:Heap}(ok:HOk P w H h):∀ {v:V}{d:PyData}{u:Value},Rep M H v d->d.canLay0=true->RelV v u->∃ as,Reads h u d as
 |_,_,_,.none,_,r=>by cases (show _=Value.none from r);exact⟨_,.none⟩
 |_,_,_,.bool b,_,r=>by cases (show _=Value.bool b from r);exact⟨_,.bool b⟩
 |_,_,_,.int i,_,r=>by obtain⟨t,e⟩:=(show ∃ t,_=Value.int i t from r);cases e;exact⟨_,.int i t⟩
 |_,_,_,.str x,_,r=>by obtain⟨t,e⟩:=(show ∃ t,_=Value.str x t from r);cases e;exact⟨_,.str x t⟩
 |_,_,_,.list (a:=a) (vs:=vs) e n q,l,r=>by
  cases (show _=Value.ref a from r)
  obtain⟨_,its,c,rv,ho⟩:=(show ObjOk P w H h a (.lst vs) from ok a _ e)
  obtain⟨as,z⟩:=RepL.reads ok q l rv
  exact⟨_,.list ho rfl rfl (by simpa using z)⟩
 |_,_,_,.tuple (a:=a) (vs:=vs) e q,l,r=>by
  cases (show _=Value.ref a from r)
  obtain⟨_,its,rv,o,ho,hc,c,hd⟩:=(show ObjOk P w H h a (.tup vs) from ok a _ e)
  obtain⟨as,z⟩:=RepL.reads ok q l rv
  exact⟨_,.tuple ho hc hd (by simpa using z)⟩
 |_,_,_,.dict e n k q,l,r=>by cases l
 |_,_,_,.inst e n k q,l,r=>by cases l
theorem RepL.reads{P:Program}{w:World}{M:Addr->Prop}{H:Hp}{h:Heap}(ok:HOk P w H h):∀ {vs:List V}{ds:List PyData}{us:List Value},RepL M H vs ds->PyData.canLayAll0 ds=true->Vals vs us->∃ as,ReadsAll h us ds as
 |_,_,_,.nil,_,r=>by cases r;exact⟨_,.nil⟩
 |_,_,_,.cons q t,l,r=>by
  have l':=xy.mp l
  cases r with
  |cons r rs=>
   obtain⟨as,z⟩:=Rep.reads ok q l'.1 r
   obtain⟨bs,y⟩:=RepL.reads ok t l'.2 rs
   exact⟨_,.cons z y⟩
end
section
variable (X:Cx)
noncomputable def wpE(e:Expr):TE:=fun σ H Q=>∀ (pins:List (Addr×Obj)) (s:Shared),Inv X pins σ H s->wpAny (model X.prog X.w) X.A (eval e X.env) (EP X pins σ Q) X.xe s
noncomputable def wpT(e:Expr):TT:=fun σ H Q=>∀ (pins:List (Addr×Obj)) (s:Shared),Inv X pins σ H s->wpAny (model X.prog X.w) X.A (isTrue e X.env (eval e X.env)) (TP X pins σ Q) X.xe s
noncomputable def wpW(e:Expr):TT:=fun σ H Q=>∀ (whole:Sem Value) (pins:List (Addr×Obj)) (s:Shared),Inv X pins σ H s->wpAny (model X.prog X.w) X.A (isTrue e X.env whole) (TP X pins σ Q) X.xe s
noncomputable def wpA(es:List Expr):TA:=fun σ H Q=>∀ (pos:Pos) (pins:List (Addr×Obj)) (s:Shared),Inv X pins σ H s->wpAny (model X.prog X.w) X.A (spliced (backTo pos (starEach es X.env))) (AP X pins σ Q) X.xe s
noncomputable def wpS(st:Stmt):TS:=fun D σ H=>∀ (pins:List (Addr×Obj)) (s:Shared),Inv X pins σ H s->wpAny (model X.prog X.w) X.A (exec st X.env) (SP X pins D) X.xe s
noncomputable def wpB(st:List Stmt):TS:=fun D σ H=>∀ (pins:List (Addr×Obj)) (s:Shared),Inv X pins σ H s->wpAny (model X.prog X.w) X.A (execs st X.env) (SP X pins D) X.xe s
noncomputable def wpG(tg:Expr):TG:=fun v σ H Q=>∀ (pins:List (Addr×Obj)) (s:Shared) (u:Value),Inv X pins σ H s->RelV v u->wpAny (model X.prog X.w) X.A (assign tg X.env u) (fun _ s'=>∃ σ' H',Inv X pins σ' H' s'/\Q σ' H') X.xe s
noncomputable def wpF(ifs:List Expr):TT:=fun σ H Q=>∀ (pins:List (Addr×Obj)) (s:Shared),Inv X pins σ H s ->
 wpAny (model X.prog X.w) X.A (forIn ifs true fun c r=>if r=true then do let ok<-isTrue c X.env (eval c X.env);pure (ForInStep.yield ok) else pure (ForInStep.yield r)) (TP X pins σ Q) X.xe s
noncomputable def wpI(tg iter:Expr):TI:=fun σ H R=>∀ (pins:List (Addr×Obj)) (s:Shared),Inv X pins σ H s ->
  wpAny (model X.prog X.w) X.A (eval iter X.env) (fun v s1=>wpAny (model X.prog X.w) X.A (pyIter v) (PIE X pins σ tg R) X.xe s1) X.xe s
end
section
variable {X:Cx} {e:Expr} {es:List Expr} {st:Stmt} {sts:List Stmt} {tg iter:Expr} {σ:St} {H:Hp}
theorem zc:PE X e (wpE X e):=fun pins s σ H Q I h=>h pins s I
theorem jq:PT X e (wpT X e):=fun pins s σ H Q I h=>h pins s I
theorem Y7:PW X e (wpW X e):=fun wh pins s σ H Q I h=>h wh pins s I
theorem jp:PA X es (wpA X es):=fun pos pins s σ H Q I h=>h pos pins s I
theorem Y5:PS X st (wpS X st):=fun pins s σ H D I h=>h pins s I
theorem qO:PSs X sts (wpB X sts):=fun pins s σ H D I h=>h pins s I
theorem Y1:PG X tg (wpG X tg):=fun pins s σ H v u Q I r h=>h pins s u I r
theorem QK:PI X tg iter (wpI X tg iter):=fun pins s σ H R I h=>h pins s I
theorem PE.wp{t:TE}{Q:VK}(h:PE X e t)(q:t σ H Q):wpE X e σ H Q:=fun pins s I=>h pins s σ H Q I q
theorem PT.wp{t:TT}{Q:Bool->Hp->Prop}(h:PT X e t)(q:t σ H Q):wpT X e σ H Q:=fun pins s I=>h pins s σ H Q I q
theorem PW.wp{t:TT}{Q:Bool->Hp->Prop}(h:PW X e t)(q:t σ H Q):wpW X e σ H Q:=fun wh pins s I=>h wh pins s σ H Q I q
theorem PA.wp{t:TA}{Q:List V->Hp->Prop}(h:PA X es t)(q:t σ H Q):wpA X es σ H Q:=fun pos pins s I=>h pos pins s σ H Q I q
theorem PS.wp{t:TS}{D:qQ}(h:PS X st t)(q:t D σ H):wpS X st D σ H:=fun pins s I=>h pins s σ H D I q
theorem PSs.wp{t:TS}{D:qQ}(h:PSs X sts t)(q:t D σ H):wpB X sts D σ H:=fun pins s I=>h pins s σ H D I q
theorem PG.wp{t:TG}{v:V}{Q:St->Hp->Prop}(h:PG X tg t)(q:t v σ H Q):wpG X tg v σ H Q:=fun pins s u I r=>h pins s σ H v u Q I r q
theorem PF.wp{ifs:List Expr}{t:TT}{Q:Bool->Hp->Prop}(h:PF X ifs t)(q:t σ H Q):wpF X ifs σ H Q:=fun pins s I=>h pins s σ H Q I q
theorem PI.wp{t:TI}{R:It->Hp->Prop}(h:PI X tg iter t)(q:t σ H R):wpI X tg iter σ H R:=fun pins s I=>h pins s σ H R I q
theorem wpE.mono{Q Q':VK}(h:wpE X e σ H Q)(k:∀ v H',Q v H'->Q' v H'):wpE X e σ H Q':=fun pins s I=>thn (h pins s I) fun u s' ⟨v,H',a,b,c⟩=>⟨v,H',a,b,k v H' c⟩
theorem wpA.mono{Q Q':List V->Hp->Prop}(h:wpA X es σ H Q)(k:∀ v H',Q v H'->Q' v H'):wpA X es σ H Q':=fun pos pins s I=>thn (h pos pins s I) fun u s' ⟨v,H',a,b,c⟩=>⟨v,H',a,b,k v H' c⟩
end
noncomputable def Al(M:Addr->Prop)(H:Hp):Prop:=∀ a,M a->H a≠none
inductive Ent where
 |d (x:PyData)
 |v (x:V)
noncomputable abbrev Ge:=List (Option Ent)
structure RS(M:Addr->Prop)(Γ:Ge)(σ:St)(H:Hp):Prop where
 al:Al M H
 at':∀ (i:Nat) (d:PyData),Γ[i]?=some (some (.d d))->∃ v,σ[i]?=some (some v)/\Rep M H v d
 av:∀ (i:Nat) (v:V),Γ[i]?=some (some (.v v))->σ[i]?=some (some v)
noncomputable def zgO(M:Addr->Prop)(H:Hp)(v:V):Ent->Prop
 |.d d=>Rep M H v d
 |.v u=>v=u
theorem RS.setE{M:Addr->Prop}{Γ:Ge}{σ:St}{H:Hp}{v:V}{z:Ent}{i:Nat}(h:RS M Γ σ H)(r:zgO M H v z)(hi:i<σ.length):RS M (Γ.set i (some z)) (σ.set i (some v)) H:=⟨h.al,fun j d' e=>by
 by_cases hj:j=i
 ·subst hj
  by_cases hl:j<Γ.length
  ·rw[xh hl]at e
   cases e
   exact⟨v,by rw[xh hi],r⟩
  ·rw[xz (by simpa using hl)]at e;cases e
 ·rw[xg (Ne.symm hj)]at e |-
  exact h.at' j d' e,fun j d' e=>by
 by_cases hj:j=i
 ·subst hj
  by_cases hl:j<Γ.length
  ·rw[xh hl]at e
   cases e
   rw[xh hi];exact congrArg (fun x=>some (some x)) r
  ·rw[xz (by simpa using hl)]at e;cases e
 ·rw[xg (Ne.symm hj)]at e |-
  exact h.av j d' e⟩
theorem RS.setV{M:Addr->Prop}{Γ:Ge}{σ:St}{H:Hp}{v:V}{i:Nat}(h:RS M Γ σ H)(hi:i<σ.length):RS M (Γ.set i (some (.v v))) (σ.set i (some v)) H:=h.setE rfl hi
section
variable {X:Cx} {Γ:Ge} {pos p:Pos} {a b c:Expr} {es:List Expr} {d d1 d2:PyData} {ds:List PyData}
theorem zv{H:Hp}{p:Addr}{o:HO}(n:H p=none):Same H (upd H p o):=fun b u e=>by rw[zd (zA e n)];exact e
theorem Km(hu:∀ n,n<=60->X.A.units+n<cLine):OpR X (compareOp .Eq) (fun x y H Q=>∃ M M' d1 d2,Rep M H x d1/\Rep M' H y d2/\d1.canLay0=true/\d2.canLay0=true/\min d1.depth d2.depth<=60/\Q (.bl (PyData.eqv d1 d2)) H):=by
 intro pins s σ H x y v u Q I rx ry h
 obtain⟨M,M',d1,d2,r1,r2,c1,c2,hd,q⟩:=h
 obtain⟨as,z1⟩:=r1.reads I.hok c1 rx
 obtain⟨bs,z2⟩:=r2.reads I.hok c2 ry
 exact SeqAt.compareEq_reads z1 z2 c1 c2 (hu _ hd) ⟨.bl _,H,I,rfl,q⟩
theorem Ko(hu:∀ n,n<=60->X.A.units+n<cLine):OpR X (compareOp .NotEq) (fun x y H Q=>∃ M M' d1 d2,Rep M H x d1/\Rep M' H y d2/\d1.canLay0=true/\d2.canLay0=true/\min d1.depth d2.depth<=60/\Q (.bl (!PyData.eqv d1 d2)) H):=by
 intro pins s σ H x y v u Q I rx ry h
 obtain⟨M,M',d1,d2,r1,r2,c1,c2,hd,q⟩:=h
 obtain⟨as,z1⟩:=r1.reads I.hok c1 rx
 obtain⟨bs,z2⟩:=r2.reads I.hok c2 ry
 exact SeqAt.compareNe_reads z1 z2 c1 c2 (hu _ hd) ⟨.bl _,H,I,rfl,q⟩
theorem Room.u60{k:Nat}{A:Around}(r:Room k A):∀ n,n<=60->A.units+n<cLine:=fun n h=>by have:=r.units;omega
end
end L2
namespace PySem
open PySem.AutoSeq1 (wpAny_loadPart')
theorem yz(l:Addr)(items:Array Value)(n:Nat)(dd:Option Addr)(sl:Array (Option Value))(x:Int)(u:Tok)(hb1:¬ (decide (x< -(2 ^ 63))||decide (x≥2 ^ 63))=true)(hc0:¬ (items.isEmpty||x==1)=true)(hc1:¬ (decide (x<=0)||items.isEmpty)=true)(hc2:¬ (items.size:Int)*x>(2 ^ 63-1) / 8)(hc3:¬ Builtin.Tuple.tupleTooMany ((items.size:Int)*x)=true)(hsz:((List.replicate x.toNat items).foldl (·++·) #[]).size<=sizeLine) :
  Meets (Builtin.«tuple.__mul__» ⟨[.ref l,.int x u],[]⟩) (fun _ R s=>s.heap.get? l=some { cls:=.type "tuple",dict:=dd,data:=.seq items n,slots:=sl }/\R (.ok (.ret (Value.ref s.heap.objs.size))) { s with heap:=s.heap.push { cls:=Value.type "tuple",data:=Data.seq ((List.replicate x.toNat items).foldl (·++·) #[]) },toks:=s.toks }) :=
 .of_wp fun prog w A R s h=>by
  obtain⟨hp,g,d,tk,os⟩:=s;obtain⟨hl,h⟩:=h
  have f1:=AutoSeq1.idx_int
  wp_walk using wpAny_loadPart' hl
  refine wpAny_ite_false (decide_eq_false hb1) ?_
  wp_walk using wpAny_loadPart' hl
  first | (refine wpAny_ite_false (decide_eq_false hc2) ?_;wp_walk using wpAny_loadPart' hl) | skip
  first | (refine wpAny_ite_false (decide_eq_false (Nat.not_lt.mpr hsz)) ?_;wp_walk using wpAny_loadPart' hl) | skip
  exact⟨_,rfl,h⟩
theorem yw(l:Addr)(items:Array Value)(n:Nat)(dd:Option Addr)(sl:Array (Option Value))(x:Int)(u:Tok)(hb1:¬ (decide (x< -(2 ^ 63))||decide (x≥2 ^ 63))=true)(hc0:(items.isEmpty||x==1)=true) :
  Meets (Builtin.«tuple.__mul__» ⟨[.ref l,.int x u],[]⟩) (fun _ R s=>s.heap.get? l=some { cls:=.type "tuple",dict:=dd,data:=.seq items n,slots:=sl }/\R (.ok (.ret (Value.ref l))) { s with heap:=s.heap,toks:=s.toks }) :=
 .of_wp fun prog w A R s h=>by
  obtain⟨hp,g,d,tk,os⟩:=s;obtain⟨hl,h⟩:=h
  have f1:=AutoSeq1.idx_int
  wp_walk using wpAny_loadPart' hl
  refine wpAny_ite_false (decide_eq_false hb1) ?_
  wp_walk using wpAny_loadPart' hl
  exact⟨_,rfl,h⟩
theorem yx(l:Addr)(items:Array Value)(n:Nat)(dd:Option Addr)(sl:Array (Option Value))(x:Int)(u:Tok)(hb1:¬ (decide (x< -(2 ^ 63))||decide (x≥2 ^ 63))=true)(hc0:¬ (items.isEmpty||x==1)=true)(hc1:(decide (x<=0)||items.isEmpty)=true) :
  Meets (Builtin.«tuple.__mul__» ⟨[.ref l,.int x u],[]⟩) (fun _ R s=>s.heap.get? l=some { cls:=.type "tuple",dict:=dd,data:=.seq items n,slots:=sl }/\R (.ok (.ret (Value.ref s.heap.objs.size))) { s with heap:=s.heap.push { cls:=Value.type "tuple",data:=Data.seq #[] },toks:=s.toks }) :=
 .of_wp fun prog w A R s h=>by
  obtain⟨hp,g,d,tk,os⟩:=s;obtain⟨hl,h⟩:=h
  have f1:=AutoSeq1.idx_int
  wp_walk using wpAny_loadPart' hl
  refine wpAny_ite_false (decide_eq_false hb1) ?_
  wp_walk using wpAny_loadPart' hl
  exact⟨_,rfl,h⟩
theorem QF:fillsNumberSlot (.type "tuple") "mul" =pure false :=
 fillsNumberSlot_seq (id:= "tuple.__mul__") (r:=some (.builtin "tuple.__rmul__")) F.slot_tuple_mul.lookup (by decide +kernel) F.slot_tuple_rmul.lookup (by decide +kernel)
theorem WM:seqRepeat? (.type "tuple")=pure (some (.builtin "tuple.__mul__")):=by
 unfold seqRepeat?
 rw[seqSlot_of (T:= "tuple") (name:= "__mul__") (id:= "tuple.__mul__") F.slot_tuple_mul.lookup (by decide +kernel),seqSlot_of (T:= "tuple") (name:= "__rmul__") (id:= "tuple.__rmul__") F.slot_tuple_rmul.lookup (by decide +kernel)]
 rfl
theorem we(a:Int)(t:Tok)(l:Addr)(items:Array Value)(n:Nat)(dd:Option Addr)(sl:Array (Option Value)) :
  Meets (Builtin.«int.__rmul__» ⟨[.int a t,.ref l],[]⟩) (fun _ R s=>s.heap.get? l=some { cls:=.type "tuple",dict:=dd,data:=.seq items n,slots:=sl }/\R (.ok (.ret Value.notImplemented)) s) :=
 .of_wp fun prog w A R s h=>by obtain⟨hp,g,d,tk,os⟩:=s;obtain⟨hl,h⟩:=h;wp_walk using wpAny_loadPart' hl;exact⟨_,rfl,h⟩
end PySem
namespace L2
open PySem PySem.Spec PyProof.Rows
variable [Cs]
section
variable {X:Cx}
noncomputable def zhn(K:PySem.W.Frag):R2:=fun x y H Q=>∃ l k xs,x=.ref l/\y=.int k/\SqT K H l xs/\ -(2 ^ 63)<=k/\k<2 ^ 63/\xs.length*k.toNat<=sizeLine /\
 ((xs= []∨k=1)->Q (.ref l) H)/\∀ p,H p=none->Q (.ref p) (upd H p (.tup (List.replicate k.toNat xs).flatten))
theorem zc7:OpR X (binaryOp .Mult) (zhn X.K):=by
 intro pins s σ H x y v u Q I rx ry h
 obtain⟨l,k,xs,rfl,rfl,hH,h1,h2,hz,qs,q⟩:=h
 cases rx
 obtain⟨t,rfl⟩:=ry
 obtain⟨its,r,hit,hzz⟩:=I.tuple hH
 have hl:=r.length
 obtain⟨⟨cls,dd,data,sl⟩,ho,hc,n,hd⟩:=id hit
 simp only at hc hd
 subst hc hd
 have hb1:¬ (decide (k< -(2 ^ 63))||decide (k≥2 ^ 63))=true:=by
  simp only[xH,decide_eq_true_eq];omega
 have hnew:List.foldl (fun x1 x2=>x1++x2) #[] (List.replicate k.toNat its.toArray)=(List.replicate k.toNat its).flatten.toArray:=by
  have:=vh its k.toNat []
  rw[xZ]at this
  exact this
 refine wpAny_binaryOp_repeat_ref (T:= "tuple") (U:= "int") (by decide) ⟨_,ho,rfl⟩ (fun s'=>typeIs_int s' k t) QF F.fills_int_mul F.slot_int_rmul WM F.slot_int_index.lookup
  (call_meets F.slot_int_rmul (typeIs_int s k t) F.entry_int_rmul (F.args_int_rmul_2 _ _) (we k t l its.toArray n dd sl) ⟨ho,rfl,⟨_,ho,rfl⟩,?_⟩)
 by_cases hc0:(its.toArray.isEmpty||k==1)=true
 ·refine call_meets F.slot_tuple_mul ⟨_,ho,rfl⟩ F.entry_tuple_mul (F.args_tuple_mul_2 _ _) (yw l its.toArray n dd sl k t hb1 hc0) ⟨ho,?_⟩
  refine⟨.ref l,H,I,rfl,qs ?_⟩
  simp only[xH,beq_iff_eq]at hc0
  rcases hc0 with z | z
  ·left
   have:its= []:=by simpa using z
   subst this
   exact List.eq_nil_of_length_eq_zero hl
  ·exact .inr z
 ·by_cases hc1:(decide (k<=0)||its.toArray.isEmpty)=true
  ·refine call_meets F.slot_tuple_mul ⟨_,ho,rfl⟩ F.entry_tuple_mul (F.args_tuple_mul_2 _ _) (yx l its.toArray n dd sl k t hb1 hc0 hc1) ⟨ho,?_⟩
   have e0:(List.replicate k.toNat xs).flatten= []:=by
    simp only[xH,decide_eq_true_eq]at hc1
    rcases hc1 with z | z
    ·rw[show k.toNat=0 by omega];rfl
    ·exact absurd (by simp[z]) hc0
   refine⟨.ref s.heap.objs.size,_,I.laid (t':=s.toks) (o:=.tup []) (fun b u e=>Heap.get?_push_of_some _ e) (xi _) ?_,rfl,by have:=q _ (I.hok.fresh (xi _));rw[e0]at this;exact this⟩
   exact⟨xV _,[],.nil,⟨_,Heap.get?_push_size _ rfl,rfl,_,rfl⟩⟩
  ·have hlen:its.length*k.toNat<=sizeLine:=by rw[<- hl];exact hz
   have hk0:0<k:=by
    simp only[xH,decide_eq_true_eq]at hc1;omega
   have hm:((its.toArray.size:Int)*k)=((its.length*k.toNat:Nat):Int):=by
    rw[xo]
    have:k=(k.toNat:Int):=by omega
    rw[Int.natCast_mul,<- this]
   have hsl:(sizeLine:Nat)<=(2 ^ 63-1) / 8:=by decide
   have hc2:¬ (its.toArray.size:Int)*k>(2 ^ 63-1) / 8:=by
    rw[hm]
    have h63:((2 ^ 63-1) / 8:Int)=(((2 ^ 63-1) / 8:Nat):Int):=by decide
    rw[h63]
    intro z
    have:=Int.ofNat_lt.mp z
    omega
   have hc3:¬ Builtin.Tuple.tupleTooMany ((its.toArray.size:Int)*k)=true:=by
    unfold Builtin.Tuple.tupleTooMany
    rw[hm,decide_eq_true_eq]
    intro z
    have:=Int.ofNat_lt.mp z
    omega
   refine call_meets F.slot_tuple_mul ⟨_,ho,rfl⟩ F.entry_tuple_mul (F.args_tuple_mul_2 _ _) (yz l its.toArray n dd sl k t hb1 hc0 hc1 hc2 hc3 (by rw[hnew,xo,YV,Nat.mul_comm];exact hlen)) ⟨ho,?_⟩
   rw[hnew]
   refine⟨.ref s.heap.objs.size,_,I.laid (t':=s.toks) (o:=.tup (List.replicate k.toNat xs).flatten) (fun b u e=>Heap.get?_push_of_some _ e) (xi _) ?_,rfl,q _ (I.hok.fresh (xi _))⟩
   exact⟨by rw[YV,Nat.mul_comm];exact hz,_,r.rep k.toNat,⟨_,Heap.get?_push_size _ rfl,rfl,_,rfl⟩⟩
theorem RepL.rep{M:Addr->Prop}{H:Hp}{vs:List V}{ds:List PyData}(h:RepL M H vs ds):∀ k:Nat,RepL M H (List.replicate k vs).flatten (List.replicate k ds).flatten
 |0=>.nil
 |k+1=>by rw[xT,xT,uc,uc];exact h.append (RepL.rep h k)
theorem Rep.tup_inv{M:Addr->Prop}{H:Hp}{v:V}{ds:List PyData}(r:Rep M H v (.tuple ds)):∃ a vs,v=.ref a/\H a=some (.tup vs)/\RepL M H vs ds:=by
 cases r with
 |tuple e q=>exact⟨_,_,rfl,e,q⟩
theorem Rep.lst_inv{M:Addr->Prop}{H:Hp}{v:V}{ds:List PyData}(r:Rep M H v (.list ds)):∃ a vs,v=.ref a/\H a=some (.lst vs)/\¬ M a/\RepL M H vs ds:=by
 cases r with
 |list e n q=>exact⟨_,_,rfl,e,n,q⟩
variable {Γ:Ge} {pos p p2:Pos} {a b c:Expr} {es:List Expr} {d d1 d2:PyData} {ds ds1 ds2:List PyData}
noncomputable def zfW(K:PySem.W.Frag):R2:=fun x y H Q=>∃ a b xs ys,x=.ref a/\y=.ref b/\SqT K H a xs/\SqT K H b ys/\xs.length+ys.length<=sizeLine/\(xs= []->Q (.ref b) H)/\(ys= []->Q (.ref a) H)/\∀ p,H p=none->Q (.ref p) (upd H p (.tup (xs++ys)))
theorem zaU:OpR X (binaryOp .Add) (zfW X.K):=by
 intro pins s σ H x y v u Q I rx ry h
 obtain⟨a,b,xs,ys,rfl,rfl,ha,hb,hz,q0,q1,q⟩:=h
 cases rx
 cases ry
 obtain⟨its,r,hit,_⟩:=I.tuple ha
 obtain⟨its2,r2,hit2,_⟩:=I.tuple hb
 by_cases hv:its= []
 ·obtain⟨⟨cls,dd,data,sl⟩,ho,hc,n,hd⟩:=id hit
  obtain⟨⟨cls2,dd2,data2,sl2⟩,ho2,hc2,n2,hd2⟩:=id hit2
  simp only at hc hd hc2 hd2
  subst hc hd hc2 hd2
  refine concat_meets ⟨_,ho,rfl⟩ ⟨_,ho2,rfl⟩ noFill_tuple_add seq_tuple_add PySem.F.slot_tuple_add PySem.F.entry_tuple_add (PySem.F.args_tuple_add_2 _ _)
   (tuple_addW0 a b its.toArray its2.toArray n n2 dd dd2 sl sl2 (by simp[hv])) ⟨ho,ho2,⟨.ref b,H,I,rfl,q0 ?_⟩⟩
  exact r.nil_iff.mp hv
 ·refine HT.cat_tup hit hit2 hv (fun hw=>⟨.ref a,H,I,rfl,q1 (r2.nil_iff.mp hw)⟩) (fun _=>?_) (by rw[<- r.length,<- r2.length];exact hz)
  refine⟨.ref s.heap.objs.size,_,I.laid (t':=s.toks) (o:=.tup (xs++ys)) (fun b u e=>Heap.get?_push_of_some _ e) (xi _) ?_,rfl,q _ (I.hok.fresh (xi _))⟩
  exact⟨by rw[xF];exact hz,_,r.append r2,⟨_,Heap.get?_push_size _ rfl,rfl,_,rfl⟩⟩
theorem vS{M:Addr->Prop}{H:Hp}{vs:List V}{ds:List PyData}{i:Int}{d:PyData}(r:RepL M H vs ds)(h:atI ds i=some d):∃ v,atI vs i=some v/\Rep M H v d:=by
 unfold atI at h |-
 rw[r.length]
 cases e:ixN ds.length i with
 |none=>rw[e]at h;cases h
 |some j=>
  rw[e]at h
  exact r.get' h
end
noncomputable def tyD:PyData->String
 |.none=> "NoneType"
 |.bool _=> "bool"
 |.int _=> "int"
 |.str _=> "str"
 |.list _=> "list"
 |.tuple _=> "tuple"
 |.dict _=> "dict"
theorem Rep.ty {K:PySem.W.Frag}{M:Addr->Prop}{H:Hp}{v:V}{d:PyData}(r:Rep M H v d) (hd:tyD d≠ "dict"):Qo K H v (.type (tyD d)):=by
 cases r with
 |none=>exact .non
 |bool b=>exact .bl b
 |int i=>exact .int i
 |str x=>exact .str x
 |list e n q=>exact .lst e
 |tuple e q=>exact .tup e
 |dict _ _ _ _=>exact absurd rfl hd
 |inst _ _ _ _=>exact absurd rfl hd
section
variable {X:Cx}
theorem zak:jj X (.builtin "isinstance") (fun xs H Q=>∃ x T t k,xs= [x,.ty T]/\Qo X.K H x t/\PySem.W.kitOne X.K t (.type T)=some k/\Q (.bl k) H):=by
 intro pins s σ H xs us Q I r h
 obtain⟨x,T,t,k,rfl,ty,e,q⟩:=h
 obtain⟨u,w',rfl,rx,rc⟩:=kG r
 cases (show w'=Value.type T from rc)
 exact Kc I rx ty e fun tk=>⟨.bl k,H,I.tok tk,rfl,q⟩
variable {Γ:Ge} {pos p p2:Pos} {a b c:Expr} {es:List Expr} {d d1 d2:PyData} {ds ds1 ds2:List PyData}
theorem Ku(bs:List Bool):(List.range bs.length).all (fun i=>(bs[i]?).getD false)=bs.all id:=by
 have e:(List.range bs.length).map (fun i=>(bs[i]?).getD false)=bs:=by
  apply List.ext_getElem
  ·simp
  ·intro i h1 h2
   simp[h2]
 have h:=congrArg (fun l=>List.all l id) e
 rw[List.all_map]at h
 exact h
theorem Kv(bs:List Bool):(List.range bs.length).any (fun i=>(bs[i]?).getD false)=bs.any id:=by
 have e:(List.range bs.length).map (fun i=>(bs[i]?).getD false)=bs:=by
  apply List.ext_getElem
  ·simp
  ·intro i h1 h2
   simp[h2]
 have h:=congrArg (fun l=>List.any l id) e
 rw[List.any_map]at h
 exact h
theorem kH{bs:List Bool}{its:List Value}(rv:Vals (bs.map V.bl) its){i:Nat}{v:Value}(e:its[i]?=some v):∃ b,bs[i]?=some b/\v=.bool b:=by
 have hi:i<its.length:=(xb.mp e).1
 have hl:=rv.length
 rw[xt]at hl
 have hb:i<bs.length:=by omega
 obtain⟨u,hu,ru⟩:=rv.get (i:=i) (x:=V.bl bs[i]) (by simp[hb])
 rw[e]at hu;cases hu
 exact⟨bs[i],by simp[hb],ru⟩
theorem kU (hc:X.calm=true):jj X (.builtin "all") (fun xs H Q=>∃ (p:Addr) (bs:List Bool),xs= [.ref p]/\SqL X.K H p (bs.map V.bl)/\Q (.bl (bs.all id)) H):=by
 intro pins s σ H xs us Q I r h
 obtain⟨p,bs,rfl,hq,q⟩:=h
 obtain⟨u,rfl,rx⟩:=Zd r
 cases rx
 obtain⟨its,rv,pl,hz⟩:=I.list hq
 have hne:p≠s.heap.objs.size:=by
  obtain⟨o,n,e,_⟩:=pl
  exact xl (Heap.lt_size e)
 have hl:=rv.length
 rw[xt]at hl
 refine call_all_walk (wpAny_pyIter_list pl.isList ⟨s.heap.objs.size,_,_,_,_,_,fun i=>(bs[i]?).getD false,rfl,Walks.list (A:=X.A.in1) (show X.A.in1.handled=none from I.ok.hd hc) s.heap.objs.size p hne its.toArray,
  ⟨⟨_,Heap.get?_push_size _ rfl,rfl,rfl⟩,pl.isList.at fun o e=>Heap.get?_push_of_some _ e⟩,fun i v s' Q' E' hP hQ=>?_,fun h' tk hk=>?_⟩)
 ·obtain⟨b,hb,rfl⟩:=kH rv (by simpa using hP)
  dsimp only at hQ;rw[hb]at hQ
  exact wpAny_truthy_bool hQ
 ·rw[xo,<- hl,Ku]
  refine⟨.bl _,H,I.kept (t':=tk) fun b o e=>hk b o ?_ (Heap.get?_push_of_some _ e),rfl,q⟩
  intro z
  rw[List.mem_singleton]at z
  exact absurd (Heap.lt_size e) (by rw[z];exact xO _)
theorem kW (hc:X.calm=true):jj X (.builtin "any") (fun xs H Q=>∃ (p:Addr) (bs:List Bool),xs= [.ref p]/\SqL X.K H p (bs.map V.bl)/\Q (.bl (bs.any id)) H):=by
 intro pins s σ H xs us Q I r h
 obtain⟨p,bs,rfl,hq,q⟩:=h
 obtain⟨u,rfl,rx⟩:=Zd r
 cases rx
 obtain⟨its,rv,pl,hz⟩:=I.list hq
 have hne:p≠s.heap.objs.size:=by
  obtain⟨o,n,e,_⟩:=pl
  exact xl (Heap.lt_size e)
 have hl:=rv.length
 rw[xt]at hl
 refine call_any_walk (wpAny_pyIter_list pl.isList ⟨s.heap.objs.size,_,_,_,_,_,fun i=>(bs[i]?).getD false,rfl,Walks.list (A:=X.A.in1) (show X.A.in1.handled=none from I.ok.hd hc) s.heap.objs.size p hne its.toArray,
  ⟨⟨_,Heap.get?_push_size _ rfl,rfl,rfl⟩,pl.isList.at fun o e=>Heap.get?_push_of_some _ e⟩,fun i v s' Q' E' hP hQ=>?_,fun h' tk hk=>?_⟩)
 ·obtain⟨b,hb,rfl⟩:=kH rv (by simpa using hP)
  dsimp only at hQ;rw[hb]at hQ
  exact wpAny_truthy_bool hQ
 ·rw[xo,<- hl,Kv]
  refine⟨.bl _,H,I.kept (t':=tk) fun b o e=>hk b o ?_ (Heap.get?_push_of_some _ e),rfl,q⟩
  intro z
  rw[List.mem_singleton]at z
  exact absurd (Heap.lt_size e) (by rw[z];exact xO _)
theorem RepL.bls{M:Addr->Prop}{H:Hp}:∀ {vs:List V}{bs:List Bool},RepL M H vs (bs.map PyData.bool)->vs=bs.map V.bl
 |_,[],.nil=>rfl
 |_,b::bs,.cons q t=>by cases q;rw[xm,<- RepL.bls t]
theorem kP:bootBuiltins "all" =some (.builtin "all"):=by decide +kernel
theorem kQ:bootBuiltins "any" =some (.builtin "any"):=by decide +kernel
theorem Qb:bootBuiltins "list" =some (.type "list"):=by decide +kernel
theorem J0:bootBuiltins "tuple" =some (.type "tuple"):=by decide +kernel
theorem W0:bootBuiltins "int" =some (.type "int"):=by decide +kernel
theorem yU:bootBuiltins "bool" =some (.type "bool"):=by decide +kernel
end
section
variable {X:Cx} {Γ:Ge} {tg iter a b:Expr} {ds:List PyData} {p pos:Pos}
noncomputable def qp(n:Nat):List PyData:=(List.range n).map fun (i:Nat)=>PyData.int (i:Int)
theorem zh(n:Nat):(qp n).length=n:=by simp[qp]
theorem Yh{n i:Nat}{d:PyData}(h:(qp n)[i]?=some d):i<n/\d=.int (i:Int):=by
 unfold qp at h
 rw[xA]at h
 have hi:i<n:=by
  cases e:(List.range n)[i]? with
  |none=>rw[e]at h;cases h
  |some j=>simpa using (xb.mp e).1
 rw[ur hi]at h
 exact⟨hi,(Option.some.inj h).symm⟩
end
noncomputable def zgJ(X:Cx)(ts:List Expr):TGs:=fun vs σ H Q=>∀ (pins:List (Addr×Obj)) (s:Shared) (us:List Value),Inv X pins σ H s->Vals vs us ->
  wpAny (model X.prog X.w) X.A (assignInOrder ((assignEach ts X.env).map (·.2)) us) (fun _ s'=>∃ σ' H',Inv X pins σ' H' s'/\Q σ' H') X.xe s
theorem wV{X:Cx}{ts:List Expr}:PGs X ts (zgJ X ts):=fun pins s σ H vs us Q I r h=>h pins s us I r
theorem PGs.wp{X:Cx}{ts:List Expr}{t:TGs}{vs:List V}{σ:St}{H:Hp}{Q:St->Hp->Prop}(h:PGs X ts t)(q:t vs σ H Q):zgJ X ts vs σ H Q:=fun pins s us I r=>h pins s σ H vs us Q I r q
section
variable {X:Cx} {k:Nat} {Γ Γ1 Γ2:Ge} {tg:Expr} {ts:List Expr} {d:PyData} {ds:List PyData} {pos:Pos}
end
theorem zeW{k:Nat}{ix:List Nat}{σ:St}{j i0:Nat}{v:V}(q:ix[j]?=some i0)(h:σ[i0]?=some (some v)):(cS k ix σ)[k+j]?=some (some v):=by
 unfold cS
 rw[xf (by simp),uk,Nat.add_sub_cancel_left,xA,q]
 simp[h]
section
variable {X:Cx} {elt tg iter:Expr} {ifs:List Expr} {scope:Scope} {pos:Pos} {N':List Str} {k:Nat} {ix:List Nat} {Γ:Ge} {ds:List PyData} {M:Addr->Prop} {σ:St} {H:Hp} {Q:VK}
noncomputable def gU(X:Cx)(N':List Str)(scope:Scope)(tg:Expr)(σ0:St):TG:=fun v σ H Q=>∀ cl C s2 H2 fp,Cat X σ0 C s2 H2 fp->wpG (X.comp N' scope cl C s2 H2 fp) tg v σ H Q
noncomputable def fU(X:Cx)(N':List Str)(scope:Scope)(ifs:List Expr)(σ0:St):TT:=fun σ H Q=>∀ cl C s2 H2 fp,Cat X σ0 C s2 H2 fp->wpF (X.comp N' scope cl C s2 H2 fp) ifs σ H Q
noncomputable def eU(X:Cx)(N':List Str)(scope:Scope)(elt:Expr)(σ0:St):TE:=fun σ H Q=>∀ cl C s2 H2 fp,Cat X σ0 C s2 H2 fp->wpE (X.comp N' scope cl C s2 H2 fp) elt σ H Q
theorem za0(hcalm:X.calm=true)(S:CSc X.env.scope X.N scope N' k ix)(hf:∀ x,foldedSetIterable iter X.env x=pure x:=by intro _;rfl) :
    PE X (.ListComp elt [⟨tg,iter,ifs,0⟩] scope pos) (vB k ix (wpI X tg iter) (gU X N' scope tg) (fU X N' scope ifs) (eU X N' scope elt)) :=
  zdb hcalm S QK (fun _ cl C s2 H2 fp c pins s σ H v u Q I r h=>h cl C s2 H2 fp c pins s u I r) (fun _ cl C s2 H2 fp c pins s σ H Q I h=>h cl C s2 H2 fp c pins s I)
    (fun _ cl C s2 H2 fp c pins s σ H Q I h=>h cl C s2 H2 fp c pins s I) hf
theorem zdf{i:Nat}{x:Str}{pos' spos:Pos}(hN:X.N.Nodup)(hi':X.N[i]?=some x)(hx:Loc X.env.scope x)(hcalm:X.calm=true)(S:CSc X.env.scope X.N scope N' k ix)
  (hsw:swapsWith (.ListComp elt [⟨tg,iter,ifs,0⟩] scope pos) (some (.Name x pos')) spos.line X.env=pure true) (hs:∀ x,foldedSetIterable iter X.env x=pure x:=by intro _;rfl)
  (hf:X.fn x=true∨X.env.scope.names.lookup x=some .local:=by first | exact .inl rfl | exact .inr rfl | assumption) :
  PS X (.Assign [.Name x pos'] (.ListComp elt [⟨tg,iter,ifs,0⟩] scope pos) spos) (yt (vB k ix (wpI X tg iter) (gU X N' scope tg) (fU X N' scope ifs) (eU X N' scope elt)) (wI i)) :=
 zde hN hi' hx hcalm S QK (fun _ cl C s2 H2 fp c pins s σ H v u Q I r h=>h cl C s2 H2 fp c pins s u I r) (fun _ cl C s2 H2 fp c pins s σ H Q I h=>h cl C s2 H2 fp c pins s I)
  (fun _ cl C s2 H2 fp c pins s σ H Q I h=>h cl C s2 H2 fp c pins s I) hsw hs hf
end
inductive Out where
 |next (Γ:Ge)
 |ret (d:PyData)
 |new (ds:List PyData)
section
variable {X:Cx} {Γ Γ1:Ge} {st:Stmt} {sts body els:List Stmt} {o:Out} {d:PyData} {e c tg:Expr} {pos:Pos}
end
structure Kn(P:Program)(w:World)(K:PySem.W.Frag)(mg:Str->Option Value)(base:Heap)(CX:CXT)(x:Str)(k:Nat)(sp:Sp):Prop where
 ex:∃ (f:Addr) (fd:FuncData) (ps:List Str),FnOk P w K mg base CX k f fd ps sp/\mg x=some (.ref f)/\PySem.W.keepIn K (.ref f)=true/\Binds K fd ps []
section
variable {X:Cx} {Γ:Ge} {x:Str} {k:Nat} {CX:CXT} {E:XK} {n:Nat} {pre:List PyData->Prop} {e:Expr} {es:List Expr} {ds:List PyData} {p pos:Pos}
theorem zec {sp:Sp}{σ:St}{H:Hp}{Q:VK}(kn:Kn X.prog X.w X.K X.mg X.base CX x k sp) (hr:Room k X.A) (hg:Gl X x) (hx:vL CX X E) (h:wpA X (e::es) σ H fun vs H1=>sp vs H1 Q E) (hdb:(x==("__debug__" :Str))=false:=by decide)
    (he:starEach (e::es) X.env=(false,eval e X.env)::starEach es X.env:=by rfl) (hpl:(backTo pos (starEach es X.env)).any (·.1)=false:=by rfl):wpE X (.Call (.Name x p) (e::es) [] pos) σ H Q:=by
  obtain⟨f,fd,ps,F,hm,hk,hb⟩:=kn.ex
  refine (zda F hr hg hm hk hb .nil hx jp hdb he hpl).wp (h.mono fun vs H1 q=>?_)
  show sp (vs++ []) H1 Q E
  rw[xN];exact q
end
theorem Vv{N:List Str}{vs:List V}(h:vs.length<=N.length):(start N vs).length=N.length:=by
 unfold start;simp;omega
structure Df(K:PySem.W.Frag)(mg:Str->Option Value)(x:Str)(st:Stmt)(ps:List Str):Prop where
 ex:∃ f fd,Fun K x x st f fd/\mg x=some (.ref f)/\Binds K fd ps []
section
variable {P:Program} {w:World} {K:PySem.W.Frag} {mg:Str->Option Value} {base:Heap} {x:Str} {st:Stmt} {N ps:List Str} {k:Nat}
theorem Df.kn{sp:Sp}(D:Df K mg x st ps)(S:jk N ps (defScope st))(len:∀ vs H Q E,sp vs H Q E->vs.length=ps.length)
  (hbody:∀ (f:Addr) (cdv:Value) (A:Around) (outer:List Env) (s:Shared) (H:Hp) (vs:List V) (Q:VK) (E:XK),Room k (A.deeper (envOfC x (defScope st) s.heap.objs.size f cdv))->sp vs H Q E ->
   wpB (Qd CX0 P w K mg base N x (defScope st) f cdv A outer s H E).nox (defBody st) { nx:=fun _ H'=>Q .non H',rt:=Q } (start N vs) H):Kn P w K mg base CX0 x (k+1) sp:=by
 obtain⟨f,fd,F,hm,hb⟩:=D.ex
 exact⟨f,fd,ps,F.ok S len (fun cdv A outer s H vs Q E hr h=>⟨_,qO,hbody f cdv A outer s H vs Q E hr h⟩),hm,F.kp,hb⟩
end
section
variable {X:Cx} {M:Addr->Prop} {Γ Γ1:Ge} {σ:St} {H:Hp} {D:qQ} {st:Stmt} {sts body els:List Stmt} {o:Out} {d:PyData} {e c tg:Expr} {pos pos':Pos} {x:Str}
theorem zhL(i:Nat){Q:VK}(hN:X.N.Nodup)(h:wpE X e σ H Q)(k:∀ v H',Q v H'->wpB X sts D (σ.set i (some v)) H')(hi:X.N[i]?=some x:=by rfl)(hx:Loc X.env.scope x:=by first | exact Or.inl rfl | exact Or.inr rfl)(hs:swapsWith e (some (.Name x pos')) pos.line X.env=pure false:=by rfl)
    (hf:X.fn x=true∨X.env.scope.names.lookup x=some .local:=by first | exact .inl rfl | exact .inr rfl | assumption):wpB X (.Assign [.Name x pos'] e pos::sts) D σ H :=
  (Zo (JQ hN hi hx zc hs hf) qO).wp (h.mono k)
end
section
variable {X:Cx} {M:Addr->Prop} {Γ Γ1:Ge} {σ:St} {H:Hp} {D:qQ} {sts:List Stmt} {e:Expr} {ds:List PyData} {d:PyData} {pos pos':Pos} {x:Str}
end
mutual
/-- no list within -/
noncomputable def noL:PyData->Bool
 |.list _=>false
 |.tuple ds=>zc2 ds
 |.dict _=>false
 |_=>true
noncomputable def zc2:List PyData->Bool
 |[]=>true
 |d::ds=>noL d&&zc2 ds
end
mutual
theorem Rep.free{M M':Addr->Prop}{H:Hp}:∀ {v:V}{d:PyData},noL d=true->Rep M H v d->Rep M' H v d
 |_,_,_,.none=>.none
 |_,_,_,.bool b=>.bool b
 |_,_,_,.int i=>.int i
 |_,_,_,.str x=>.str x
 |_,_,h,.list e n r=>by simp[noL]at h
 |_,_,h,.tuple e r=>.tuple e (RepL.free (by simpa [noL] using h) r)
 |_,_,h,.dict e n k r=>by cases h
 |_,_,h,.inst e n k r=>by cases h
theorem RepL.free{M M':Addr->Prop}{H:Hp}:∀ {vs:List V}{ds:List PyData},zc2 ds=true->RepL M H vs ds->RepL M' H vs ds
 |_,_,_,.nil=>.nil
 |_,_,h,.cons r t=>by
  rw[zc2,xa]at h
  exact .cons (Rep.free h.1 r) (RepL.free h.2 t)
end
section
variable {X:Cx} {M:Addr->Prop} {Γ Γ1:Ge} {σ:St} {H:Hp} {D:qQ} {sts:List Stmt} {e:Expr} {ds:List PyData} {d:PyData} {pos pos' p2 p3:Pos} {x:Str} {l:Addr} {vs:List V}
end
theorem Df.of{K:PySem.W.Frag}{mg:Str->Option Value}{h:Heap}{x:Str}{st:Stmt}{ps:List Str}{f:Addr}{oc:Value}{od an:Option Addr}{sl:Array (Option Value)}{kV dc pm cd ct:Value}(X:K.In h)(G:h.Ns mainGlobals mg)
  (a:PySem.W.nsIn K mainGlobals x=some (some (.ref f))) (l:K.lookup f=some ⟨oc,od,.func (PySem.W.fnOf x x (qc st) (defBody st) (defScope st) .none kV dc pm an cd ct),sl⟩) (c:PySem.W.codeIn K cd x=true) (k:PySem.W.keepIn K (.ref f)=true)
  (hb:∀ (kV doc pm:Value) (an:Option Addr) (cdv ct:Value) (us:List Value),us.length=ps.length->bindArgs (PySem.W.fnOf x x (qc st) (defBody st) (defScope st) .none kV doc pm an cdv ct) ⟨us,[]⟩=pure (ps.zip us)):Df K mg x st ps :=
 ⟨f,_,Qf (st:=st) l c k,PySem.W.mg_of X G a,(Qf (st:=st) l c k).binds hb⟩
structure Dl(K:PySem.W.Frag)(x:Str)(st:Stmt)(fa:Addr)(p:Str):Prop where
 ex:∃ fd:FuncData,Fun K x x st fa fd/\∀ (s:Shared) (u:Value),BindsTo s fd ⟨[u],[]⟩ [(p,u)]
theorem Dl.of{K:PySem.W.Frag}{mg:Str->Option Value}{h:Heap}{x p:Str}{st:Stmt}{f fa:Addr}{oc:Value}{od an:Option Addr}{sl:Array (Option Value)}{kV dc pm cd ct:Value}(X:K.In h)(G:h.Ns mainGlobals mg)(hfa:mg x=some (.ref fa))
  (a:PySem.W.nsIn K mainGlobals x=some (some (.ref f))) (l:K.lookup f=some ⟨oc,od,.func (PySem.W.fnOf x x (qc st) (defBody st) (defScope st) .none kV dc pm an cd ct),sl⟩) (c:PySem.W.codeIn K cd x=true) (k:PySem.W.keepIn K (.ref f)=true)
  (hb:∀ (s:Shared) (u:Value),BindsTo s (PySem.W.fnOf x x (qc st) (defBody st) (defScope st) .none kV dc pm an cd ct) ⟨[u],[]⟩ [(p,u)]):Dl K x st fa p:=by
 have e:=hfa.symm.trans (PySem.W.mg_of X G a)
 cases e
 exact⟨_,Qf (st:=st) l c k,hb⟩
noncomputable def kj(K:PySem.W.Frag):Sp:=fun vs H Q _=>∃ (a:Addr) (ns:List Int),vs= [.ref a]/\SqL K H a (ns.map V.int)/\ns.length<=63/\∀ H',Q (.bl true) H'
theorem Fun.law{P:Program}{w:World}{K:PySem.W.Frag}{mg:Str->Option Value}{base:Heap}{x p:Str}{st:Stmt}{N:List Str}{k:Nat}{f:Addr}{fd:FuncData}(F:Fun K x x st f fd)(S:jk N [p] (defScope st))
  (hbody:∀ (cdv:Value) (A:Around) (outer:List Env) (s:Shared) (H:Hp) (Q:VK) (E:XK) (a:Addr) (ns:List Int),Room k (A.deeper (envOfC x (defScope st) s.heap.objs.size f cdv))->SqL K H a (ns.map V.int)->ns.length<=63->(∀ H',Q (.bl true) H') ->
   wpB (Qd CX0 P w K mg base N x (defScope st) f cdv A outer s H E).nox (defBody st) { nx:=fun _ H'=>Q .non H',rt:=Q } (start N [.ref a]) H):FnOk P w K mg base CX0 (k+1) f fd [p] (kj K) :=
 F.ok S (fun vs H Q E ⟨a,ns,e,_⟩=>by rw[e];rfl) fun cdv A outer s H vs Q E hr ⟨a,ns,e,hS,hlen,kk⟩=>⟨_,qO,by subst e;exact hbody cdv A outer s H Q E a ns hr hS hlen kk⟩
theorem walkL{l:PySem.W.OpenLaw}{q:Program}{loose:List Str}{XP:(Str->Option Value)->Heap->Prop}{YP:World->Heap->Prop}{d:DefRec}{K:Params->PySem.W.Frag}{k:Nat}{st:Stmt}(hn:l.most=some 63)(hdf:d.params.defaults= [])(hk:Room k callerA)
  (hY:∀ (w:World) (h:Heap),YP w h->(K w.params).In h)
  (F:∀ (w:World) (mg:Str->Option Value) (fa:Addr) (h:Heap),(K w.params).In h->h.Ns mainGlobals mg->mg d.name=some (.ref fa) ->
   Dl (K w.params) "law" st fa "_law_script" /\∀ (fd:FuncData),Fun (K w.params) "law" "law" st fa fd->∀ base:Heap,FnOk l.prog w (K w.params) mg base CX0 k fa fd ["_law_script"] (kj (K w.params))) :
  PySem.W.WalkO q loose XP YP l.row.toRowW d [] (fun f vs=>PySem.call f vs) :=
 L2.walk_of (n:=63) (k:=k) (x:= "_law_script") (CX:=fun _=>CX0) (sp:=fun w=>kj (K w.params)) hn (by decide) hdf hk hY (fun w mg fa h KX G hm=>by
  obtain⟨⟨fd,Ff,hb⟩,hF⟩:=F w mg fa h KX G hm
  exact⟨fd,hb,fun base _ _=>hF fd Ff base⟩) (fun _ _ a ns hl _ hS=>⟨a,ns,rfl,hS,hl,fun _=>rfl⟩) fun _ _ _ _ _ z=>z
noncomputable def CX1(P:Program)(w:World):CXT:=fun outer H s E e s'=>∃ (ea:Addr) (c a0:Value) (B h0:Heap) (H':Hp),e=.ref ea/\s'.os=s.os/\AllBare s'.gens/\Heap.FlyingW B outer ea c a0 s'.heap/\h0.UpToSlots s'.heap /\
 (∀ h6,B.StaysIn h6->h0.UpToSlots h6->Un (frs outer) [] H H' s.heap h6/\HOk P w H' h6)/\E c none H'
section
variable {X:Cx} {pins:List (Addr×Obj)} {σ:St} {H:Hp} {s:Shared}
theorem Inv.flies(I:Inv X pins σ H s)(hx:X.ex= [])(hst:X.stack=X.env::X.outer)(hf:X.env.frame=some X.env.locals){h6:Heap}
  (k1:(PySem.W.hideAll s.heap (frs X.stack)).StaysIn h6) (k2:s.heap.UpToSlots h6):Un (frs X.outer) [] X.H₀ H X.s₀.heap h6/\HOk X.prog X.w H h6:=by
 have nex:∀ b,b∉X.ex:=fun b z=>by rw[hx]at z;cases z
 have kk:∀ b o,s.heap.get? b=some o->b∉frs X.stack->h6.get? b=some o:=fun b o e n=>k1 b o (PySem.W.hideAll_get _ e n)
 have fr:∀ b,b∈frs X.stack->∀ o,s.heap.get? b=some o->∃ sl,h6.get? b=some { o with slots:=sl }:=fun b hb o e=>by
  obtain⟨_,o',e',hn⟩:=I.stack.mem hb
  rw[e]at e'
  cases e'
  exact k2 b o e hn
 have hsub:∀ b,b∈frs X.outer->b∈frs X.stack:=fun b hb=>by
  rw[hst]
  unfold frs at hb |-
  rw[xR,hf]
  exact xj _ hb
 have hsup:∀ b,b∈frs X.stack->b=X.env.locals∨b∈frs X.outer:=fun b hb=>by
  rw[hst]at hb
  unfold frs at hb |-
  rw[xR,hf]at hb
  exact xu.mp hb
 have hL:∀ b o,X.s₀.heap.get? b=some o->b≠X.env.locals:=fun b o e z=>by
  have h1:=Heap.lt_size e
  have h2:=I.ok.above
  rw[z]at h1
  exact absurd (xn h1 h2) (xO _)
 refine⟨⟨fun b o e n hb _=>?_,fun b o e n hb _=>?_,fun b o e n _=>I.base.free b o e n (nex b),fun b o e _=>?_,I.base.tups,I.base.frzs,I.base.tbls⟩,fun a o e=>?_⟩
 ·refine kk b o (I.base.keep b o e n hb (nex b)) fun z=>?_
  rcases hsup b z with z | z
  ·exact hL b o e z
  ·exact hb z
 ·obtain⟨sl,e1⟩:=I.base.slot b o e n hb (nex b)
  obtain⟨sl2,e2⟩:=fr b (hsub b hb) _ e1
  exact⟨sl2,e2⟩
 ·obtain⟨o1,e1⟩:=I.base.there b o e (nex b)
  by_cases hb:b∈frs X.stack
  ·obtain⟨sl,e2⟩:=fr b hb _ e1
   exact⟨_,e2⟩
  ·exact⟨o1,kk b o1 e1 hb⟩
 ·refine (I.hok a o e).stay (fun b u hb q=>kk b u q fun z=>?_) (fun _ q=>q) fun _ _ q=>q
  have hn:=I.stkFree b z
  rcases hb with hb | hb
  ·subst hb;rw[e]at hn;cases hn
  ·rw[hb]at hn;cases hn
theorem V5(I:Inv X pins σ H s)(hx:X.ex= [])(hst:X.stack=X.env::X.outer)(hf:X.env.frame=some X.env.locals){h':Heap}{ea:Addr}{c:Value}{args:List Value}
  (hm:Heap.MadeExcOf s.heap h' ea c args) {E:XK} (q:E c none H) {E':Value->Shared->Prop} :
  wpAny (model X.prog X.w) X.A (leaving X.env (.ref ea)) (fun _ s''=>CX1 X.prog X.w X.outer X.H₀ X.s₀ E (.ref ea) s'') E' { s with heap:=h' }:=by
 have hfr:X.A.frames=some (X.env::X.outer):=by rw[<- hst];exact I.ok.frames
 have hst':=I.stack
 rw[hst]at hst'
 refine wpAny_leaves_madeW (base:=PySem.W.hideAll s.heap (frs X.stack)) (h:=s.heap) hfr hf (fun b o e=>PySem.W.of_hideAll _ e) (PySem.W.funFrames_hide hst' fun env he a ha=>?_) hm fun h'' t f1 f2 f3 f4=>?_
 ·rw[hst];exact uu.mpr ⟨env,he,ha⟩
 ·exact⟨ea,c,.ref t,_,s.heap,H,rfl,I.os,I.bare,f1,(Heap.UpToSlots.of_keeps hm.keeps).trans f4,fun h6 k1 k2=>I.flies hx hst hf k1 k2,q⟩
end
theorem zfR(h g:Heap)(a:Addr)(o:Obj)(hg:g.get? a=some o):∃ h':Heap,h'.get? a=some o/\∀ b,b≠a->h'.get? b=h.get? b:=by
 have ho:∀ (x y:_) (z:_),o≠⟨x,y,.freed,z⟩:=fun x y z e=>by
  subst e
  unfold Heap.get? at hg
  split at hg
  ·cases hg
  ·rename_i h1
   exact h1 _ _ _ hg
 refine⟨⟨Array.ofFn (n:=max h.objs.size (a+1)) fun i=>if i.val=a then o else (h.objs[i.val]?).getD ⟨.none,none,.freed,#[]⟩,{}⟩,?_,fun b hb=>?_⟩
 ·unfold Heap.get?
  rw[Array.getElem?_ofFn,dif_pos (by omega),if_pos rfl]
  obtain⟨x,y,d,z⟩:=o
  cases d<;>first | rfl | exact absurd rfl (ho _ _ _)
 ·unfold Heap.get?
  rw[Array.getElem?_ofFn]
  by_cases hl:b<max h.objs.size (a+1)
  ·rw[dif_pos hl,if_neg hb]
   cases h.objs[b]?<;>rfl
  ·rw[dif_neg hl,Array.getElem?_eq_none (xC (Nat.le_max_left _ _) (Nat.not_lt.mp hl))]
noncomputable def ww(B:Heap)(l:List Env)(ea:Addr)(c a0 fl:Value)(h:Heap):Prop:=B.StaysIn h/\B.get? ea=none/\h.FunFrames B l/\h.TracedAtW B ea c a0 fl
section
variable {M:Model} {A:Around} {E:Value->Shared->Prop} {s:Shared} {B:Heap} {l outer:List Env} {env:Env} {ea L:Addr} {c a0 fl:Value} {Q:Unit->Shared->Prop}
theorem Vr{fr:Option Addr}(h:ww B l ea c a0 fl s.heap)(k:∀ h',ww B l ea c a0 (fr.elim .none fun f=>rawInt f) h'->s.heap.UpToSlots h'->Q () { s with heap:=h' }):wpAny M A (setFlight (.ref ea) fr) Q E s:=by
 obtain⟨hkb,hen,hl,oe,vs,T,oT,ts,he,hcls,hd,h1,hnT,hTe,hT,hdT,h3⟩:=h
 have hsz3:3<ts.size:=(xY.mp h3).1
 have other:∀ b,b≠T->(s.heap.update T (Obj.mapFields (·.setIfInBounds 3 (fr.elim Value.none fun f=>rawInt f)))).get? b=s.heap.get? b:=fun b hb=>Heap.get?_update_other _ _ (Ne.symm hb)
 have noR:∀ b o,s.heap.get? b=some o->(∀ vs,o.data≠ .fields vs)->b≠T:=fun b o hb hnf q=>by
  rw[q,hT]at hb;injection hb with hb;subst hb;exact hnf ts hdT
 unfold setFlight
 refine wpAny_bind (wpAny_field he hd h1 ?_)
 rw[if_pos (show (Value.ref T !=Value.none)=true from by simp)]
 refine wpAny_setField hT hdT hsz3 (k _ ⟨fun b o hbo=>(other b fun q=>by rw[q,hnT]at hbo;cases hbo).trans (hkb b o hbo),hen,
  hl.of_keeps fun b o hb hnf=>⟨o,(other b (noR b o hb hnf)).trans hb,rfl⟩,?_⟩ fun b o hb hnf=>⟨o.slots,(other b (noR b o hb hnf)).trans hb⟩)
 exact⟨oe,vs,T,_,_,(other ea (Ne.symm hTe)).trans he,hcls,hd,h1,hnT,hTe,Heap.get?_update_self _ hT (Obj.isFreed_of_fields (Obj.data_mapFields hdT _)),Obj.data_mapFields hdT _,by simp[hsz3]⟩
theorem wQ(hfr:A.frames=some (env::outer))(hf:env.frame=some L)(h:ww B (env::outer) ea c a0 fl s.heap)(k:∀ h',ww B (env::outer) ea c a0 (rawInt L) h'->s.heap.UpToSlots h'->Q () { s with heap:=h' }):wpAny M A (noteFrame (.ref ea) env) Q E s:=by
 by_cases hq:fl=rawInt L
 ·subst hq
  exact wpAny_noteFrame_againW hf h.2.2.2 (k s.heap h (.refl _))
 ·obtain⟨hkb,hen,hl,oe,vs,T,oT,ts,he,⟨hcls,h0⟩,hd,h1,hnT,hTe,hT,hdT,h3⟩:=h
  subst hcls
  have other:∀ b,b≠T->(s.heap.update T (Obj.mapFields (·.setIfInBounds 3 Value.none))).get? b=s.heap.get? b:=fun b hb=>Heap.get?_update_other _ _ (Ne.symm hb)
  have noR:∀ b o,s.heap.get? b=some o->(∀ vs,o.data≠ .fields vs)->b≠T:=fun b o hb hnf q=>by
   rw[q,hT]at hb;injection hb with hb;subst hb;exact hnf ts hdT
  unfold noteFrame
  simp only[hf]
  refine wpAny_bind (wpAny_field he hd h1 ?_)
  rw[if_pos (show (Value.ref T !=Value.none)=true from by simp)]
  refine wpAny_bind (wpAny_field hT hdT h3 ?_)
  rw[if_neg (show ¬ ((fl==rawInt L)=true) from by simpa using hq)]
  refine wpAny_bind (wpAny_setField hT hdT (xY.mp h3).1 ?_)
  refine wpAny_entryW hfr (hl.of_keeps fun b o hb hnf=>⟨o,(other b (noR b o hb hnf)).trans hb,rfl⟩) hf ((other ea (Ne.symm hTe)).trans he)
   (fun b o hbo=>(other b fun q=>by rw[q,hnT]at hbo;cases hbo).trans (hkb b o hbo)) hen hd (xY.mp h1).1 h0
   fun h' ⟨x1,x2,x3,x4⟩=>k h' ⟨x1,hen,x2,x3⟩ fun b o hb hnf=>x4 b o ((other b (noR b o hb hnf)).trans hb) hnf
theorem zaS{x:Value}{env':Env}(h:env.frame=env'.frame):noteFrame x env=noteFrame x env':=by
 unfold noteFrame PySem.frameOf
 rw[h]
theorem vj{h h' B':Heap}(hB:∀ b,B.get? b=none->B'.get? b=none):∀ {l:List Env},h.FunFrames B l->(∀ b∈frs l,h'.get? b=h.get? b)->h'.FunFrames B' l
  |[],_,_=>trivial
  |env::r,⟨hk,⟨L,o,hf,hn,ho,hd⟩,hr⟩,k=>⟨hk,⟨L,o,hf,hB L hn,(k L (by unfold frs;rw[xR,hf];exact .head _)).trans ho,hd⟩,vj hB hr fun b hb=>k b (by
      unfold frs at hb |-;rw[xR,hf];exact .tail _ hb)⟩
end
noncomputable def Up(X:Cx)(pins:List (Addr×Obj))(σ:St)(H:Hp)(C:Addr)(e:Value)(s:Shared):Prop :=
 ∃ (ea:Addr) (a0 fl:Value) (B:Heap),e=.ref ea/\ww B X.stack ea (.ref C) a0 fl s.heap/\∀ h6,B.StaysIn h6->s.heap.UpToSlots h6->Inv X pins σ H { s with heap:=h6 }
noncomputable def Sk(X:Cx):Prop:=∃ env0 outer0 L,X.stack=env0::outer0/\env0.frame=some L/\X.env.frame=some L
section
variable {X:Cx} {pins:List (Addr×Obj)} {σ:St} {H:Hp} {s s':Shared} {C:Addr} {e:Value}
theorem Inv.up(I:Inv X pins σ H s){E:XK}(hc:CX1 X.prog X.w X.stack H s E e s'){G:Prop}(k:∀ c H',E c none H'->(∀ C,c=.ref C->Up X pins σ H' C e s')->G):G:=by
 obtain⟨ea,c,a0,B,h0,H',rfl,os,bare,hfl,up,hk,q⟩:=hc
 refine k c H' q fun C e=>?_
 subst e
 exact⟨ea,a0,.none,B,rfl,hfl,fun h6 k1 k2=>by
  obtain⟨un,hok⟩:=hk h6 k1 (up.trans k2)
  exact I.call' (s':={ s' with heap:=h6 }) os un hok bare fun b z=>nomatch z⟩
theorem Up.comp{N':List Str}{scope:Scope}{cl:List (Str×Addr)}{Cn:Addr}{s2:Shared}{H2:Hp}{fp:List Addr}{pins':List (Addr×Obj)}{σ':St}(sk:Sk X)(cat:Cat X σ Cn s2 H2 fp)(u:Up (X.comp N' scope cl Cn s2 H2 fp) pins' σ' H C e s)
  (k:∀ pins s',Up X pins σ H C e s'->X.xe e s'):(X.comp N' scope cl Cn s2 H2 fp).xe e s:=by
 obtain⟨ea,a0,fl,B,rfl,al,inv⟩:=u
 obtain⟨pins,I2,f2,hC⟩:=cat
 obtain⟨env0,outer0,L,hst,hf0,hfx⟩:=sk
 have hfr:X.A.frames=some (env0::outer0):=by rw[<- hst];exact I2.ok.frames
 have al':ww B (env0::outer0) ea (.ref C) a0 fl s.heap:=by rw[<- hst];exact al
 show wpAny (model X.prog X.w) X.A (noteFrame (.ref ea) (compEnvC scope cl Cn X.env)) (fun _ s''=>kJ X Cn (.ref ea) s'') (kJ X Cn) s
 rw[zaS (env':=env0) (show (compEnvC scope cl Cn X.env).frame=env0.frame from hfx.trans hf0.symm)]
 refine wQ hfr hf0 al' fun h4 al4 up4=>?_
 obtain⟨g1,g2,g3,g4⟩:=al4
 have I4:=inv h4 g1 up4
 obtain⟨m,hn,_⟩:=I4.loc
 refine⟨m,hn,fun h' sb cenv _=>?_⟩
 obtain⟨oC,es,ep,hoC,hdC,_⟩:=id hn
 have hCf:∀ b o vs,h4.get? b=some o->o.data=.fields vs->b≠Cn:=fun b o vs e1 e2 z=>by
  subst z
  have e3:h4.get? b=some oC:=hoC
  rw[e1]at e3;cases e3
  rw[hdC]at e2;cases e2
 have hfrC:∀ b∈frs (env0::outer0),b≠Cn:=fun b hb z=>by
  rw[<- hst]at hb
  obtain⟨_,o,ho,_⟩:=I2.stack.mem hb
  rw[z]at ho
  exact absurd (Heap.lt_size ho) (Nat.not_lt.mpr hC)
 have hB':∀ b,B.get? b=none->(PySem.W.hideAll B [Cn]).get? b=none:=fun b e1=>by
  cases q:(PySem.W.hideAll B [Cn]).get? b with
  |none=>rfl
  |some o=>rw[PySem.W.of_hideAll _ q]at e1;cases e1
 have hBC:(PySem.W.hideAll B [Cn]).get? Cn=none:=PySem.W.hideAll_none _ (.head _)
 obtain⟨oe,vs,T,oT,ts,he,hcls,hd,h1,hnT,hTe,hT,hdT,h3⟩:=g4
 have he':h'.get? ea=some oe:=(sb.2 ea (hCf _ _ _ he hd)).trans he
 have hT':h'.get? T=some oT:=(sb.2 T (hCf _ _ _ hT hdT)).trans hT
 have al5:ww (PySem.W.hideAll B [Cn]) X.stack ea (.ref C) a0 (rawInt L) h':=by
  rw[hst]
  exact⟨fun b o e1=>(sb.2 b fun z=>by rw[z,hBC]at e1;cases e1).trans (g1 b o (PySem.W.of_hideAll _ e1)),hB' _ g2,vj hB' g3 fun b hb=>sb.2 b (hfrC b hb),oe,vs,T,oT,ts,he',hcls,hd,h1,hB' _ hnT,hTe,hT',hdT,h3⟩
 unfold PySem.passOn
 refine wpAny_bind (wpAny_field he' hd h1 ?_)
 rw[if_neg (show ¬ ((Value.ref T==Value.none)=true) from by simp)]
 refine wpAny_bind (Vr (s:={ s with heap:=h' }) al5 fun h5 al6 up5=>wpAny_throw (k pins _ ⟨ea,a0,_,_,rfl,al6,fun h6 k1 k2=>?_⟩))
 obtain⟨h7,e7,k7⟩:=zfR h6 h4 Cn oC hoC
 have I7:=inv h7 (fun b o e1=>by
  by_cases z:b=Cn
  ·subst z
   have e2:=g1 b o e1
   have e3:h4.get? b=some oC:=hoC
   rw[e3]at e2;cases e2;exact e7
  ·exact (k7 b z).trans (k1 b o (PySem.W.hideAll_get _ e1 (by simpa using z)))) fun b o e1 hnf=>by
  obtain⟨sl,e2⟩:=up4 b o e1 hnf
  by_cases z:b=Cn
  ·subst z
   have e3:h4.get? b=some oC:=hoC
   rw[e3]at e2;cases e2;exact⟨_,e7⟩
  ·obtain⟨sl2,e4⟩:=(up5.trans k2) b _ ((sb.2 b z).trans e2) hnf
   exact⟨sl2,(k7 b z).trans e4⟩
 exact I2.letgo (s5:={ s with heap:=h7 }) (I2.back f2 I7) hC I7.free fun b hb=>(k7 b hb).symm
end
noncomputable abbrev bmV:List Value:= [.type "ValueError",.type "Exception",.type "BaseException",.type "object"]
noncomputable def mroIn(K:PySem.W.Frag)(C:Addr):List Value:=match K.lookup C with
 |some ⟨_,_,.cls cd,_⟩=>cd.mro
 |_=> []
theorem v6 {K:PySem.W.Frag}{h:Heap}{C:Addr}(X:K.In h) (q:PySem.W.excIn K C bmV "ValueError.__new__" =true) :
  ∃ bm N nm qn bs hdct sn sub ab col dd k0 k1 k2 k3 k5 mN,h.get? C=some (excClassObj nm qn C N bs bm hdct sn sub ab col dd k0 k1 k2 k3 k5 "ValueError.__new__")/\h.Ns N mN/\mN "__init__" =none/\OwnTail h bmV bm/\mroIn K C=Value.ref C::bm:=by
 unfold PySem.W.excIn at q
 unfold mroIn
 split at q
 ·rename_i d0 c0 s0 e0
  rw[e0]
  dsimp only
  split at q
  ·rename_i C1 bm z0 z1 z2 z3 n1 z5 e1 e2
   rw[xa,xa,xa,xa,xa]at q
   obtain⟨⟨⟨⟨⟨q1,q2⟩,q3⟩,q4⟩,q5⟩,q6⟩:=q
   have r1:C1=C:=eq_of_beq q1
   have r2:n1= "ValueError.__new__" :=eq_of_beq q2
   have r3:c0.hasDel=false:=by simpa using q3
   have r6:PySem.W.nsIn K c0.ns "__init__" =some none:=eq_of_beq q6
   subst r1 r2
   have r5:s0=#[z0,z1,z2,z3,some (.builtin "ValueError.__new__"),z5]:=by
    cases s0 with
    |mk l=>exact congrArg Array.mk e2
   cases c0 with
   |mk a1 a2 a3 a4 a5 a6 a7 a8 a9 a10 a11=>
    dsimp only at e1 r3 q5 r6
    subst e1 r3 r5
    exact⟨_,_,_,_,_,_,_,_,_,_,_,_,_,_,_,_,_,X _ _ e0,.of_isNs (PySem.W.isNs_of_in X q5),PySem.W.nsMap_none_of_in X q5 r6,PySem.W.tail_of_in X q4,rfl⟩
  ·cases q
 ·cases q
structure kL(X:Cx)(x:Str)(C:Addr):Prop where
 gl:Gl X x
 mg:X.mg x=some (.ref C)
 ex:PySem.W.excIn X.K C bmV "ValueError.__new__" =true
 d:(x==("__debug__" :Str))=false
section
variable {X:Cx} {x:Str} {C:Addr} {np cpos pos cp:Pos} {z:Str} {cj:Nat} {σ:St} {H:Hp} {D:qQ}
theorem VU {h:Heap}{bm:List Value}(T:OwnTail h bmV bm):bm.contains (.type "BaseException")=true:=(T.hasType (by decide +kernel))
theorem zcf(k:kL X x C)(hcalm:X.calm=true)
  (h:∀ pins s,Inv X pins σ H s->∀ h' ea args,Heap.MadeExcOf s.heap h' ea (.ref C) args->X.xe (.ref ea) { s with heap:=h' }) :
  wpS X (.Raise (some (.Call (.Name x np) [.Constant (.str z) cj cp] [] cpos)) none pos) D σ H:=fun pins s I=>by
 obtain⟨bm,N,nm,qn,bs,hdct,sn,sub,ab,col,dd,k0,k1,k2,k3,k5,mN,hC,hN,hi,T,_⟩:=v6 I.mod.kin k.ex
 refine wpAny_Raise_call_subT (C:=C) (nm:=nm) (q:=qn) (N:=N) (bs:=bs) (bm:=bm) (hdct:=hdct) (sn:=sn) (sub:=sub) (ab:=ab) (col:=col) (dd:=dd) (k0:=k0) (k1:=k1) (k2:=k2) (k3:=k3) (k5:=k5) (mN:=mN) PySem.F.excBase_ValueError (VU T) (I.ok.hd hcalm) rfl hi (j4 I k.gl k.mg ⟨rfl,?_⟩ k.d)
 refine Calls.evalArgs_plain ?_
 have hz:wpE X (.Constant (.str z) cj cp) σ H fun v H'=>v=.str z/\H'=H:=pe_str.wp ⟨rfl,rfl⟩
 have hA:wpA X [.Constant (.str z) cj cp] σ H fun vs H'=>vs= [.str z]/\H'=H:=(zq zc pa_nil rfl).wp (hz.mono fun v H' ⟨e1,e2⟩=>⟨by rw[e1],e2⟩)
 refine wpAny_mono (hA cpos pins s I) (fun vs s1 hq=>?_) fun _ _ y=>y
 obtain⟨ws,H1,I1,r,e,eH⟩:=hq
 subst eH
 have hlen:vs.length=1:=by rw[<- r.length,e];rfl
 exact⟨rfl,by have:=sizeLine_eq;show vs.length<=sizeLine;omega,I1.bk _ _ hC,hN.keeps I1.bk,T.keeps I1.bk,fun h' ea hm=>h pins s1 I1 h' ea vs hm⟩
end
noncomputable abbrev Cx.marked(X:Cx)(e:Value):Cx:={ X with A:=X.A.mark (some e),calm:=false,xe:=fun _ _=>False }
noncomputable abbrev Cx.tried(X:Cx)(pins:List (Addr×Obj))(E:Value->Shared->Prop):Cx:={ X with pn:=X.pn++pins,xe:=E }
section
variable {X:Cx} {pins:List (Addr×Obj)} {σ:St} {H:Hp} {s:Shared} {e:Value} {E:Value->Shared->Prop} {D:qQ} {f:Flow}
theorem Cx.Ok.marked(ok:X.Ok)(e:Value):(X.marked e).Ok :=
 ⟨ok.mod,ok.kind,ok.glob,ok.blt,ok.above,ok.inj,ok.has,ok.cab,(fun z=>by cases z),ok.frames,ok.stk,ok.exf,ok.bs,ok.bsz,ok.noex,ok.exfs,ok.funs,ok.frf⟩
theorem Cx.Ok.tried(ok:X.Ok):(X.tried pins E).Ok :=
 ⟨ok.mod,ok.kind,ok.glob,ok.blt,ok.above,ok.inj,ok.has,ok.cab,ok.hd,ok.frames,ok.stk,ok.exf,ok.bs,ok.bsz,ok.noex,ok.exfs,ok.funs,ok.frf⟩
theorem Inv.marked(I:Inv X pins σ H s)(e:Value):Inv (X.marked e) pins σ H s:=⟨I.ok.marked e,I.os,I.bare,I.base,I.loc,I.cell,I.free,I.freeC,I.pin,I.hok,I.len⟩
theorem Inv.unmarked(ok:X.Ok)(I:Inv (X.marked e) pins σ H s):Inv X pins σ H s:=⟨ok,I.os,I.bare,I.base,I.loc,I.cell,I.free,I.freeC,I.pin,I.hok,I.len⟩
theorem Inv.tried(I:Inv X pins σ H s)(E:Value->Shared->Prop):Inv (X.tried pins E) [] σ H s:=⟨I.ok.tried,I.os,I.bare,I.base,I.loc,I.cell,I.free,I.freeC,fun p hp=>I.pin p (by simpa using hp),I.hok,I.len⟩
theorem Inv.untried{pins':List (Addr×Obj)}(ok:X.Ok)(I:Inv (X.tried pins E) pins' σ H s):Inv X pins σ H s:=⟨ok,I.os,I.bare,I.base,I.loc,I.cell,I.free,I.freeC,fun p hp=>I.pin p (xU _ hp),I.hok,I.len⟩
theorem SP.unmarked(ok:X.Ok)(h:SP (X.marked e) pins D f s):SP X pins D f s:=by
 cases f with
 |next=>obtain⟨σ',H',I,q⟩:=h;exact⟨σ',H',I.unmarked ok,q⟩
 |brk=>obtain⟨σ',H',I,q⟩:=h;exact⟨σ',H',I.unmarked ok,q⟩
 |cont=>obtain⟨σ',H',I,q⟩:=h;exact⟨σ',H',I.unmarked ok,q⟩
 |ret u=>obtain⟨v,σ',H',I,r,q⟩:=h;exact⟨v,σ',H',I.unmarked ok,r,q⟩
theorem SP.untried(ok:X.Ok)(h:SP (X.tried pins E) [] D f s):SP X pins D f s:=by
 cases f with
 |next=>obtain⟨σ',H',I,q⟩:=h;exact⟨σ',H',I.untried ok,q⟩
 |brk=>obtain⟨σ',H',I,q⟩:=h;exact⟨σ',H',I.untried ok,q⟩
 |cont=>obtain⟨σ',H',I,q⟩:=h;exact⟨σ',H',I.untried ok,q⟩
 |ret u=>obtain⟨v,σ',H',I,r,q⟩:=h;exact⟨v,σ',H',I.untried ok,r,q⟩
end
theorem V6{M:Model}{A:Around}{E:Value->Shared->Prop}{h:Heap}{g:Array GenState}{d:Drawn}{t:Nat}{os:OsState}{e:Addr}{oe:Obj}{Q:Bool->Shared->Prop}{b:Bool}{newId newId2:String}
  {nm q:Str} {C N:Addr} {bs bm:List Value} {hdct:Bool} {sn:List Str} {sub:List Value} {ab:Bool} {col:Option Bool} {dd:Option Addr} {k0 k1 k2 k3 k5:Option Value}
  {nm2 q2:Str} {C2 N2:Addr} {bs2 bm2:List Value} {hdct2:Bool} {sn2:List Str} {sub2:List Value} {ab2:Bool} {col2:Option Bool} {dd2:Option Addr} {j0 j1 j2 j3 j5:Option Value}
  (hC:h.get? C=some (excClassObj nm q C N bs bm hdct sn sub ab col dd k0 k1 k2 k3 k5 newId)) (hC2:h.get? C2=some (excClassObj nm2 q2 C2 N2 bs2 bm2 hdct2 sn2 sub2 ab2 col2 dd2 j0 j1 j2 j3 j5 newId2))
  (he:h.get? e=some oe) (hcls:oe.cls=.ref C) (hbase:bm2.contains (.type "BaseException")=true) (hb:(Value.ref C::bm).contains (.ref C2)=b) (hq:Q b ⟨h,g,d,t,os⟩) :
  wpAny M A (excMatches (.ref e) (.ref C2)) Q E ⟨h,g,d,t,os⟩:=by
 have g1:(Value.ref C2::bm2).contains (.type "BaseException")=true:=by rw[List.contains_cons,hbase,Bool.or_true]
 have g2:=tc_notTuple
 unfold excMatches
 cases b with
 |true=>
  repeat (first | (with_reducible refine wpAny_loadPart_at he ?_;rw[hcls]) | with_reducible refine wpAny_loadPart_at hC2 ?_ | (with_reducible refine wpAny_isSubtype_exc hC2 ?_;rw[g1]) | (with_reducible refine wpAny_isSubtype_exc hC ?_;rw[hb]) | wp_step)
  exact hq
 |false=>
  repeat (first | (with_reducible refine wpAny_loadPart_at he ?_;rw[hcls]) | with_reducible refine wpAny_loadPart_at hC2 ?_ | (with_reducible refine wpAny_isSubtype_exc hC2 ?_;rw[g1]) | (with_reducible refine wpAny_isSubtype_exc hC ?_;rw[hb]) | wp_step)
  exact hq
inductive HC where
 |s (z:Str)
 |b (c:Bool)
noncomputable def HC.V:HC->L2.V
 |.s z=>.str z
 |.b c=>.bl c
noncomputable def HC.D:HC->PyData
 |.s z=>.str z
 |.b c=>.bool c
noncomputable def HC.C:HC->Const
 |.s z=>.str z
 |.b c=>.bool c
theorem zhi{X:Cx}{v:HC}{j:Nat}{pos:Pos}:PE X (.Constant v.C j pos) (tC v.V):=by
 cases v with
 |s z=>exact pe_str
 |b c=>exact pe_bl
structure HdK(X:Cx)(hd:ExceptHandler)(C:Addr)(t:Nat)(v:HC):Prop where
 ex:∃ x np y py cj pc pa hp,hd=.ExceptHandler (some (.Name x np)) none [.Assign [.Name y py] (.Constant v.C cj pc) pa] hp/\kL X x C/\X.N[t]?=some y/\Loc X.env.scope y/\(X.fn y=true∨X.env.scope.names.lookup y=some .local)
inductive yM(X:Cx):List ExceptHandler->List (Addr×Nat×HC)->Prop
 |nil:yM X [] []
 |cons {hd:ExceptHandler} {hs:List ExceptHandler} {C:Addr} {t:Nat} {v:HC} {zs:List (Addr×Nat×HC)}:HdK X hd C t v->yM X hs zs->yM X (hd::hs) ((C,t,v)::zs)
noncomputable def wW(K:PySem.W.Frag)(C:Addr):List (Addr×Nat×HC)->Option (Nat×HC)
 |[]=>none
 | (C2,t,v)::r=>if (mroIn K C).contains (.ref C2) then some (t,v) else wW K C r
section
variable {X:Cx} {pins:List (Addr×Obj)} {σ:St} {H:Hp} {s:Shared} {E:Value->Shared->Prop} {D:qQ} {B:Heap} {ea C:Addr} {a0:Value}
theorem wL (hN:X.N.Nodup) (hC0:PySem.W.excIn X.K C bmV "ValueError.__new__" =true) (ok:X.Ok):∀ {hs:List ExceptHandler}{zs:List (Addr×Nat×HC)}{t:Nat}{v:HC},yM X hs zs->wW X.K C zs=some (t,v) ->
  Heap.FlyingW B X.stack ea (.ref C) a0 s.heap->Inv X pins σ H s->(∀ h6,B.StaysIn h6->s.heap.UpToSlots h6->Inv X pins σ H { s with heap:=h6 })->D.nx (σ.set t (some v.V)) H ->
  wpAny (model X.prog X.w) X.A (handleBy (.ref ea) X.env hs) (SP X pins D) E s
 |_,_,_,_,.nil,e,_,_,_,_=>by cases e
 |_,_,t,v,.cons (C:=C2) (t:=t2) (v:=v2) (zs:=zs) (hs:=hs) hk ht,e,hfl,I,hcl,hd=>by
  obtain⟨x,np,y,py,cj,pc,pa,hpz,rfl,k,h1,h2,h3⟩:=hk.ex
  obtain⟨ob,hob,hobc⟩:=hfl.there
  have Im:=I.marked (.ref ea)
  refine wpAny_handleBy_cons (codeAny_handlers_test (j4 (X:=X.marked (.ref ea)) Im k.gl k.mg ?_ k.d)) (by intro q;cases q)
  obtain⟨bm,N,nm,qn,bs,hdct,sn,sub,ab,col,dd,k0,k1,k2,k3,k5,mN,gC,gN,gi,T,gm⟩:=v6 I.kIn hC0
  obtain⟨bm2,N2,nm2,qn2,bs2,hdct2,sn2,sub2,ab2,col2,dd2,j0,j1,j2,j3,j5,mN2,gC2,gN2,gi2,T2,gm2⟩:=v6 I.kIn k.ex
  unfold wW at e
  rw[gm]at e
  refine V6 (h:=s.heap) (g:=s.gens) (d:=s.drawn) (t:=s.toks) (os:=s.os) gC gC2 hob hobc (VU T2) rfl ?_
  cases hb:(Value.ref C::bm).contains (Value.ref C2) with
  |true=>
   rw[hb,if_pos rfl]at e
   cases e
   refine codeAny_handlers_suite (lands_againW hfl fun h6 hfl6 hsm6=>?_)
   have I6:=(hcl h6 hfl6.1 hsm6).marked (.ref ea)
   have w:wpB (X.marked (.ref ea)) [.Assign [.Name y py] (.Constant v.C cj pc) pa] { nx:=D.nx,rt:=D.rt,bk:=D.bk,ct:=D.ct } σ H:=(QR (JQ (X:=X.marked (.ref ea)) hN h1 h2 zhi (by cases v<;>rfl) h3)).wp hd
   refine wpAny_mono (w pins _ I6) (fun fl s2 q=>?_) fun _ _ z=>z.elim
   exact SP.unmarked ok q
  |false=>
   rw[hb,if_neg (by decide)]at e
   exact wL hN hC0 ok ht e hfl I hcl hd
end
section
variable {X:Cx} {pins:List (Addr×Obj)} {σ:St} {H:Hp} {s s':Shared} {D:qQ} {e:Value} {C:Addr}
theorem ze1(u:Up X pins σ H C e s)(ok:X.Ok)(hst:X.stack=X.env::X.outer)(hf:X.env.frame=some X.env.locals)(hN:X.N.Nodup){hs:List ExceptHandler}{zs:List (Addr×Nat×HC)}(hh:yM X hs zs)
  {t:Nat} {v:HC} (hC0:PySem.W.excIn X.K C bmV "ValueError.__new__" =true) (hp:wW X.K C zs=some (t,v)) (hd:D.nx (σ.set t (some v.V)) H) {E':Value->Shared->Prop} :
  wpAny (model X.prog X.w) X.A (noteFrame e X.env) (fun _ s₂=>wpAny (model X.prog X.w) X.A (setFlight e none) (fun _ s₃=>wpAny (model X.prog X.w) X.A (handleBy e X.env hs) (SP X pins D) E' s₃) E' s₂) E' s:=by
 obtain⟨ea,a0,fl,B,rfl,al,inv⟩:=u
 have hfr:X.A.frames=some (X.env::X.outer):=by rw[<- hst];exact ok.frames
 rw[hst]at al
 refine wQ hfr hf al fun h4 al4 up4=>Vr al4 fun h5 al5 up5=>?_
 have up5':=up4.trans up5
 have al6:Heap.FlyingW B X.stack ea (.ref C) a0 h5:=by rw[hst];exact al5
 exact wL hN hC0 ok hh hp al6 (inv h5 al6.1 up5') (fun h6 k1 k2=>inv h6 k1 (up5'.trans k2)) hd
noncomputable def zbT(X:Cx)(pins:List (Addr×Obj))(D:qQ)(hs:List ExceptHandler):Value->Shared->Prop:=fun e s₁=>
 wpAny (model X.prog X.w) X.A (noteFrame e X.env) (fun _ s₂=>wpAny (model X.prog X.w) X.A (setFlight e none) (fun _ s₃=>wpAny (model X.prog X.w) X.A (handleBy e X.env hs) (SP X pins D) X.xe s₃) X.xe s₂) X.xe s₁
theorem zgK{body:List Stmt}{h₀:ExceptHandler}{hs:List ExceptHandler}{pos:Pos}(h:∀ pins,wpB (X.tried pins (zbT X pins D (h₀::hs))) body D σ H):wpS X (.Try body (h₀::hs) [] [] pos) D σ H:=fun pins s I=>by
 refine wpAny_Try_except (wpAny_mono (h pins [] s (I.tried _)) (fun f s1 q=>?_) fun e s1 q=>q)
 have q':=SP.untried I.ok q
 cases f with
 |next=>
  obtain⟨σ',H',I',d⟩:=q'
  have w:wpB X [] D σ' H':=pss_nil.wp d
  exact w pins s1 I'
 |brk=>exact q'
 |cont=>exact q'
 |ret u=>exact q'
theorem zce{CX:CXT}{E:XK}{sp:Sp}{Q:VK}{x:Str}{k:Nat}{e:Expr}{es:List Expr}{p pos:Pos}(kn:Kn X.prog X.w X.K X.mg X.base CX x k sp)(hr:Room k X.A)(hg:Gl X x)
  (hx:∀ pins H s e s',Inv X pins σ H s->CX X.stack H s E e s'->X.xe e s') (h:wpA X (e::es) σ H fun vs H1=>sp vs H1 Q E) (hdb:(x==("__debug__" :Str))=false)
  (he:starEach (e::es) X.env=(false,eval e X.env)::starEach es X.env) (hpl:(backTo pos (starEach es X.env)).any (·.1)=false):wpE X (.Call (.Name x p) (e::es) [] pos) σ H Q:=fun pins s I=>by
 obtain⟨f,fd,ps,F,hm,hk,hb⟩:=kn.ex
 refine wpAny_Call_Name_kw (j4 I hg hm ?_ hdb)
 refine PySem.W.callWith_K (h₀:=X.base) I.ok.mod.kin hk (thn (h pos pins s I) fun us s1 ⟨vs,H1,I1,r,q⟩=>⟨I1.kIn,?_⟩) he hpl
 have hl:us.length=ps.length:=by rw[<- r.length];exact F.len _ _ _ _ q
 have hb':=hb s1 us I1.kIn (by simpa using hl)
 rw[xN]at hb'
 refine wpAny_call (codeAny_mono (F.run X.A X.stack s1 H1 ⟨us,[]⟩ us vs Q E hr I1.env0 hb' r q) fun r s' hq=>?_)
 cases r with
 |error e=>exact hx pins H1 s1 e s' I1 hq
 |ok fl=>
  cases fl with
  |ret u=>exact I1.after hq
  |next=>exact False.elim hq
  |brk=>exact False.elim hq
  |cont=>exact False.elim hq
theorem K0{CX:CXT}{E:XK}{sp:Sp}{Q:VK}{x:Str}{k:Nat}{p pos:Pos}(kn:Kn X.prog X.w X.K X.mg X.base CX x k sp)(hr:Room k X.A)(hg:Gl X x)
  (hx:∀ pins H s e s',Inv X pins σ H s->CX X.stack H s E e s'->X.xe e s') (h:sp [] H Q E) (hdb:(x==("__debug__" :Str))=false):wpE X (.Call (.Name x p) [] [] pos) σ H Q:=fun pins s I=>by
 obtain⟨f,fd,ps,F,hm,hk,hb⟩:=kn.ex
 refine wpAny_Call_Name_kw (j4 I hg hm ?_ hdb)
 refine PySem.W.callWith_K0 I.kIn hk ?_
 have hl:([]:List Value).length=ps.length:=F.len _ _ _ _ h
 have hb':=hb s [] I.kIn (by simpa using hl)
 rw[xN]at hb'
 refine wpAny_call (codeAny_mono (F.run X.A X.stack s H ⟨[],[]⟩ [] [] Q E hr I.env0 hb' .nil h) fun r s' hq=>?_)
 cases r with
 |error e=>exact hx pins H s e s' I hq
 |ok fl=>
  cases fl with
  |ret u=>exact I.after hq
  |next=>exact False.elim hq
  |brk=>exact False.elim hq
  |cont=>exact False.elim hq
end
section
variable {P:Program} {w:World} {K:PySem.W.Frag} {mg:Str->Option Value} {base:Heap} {x:Str} {st:Stmt} {N ps:List Str} {k:Nat}
end
section
variable {prog:Program} {w:World} {A:Around} {E:Value->Shared->Prop} {s:Shared}
theorem zbN{l:Addr}{x:Value}{xs:List Value}{Q:List Value->Shared->Prop}(hl:s.heap.IsList l (x::xs).toArray)(hh:A.handled=none)(hz:(x::xs).length<=sizeLine)
  (k:∀ (h2:Heap) (tk:Nat),(∀ b o,s.heap.get? b=some o->h2.get? b=some o)->Q [x,.ref h2.objs.size] { s with heap:=h2.push { cls:=.type "list",data:=.seq xs.toArray },toks:=tk }) :
  wpAny (model prog w) A (unpackItems (.ref l) 2 (some 1)) Q E s:=by
 obtain⟨ol,hol,hcl,hdl⟩:=id hl
 have hlt:=Heap.lt_size hol
 have hne:l≠s.heap.objs.size:=xl hlt
 unfold unpackItems notIterableAtAll
 refine wpAny_bind (wpAny_bind (wpAny_specialOf hl.typeIs PySem.F.slot_list_iter.lookup (wpAny_pure ?_)))
 simp only[xw,if_false]
 refine wpAny_bind (wpAny_holding (wpAny_pyIter_list hl ?_))
 refine wpAny_bind (wpAny_holding (PySem.W.kun_draw hne 1 0 _ _ ⟨_,Heap.get?_push_size _ rfl,rfl,rfl⟩ (hl.push _) (by simp) fun h1 it1 sb1=>?_))
 have hl1:h1.IsList l (x::xs).toArray:=(hl.push _).extBut sb1.extBut hne
 obtain⟨oi,hoi,_⟩:=id it1
 obtain⟨o1,ho1,_⟩:=id hl1
 have hfst:(((x::xs).toArray.toList.drop 0).take 1)= [x]:=rfl
 rw[hfst]
 rw[if_neg (show ¬ ([x].length<1) by simp)]
 refine wpAny_bind (wpAny_holding (PySem.W.kun_collect (s:={ s with heap:=h1 }) (T:= "list_iterator") (.inr (.inr (.inl rfl))) (Walks.list (A:=A.in1) hh s.heap.objs.size l hne (x::xs).toArray) (fun j u st=>st.1.typeIs) (k:=1) (by simp) ⟨it1,hl1⟩ (Heap.lt_size hoi) (Heap.lt_size ho1) (fun h2 tk hk=>?_) (by simpa using hz)))
 have hdr:(x::xs).toArray.toList.drop 1=xs:=rfl
 rw[hdr]
 show wpAny _ _ (if xs.length<2-1-1 then _ else _) _ _ _
 rw[if_neg (by omega)]
 have keep:∀ b o,s.heap.get? b=some o->h2.get? b=some o:=fun b o e=>by
  have hb:b≠s.heap.objs.size:=xl (Heap.lt_size e)
  exact hk b o hb (sb1.extBut b o hb (Heap.get?_push_of_some _ e))
 show wpAny _ _ (newList (xs.take (xs.length-(2-1-1))) >>= fun d=>pure ([x]++ [d]++xs.drop (xs.length-(2-1-1)))) _ _ _
 have h0:xs.length-(2-1-1)=xs.length:=by omega
 rw[h0,List.take_length,uC]
 refine wpAny_bind (wpAny_newList (s:={ s with heap:=h2,toks:=tk }) (wpAny_pure ?_) (by simp at hz;omega))
 exact k h2 tk keep
theorem KG{l:Addr}{x:Value}{xs:List Value}{Q:List Value->Shared->Prop}(hl:IsTup s.heap l (x::xs).toArray)(hh:A.handled=none)(hz:(x::xs).length<=sizeLine)
  (k:∀ (h2:Heap) (tk:Nat),(∀ b o,s.heap.get? b=some o->h2.get? b=some o)->Q [x,.ref h2.objs.size] { s with heap:=h2.push { cls:=.type "list",data:=.seq xs.toArray },toks:=tk }) :
  wpAny (model prog w) A (unpackItems (.ref l) 2 (some 1)) Q E s:=by
 obtain⟨ol,hol,_⟩:=id hl
 have hlt:=Heap.lt_size hol
 have hne:l≠s.heap.objs.size:=xl hlt
 unfold unpackItems notIterableAtAll
 refine wpAny_bind (wpAny_bind (wpAny_specialOf hl.typeIs PySem.F.slot_tuple_iter.lookup (wpAny_pure ?_)))
 simp only[xw,if_false]
 refine wpAny_bind (wpAny_holding (iter_tuple hl ?_))
 refine wpAny_bind (wpAny_holding (draw_tuple hne 1 0 _ _ ⟨_,Heap.get?_push_size _ rfl,rfl,rfl⟩ (hl.push _) (by simp) fun h1 it1 sb1=>?_))
 have hl1:IsTup h1 l (x::xs).toArray:=(hl.push _).extBut sb1.extBut hne
 obtain⟨oi,hoi,_⟩:=id it1
 obtain⟨o1,ho1,_⟩:=id hl1
 have hfst:(((x::xs).toArray.toList.drop 0).take 1)= [x]:=rfl
 rw[hfst]
 rw[if_neg (show ¬ ([x].length<1) by simp)]
 refine wpAny_bind (wpAny_holding (PySem.W.kun_collect (s:={ s with heap:=h1 }) (T:= "tuple_iterator") (.inr (.inr (.inr rfl))) (Walks.tuple (A:=A.in1) hh s.heap.objs.size l hne (x::xs).toArray) (fun j u st=>st.1.typeIs) (k:=1) (by simp) ⟨it1,hl1⟩ (Heap.lt_size hoi) (Heap.lt_size ho1) (fun h2 tk hk=>?_) (by simpa using hz)))
 have hdr:(x::xs).toArray.toList.drop 1=xs:=rfl
 rw[hdr]
 show wpAny _ _ (if xs.length<2-1-1 then _ else _) _ _ _
 rw[if_neg (by omega)]
 have keep:∀ b o,s.heap.get? b=some o->h2.get? b=some o:=fun b o e=>by
  have hb:b≠s.heap.objs.size:=xl (Heap.lt_size e)
  exact hk b o hb (sb1.extBut b o hb (Heap.get?_push_of_some _ e))
 show wpAny _ _ (newList (xs.take (xs.length-(2-1-1))) >>= fun d=>pure ([x]++ [d]++xs.drop (xs.length-(2-1-1)))) _ _ _
 have h0:xs.length-(2-1-1)=xs.length:=by omega
 rw[h0,List.take_length,uC]
 refine wpAny_bind (wpAny_newList (s:={ s with heap:=h2,toks:=tk }) (wpAny_pure ?_) (by simp at hz;omega))
 exact k h2 tk keep
end
section
variable {M:Model} {A:Around} {E:Value->Shared->Prop} {s:Shared}
end
section
variable {X:Cx}
noncomputable def zep(K:PySem.W.Frag)(i j:Nat):TG:=fun v σ H Q=>∃ l y ys,v=.ref l/\(SqL K H l (y::ys)∨SqT K H l (y::ys))/\∀ p,H p=none->Q ((σ.set i (some y)).set j (some (.ref p))) (upd H p (.lst ys))
theorem zdc{i j:Nat}{x y:Str}{k:Nat}{px py ps pos:Pos}(hc:X.calm=true)(hN:X.N.Nodup)(hi:X.N[i]?=some x)(hx:Loc X.env.scope x)(hfx:X.fn x=true∨X.env.scope.names.lookup x=some .local)(hj:X.N[j]?=some y)(hy:Loc X.env.scope y)(hfy:X.fn y=true∨X.env.scope.names.lookup y=some .local) :
  PG X (.Tuple [.Name x px,.Starred (.Name y py) ps] k pos) (zep X.K i j):=by
 intro pins s σ H v u Q I r h
 obtain⟨l,z,zs,rfl,hq,q⟩:=h
 cases r
 have fin:∀ {w:Value} {ws:List Value} {h2:Heap} {tk:Nat},RelV z w->Vals zs ws->zs.length+1<=sizeLine->(∀ b o,s.heap.get? b=some o->h2.get? b=some o)->wpAny (model X.prog X.w) X.A (assignInOrder ((assignEach [.Name x px,.Starred (.Name y py) ps] X.env).map (·.2)) [w,.ref h2.objs.size]) (fun _ s'=>∃ σ' H',Inv X pins σ' H' s'/\Q σ' H') X.xe { s with heap:=h2.push { cls:=.type "list",data:=.seq ws.toArray },toks:=tk }:=fun {w ws h2 tk} r1 r2 hz keep=>by
  have I2:Inv X pins σ H { s with heap:=h2,toks:=tk }:=I.kept (t':=tk) keep
  have I3:=I2.lnew (t':=tk) r2 (by omega)
  refine assignInOrder_cons (wpAny_assign_Name (QY I3 hN hi hx r1 (fun s4 I4=>?_) hfx))
  refine assignInOrder_cons (wpAny_assign_Name (QY (v:=.ref h2.objs.size) I4 hN hj hy rfl (fun s5 I5=>?_) hfy))
  exact assignInOrder_nil ⟨_,_,I5,q _ I2.fresh⟩
 rw[assign_Tuple]
 refine wpAny_bind (wpAny_standAt ?_)
 unfold unpack
 rcases hq with hq | hq
 ·obtain⟨its,rv,pl,hz⟩:=I.list hq
  cases rv with
  |cons r1 r2=>
   rename_i w ws
   exact wpAny_bind (wpAny_holding (zbN (x:=w) (xs:=ws) pl.isList (I.ok.hd hc) (by have:=r2.length;simp at hz |-;omega) fun h2 tk keep=>fin r1 r2 (by simpa using hz) keep))
 ·obtain⟨its,rv,pl,hz⟩:=I.tuple hq
  cases rv with
  |cons r1 r2=>
   rename_i w ws
   exact wpAny_bind (wpAny_holding (KG (x:=w) (xs:=ws) pl (I.ok.hd hc) (by have:=r2.length;simp at hz |-;omega) fun h2 tk keep=>fin r1 r2 (by simpa using hz) keep))
noncomputable def zg3(K:PySem.W.Frag)(n:Nat)(t:TGs):TG:=fun v σ H Q=>∃ a xs,v=.ref a/\SqL K H a xs/\xs.length=n/\t xs σ H Q
theorem zdd{es:List Expr}{k:Nat}{t:TGs}{n:Nat}{pos:Pos}(hc:X.calm=true)(h:PGs X es t)(hn:(assignEach es X.env).length=n)(hst:(assignEach es X.env).findIdx? (·.1)=none):PG X (.Tuple es k pos) (zg3 X.K n t):=by
 intro pins s σ H v u Q I r hw
 obtain⟨a,xs,e1,hq,hl,hw⟩:=hw
 subst e1
 cases r
 obtain⟨its,rv,pl,hz⟩:=I.list hq
 rw[assign_Tuple]
 refine wpAny_bind (wpAny_standAt ?_)
 unfold unpack
 have hsz:(assignEach es X.env).length=its.toArray.size:=by rw[hn,<- hl,rv.length,xo]
 rw[hst,hsz]
 refine wpAny_bind (wpAny_holding (PySem.W.kun_itemsOf (I.ok.hd hc) pl.isList fun h' hx=>?_))
 have I1:Inv X pins σ H { s with heap:=h' }:=I.kept (t':=s.toks) fun b o e=>hx b o (xl (Heap.lt_size e)) e
 exact h pins _ σ H xs _ Q I1 (by simpa using rv) hw
end
end L2
namespace L3
open PySem PySem.Spec PyProof.Rows L2
inductive OV where
 |d (x:PyData)
 |l (xs:List OV)
 |t (xs:List OV)
 |m (kvs:List (Str×PyData))
 |o (c:Str) (ns:List Str) (xs:List OV)
noncomputable abbrev Gv:=List (Option OV)
mutual
noncomputable def OV.view:OV->PyData
 |.d x=>x
 |.l xs=>.list (OV.views xs)
 |.t xs=>.tuple (OV.views xs)
 |.m kvs=>.dict (kvs.map dK)
 |.o c ns xs=>.dict ((.none,.str c)::(ns.zip (OV.views xs)).map dK)
noncomputable def OV.views:List OV->List PyData
 |[]=> []
 |x::xs=>x.view::OV.views xs
end
theorem OV.views_d(xs:List PyData):OV.views (xs.map .d)=xs:=by
 induction xs with
 |nil=>rfl
 |cons x xs ih=>simp[OV.views,OV.view,ih]
theorem OV.views_map(xs:List OV):OV.views xs=xs.map OV.view:=by
 induction xs with
 |nil=>rfl
 |cons x xs ih=>simp[OV.views,ih]
variable [Cs]
mutual
/-- v stands for the value;its own lists lie at A -/
inductive OR(M:Addr->Prop)(H:Hp):V->OV->List Addr->Prop
 |d {v:V} {x:PyData}:Rep M H v x->OR M H v (.d x) []
 |l {a:Addr} {vs:List V} {xs:List OV} {A:List Addr}:H a=some (.lst vs)->ORL M H vs xs A->OR M H (.ref a) (.l xs) (a::A)
 |t {a:Addr} {vs:List V} {xs:List OV} {A:List Addr}:H a=some (.tup vs)->ORL M H vs xs A->OR M H (.ref a) (.t xs) A
 |m {a:Addr} {kvs:List (Str×V)} {ds:List (Str×PyData)}:H a=some (.dK (kvs.map kK))->kvs.map (·.1)=ds.map (·.1)->RepL M H (kvs.map (·.2)) (ds.map (·.2))->OR M H (.ref a) (.m ds) [a]
 |o {a dx:Addr} {c:Str} {fs:List (Str×V)} {ns:List Str} {xs:List OV} {A:List Addr}:H a=some (.ins (Cs.adr c) dx fs)->fs.map (·.1)=ns->ORL M H (fs.map (·.2)) xs A->OR M H (.ref a) (.o c ns xs) (a::A)
inductive ORL(M:Addr->Prop)(H:Hp):List V->List OV->List Addr->Prop
 |nil:ORL M H [] [] []
 |cons {v:V} {vs:List V} {x:OV} {xs:List OV} {A B:List Addr}:OR M H v x A->ORL M H vs xs B->ORL M H (v::vs) (x::xs) (A++B)
end
noncomputable abbrev zw:Addr->Prop:=fun _=>False
theorem QW{M M':Addr->Prop}{H H':Hp}(hr:∀ v d,Rep M H v d->Rep M' H' v d):∀ {vs:List V}{ds:List PyData},RepL M H vs ds->RepL M' H' vs ds
 |_,_,.nil=>.nil
 |_,_,.cons r t=>.cons (hr _ _ r) (QW hr t)
theorem OV.views_len(xs:List OV):(OV.views xs).length=xs.length:=by rw[OV.views_map,xt]
theorem ORL.length{M:Addr->Prop}{H:Hp}:∀ {vs:List V}{os:List OV}{A:List Addr},ORL M H vs os A->vs.length=os.length
 |_,_,_,.nil=>rfl
 |_,_,_,.cons _ t=>by rw[xk,xk,ORL.length t]
theorem zee{α β:Type}:∀ {ns:List α}{xs:List β},ns.length=xs.length->(ns.zip xs).map (·.1)=ns:=fun {ns xs} h=>by rw[List.map_fst_zip (Nat.le_of_eq h)]
theorem zef{α β:Type}:∀ {ns:List α}{xs:List β},ns.length=xs.length->(ns.zip xs).map (·.2)=xs:=fun {ns xs} h=>by rw[List.map_snd_zip (Nat.le_of_eq h.symm)]
mutual
theorem OR.go{M M':Addr->Prop}{H H':Hp}(hr:∀ v d,Rep M H v d->Rep M' H' v d)(ht:∀ b xs,H b=some (.tup xs)->H' b=some (.tup xs)):∀ {v:V}{o:OV}{A:List Addr},(∀ a∈A,H' a=H a)->OR M H v o A->OR M' H' v o A
 |_,_,_,_,.d r=>.d (hr _ _ r)
 |_,_,_,h,.l e r=>.l (by rw[h _ xp];exact e) (ORL.go hr ht (fun a ha=>h a (xj _ ha)) r)
 |_,_,_,h,.t e r=>.t (ht _ _ e) (ORL.go hr ht h r)
 |_,_,_,h,.m e k r=>.m (by rw[h _ xp];exact e) k (QW hr r)
 |_,_,_,h,.o e k r=>.o (by rw[h _ xp];exact e) k (ORL.go hr ht (fun a ha=>h a (xj _ ha)) r)
theorem ORL.go{M M':Addr->Prop}{H H':Hp}(hr:∀ v d,Rep M H v d->Rep M' H' v d)(ht:∀ b xs,H b=some (.tup xs)->H' b=some (.tup xs)):∀ {v:List V}{o:List OV}{A:List Addr},(∀ a∈A,H' a=H a)->ORL M H v o A->ORL M' H' v o A
 |_,_,_,_,.nil=>.nil
 |_,_,_,h,.cons r t=>   .cons (OR.go hr ht (fun a ha=>h a (xU _ ha)) r) (ORL.go hr ht (fun a ha=>h a (xv _ ha)) t)
end
mutual
/-- given up: it is data from now on -/
theorem OR.rep{M M':Addr->Prop}{H:Hp}(hm:∀ b,M' b->M b):∀ {v:V}{o:OV}{A:List Addr},(∀ a∈A,¬ M' a)->OR M H v o A->Rep M' H v o.view
 |_,_,_,_,.d r=>r.less fun b hb _=>hm b hb
 |_,_,_,h,.l e r=>.list e (h _ xp) (ORL.rep hm (fun a ha=>h a (xj _ ha)) r)
 |_,_,_,h,.t e r=>.tuple e (ORL.rep hm h r)
 |_,_,_,h,.m e k r=>.dict (.inl e) (h _ xp) k (QW (fun _ _ x=>x.less fun b hb _=>hm b hb) r)
 |_,_,_,h,.o (fs:=fs) (ns:=ns) (xs:=xs) e k r=>by
  have hl:ns.length=(OV.views xs).length:=by rw[OV.views_len,<- r.length,<- k,xt,xt]
  refine .inst e (h _ xp) (by rw[zee hl];exact k) ?_
  rw[zef hl]
  exact ORL.rep hm (fun a ha=>h a (xj _ ha)) r
theorem ORL.rep{M M':Addr->Prop}{H:Hp}(hm:∀ b,M' b->M b):∀ {v:List V}{o:List OV}{A:List Addr},(∀ a∈A,¬ M' a)->ORL M H v o A->RepL M' H v (OV.views o)
 |_,_,_,_,.nil=>.nil
 |_,_,_,h,.cons r t=>.cons (OR.rep hm (fun a ha=>h a (xU _ ha)) r) (ORL.rep hm (fun a ha=>h a (xv _ ha)) t)
end
theorem OR.weak{M:Addr->Prop}{H:Hp}{v:V}{o:OV}{A:List Addr}(r:OR M H v o A):Rep zw H v o.view:=r.rep (fun _ h=>h.elim) fun _ _ h=>h
mutual
theorem OR.laid{M:Addr->Prop}{H:Hp}:∀ {v:V}{o:OV}{A:List Addr},OR M H v o A->∀ a∈A,∃ vs,H a=some vs
 |_,_,_,.d _,a,h=>by cases h
 |_,_,_,.l e r,a,h=>by
  rcases xu.mp h with rfl | h
  ·exact⟨_,e⟩
  ·exact ORL.laid r a h
 |_,_,_,.t e r,a,h=>ORL.laid r a h
 |_,_,_,.m e k r,a,h=>by
  rcases xu.mp h with rfl | h
  ·exact⟨_,e⟩
  ·cases h
 |_,_,_,.o e k r,a,h=>by
  rcases xu.mp h with rfl | h
  ·exact⟨_,e⟩
  ·exact ORL.laid r a h
theorem ORL.laid{M:Addr->Prop}{H:Hp}:∀ {v:List V}{o:List OV}{A:List Addr},ORL M H v o A->∀ a∈A,∃ vs,H a=some vs
 |_,_,_,.nil,a,h=>by cases h
 |_,_,_,.cons r t,a,h=>by
  rcases xE.mp h with h | h
  ·exact OR.laid r a h
  ·exact ORL.laid t a h
end
theorem ORL.data{M:Addr->Prop}{H:Hp}:∀ {vs:List V}{ds:List PyData},RepL M H vs ds->ORL M H vs (ds.map .d) []
 |_,_,.nil=>.nil
 |_,_,.cons r t=>.cons (A:= []) (.d r) (ORL.data t)
noncomputable abbrev Fp:=Nat->List Addr
noncomputable def zH(F:Fp)(i:Nat)(A:List Addr):Fp:=fun j=>if j=i then A else F j
theorem ze{F:Fp}{i:Nat}{A:List Addr}:zH F i A i=A:=by unfold zH;rw[if_pos rfl]
theorem zi{F:Fp}{i j:Nat}{A:List Addr}(h:j≠i):zH F i A j=F j:=by unfold zH;rw[if_neg h]
noncomputable def MM(M0:Addr->Prop)(F:Fp):Addr->Prop:=fun a=>M0 a∨∃ i,a∈F i
noncomputable abbrev Nu:=List (Option V)
structure RS(M0:Addr->Prop)(F:Fp)(Γ:Gv)(ν:Nu)(H:Hp):Prop where
 al0:∀ a,M0 a->H a≠none
 dis0:∀ i a,a∈F i->¬ M0 a
 nd:∀ i,(F i).Nodup
 dis:∀ i j a,a∈F i->a∈F j->i=j
 at':∀ i o,Γ[i]?=some (some o)->∃ v,ν[i]?=some (some v)/\OR (MM M0 F) H v o (F i)
 emp:∀ i,(∀ o,Γ[i]?≠some (some o))->F i= []
 len:ν.length=Γ.length
structure Stp(F:Fp)(H:Hp)(F':Fp)(H':Hp):Prop where
 keep:∀ b o,H b=some o->(∀ i,b∉F i)->H' b=some o/\∀ i,b∉F' i
 tups:∀ b xs,H b=some (.tup xs)->H' b=some (.tup xs)
 stay:∀ b,H b≠none->H' b≠none
theorem Stp.refl(F:Fp)(H:Hp):Stp F H F H:=⟨fun _ _ e n=>⟨e,n⟩,fun _ _ e=>e,fun _ h=>h⟩
theorem Stp.trans{F F1 F2:Fp}{H H1 H2:Hp}(a:Stp F H F1 H1)(b:Stp F1 H1 F2 H2):Stp F H F2 H2 :=
 ⟨fun c o e n=>let ⟨e1,n1⟩:=a.keep c o e n;b.keep c o e1 n1,fun c xs e=>b.tups c xs (a.tups c xs e),fun c h=>b.stay c (a.stay c h)⟩
theorem Stp.same{F:Fp}{H H':Hp}(s:Same H H'):Stp F H F H':=⟨fun b o e n=>⟨s b o e,n⟩,fun b xs e=>s b _ e,fun b h=>by
 cases q:H b with
 |none=>exact absurd q h
 |some o=>rw[s b o q];exact fun z=>nomatch z⟩
section
variable {M0:Addr->Prop} {F F':Fp} {Γ Γ':Gv} {ν ν':Nu} {H H':Hp}
theorem RS.laidF(r:RS M0 F Γ ν H){i:Nat}{a:Addr}(h:a∈F i):∃ vs,H a=some vs:=by
 by_cases q:∃ o,Γ[i]?=some (some o)
 ·obtain⟨o,q⟩:=q
  obtain⟨v,_,z⟩:=r.at' i o q
  exact z.laid a h
 ·rw[r.emp i fun o e=>q ⟨o,e⟩]at h;cases h
theorem RS.al(r:RS M0 F Γ ν H):Al (MM M0 F) H:=fun a h=>by
 rcases h with h | ⟨i,h⟩
 ·exact r.al0 a h
 ·obtain⟨vs,e⟩:=r.laidF h
  rw[e];exact fun z=>nomatch z
mutual
/-- data goes through a step -/
theorem zr(s:Stp F H F' H')(h0:∀ a,M0 a->H a≠none):∀ {v:V}{d:PyData},Rep (MM M0 F) H v d->Rep (MM M0 F') H' v d
 |_,_,.none=>.none
 |_,_,.bool b=>.bool b
 |_,_,.int i=>.int i
 |_,_,.str x=>.str x
 |_,_,.list (a:=a) e n q=>by
  have hn:∀ i,a∉F i:=fun i h=>n (.inr ⟨i,h⟩)
  obtain⟨e',n'⟩:=s.keep a _ e hn
  refine .list e' ?_ (qP s h0 q)
  rintro (h | ⟨i,h⟩)
  ·exact n (.inl h)
  ·exact n' i h
 |_,_,.tuple e q=>.tuple (s.tups _ _ e) (qP s h0 q)
 |_,_,.dict (a:=a) e n k q=>by
  have hn:∀ i,a∉F i:=fun i h=>n (.inr ⟨i,h⟩)
  have:∃ o,H a=some o:=by rcases e with e | ⟨o,e⟩<;>exact⟨_,e⟩
  obtain⟨o,eo⟩:=this
  obtain⟨_,n'⟩:=s.keep a _ eo hn
  refine .dict (e.imp (fun z=>(s.keep a _ z hn).1) fun ⟨o,z⟩=>⟨o,(s.keep a _ z hn).1⟩) ?_ k (qP s h0 q)
  rintro (h | ⟨i,h⟩)
  ·exact n (.inl h)
  ·exact n' i h
 |_,_,.inst (a:=a) e n k q=>by
  obtain⟨e',n'⟩:=s.keep a _ e fun i h=>n (.inr ⟨i,h⟩)
  refine .inst e' ?_ k (qP s h0 q)
  rintro (h | ⟨i,h⟩)
  ·exact n (.inl h)
  ·exact n' i h
theorem qP(s:Stp F H F' H')(h0:∀ a,M0 a->H a≠none):∀ {vs:List V}{ds:List PyData},RepL (MM M0 F) H vs ds->RepL (MM M0 F') H' vs ds
 |_,_,.nil=>.nil
 |_,_,.cons r t=>.cons (zr s h0 r) (qP s h0 t)
end
theorem RS.same(r:RS M0 F Γ ν H)(s:Same H H'):RS M0 F Γ ν H' where
 al0 a h:=by
  have:=r.al0 a h
  cases q:H a with
  |none=>exact absurd q this
  |some o=>rw[s a o q];exact fun z=>nomatch z
 dis0:=r.dis0
 nd:=r.nd
 dis:=r.dis
 at' i o e:=by
  obtain⟨v,e1,q⟩:=r.at' i o e
  exact⟨v,e1,q.go (fun v d x=>x.grow s.grow) (fun b xs e=>s b _ e) fun a ha=>by
   obtain⟨vs,z⟩:=q.laid a ha
   rw[z,s a _ z]⟩
 emp:=r.emp
 len:=r.len
theorem RS.put{i:Nat}{o:OV}{v:V}{A:List Addr}(r:RS M0 F Γ ν H)(s:Stp F H (zH F i A) H')(hF:∀ j,j≠i->∀ a∈F j,H' a=H a)
  (hm:∀ a,M0 a->H' a≠none) (hA0:∀ a∈A,¬ M0 a) (hAn:A.Nodup) (hAd:∀ j,j≠i->∀ a∈A,a∉F j) (hi:i<Γ.length)
  (q:OR (MM M0 (zH F i A)) H' v o A):RS M0 (zH F i A) (Γ.set i (some o)) (ν.set i (some v)) H' where
 al0:=hm
 dis0 j a h:=by
  by_cases hj:j=i
  ·subst hj;rw[ze]at h;exact hA0 a h
  ·rw[zi hj]at h;exact r.dis0 j a h
 nd j:=by
  by_cases hj:j=i
  ·subst hj;rw[ze];exact hAn
  ·rw[zi hj];exact r.nd j
 dis j k a h1 h2:=by
  by_cases hj:j=i
  ·by_cases hk:k=i
   ·rw[hj,hk]
   ·subst hj;rw[ze]at h1;rw[zi hk]at h2;exact absurd h2 (hAd k hk a h1)
  ·by_cases hk:k=i
   ·subst hk;rw[ze]at h2;rw[zi hj]at h1;exact absurd h1 (hAd j hj a h2)
   ·rw[zi hj]at h1;rw[zi hk]at h2;exact r.dis j k a h1 h2
 at' j p e:=by
  by_cases hj:j=i
  ·subst hj
   rw[xh hi]at e
   cases e
   refine⟨v,by rw[xh (by rw[r.len];exact hi)],?_⟩
   rw[ze];exact q
  ·rw[xg (Ne.symm hj)]at e |-
   obtain⟨u,e1,z⟩:=r.at' j p e
   refine⟨u,e1,?_⟩
   rw[zi hj]
   exact z.go (fun v d x=>zr s r.al0 x) s.tups (hF j hj)
 emp j h:=by
  by_cases hj:j=i
  ·subst hj
   rw[xh hi]at h
   exact absurd rfl (h o)
  ·rw[zi hj]
   refine r.emp j fun p e=>h p ?_
   rw[xg (Ne.symm hj)];exact e
 len:=by rw[xL,xL];exact r.len
theorem RS.setD{i:Nat}{d:PyData}{v:V}(r:RS M0 F Γ ν H)(q:Rep (MM M0 F) H v d)(hi:i<Γ.length):∃ F',RS M0 F' (Γ.set i (some (.d d))) (ν.set i (some v)) H/\Stp F H F' H:=by
 have s:Stp F H (zH F i []) H:=⟨fun b o e n=>⟨e,fun j=>by
  by_cases hj:j=i
  ·subst hj;rw[ze];exact fun z=>nomatch z
  ·rw[zi hj];exact n j⟩,fun _ _ e=>e,fun _ h=>h⟩
 exact⟨_,r.put s (fun _ _ _ _=>rfl) r.al0 (fun _ h=>nomatch h) .nil (fun _ _ _ h=>nomatch h) hi (.d (zr s r.al0 q)),s⟩
noncomputable def wG(F:Fp)(n:Nat):Fp:=fun j=>if j<n then F j else []
theorem v9{n j:Nat}(h:j<n):wG F n j=F j:=by unfold wG;rw[if_pos h]
theorem YJ{n j:Nat}(h:¬ j<n):wG F n j= []:=by unfold wG;rw[if_neg h]
theorem jb{n j:Nat}{a:Addr}(h:a∈wG F n j):j<n/\a∈F j:=by
 unfold wG at h
 split at h
 ·exact⟨by assumption,h⟩
 ·cases h
theorem ZV(h:∀ j a,a∈F' j->∃ k,a∈F k):Stp F H F' H:=⟨fun b o e n=>⟨e,fun j hj=>let ⟨k,hk⟩:=h j b hj;n k hk⟩,fun _ _ e=>e,fun _ h=>h⟩
theorem RS.cut(r:RS M0 F Γ ν H)(n:Nat):RS M0 (wG F n) (Γ.take n) (ν.take n) H/\Stp F H (wG F n) H:=by
 have s:Stp F H (wG F n) H:=ZV fun j a h=>⟨j,(jb h).2⟩
 refine⟨⟨r.al0,fun j a h=>r.dis0 j a (jb h).2,fun j=>?_,fun j k a h1 h2=>r.dis j k a (jb h1).2 (jb h2).2,fun j o e=>?_,fun j h=>?_,?_⟩,s⟩
 ·by_cases hj:j<n
  ·rw[v9 hj];exact r.nd j
  ·rw[YJ hj];exact .nil
 ·have hj:j<n:=by
   by_cases hj:j<n
   ·exact hj
   ·rw[xz (by rw[xJ];omega)]at e;cases e
  rw[xM hj]at e |-
  obtain⟨v,e1,q⟩:=r.at' j o e
  exact⟨v,e1,by rw[v9 hj];exact q.go (fun _ _ x=>zr s r.al0 x) s.tups fun _ _=>rfl⟩
 ·by_cases hj:j<n
  ·rw[v9 hj]
   refine r.emp j fun o e=>h o ?_
   rw[xM hj];exact e
  ·exact YJ hj
 ·rw[xJ,xJ,r.len]
theorem RS.ext(r:RS M0 F Γ ν H)(k:Nat):RS M0 F (Γ++List.replicate k none) (ν++List.replicate k none) H:=by
 have get:∀ {α:Type} (l:List (Option α)) (j:Nat) (o:α),(l++List.replicate k none)[j]?=some (some o)->l[j]?=some (some o):=fun {α} l j o e=>by
  by_cases hj:j<l.length
  ·rw[xc hj]at e;exact e
  ·rw[xf (by omega),xK]at e
   split at e<;>cases e
 have put:∀ {α:Type} (l:List (Option α)) (j:Nat) (o:α),l[j]?=some (some o)->(l++List.replicate k none)[j]?=some (some o):=fun {α} l j o e=>by
  rw[xc (xb.mp e).1];exact e
 exact⟨r.al0,r.dis0,r.nd,r.dis,fun j o e=>let ⟨v,e1,q⟩:=r.at' j o (get _ _ _ e);⟨v,put _ _ _ e1,q⟩,fun j h=>r.emp j fun o e=>h o (put _ _ _ e),by simp[r.len]⟩
theorem jO{α:Type}(l:List (Option α))(x:α):(l++List.replicate 1 none).set l.length (some x)=l++ [some x]:=by
 rw[List.set_append_right _ _ (xi _)];simp
theorem RS.newO{p:Addr}{vs:List V}{ds:List PyData}(r:RS M0 F Γ ν H)(n:H p=none)(q:RepL (MM M0 F) H vs ds) :
  RS M0 (zH F Γ.length [p]) (Γ++ [some (.l (ds.map .d))]) (ν++ [some (.ref p)]) (upd H p (.lst vs))/\Stp F H (zH F Γ.length [p]) (upd H p (.lst vs)):=by
 have hp:∀ i,p∉F i:=fun i h=>by
  obtain⟨vs,e⟩:=r.laidF h
  rw[n]at e;cases e
 have he:F Γ.length= []:=r.emp _ fun o e=>by
  rw[xz (xi _)]at e;cases e
 have s:Stp F H (zH F Γ.length [p]) (upd H p (.lst vs)):=⟨fun b o e nb=>⟨zv n b o e,fun j h=>by
  by_cases hj:j=Γ.length
  ·subst hj;rw[ze]at h
   have e':b=p:=by simpa using h
   subst e';rw[n]at e;cases e
  ·rw[zi hj]at h;exact nb j h⟩,fun b xs e=>zv n b _ e,fun b h=>by
   by_cases e:b=p
   ·subst e;exact absurd n h
   ·rw[zd e];exact h⟩
 have r1:=(r.ext 1).put (i:=Γ.length) (o:=.l (ds.map .d)) (v:=.ref p) (A:= [p]) (H':=upd H p (.lst vs)) s (fun j _ a ha=>zd (fun e=>hp j (by rw[<- e];exact ha)))
  (fun a h=>s.stay a (r.al0 a h)) (fun a ha h=>by
   have e:a=p:=by simpa using ha
   subst e;exact r.al0 a h n) (xG.mpr ⟨(fun z=>nomatch z),.nil⟩) (fun j _ a ha=>by
   have e:a=p:=by simpa using ha
   subst e;exact hp j) (by simp) (.l zf (ORL.data (qP s r.al0 q)))
 rw[jO]at r1
 have e2:(ν++List.replicate 1 none).set Γ.length (some (V.ref p))=ν++ [some (V.ref p)]:=by rw[<- r.len,jO]
 rw[e2]at r1
 exact⟨r1,s⟩
theorem RS.move{i:Nat}{o:OV}{v:V}(r:RS M0 F (Γ++ [some o]) (ν++ [some v]) H)(hi:i<Γ.length):∃ F',RS M0 F' (Γ.set i (some o)) (ν.set i (some v)) H/\Stp F H F' H:=by
 have hl:ν.length=Γ.length:=by have:=r.len;simp at this;exact this
 have hni:Γ.length≠i:=ux hi
 let F':Fp:=fun j=>if j=i then F Γ.length else if j<Γ.length then F j else []
 have hFi:F' i=F Γ.length:=by show (if i=i then _ else _)=_;rw[if_pos rfl]
 have hFj:∀ j,j≠i->j<Γ.length->F' j=F j:=fun j h1 h2=>by show (if j=i then _ else _)=_;rw[if_neg h1,if_pos h2]
 have hFo:∀ j,j≠i->¬ j<Γ.length->F' j= []:=fun j h1 h2=>by show (if j=i then _ else _)=_;rw[if_neg h1,if_neg h2]
 have sub:∀ j a,a∈F' j->(j=i/\a∈F Γ.length)∨(j≠i/\j<Γ.length/\a∈F j):=fun j a h=>by
  by_cases h1:j=i
  ·subst h1;rw[hFi]at h;exact .inl ⟨rfl,h⟩
  ·by_cases h2:j<Γ.length
   ·rw[hFj j h1 h2]at h;exact .inr ⟨h1,h2,h⟩
   ·rw[hFo j h1 h2]at h;cases h
 have s:Stp F H F' H:=ZV fun j a h=>by
  rcases sub j a h with ⟨_,h⟩ | ⟨_,_,h⟩
  ·exact⟨_,h⟩
  ·exact⟨_,h⟩
 refine⟨F',⟨r.al0,fun j a h=>?_,fun j=>?_,fun j k a h1 h2=>?_,fun j p e=>?_,fun j h=>?_,by simp[hl]⟩,s⟩
 ·rcases sub j a h with ⟨_,h⟩ | ⟨_,_,h⟩
  ·exact r.dis0 _ a h
  ·exact r.dis0 _ a h
 ·by_cases h1:j=i
  ·subst h1;rw[hFi];exact r.nd _
  ·by_cases h2:j<Γ.length
   ·rw[hFj j h1 h2];exact r.nd _
   ·rw[hFo j h1 h2];exact .nil
 ·rcases sub j a h1 with ⟨e1,z1⟩ | ⟨n1,l1,z1⟩
  ·rcases sub k a h2 with ⟨e2,z2⟩ | ⟨n2,l2,z2⟩
   ·rw[e1,e2]
   ·have:=r.dis _ _ a z1 z2;omega
  ·rcases sub k a h2 with ⟨e2,z2⟩ | ⟨n2,l2,z2⟩
   ·have:=r.dis _ _ a z1 z2;omega
   ·exact r.dis _ _ a z1 z2
 ·by_cases hj:j=i
  ·subst hj
   rw[xh hi]at e
   cases e
   obtain⟨u,e1,q⟩:=r.at' Γ.length o (by rw[xf (xi _)];simp)
   rw[xf (by omega),hl]at e1
   simp at e1
   subst e1
   refine⟨v,by rw[xh (by omega)],?_⟩
   rw[hFi];exact q.go (fun _ _ x=>zr s r.al0 x) s.tups fun _ _=>rfl
  ·rw[xg (Ne.symm hj)]at e |-
   have hjl:j<Γ.length:=(xb.mp e).1
   obtain⟨u,e1,q⟩:=r.at' j p (by rw[xc hjl];exact e)
   rw[xc (by omega)]at e1
   exact⟨u,e1,by rw[hFj j hj hjl];exact q.go (fun _ _ x=>zr s r.al0 x) s.tups fun _ _=>rfl⟩
 ·by_cases hj:j=i
  ·subst hj;rw[xh hi]at h;exact absurd rfl (h o)
  ·by_cases h2:j<Γ.length
   ·rw[hFj j hj h2]
    refine r.emp j fun p e=>h p ?_
    rw[xc h2]at e
    rw[xg (Ne.symm hj)];exact e
   ·exact hFo j hj h2
theorem RS.dropD{o:OV}{v:V}(r:RS M0 F (Γ++ [some o]) (ν++ [some v]) H):∃ F',RS M0 F' Γ ν H/\Stp F H F' H/\Rep (MM M0 F') H v o.view:=by
 have hl:ν.length=Γ.length:=by have:=r.len;simp at this;exact this
 obtain⟨r1,s⟩:=r.cut Γ.length
 have e1:(Γ++ [some o]).take Γ.length=Γ:=by simp
 have e2:(ν++ [some v]).take Γ.length=ν:=by rw[<- hl];simp
 rw[e1,e2]at r1
 refine⟨_,r1,s,?_⟩
 obtain⟨u,e,q⟩:=r.at' Γ.length o (by rw[xf (xi _)];simp)
 rw[xf (by omega),hl]at e
 simp at e
 subst e
 refine q.rep (fun b hb=>?_) (fun a ha hb=>?_)
 ·rcases hb with hb | ⟨j,hb⟩
  ·exact .inl hb
  ·exact .inr ⟨j,(jb hb).2⟩
 ·rcases hb with hb | ⟨j,hb⟩
  ·exact r.dis0 _ a ha hb
  ·have:=r.dis _ _ a ha (jb hb).2
   have:=(jb hb).1
   omega
theorem RS.frz{i:Nat}{o:OV}(r:RS M0 F Γ ν H)(e:Γ[i]?=some (some o)):∃ F' v,ν[i]?=some (some v)/\RS M0 F' (Γ.set i (some (.d o.view))) ν H/\Stp F H F' H/\Rep (MM M0 F') H v o.view:=by
 obtain⟨v,ev,q⟩:=r.at' i o e
 have hi:=(xb.mp e).1
 have s:Stp F H (zH F i []) H:=ZV fun j a h=>by
  by_cases hj:j=i
  ·subst hj;rw[ze]at h;cases h
  ·rw[zi hj]at h;exact⟨j,h⟩
 have hq:Rep (MM M0 (zH F i [])) H v o.view:=q.rep (fun b hb=>by
  rcases hb with hb | ⟨j,hb⟩
  ·exact .inl hb
  ·by_cases hj:j=i
   ·subst hj;rw[ze]at hb;cases hb
   ·rw[zi hj]at hb;exact .inr ⟨j,hb⟩) (fun a ha hb=>by
  rcases hb with hb | ⟨j,hb⟩
  ·exact r.dis0 _ a ha hb
  ·by_cases hj:j=i
   ·subst hj;rw[ze]at hb;cases hb
   ·rw[zi hj]at hb;exact hj (r.dis _ _ a hb ha))
 have r1:=r.put (i:=i) (A:= []) s (fun _ _ _ _=>rfl) r.al0 (fun _ h=>nomatch h) .nil (fun _ _ _ h=>nomatch h) hi (.d hq)
 have e2:ν.set i (some v)=ν:=by
  apply ue
  intro j
  by_cases hj:i=j
  ·subst hj;rw[xh (xb.mp ev).1,ev]
  ·rw[xg hj]
 rw[e2]at r1
 exact⟨_,v,ev,r1,s,hq⟩
theorem RS.mut{i:Nat}{xs xs':List OV}{a:Addr}{vs:List V}(r:RS M0 F Γ ν H)(e:Γ[i]?=some (some (.l xs)))(ev:ν[i]?=some (some (.ref a)))
  (h:∀ us A,H a=some (.lst us)->ORL (MM M0 F) H us xs A->F i=a::A->∃ A',(∀ b∈A',b∈A)/\A'.Nodup/\ORL (MM M0 F) H vs xs' A') :
  ∃ F',RS M0 F' (Γ.set i (some (.l xs'))) ν (upd H a (.lst vs))/\Stp F H F' (upd H a (.lst vs)):=by
 obtain⟨v,ev',q⟩:=r.at' i _ e
 rw[ev]at ev';cases ev'
 have hi:=(xb.mp e).1
 generalize hA:F i=Ai at q
 cases q with
 |l ea qa=>
  rename_i us A
  obtain⟨A',sub,nd',q'⟩:=h us A ea qa hA
  have nd:=r.nd i
  rw[hA]at nd
  have hnA:a∉A:=(xG.mp nd).1
  have inF:∀ b,b∈(a::A')->b∈F i:=fun b hb=>by
   rw[hA]
   rcases xu.mp hb with z | z
   ·rw[z];exact xp
   ·exact xj _ (sub b z)
  have s:Stp F H (zH F i (a::A')) (upd H a (.lst vs)):=⟨fun b o eb nb=>⟨by rw[zd (fun z=>nb i (by rw[hA,z];exact xp))];exact eb,fun j hj=>by
   by_cases z:j=i
   ·subst z;rw[ze]at hj;exact nb j (inF b hj)
   ·rw[zi z]at hj;exact nb j hj⟩,fun b xs eb=>by rw[zd (zg8 eb ea (by intro z;cases z))];exact eb,fun b hb=>by
   by_cases z:b=a
   ·subst z;rw[zf];exact fun w=>nomatch w
   ·rw[zd z];exact hb⟩
  have r1:=r.put (i:=i) (o:=.l xs') (v:=.ref a) (A:=a::A') s (fun j hj b hb=>by
    rw[zd]
    intro z
    subst z
    exact hj (r.dis j i b hb (by rw[hA];exact xp))) (fun b hb=>s.stay b (r.al0 b hb)) (fun b hb=>r.dis0 i b (inF b hb)) (xG.mpr ⟨fun z=>hnA (sub a z),nd'⟩)
   (fun j hj b hb hbj=>hj (r.dis j i b hbj (inF b hb))) hi (.l zf (q'.go (fun _ _ x=>zr s r.al0 x) s.tups fun b hb=>by
    rw[zd];intro z;subst z;exact hnA (sub b hb)))
  have e2:ν.set i (some (V.ref a))=ν:=by
   apply ue
   intro j
   by_cases hj:i=j
   ·subst hj;rw[xh (xb.mp ev).1,ev]
   ·rw[xg hj]
  rw[e2]at r1
  exact⟨_,r1,s⟩
end
theorem ORL.setD{M:Addr->Prop}{H:Hp}{v:V}{d:PyData}(q:Rep M H v d):∀ {vs:List V}{os:List OV}{A:List Addr}{j:Nat}{x:PyData},ORL M H vs os A->os[j]?=some (.d x)->ORL M H (vs.set j v) (os.set j (.d d)) A
 |_,_,_,_,_,.nil,e=>by simp at e
 |_,_,_,0,x,.cons r t,e=>by
  simp at e
  subst e
  cases r
  exact .cons (A:= []) (.d q) t
 |_,_,_,j+1,x,.cons r t,e=>.cons r (ORL.setD (j:=j) q t (by simpa using e))
theorem ORL.insD{M:Addr->Prop}{H:Hp}{v:V}{d:PyData}(q:Rep M H v d):∀ {vs:List V}{os:List OV}{A:List Addr}(j:Nat),ORL M H vs os A->ORL M H (vs.take j++v::vs.drop j) (os.take j++.d d::os.drop j) A
 |_,_,_,0,t=>.cons (A:= []) (.d q) t
 |_,_,_,_+1,.nil=>.cons (A:= []) (.d q) .nil
 |_,_,_,j+1,.cons r t=>.cons r (ORL.insD q j t)
theorem ORL.get{M:Addr->Prop}{H:Hp}:∀ {vs:List V}{os:List OV}{A:List Addr}{j:Nat}{x:PyData},ORL M H vs os A->os[j]?=some (.d x)->∃ v,vs[j]?=some v/\Rep M H v x
 |_,_,_,_,_,.nil,e=>by simp at e
 |_,_,_,0,x,.cons r t,e=>by
  simp at e
  subst e
  cases r with
  |d r=>exact⟨_,rfl,r⟩
 |_,_,_,j+1,x,.cons r t,e=>by
  obtain⟨v,e1,q⟩:=ORL.get (j:=j) t (by simpa using e)
  exact⟨v,by simpa using e1,q⟩
noncomputable abbrev St:=L2.St
structure Exc where
 cls:Str
 pay:PyData
inductive R(α:Type) where
 |ok (a:α)
 |exc (x:Exc) (Γ:Gv)
 |bad
noncomputable def R.bind{α β:Type}(r:R α)(f:α->R β):R β:=match r with
 |.ok a=>f a
 |.exc x Γ=>.exc x Γ
 |.bad=>.bad
noncomputable abbrev EM(α:Type):=Gv->R (α×Gv)
inductive FV where
 |dat (x:PyData)
 |own (i:Nat)
noncomputable def derf(Γ:Gv):FV->Option PyData
 |.dat x=>some x
 |.own i=>match Γ[i]? with
  |some (some o)=>some o.view
  |_=>none
noncomputable def derS(Γ:Gv):FV->Option PyData
 |.dat x=>some x
 |.own i=>match Γ[i]? with
  |some (some (.d x))=>some x
  |_=>none
noncomputable def leaves:List OV->Option (List PyData)
 |[]=>some []
 |.d x::r=>(leaves r).map (x::·)
 |.l _::_=>none
 |.t _::_=>none
 |.m _::_=>none
 |.o _ _ _::_=>none
noncomputable def derL(Γ:Gv):FV->Option (List PyData)
 |.dat (.list xs)=>some xs
 |.own i=>match Γ[i]? with
  |some (some (.l xs))=>leaves xs
  |some (some (.d (.list xs)))=>some xs
  |_=>none
 |_=>none
noncomputable abbrev XPT:=Exc->Gv->Fp->Nu->St->Hp->Prop
noncomputable def Sees(mp:List Nat)(ν:Nu)(σ:St):Prop:=∀ (s i:Nat) (v:V),mp[s]?=some i->ν[i]?=some (some v)->σ[s]?=some (some v)
noncomputable def EPost{α:Type}(M0:Addr->Prop)(F:Fp)(ν:Nu)(σ:St)(H:Hp)(XP:XPT)(P:Fp->Gv->Hp->α->Prop)(r:R (α×Gv)):Prop:=match r with
 |.ok (a,Γ')=>∀ F' H',RS M0 F' Γ' ν H'->Stp F H F' H'->P F' Γ' H' a
 |.exc x Γ'=>∀ F' H',RS M0 F' Γ' ν H'->Stp F H F' H'->XP x Γ' F' ν σ H'
 |.bad=>False
section
variable {α β:Type} {M0:Addr->Prop} {F:Fp} {Γ:Gv} {ν:Nu} {σ:St} {H:Hp} {XP:XPT}
theorem EPost.mono{P P':Fp->Gv->Hp->α->Prop}{r:R (α×Gv)}(h:EPost M0 F ν σ H XP P r)(k:∀ F' Γ' H' a,RS M0 F' Γ' ν H'->Stp F H F' H'->P F' Γ' H' a->P' F' Γ' H' a):EPost M0 F ν σ H XP P' r:=by
 cases r with
 |ok a=>exact fun F' H' rs s=>k F' _ H' _ rs s (h F' H' rs s)
 |exc x Γ'=>exact h
 |bad=>exact h
theorem EPost.seq{P:Fp->Gv->Hp->β->Prop}{r:R (α×Gv)}{k:α×Gv->R (β×Gv)}(h:EPost M0 F ν σ H XP P (r.bind k)) :
  EPost M0 F ν σ H XP (fun F1 Γ1 H1 a=>EPost M0 F1 ν σ H1 XP P (k (a,Γ1))) r:=by
 cases r with
 |ok a=>
  obtain⟨a,Γ1⟩:=a
  intro F1 H1 rs1 s1
  have h':EPost M0 F ν σ H XP P (k (a,Γ1)):=h
  revert h'
  generalize k (a,Γ1)=r2
  intro h'
  cases r2 with
  |ok b=>exact fun F' H' rs s=>h' F' H' rs (s1.trans s)
  |exc x Γ'=>exact fun F' H' rs s=>h' F' H' rs (s1.trans s)
  |bad=>exact h'
 |exc x Γ'=>exact h
 |bad=>exact h
theorem EPost.step{P:Fp->Gv->Hp->α->Prop}{r:R (α×Gv)}{F1:Fp}{H1:Hp}(h:EPost M0 F ν σ H XP P r)(s1:Stp F H F1 H1):EPost M0 F1 ν σ H1 XP P r:=by
 cases r with
 |ok b=>exact fun F' H' rs s=>h F' H' rs (s1.trans s)
 |exc x Γ'=>exact fun F' H' rs s=>h F' H' rs (s1.trans s)
 |bad=>exact h
end
noncomputable def FOk(M0:Addr->Prop)(F:Fp)(ν:Nu)(H:Hp)(v:V):FV->Prop
 |.dat x=>Rep (MM M0 F) H v x
 |.own i=>ν[i]?=some (some v)
section
variable {M0:Addr->Prop} {F F':Fp} {Γ:Gv} {ν:Nu} {H H':Hp} {v:V} {u:FV} {x:PyData}
theorem FOk.stp(h:FOk M0 F ν H v u)(s:Stp F H F' H')(h0:∀ a,M0 a->H a≠none):FOk M0 F' ν H' v u:=by
 cases u with
 |dat x=>exact zr s h0 h
 |own i=>exact h
theorem FOk.weak(h:FOk M0 F ν H v u)(rs:RS M0 F Γ ν H)(e:derf Γ u=some x):Rep zw H v x:=by
 cases u with
 |dat y=>cases e;exact Rep.less (fun _ z _=>z.elim) h
 |own i=>
  dsimp only [derf]at e
  split at e
  ·rename_i o q
   cases e
   obtain⟨w,e1,r⟩:=rs.at' i o q
   have h':ν[i]?=some (some v):=h
   rw[h']at e1;cases e1
   exact r.weak
  ·cases e
theorem FOk.strong(h:FOk M0 F ν H v u)(rs:RS M0 F Γ ν H)(e:derS Γ u=some x):Rep (MM M0 F) H v x:=by
 cases u with
 |dat y=>cases e;exact h
 |own i=>
  dsimp only [derS]at e
  split at e
  ·rename_i y q
   cases e
   obtain⟨w,e1,r⟩:=rs.at' i _ q
   have h':ν[i]?=some (some v):=h
   rw[h']at e1;cases e1
   generalize F i=A at r
   cases r with
   |d r=>exact r
  ·cases e
theorem ORL.leaf{M:Addr->Prop}:∀ {vs:List V}{os:List OV}{A:List Addr}{ds:List PyData},ORL M H vs os A->leaves os=some ds->RepL M H vs ds/\A= []
 |_,_,_,_,.nil,e=>by cases e;exact⟨.nil,rfl⟩
 |_,_,_,_,.cons (x:=.d x) r t,e=>by
  unfold leaves at e
  rename_i vs xs A B
  cases q:leaves xs with
  |none=>rw[q]at e;cases e
  |some ys=>
   rw[q]at e;cases e
   obtain⟨h1,h2⟩:=ORL.leaf t q
   cases r with
   |d r=>exact⟨.cons r h1,by rw[h2];rfl⟩
 |_,_,_,_,.cons (x:=.l x) r t,e=>by cases e
 |_,_,_,_,.cons (x:=.t x) r t,e=>by cases e
 |_,_,_,_,.cons (x:=.m x) r t,e=>by cases e
 |_,_,_,_,.cons (x:=.o _ _ x) r t,e=>by cases e
theorem FOk.list{ds:List PyData}(h:FOk M0 F ν H v u)(rs:RS M0 F Γ ν H)(e:derL Γ u=some ds):∃ a vs,v=.ref a/\H a=some (.lst vs)/\RepL (MM M0 F) H vs ds:=by
 unfold derL at e
 split at e
 ·cases e
  obtain⟨a,vs,rfl,e1,_,r⟩:=Rep.lst_inv h
  exact⟨a,vs,rfl,e1,r⟩
 ·rename_i i
  have h':ν[i]?=some (some v):=h
  split at e
  ·rename_i q
   obtain⟨w,e1,r⟩:=rs.at' i _ q
   rw[h']at e1;cases e1
   generalize F i=A at r
   cases r with
   |l ea qa=>exact⟨_,_,rfl,ea,(ORL.leaf qa e).1⟩
  ·rename_i q
   cases e
   obtain⟨w,e1,r⟩:=rs.at' i _ q
   rw[h']at e1;cases e1
   generalize F i=A at r
   cases r with
   |d r=>
    obtain⟨a,vs,rfl,e1,_,r⟩:=Rep.lst_inv r
    exact⟨a,vs,rfl,e1,r⟩
  ·cases e
 ·cases e
end
noncomputable def SE(X:Cx)(XP:XPT)(mp:List Nat)(e:Expr)(f:EM FV):Prop:=∀ (M0:Addr->Prop) (F:Fp) (Γ:Gv) (ν:Nu) (σ:St) (H:Hp) (Q:VK),RS M0 F Γ ν H->Sees mp ν σ ->
 EPost M0 F ν σ H XP (fun F' Γ' H' u=>∀ v,FOk M0 F' ν H' v u->Q v H') (f Γ)->wpE X e σ H Q
noncomputable def SN(X:Cx)(XP:XPT)(mp:List Nat)(e:Expr)(f:EM (List PyData)):Prop:=∀ (M0:Addr->Prop) (F:Fp) (Γ:Gv) (ν:Nu) (σ:St) (H:Hp) (Q:VK),RS M0 F Γ ν H->Sees mp ν σ ->
 EPost M0 F ν σ H XP (fun F' Γ' H' ds=>∀ vs p,RepL (MM M0 F') H' vs ds->H' p=none->Q (.ref p) (upd H' p (.lst vs))) (f Γ)->wpE X e σ H Q
noncomputable def ST(X:Cx)(XP:XPT)(mp:List Nat)(e:Expr)(f:EM Bool):Prop:=∀ (M0:Addr->Prop) (F:Fp) (Γ:Gv) (ν:Nu) (σ:St) (H:Hp) (Q:Bool->Hp->Prop),RS M0 F Γ ν H->Sees mp ν σ ->
 EPost M0 F ν σ H XP (fun F' Γ' H' b=>Q b H') (f Γ)->wpT X e σ H Q
noncomputable def SW(X:Cx)(XP:XPT)(mp:List Nat)(e:Expr)(f:EM Bool):Prop:=∀ (M0:Addr->Prop) (F:Fp) (Γ:Gv) (ν:Nu) (σ:St) (H:Hp) (Q:Bool->Hp->Prop),RS M0 F Γ ν H->Sees mp ν σ ->
 EPost M0 F ν σ H XP (fun F' Γ' H' b=>Q b H') (f Γ)->wpW X e σ H Q
section
variable {X:Cx} {XP:XPT} {mp:List Nat} {a b c e:Expr} {es:List Expr} {pos p p2:Pos} {fa fb fc:EM FV} {ta tb:EM Bool} {na nb:EM (List PyData)}
section
variable {β:Type} {M0:Addr->Prop} {F:Fp} {Γ:Gv} {ν:Nu} {σ:St} {H:Hp} {P:Fp->Gv->Hp->β->Prop}
theorem SE.run{Q:VK}{k:FV×Gv->R (β×Gv)}(ha:SE X XP mp a fa)(rs:RS M0 F Γ ν H)(hs:Sees mp ν σ)(h:EPost M0 F ν σ H XP P ((fa Γ).bind k))
  (kk:∀ F1 Γ1 H1 u v,RS M0 F1 Γ1 ν H1->Stp F H F1 H1->FOk M0 F1 ν H1 v u->EPost M0 F1 ν σ H1 XP P (k (u,Γ1))->Q v H1):wpE X a σ H Q :=
 ha M0 F Γ ν σ H Q rs hs (h.seq.mono fun F1 Γ1 H1 u rs1 s1 h1 v hv=>kk F1 Γ1 H1 u v rs1 s1 hv h1)
theorem SN.run{Q:VK}{k:List PyData×Gv->R (β×Gv)}(ha:SN X XP mp a na)(rs:RS M0 F Γ ν H)(hs:Sees mp ν σ)(h:EPost M0 F ν σ H XP P ((na Γ).bind k))
  (kk:∀ F1 Γ1 H1 ds vs p,RS M0 F1 Γ1 ν H1->Stp F H F1 H1->RepL (MM M0 F1) H1 vs ds->H1 p=none->EPost M0 F1 ν σ H1 XP P (k (ds,Γ1))->Q (.ref p) (upd H1 p (.lst vs))):wpE X a σ H Q :=
 ha M0 F Γ ν σ H Q rs hs (h.seq.mono fun F1 Γ1 H1 u rs1 s1 h1 vs p r n=>kk F1 Γ1 H1 u vs p rs1 s1 r n h1)
theorem ST.run{Q:Bool->Hp->Prop}{k:Bool×Gv->R (β×Gv)}(ha:ST X XP mp a ta)(rs:RS M0 F Γ ν H)(hs:Sees mp ν σ)(h:EPost M0 F ν σ H XP P ((ta Γ).bind k))
  (kk:∀ F1 Γ1 H1 u,RS M0 F1 Γ1 ν H1->Stp F H F1 H1->EPost M0 F1 ν σ H1 XP P (k (u,Γ1))->Q u H1):wpT X a σ H Q :=
 ha M0 F Γ ν σ H Q rs hs (h.seq.mono fun F1 Γ1 H1 u rs1 s1 h1=>kk F1 Γ1 H1 u rs1 s1 h1)
end
noncomputable def fNew(n:EM (List PyData)):EM FV:=fun Γ=>(n Γ).bind fun (ds,Γ1)=>.ok (.dat (.list ds),Γ1)
theorem SN.se(h:SN X XP mp a na):SE X XP mp a (fNew na):=fun M0 F Γ ν σ H Q rs hs hp=>
 h.run rs hs hp fun F1 Γ1 H1 ds vs p rs1 s1 r n h1=>by
  have s2:Same H1 (upd H1 p (.lst vs)):=zv n
  exact h1 F1 _ (rs1.same s2) (.same s2) _ (Rep.list zf (fun z=>rs1.al p z n) (r.grow s2.grow))
noncomputable def fVar(i:Nat):EM FV:=fun Γ=>match Γ[i]? with
 |some (some (.d x))=>.ok (.dat x,Γ)
 |some (some (.l _))=>.ok (.own i,Γ)
 |some (some (.t _))=>.ok (.own i,Γ)
 |some (some (.m _))=>.ok (.own i,Γ)
 |some (some (.o _ _ _))=>.ok (.own i,Γ)
 |_=>.bad
theorem zf9 {s i:Nat}{x:Str}(hN:X.N[s]?=some x) (hv:Vis X.env.scope x) (hm:mp[s]?=some i) (hd:(x==("__debug__" :Str))=false) (hcd:(x==("__classdict__" :Str))=false) :
  SE X XP mp (.Name x pos) (fVar i):=fun M0 F Γ ν σ H Q rs hs hp=>by
 unfold fVar at hp
 split at hp
 ·rename_i y q
  obtain⟨v,e1,r⟩:=rs.at' i _ q
  generalize hA:F i=A at r
  cases r with
  |d r=>exact (qB hN hv hd hcd).wp ⟨v,hs s i v hm e1,hp F H rs (.refl F H) v r⟩
 ·rename_i y q
  obtain⟨v,e1,r⟩:=rs.at' i _ q
  exact (qB hN hv hd hcd).wp ⟨v,hs s i v hm e1,hp F H rs (.refl F H) v e1⟩
 ·rename_i y q
  obtain⟨v,e1,r⟩:=rs.at' i _ q
  exact (qB hN hv hd hcd).wp ⟨v,hs s i v hm e1,hp F H rs (.refl F H) v e1⟩
 ·rename_i y q
  obtain⟨v,e1,r⟩:=rs.at' i _ q
  exact (qB hN hv hd hcd).wp ⟨v,hs s i v hm e1,hp F H rs (.refl F H) v e1⟩
 ·rename_i y _ _ q
  obtain⟨v,e1,r⟩:=rs.at' i _ q
  exact (qB hN hv hd hcd).wp ⟨v,hs s i v hm e1,hp F H rs (.refl F H) v e1⟩
 ·exact hp.elim
noncomputable def fFrz(i:Nat):EM FV:=fun Γ=>match Γ[i]? with
 |some (some o)=>.ok (.dat o.view,Γ.set i (some (.d o.view)))
 |_=>.bad
theorem zf2 {s i:Nat}{x:Str}(hN:X.N[s]?=some x) (hv:Vis X.env.scope x) (hm:mp[s]?=some i) (hd:(x==("__debug__" :Str))=false) (hcd:(x==("__classdict__" :Str))=false) :
  SE X XP mp (.Name x pos) (fFrz i):=fun M0 F Γ ν σ H Q rs hs hp=>by
 unfold fFrz at hp
 split at hp
 ·rename_i o q
  obtain⟨F',v,e1,rs1,s1,r⟩:=rs.frz q
  exact (qB hN hv hd hcd).wp ⟨v,hs s i v hm e1,hp F' H rs1 s1 v r⟩
 ·exact hp.elim
noncomputable def fC(x:PyData):EM FV:=fun Γ=>.ok (.dat x,Γ)
theorem zf3{i j}:SE X XP mp (.Constant (.int i) j pos) (fC (.int i)):=fun M0 F Γ ν σ H Q rs hs hp=>pe_int.wp (hp F H rs (.refl F H) _ (Rep.int i))
theorem zdu{x j}:SE X XP mp (.Constant (.bool x) j pos) (fC (.bool x)):=fun M0 F Γ ν σ H Q rs hs hp=>pe_bl.wp (hp F H rs (.refl F H) _ (Rep.bool x))
theorem zdD{j}:SE X XP mp (.Constant .none j pos) (fC .none):=fun M0 F Γ ν σ H Q rs hs hp=>pe_non.wp (hp F H rs (.refl F H) _ Rep.none)
theorem zf7{x j}:SE X XP mp (.Constant (.str x) j pos) (fC (.str x)):=fun M0 F Γ ν σ H Q rs hs hp=>pe_str.wp (hp F H rs (.refl F H) _ (Rep.str x))
theorem zdy {x:Str}{i:Int}(hg:Gl X x) (hm:∃ t,X.mg x=some (.int i t)) (hd:(x==("__debug__" :Str))=false):SE X XP mp (.Name x pos) (fC (.int i)):=fun M0 F Γ ν σ H Q rs hs hp=>by
 obtain⟨t,hm⟩:=hm
 exact (wt (v:=.int i) hg hm ⟨t,rfl⟩ hd).wp (hp F H rs (.refl F H) _ (Rep.int i))
theorem zdA {x:Str}{i:Str}(hg:Gl X x) (hm:∃ t,X.mg x=some (.str i t)) (hd:(x==("__debug__" :Str))=false):SE X XP mp (.Name x pos) (fC (.str i)):=fun M0 F Γ ν σ H Q rs hs hp=>by
 obtain⟨t,hm⟩:=hm
 exact (wt (v:=.str i) hg hm ⟨t,rfl⟩ hd).wp (hp F H rs (.refl F H) _ (Rep.str i))
noncomputable def OpS(X:Cx)(f:Value->Value->Sem Value)(g:PyData->PyData->Option PyData):Prop:=∀ x y z,g x y=some z->∃ r:R2,OpR X f r/\∀ (M:Addr->Prop) (H:Hp) (v u:V) (Q:VK),
 Al M H->Rep M H v x->Rep M H u y->(∀ w H',Same H H'->Rep M H' w z->Q w H')->r v u H Q
noncomputable def fBin(g:PyData->PyData->Option PyData)(fa fb:EM FV):EM FV:=fun Γ=>(fa Γ).bind fun (u,Γ1)=>(fb Γ1).bind fun (w,Γ2)=>match derS Γ2 u,derS Γ2 w with
 |some x,some y=>match g x y with
  |some z=>.ok (.dat z,Γ2)
  |none=>.bad
 |_,_=>.bad
theorem zbt{op:Operator}{g:PyData->PyData->Option PyData}(ho:OpS X (binaryOp op) g)(ha:SE X XP mp a fa)(hb:SE X XP mp b fb):SE X XP mp (.BinOp a op b pos) (fBin g fa fb):=fun M0 F Γ ν σ H Q rs hs hp=>by
 have key:∀ x y z,g x y=some z->∃ r:R2,OpR X (binaryOp op) r/\∀ (M:Addr->Prop) (H:Hp) (v u:V) (Q:VK),Al M H->Rep M H v x->Rep M H u y->(∀ w H',Same H H'->Rep M H' w z->Q w H')->r v u H Q:=ho
 refine (yc (r:=fun v u H Q=>∃ M x y z,g x y=some z/\Al M H/\Rep M H v x/\Rep M H u y/\∀ w H',Same H H'->Rep M H' w z->Q w H') ?_ zc zc).wp
  (ha.run rs hs hp fun F1 Γ1 H1 u v rs1 s1 o1 h1=>hb.run rs1 hs h1 fun F2 Γ2 H2 w v2 rs2 s2 o2 h2=>?_)
 ·rintro pins s σ H x y v u Q I rx ry ⟨M,dx,dy,dz,e,al,r1,r2,k⟩
  obtain⟨r,hr,hh⟩:=ho dx dy dz e
  exact hr pins s σ H x y v u Q I rx ry (hh M H x y Q al r1 r2 k)
 ·dsimp only at h2
  split at h2
  ·rename_i x y e1 e2
   split at h2
   ·rename_i z e3
    exact⟨MM M0 F2,x,y,z,e3,rs2.al,(o1.stp s2 rs1.al0).strong rs2 e1,o2.strong rs2 e2,fun w' H3 s3 r3=>h2 F2 H3 (rs2.same s3) (.same s3) w' r3⟩
   ·exact h2.elim
  ·exact h2.elim
noncomputable def vJ(X:Cx)(op:CmpOp)(g:PyData->PyData->Option Bool):Prop:=∀ x y z,g x y=some z->∃ r:R2,OpR X (compareOp op) r/\∀ (H:Hp) (v u:V) (Q:VK),
 Rep zw H v x->Rep zw H u y->Q (.bl z) H->r v u H Q
noncomputable def fCmp(g:PyData->PyData->Option Bool)(fa fb:EM FV):EM Bool:=fun Γ=>(fa Γ).bind fun (u,Γ1)=>(fb Γ1).bind fun (w,Γ2)=>match derf Γ2 u,derf Γ2 w with
 |some x,some y=>match g x y with
  |some z=>.ok (z,Γ2)
  |none=>.bad
 |_,_=>.bad
noncomputable def fB(t:EM Bool):EM FV:=fun Γ=>(t Γ).bind fun (b,Γ1)=>.ok (.dat (.bool b),Γ1)
theorem ZS{op:CmpOp}{g:PyData->PyData->Option Bool}(ho:vJ X op g):OpR X (compareOp op) (fun v u H Q=>∃ x y z,g x y=some z/\Rep zw H v x/\Rep zw H u y/\Q (.bl z) H):=by
 rintro pins s σ H x y v u Q I rx ry ⟨dx,dy,dz,e,r1,r2,k⟩
 obtain⟨r,hr,hh⟩:=ho dx dy dz e
 exact hr pins s σ H x y v u Q I rx ry (hh H x y Q r1 r2 k)
section
variable {M0:Addr->Prop} {F:Fp} {Γ:Gv} {ν:Nu} {σ:St} {H:Hp} {β:Type} {P:Fp->Gv->Hp->β->Prop}
theorem YE{g:PyData->PyData->Option Bool}{k:Bool×Gv->R (β×Gv)}{Q:VK}(ha:SE X XP mp a fa)(hb:SE X XP mp b fb)(rs:RS M0 F Γ ν H)(hs:Sees mp ν σ)(hp:EPost M0 F ν σ H XP P ((fCmp g fa fb Γ).bind k))
  (kk:∀ F2 Γ2 H2 z,RS M0 F2 Γ2 ν H2->Stp F H F2 H2->EPost M0 F2 ν σ H2 XP P (k (z,Γ2))->Q (.bl z) H2) :
  wpE X a σ H fun v H1=>wpE X b σ H1 fun u H2=>∃ x y z,g x y=some z/\Rep zw H2 v x/\Rep zw H2 u y/\Q (.bl z) H2:=by
 have hp':EPost M0 F ν σ H XP P ((fa Γ).bind fun (u,Γ1)=>(fb Γ1).bind fun (w,Γ2)=>(match derf Γ2 u,derf Γ2 w with
  |some x,some y=>match g x y with
   |some z=>R.ok (z,Γ2)
   |none=>.bad
  |_,_=>.bad).bind k):=by
  have e:((fCmp g fa fb Γ).bind k)=((fa Γ).bind fun (u,Γ1)=>(fb Γ1).bind fun (w,Γ2)=>(match derf Γ2 u,derf Γ2 w with
   |some x,some y=>match g x y with
    |some z=>R.ok (z,Γ2)
    |none=>.bad
   |_,_=>.bad).bind k):=by
   unfold fCmp
   cases fa Γ with
   |ok a=>
    obtain⟨a,Γ1⟩:=a
    simp only[R.bind]
    cases fb Γ1<;>rfl
   |exc x y=>rfl
   |bad=>rfl
  rw[<- e];exact hp
 refine ha.run rs hs hp' fun F1 Γ1 H1 u v rs1 s1 o1 h1=>hb.run rs1 hs h1 fun F2 Γ2 H2 w v2 rs2 s2 o2 h2=>?_
 dsimp only at h2
 split at h2
 ·rename_i x y e1 e2
  split at h2
  ·rename_i z e3
   exact⟨x,y,z,e3,(o1.stp s2 rs1.al0).weak rs2 e1,o2.weak rs2 e2,kk F2 Γ2 H2 z rs2 (s1.trans s2) h2⟩
  ·exact h2.elim
 ·exact h2.elim
end
theorem R.bind_ok{α:Type}(r:R α):r.bind .ok=r:=by cases r<;>rfl
theorem zbv{op:CmpOp}{g:PyData->PyData->Option Bool}(ho:vJ X op g)(ha:SE X XP mp a fa)(hb:SE X XP mp b fb)(hm:behindInMarks op b=false):SE X XP mp (.Compare a [op] [b] pos) (fB (fCmp g fa fb)):=fun M0 F Γ ν σ H Q rs hs hp=>
 (YZ (ZS ho) zc zc hm).wp (YE ha hb rs hs hp fun F2 Γ2 H2 z rs2 s2 h2=>h2 F2 H2 rs2 (.refl _ _) _ (Rep.bool z))
theorem zbL{op:CmpOp}{g:PyData->PyData->Option Bool}(ho:vJ X op g)(ha:SE X XP mp a fa)(hb:SE X XP mp b fb)(hm:behindInMarks op b=false):ST X XP mp (.Compare a [op] [b] pos) (fCmp g fa fb):=fun M0 F Γ ν σ H Q rs hs hp=>
 (Y6 (ZS ho) zc zc hm).wp (YE (k:=.ok) (Q:=fun v H'=>∃ k,v=.bl k/\Q k H') ha hb rs hs (by rw[R.bind_ok];exact hp) fun F2 Γ2 H2 z rs2 s2 h2=>⟨z,rfl,h2 F2 H2 rs2 (.refl _ _)⟩)
end
noncomputable def truD:PyData->Option Bool
 |.none=>some false
 |.bool b=>some b
 |.int i=>some (i !=0)
 |.list xs=>some (!xs.isEmpty)
 |.tuple xs=>some (!xs.isEmpty)
 |_=>none
theorem VV{M:Addr->Prop}{H:Hp}{vs:List V}{ds:List PyData}(r:RepL M H vs ds):(!vs.isEmpty)= !ds.isEmpty:=by cases r<;>rfl
theorem kr{K:PySem.W.Frag}{M:Addr->Prop}{H:Hp}{v:V}{x:PyData}{k:Bool}(r:Rep M H v x)(e:truD x=some k):zcn K v H k:=by
 cases r with
 |none=>cases e;rfl
 |bool b=>cases e;rfl
 |int i=>cases e;rfl
 |str x=>cases e
 |list ea n q=>cases e;exact .inl ⟨_,SqL.of ea,(VV q).symm⟩
 |tuple ea q=>cases e;exact .inr (.inl ⟨_,SqT.of ea,(VV q).symm⟩)
 |dict _ _ _ _=>cases e
 |inst _ _ _ _=>cases e
section
variable {X:Cx} {XP:XPT} {mp:List Nat} {a b c e:Expr} {es:List Expr} {pos p p2:Pos} {fa fb fc:EM FV} {ta tb:EM Bool} {na nb:EM (List PyData)}
noncomputable def fTru(fa:EM FV):EM Bool:=fun Γ=>(fa Γ).bind fun (u,Γ1)=>match (derf Γ1 u).bind truD with
 |some k=>.ok (k,Γ1)
 |none=>.bad
theorem zbM(ha:SE X XP mp a fa)(he:∀ whole,isTrue a X.env whole=(do let v<-whole;standAt a.pos;holding [v] (truthy v))):ST X XP mp a (fTru fa):=fun M0 F Γ ν σ H Q rs hs hp=>
 (zbd zc he).wp (ha.run rs hs hp fun F1 Γ1 H1 u v rs1 s1 o1 h1=>by
  dsimp only at h1
  split at h1
  ·rename_i k ek
   cases ex:derf Γ1 u with
   |none=>rw[ex]at ek;cases ek
   |some x=>
    rw[ex]at ek
    exact⟨k,kr (o1.weak rs1 ex) ek,h1 F1 H1 rs1 (.refl _ _)⟩
  ·exact h1.elim)
noncomputable def fNotT(ta:EM Bool):EM Bool:=fun Γ=>(ta Γ).bind fun (b,Γ1)=>.ok (!b,Γ1)
theorem zgu(h:ST X XP mp a ta):ST X XP mp (.UnaryOp .Not a pos) (fNotT ta):=fun M0 F Γ ν σ H Q rs hs hp=>
 (zfQ jq).wp (h.run rs hs hp fun F1 Γ1 H1 b rs1 s1 h1=>h1 F1 H1 rs1 (.refl _ _))
theorem SW.st(h:SW X XP mp a ta):ST X XP mp a ta:=fun M0 F Γ ν σ H Q rs hs hp pins s I=>h M0 F Γ ν σ H Q rs hs hp _ pins s I
theorem zdW(h:ST X XP mp a ta):SW X XP mp (.BoolOp .And [a] pos) ta:=fun M0 F Γ ν σ H Q rs hs hp=>(zdh jq).wp (h M0 F Γ ν σ H Q rs hs hp)
theorem zdX(h:ST X XP mp a ta):SW X XP mp (.BoolOp .Or [a] pos) ta:=fun M0 F Γ ν σ H Q rs hs hp=>(zfT jq).wp (h M0 F Γ ν σ H Q rs hs hp)
noncomputable def fAndT(ta tb:EM Bool):EM Bool:=fun Γ=>(ta Γ).bind fun (b,Γ1)=>if b then tb Γ1 else .ok (false,Γ1)
noncomputable def fOrT(ta tb:EM Bool):EM Bool:=fun Γ=>(ta Γ).bind fun (b,Γ1)=>if b then .ok (true,Γ1) else tb Γ1
theorem zbO(ha:ST X XP mp a ta)(hb:SW X XP mp (.BoolOp .And (b::es) pos) tb):SW X XP mp (.BoolOp .And (a::b::es) pos) (fAndT ta tb):=fun M0 F Γ ν σ H Q rs hs hp=>
 (zfS jq Y7).wp (ha.run rs hs hp fun F1 Γ1 H1 b rs1 s1 h1=>by
  cases b with
  |true=>exact VY (hb M0 F1 Γ1 ν σ H1 Q rs1 hs h1)
  |false=>exact VX (h1 F1 H1 rs1 (.refl _ _)))
theorem zeB(ha:ST X XP mp a ta)(hb:SW X XP mp (.BoolOp .Or (b::es) pos) tb):SW X XP mp (.BoolOp .Or (a::b::es) pos) (fOrT ta tb):=fun M0 F Γ ν σ H Q rs hs hp=>
 (zhl jq Y7).wp (ha.run rs hs hp fun F1 Γ1 H1 b rs1 s1 h1=>by
  cases b with
  |true=>exact VY (h1 F1 H1 rs1 (.refl _ _))
  |false=>exact VX (hb M0 F1 Γ1 ν σ H1 Q rs1 hs h1))
noncomputable def fAndV(fa fb:EM FV):EM FV:=fun Γ=>(fa Γ).bind fun (u,Γ1)=>match derf Γ1 u with
 |some (.bool true)=>fb Γ1
 |some (.bool false)=>.ok (.dat (.bool false),Γ1)
 |_=>.bad
noncomputable def fOrV(fa fb:EM FV):EM FV:=fun Γ=>(fa Γ).bind fun (u,Γ1)=>match derf Γ1 u with
 |some (.bool true)=>.ok (.dat (.bool true),Γ1)
 |some (.bool false)=>fb Γ1
 |_=>.bad
theorem zbw{op}(h:SE X XP mp a fa):SE X XP mp (.BoolOp op [a] pos) fa:=fun M0 F Γ ν σ H Q rs hs hp=>(zfJ zc).wp (h M0 F Γ ν σ H Q rs hs hp)
theorem zbs(ha:SE X XP mp a fa)(hb:SE X XP mp (.BoolOp .And (b::es) pos) fb):SE X XP mp (.BoolOp .And (a::b::es) pos) (fAndV fa fb):=fun M0 F Γ ν σ H Q rs hs hp=>
 (zfI zc zc).wp (ha.run rs hs hp fun F1 Γ1 H1 u v rs1 s1 o1 h1=>by
  dsimp only at h1
  split at h1
  ·rename_i ex
   cases o1.weak rs1 ex
   exact⟨true,rfl,VY (hb M0 F1 Γ1 ν σ H1 Q rs1 hs h1)⟩
  ·rename_i ex
   cases o1.weak rs1 ex
   exact⟨false,rfl,VX (h1 F1 H1 rs1 (.refl _ _) _ (Rep.bool false))⟩
  ·exact h1.elim)
theorem zev(ha:SE X XP mp a fa)(hb:SE X XP mp (.BoolOp .Or (b::es) pos) fb):SE X XP mp (.BoolOp .Or (a::b::es) pos) (fOrV fa fb):=fun M0 F Γ ν σ H Q rs hs hp=>
 (zhj zc zc).wp (ha.run rs hs hp fun F1 Γ1 H1 u v rs1 s1 o1 h1=>by
  dsimp only at h1
  split at h1
  ·rename_i ex
   cases o1.weak rs1 ex
   exact⟨true,rfl,VY (h1 F1 H1 rs1 (.refl _ _) _ (Rep.bool true))⟩
  ·rename_i ex
   cases o1.weak rs1 ex
   exact⟨false,rfl,VX (hb M0 F1 Γ1 ν σ H1 Q rs1 hs h1)⟩
  ·exact h1.elim)
theorem zd8:UnR X (unaryOp .Not) (fun x H Q=>∃ k,zcn X.K x H k/\Q (.bl (!k)) H):=by
 intro pins s σ H x v Q I rx h
 obtain⟨k,hk,q⟩:=h
 exact not_of (thn (zbS pins s σ H x v _ I rx ⟨k,hk,q⟩) fun b s' ⟨H',I',q'⟩=>⟨.bl (!b),H',I',rfl,q'⟩)
theorem zf5(ha:SE X XP mp a fa):SE X XP mp (.UnaryOp .Not a pos) (fB (fNotT (fTru fa))):=fun M0 F Γ ν σ H Q rs hs hp=>by
 refine (zeu zd8 zc).wp (ha.run (k:=fun (u,Γ1)=>match (derf Γ1 u).bind truD with
  |some k=>R.ok (FV.dat (.bool (!k)),Γ1)
  |none=>.bad) (P:=fun F' Γ' H' u=>∀ (v:V),FOk M0 F' ν H' v u->Q v H') rs hs ?_ fun F1 Γ1 H1 u v rs1 s1 o1 h1=>?_)
 ·have e:fB (fNotT (fTru fa)) Γ=(fa Γ).bind fun (u,Γ1)=>match (derf Γ1 u).bind truD with
   |some k=>.ok (.dat (.bool (!k)),Γ1)
   |none=>.bad:=by
   unfold fB fNotT fTru
   cases fa Γ with
   |ok a=>
    obtain⟨u,Γ1⟩:=a
    simp only[R.bind]
    cases (derf Γ1 u).bind truD<;>rfl
   |exc x y=>rfl
   |bad=>rfl
  rw[<- e];exact hp
 ·dsimp only at h1
  split at h1
  ·rename_i k ek
   cases ex:derf Γ1 u with
   |none=>rw[ex]at ek;cases ek
   |some x=>
    rw[ex]at ek
    exact⟨k,kr (o1.weak rs1 ex) ek,h1 F1 H1 rs1 (.refl _ _) _ (Rep.bool (!k))⟩
  ·exact h1.elim
noncomputable def fIf(t:EM Bool)(fa fb:EM FV):EM FV:=fun Γ=>(t Γ).bind fun (b,Γ1)=>if b then fa Γ1 else fb Γ1
theorem zht(hc:ST X XP mp c ta)(ha:SE X XP mp a fa)(hb:SE X XP mp b fb):SE X XP mp (.IfExp c a b pos) (fIf ta fa fb):=fun M0 F Γ ν σ H Q rs hs hp=>
 (za2 jq zc zc).wp (hc.run rs hs hp fun F1 Γ1 H1 b rs1 s1 h1=>by
  cases b with
  |true=>exact VY (ha M0 F1 Γ1 ν σ H1 Q rs1 hs h1)
  |false=>exact VX (hb M0 F1 Γ1 ν σ H1 Q rs1 hs h1))
noncomputable def fChain(g g':PyData->PyData->Option Bool)(fa fb fc:EM FV):EM Bool:=fun Γ=>(fa Γ).bind fun (u,Γ1)=>(fb Γ1).bind fun (w,Γ2)=>match derf Γ2 u,derf Γ2 w with
 |some x,some y=>match g x y with
  |some true=>(fc Γ2).bind fun (t,Γ3)=>match derf Γ3 w,derf Γ3 t with
   |some y,some z=>match g' y z with
    |some k=>.ok (k,Γ3)
    |none=>.bad
   |_,_=>.bad
  |some false=>.ok (false,Γ2)
  |none=>.bad
 |_,_=>.bad
theorem R.bind_assoc{α β γ:Type}(r:R α)(f:α->R β)(g:β->R γ):(r.bind f).bind g=r.bind fun a=>(f a).bind g:=by cases r<;>rfl
section
variable {M0:Addr->Prop} {F:Fp} {Γ:Gv} {ν:Nu} {σ:St} {H:Hp} {β:Type} {P:Fp->Gv->Hp->β->Prop}
theorem W9{g g':PyData->PyData->Option Bool}{k:Bool×Gv->R (β×Gv)}{Q:VK}(ha:SE X XP mp a fa)(hb:SE X XP mp b fb)(hc:SE X XP mp c fc)(rs:RS M0 F Γ ν H)(hs:Sees mp ν σ)(hp:EPost M0 F ν σ H XP P ((fChain g g' fa fb fc Γ).bind k))
  (kk:∀ F2 Γ2 H2 z,RS M0 F2 Γ2 ν H2->EPost M0 F2 ν σ H2 XP P (k (z,Γ2))->Q (.bl z) H2) :
  Yp (fun v u H Q=>∃ x y z,g x y=some z/\Rep zw H v x/\Rep zw H u y/\Q (.bl z) H) (fun v u H Q=>∃ x y z,g' x y=some z/\Rep zw H v x/\Rep zw H u y/\Q (.bl z) H) (wpE X a) (wpE X b) (wpE X c) σ H Q:=by
 unfold fChain at hp
 rw[R.bind_assoc]at hp
 refine ha.run rs hs hp fun F1 Γ1 H1 u v rs1 s1 o1 h1=>?_
 dsimp only at h1
 rw[R.bind_assoc]at h1
 refine hb.run rs1 hs h1 fun F2 Γ2 H2 w v2 rs2 s2 o2 h2=>?_
 dsimp only at h2
 split at h2
 ·rename_i x y e1 e2
  split at h2
  ·rename_i e3
   refine⟨x,y,true,e3,(o1.stp s2 rs1.al0).weak rs2 e1,o2.weak rs2 e2,true,rfl,VY ?_⟩
   rw[R.bind_assoc]at h2
   refine hc.run rs2 hs h2 fun F3 Γ3 H3 t v3 rs3 s3 o3 h3=>?_
   dsimp only at h3
   split at h3
   ·rename_i y' z e4 e5
    split at h3
    ·rename_i kz e6
     exact⟨y',z,kz,e6,(o2.stp s3 rs2.al0).weak rs3 e4,o3.weak rs3 e5,kk F3 Γ3 H3 kz rs3 h3⟩
    ·exact h3.elim
   ·exact h3.elim
  ·rename_i e3
   exact⟨x,y,false,e3,(o1.stp s2 rs1.al0).weak rs2 e1,o2.weak rs2 e2,false,rfl,VX (kk F2 Γ2 H2 false rs2 h2)⟩
  ·exact h2.elim
 ·exact h2.elim
end
theorem zbu{op op':CmpOp}{g g':PyData->PyData->Option Bool}(ho:vJ X op g)(ho':vJ X op' g')(ha:SE X XP mp a fa)(hb:SE X XP mp b fb)(hc:SE X XP mp c fc)(hm:lastMarks [op,op'] [b,c]=false) :
  SE X XP mp (.Compare a [op,op'] [b,c] pos) (fB (fChain g g' fa fb fc)):=fun M0 F Γ ν σ H Q rs hs hp=>
 (zaY (ZS ho) (ZS ho') zc zc zc hm).wp (W9 ha hb hc rs hs hp fun F2 Γ2 H2 z rs2 h2=>h2 F2 H2 rs2 (.refl _ _) _ (Rep.bool z))
theorem zbK{op op':CmpOp}{g g':PyData->PyData->Option Bool}(ho:vJ X op g)(ho':vJ X op' g')(ha:SE X XP mp a fa)(hb:SE X XP mp b fb)(hc:SE X XP mp c fc)(hm:lastMarks [op,op'] [b,c]=false) :
  ST X XP mp (.Compare a [op,op'] [b,c] pos) (fChain g g' fa fb fc):=fun M0 F Γ ν σ H Q rs hs hp=>
 (zbc (ZS ho) (ZS ho') zc zc zc hm).wp (W9 (k:=.ok) (Q:=fun v H'=>∃ k,v=.bl k/\Q k H') ha hb hc rs hs (by rw[R.bind_ok];exact hp) fun F2 Γ2 H2 z rs2 h2=>⟨z,rfl,h2 F2 H2 rs2 (.refl _ _)⟩)
inductive FOks(M0:Addr->Prop)(F:Fp)(ν:Nu)(H:Hp):List V->List FV->Prop
 |nil:FOks M0 F ν H [] []
 |cons {v:V} {vs:List V} {u:FV} {us:List FV}:FOk M0 F ν H v u->FOks M0 F ν H vs us->FOks M0 F ν H (v::vs) (u::us)
noncomputable def derSs(Γ:Gv):List FV->Option (List PyData)
 |[]=>some []
 |u::us=>match derS Γ u,derSs Γ us with
  |some x,some xs=>some (x::xs)
  |_,_=>none
theorem FOks.strong{M0:Addr->Prop}{F:Fp}{Γ:Gv}{ν:Nu}{H:Hp}(rs:RS M0 F Γ ν H):∀ {vs:List V}{us:List FV}{ds:List PyData},FOks M0 F ν H vs us->derSs Γ us=some ds->RepL (MM M0 F) H vs ds
 |_,_,_,.nil,e=>by cases e;exact .nil
 |_,_,_,.cons h t,e=>by
  unfold derSs at e
  split at e
  ·rename_i e1 e2
   cases e
   exact .cons (h.strong rs e1) (FOks.strong rs t e2)
  ·cases e
theorem FOks.length{M0:Addr->Prop}{F:Fp}{ν:Nu}{H:Hp}:∀ {vs:List V}{us:List FV},FOks M0 F ν H vs us->vs.length=us.length
 |_,_,.nil=>rfl
 |_,_,.cons _ t=>by rw[xk,xk,FOks.length t]
noncomputable def SL(X:Cx)(XP:XPT)(mp:List Nat)(es:List Expr)(f:EM (List FV)):Prop:=∀ (M0:Addr->Prop) (F:Fp) (Γ:Gv) (ν:Nu) (σ:St) (H:Hp) (Q:List V->Hp->Prop),RS M0 F Γ ν H->Sees mp ν σ ->
 EPost M0 F ν σ H XP (fun F' Γ' H' us=>∀ vs,FOks M0 F' ν H' vs us->Q vs H') (f Γ)->wpA X es σ H Q
theorem SL.run{β:Type}{M0:Addr->Prop}{F:Fp}{Γ:Gv}{ν:Nu}{σ:St}{H:Hp}{P:Fp->Gv->Hp->β->Prop}{fl:EM (List FV)}{Q:List V->Hp->Prop}{k:List FV×Gv->R (β×Gv)}(ha:SL X XP mp es fl)(rs:RS M0 F Γ ν H)(hs:Sees mp ν σ)(h:EPost M0 F ν σ H XP P ((fl Γ).bind k))
  (kk:∀ F1 Γ1 H1 us vs,RS M0 F1 Γ1 ν H1->Stp F H F1 H1->FOks M0 F1 ν H1 vs us->EPost M0 F1 ν σ H1 XP P (k (us,Γ1))->Q vs H1):wpA X es σ H Q :=
 ha M0 F Γ ν σ H Q rs hs (h.seq.mono fun F1 Γ1 H1 u rs1 s1 h1 v hv=>kk F1 Γ1 H1 u v rs1 s1 hv h1)
noncomputable def fNil:EM (List FV):=fun Γ=>.ok ([],Γ)
noncomputable def fCons(fa:EM FV)(fl:EM (List FV)):EM (List FV):=fun Γ=>(fa Γ).bind fun (u,Γ1)=>(fl Γ1).bind fun (us,Γ2)=>.ok (u::us,Γ2)
theorem zgj:SL X XP mp [] fNil:=fun M0 F Γ ν σ H Q rs hs hp=>pa_nil.wp (hp F H rs (.refl _ _) [] .nil)
theorem zdL{fl:EM (List FV)}(ha:SE X XP mp a fa)(hl:SL X XP mp es fl)(hst:starEach (a::es) X.env=(false,eval a X.env)::starEach es X.env):SL X XP mp (a::es) (fCons fa fl):=fun M0 F Γ ν σ H Q rs hs hp=>
 (zq zc jp hst).wp (ha.run rs hs hp fun F1 Γ1 H1 u v rs1 s1 o1 h1=>hl.run rs1 hs h1 fun F2 Γ2 H2 us vs rs2 s2 o2 h2=>h2 F2 H2 rs2 (.refl _ _) _ (.cons (o1.stp s2 rs1.al0) o2))
theorem sz6{n:Nat}(h:n<=1000000):n<=sizeLine:=by have:=sizeLine_eq;omega
noncomputable def fTup(fl:EM (List FV)):EM FV:=fun Γ=>(fl Γ).bind fun (us,Γ1)=>match derSs Γ1 us with
 |some ds=>if us.length<=1000000 then .ok (.dat (.tuple ds),Γ1) else .bad
 |none=>.bad
noncomputable def fLst(fl:EM (List FV)):EM (List PyData):=fun Γ=>(fl Γ).bind fun (us,Γ1)=>match derSs Γ1 us with
 |some ds=>if us.length<=1000000 then .ok (ds,Γ1) else .bad
 |none=>.bad
theorem zf8{fl:EM (List FV)}{x1}(h:SL X XP mp es fl):SE X XP mp (.Tuple es x1 pos) (fTup fl):=fun M0 F Γ ν σ H Q rs hs hp=>
 (zfK jp).wp (h.run rs hs hp fun F1 Γ1 H1 us vs rs1 s1 o1 h1=>by
  dsimp only at h1
  split at h1
  ·rename_i ds e
   split at h1
   ·rename_i hz
    exact⟨by rw[o1.length];exact sz6 hz,fun p n=>h1 F1 _ (rs1.same (zv n)) (.same (zv n)) _ (Rep.tuple zf ((o1.strong rs1 e).grow (zv n).grow))⟩
   ·exact h1.elim
  ·exact h1.elim)
theorem zgm{fl:EM (List FV)}(h:SL X XP mp es fl):SN X XP mp (.List es pos) (fLst fl):=fun M0 F Γ ν σ H Q rs hs hp=>
 (za3 jp).wp (h.run rs hs hp fun F1 Γ1 H1 us vs rs1 s1 o1 h1=>by
  dsimp only at h1
  split at h1
  ·rename_i ds e
   split at h1
   ·rename_i hz
    exact⟨by rw[o1.length];exact sz6 hz,fun p n=>h1 F1 H1 rs1 (.refl _ _) vs p (o1.strong rs1 e) n⟩
   ·exact h1.elim
  ·exact h1.elim)
noncomputable def itemF(Γ:Gv)(u:FV)(i:Int):Option PyData:=match u with
 |.dat (.list xs)=>atI xs i
 |.dat (.tuple xs)=>atI xs i
 |.own k=>match Γ[k]? with
  |some (some (.l xs))=>match atI xs i with
   |some (.d x)=>some x
   |_=>none
  |some (some (.d (.list xs)))=>atI xs i
  |_=>none
 |_=>none
theorem zcs{α:Type}{xs:List α}{i:Int}{x:α}(h:atI xs i=some x):∃ j,ixN xs.length i=some j/\xs[j]?=some x:=by
 unfold atI at h
 cases e:ixN xs.length i with
 |none=>rw[e]at h;cases h
 |some j=>rw[e]at h;exact⟨j,rfl,h⟩
theorem zeM{α:Type}{xs:List α}{i:Int}{x:α}{j:Nat}(h:ixN xs.length i=some j)(h2:xs[j]?=some x):atI xs i=some x:=by
 unfold atI;rw[h];exact h2
theorem FOk.item{M0:Addr->Prop}{F:Fp}{Γ:Gv}{ν:Nu}{H:Hp}{v:V}{u:FV}{i:Int}{x:PyData}{K:PySem.W.Frag}(h:FOk M0 F ν H v u)(rs:RS M0 F Γ ν H)(e:itemF Γ u i=some x) :
  ∃ l vs w,v=.ref l/\(SqL K H l vs∨SqT K H l vs)/\atI vs i=some w/\Rep (MM M0 F) H w x:=by
 unfold itemF at e
 split at e
 ·obtain⟨a,vs,rfl,e1,_,r⟩:=Rep.lst_inv h
  obtain⟨w,ew,rw'⟩:=vS r e
  exact⟨a,vs,w,rfl,.inl (SqL.of e1),ew,rw'⟩
 ·obtain⟨a,vs,rfl,e1,r⟩:=Rep.tup_inv h
  obtain⟨w,ew,rw'⟩:=vS r e
  exact⟨a,vs,w,rfl,.inr (SqT.of e1),ew,rw'⟩
 ·rename_i k
  have h':ν[k]?=some (some v):=h
  split at e
  ·rename_i q
   split at e
   ·rename_i y eo
    cases e
    obtain⟨w,e1,r⟩:=rs.at' k _ q
    rw[h']at e1;cases e1
    generalize F k=A at r
    cases r with
    |l ea qa=>
     obtain⟨j,ej,exj⟩:=zcs eo
     obtain⟨w,ew,r⟩:=qa.get exj
     rw[<- qa.length]at ej
     exact⟨_,_,w,rfl,.inl (SqL.of ea),zeM ej ew,r⟩
   ·cases e
  ·rename_i q
   obtain⟨w,e1,r⟩:=rs.at' k _ q
   rw[h']at e1;cases e1
   generalize F k=A at r
   cases r with
   |d r=>
    obtain⟨a,vs,rfl,e1,_,r⟩:=Rep.lst_inv r
    obtain⟨w,ew,rw'⟩:=vS r e
    exact⟨a,vs,w,rfl,.inl (SqL.of e1),ew,rw'⟩
  ·cases e
 ·cases e
noncomputable def fIx(fa fb:EM FV):EM FV:=fun Γ=>(fa Γ).bind fun (u,Γ1)=>(fb Γ1).bind fun (w,Γ2)=>match derf Γ2 w with
 |some (.int i)=>match itemF Γ2 u i with
  |some x=>.ok (.dat x,Γ2)
  |none=>.bad
 |_=>.bad
theorem zhu(ha:SE X XP mp a fa)(hb:SE X XP mp b fb)(hx:wj b):SE X XP mp (.Subscript a b pos) (fIx fa fb):=fun M0 F Γ ν σ H Q rs hs hp=>
 (zet (ix_list.or zfj) zc zc hx).wp (ha.run rs hs hp fun F1 Γ1 H1 u v rs1 s1 o1 h1=>hb.run rs1 hs h1 fun F2 Γ2 H2 w v2 rs2 s2 o2 h2=>by
  dsimp only at h2
  split at h2
  ·rename_i i e1
   split at h2
   ·rename_i x e2
    obtain⟨l,vs,z,rfl,hq,ez,rz⟩:=(o1.stp s2 rs1.al0).item (K:=X.K) rs2 e2
    cases o2.weak rs2 e1
    rcases hq with hq | hq
    ·exact .inl ⟨l,vs,i,z,rfl,rfl,hq,ez,h2 F2 H2 rs2 (.refl _ _) z rz⟩
    ·exact .inr ⟨l,vs,i,z,rfl,rfl,hq,ez,h2 F2 H2 rs2 (.refl _ _) z rz⟩
   ·exact h2.elim
  ·exact h2.elim)
noncomputable def Ws{α:Type}(xs:List α)(lo hi:Option Int):List α:=(xs.drop (HT.sIx xs.length 0 lo)).take (HT.sIx xs.length xs.length hi-HT.sIx xs.length 0 lo)
theorem zbm{M:Addr->Prop}{H:Hp}{vs:List V}{ds:List PyData}(r:RepL M H vs ds)(lo hi:Option Int):RepL M H (JF vs lo hi) (Ws ds lo hi):=by
 unfold JF Ws
 rw[r.length]
 exact (r.drop _).take _
noncomputable def SOp(X:Cx)(XP:XPT)(mp:List Nat)(e:Option Expr)(f:EM (Option Int)):Prop:=∃ t:TO,PO X e t/\∀ (M0:Addr->Prop) (F:Fp) (Γ:Gv) (ν:Nu) (σ:St) (H:Hp) (Q:Option Int->Hp->Prop),RS M0 F Γ ν H->Sees mp ν σ ->
 EPost M0 F ν σ H XP (fun F' Γ' H' b=>Q b H') (f Γ)->t σ H Q
noncomputable def qX:EM (Option Int):=fun Γ=>.ok (none,Γ)
noncomputable def qW(fa:EM FV):EM (Option Int):=fun Γ=>(fa Γ).bind fun (u,Γ1)=>match derf Γ1 u with
 |some (.int i)=>.ok (some i,Γ1)
 |_=>.bad
theorem zdQ:SOp X XP mp none qX:=⟨_,Vk,fun M0 F Γ ν σ H Q rs hs hp=>hp F H rs (.refl _ _)⟩
theorem zdR(ha:SE X XP mp a fa):SOp X XP mp (some a) (qW fa):=⟨_,Vl zc,fun M0 F Γ ν σ H Q rs hs hp=>ha.run rs hs hp fun F1 Γ1 H1 u v rs1 s1 o1 h1=>by
 dsimp only at h1
 split at h1
 ·rename_i i e1
  cases o1.weak rs1 e1
  exact⟨i,rfl,h1 F1 H1 rs1 (.refl _ _)⟩
 ·exact h1.elim⟩
noncomputable def Zj(fa:EM FV)(fl fh:EM (Option Int)):EM (List PyData):=fun Γ=>(fa Γ).bind fun (u,Γ1)=>(fl Γ1).bind fun (lo,Γ2)=>(fh Γ2).bind fun (hi,Γ3)=>match derL Γ3 u with
 |some ds=>.ok (Ws ds lo hi,Γ3)
 |none=>.bad
theorem zgl{lo hi:Option Expr}{fl fh:EM (Option Int)}(ha:SE X XP mp a fa)(hl:SOp X XP mp lo fl)(hh:SOp X XP mp hi fh):SN X XP mp (.Subscript a (.Slice lo hi none p2) pos) (Zj fa fl fh):=fun M0 F Γ ν σ H Q rs hs hp=>by
 obtain⟨tl,pl,kl⟩:=hl
 obtain⟨th,ph,kh⟩:=hh
 refine (QH Vs zc pl ph).wp (ha.run rs hs hp fun F1 Γ1 H1 u v rs1 s1 o1 h1=>?_)
 refine kl M0 F1 Γ1 ν σ H1 _ rs1 hs (h1.seq.mono fun F2 Γ2 H2 lo rs2 s2 h2=>?_)
 refine kh M0 F2 Γ2 ν σ H2 _ rs2 hs (h2.seq.mono fun F3 Γ3 H3 hi rs3 s3 h3=>?_)
 dsimp only at h3
 split at h3
 ·rename_i ds e
  obtain⟨l,vs,rfl,el,rl⟩:=((o1.stp s2 rs1.al0).stp s3 rs2.al0).list rs3 e
  exact⟨l,vs,rfl,SqL.of el,fun p n=>h3 F3 H3 rs3 (.refl _ _) _ p (zbm rl lo hi) n⟩
 ·exact h3.elim
structure BiK(X:Cx)(x:Str)(val:Value):Prop where
 gl:Gl X x
 mg:X.mg x=none
 bt:bootBuiltins x=some val
 n:x≠ "__name__"
 d:(x==("__debug__" :Str))=false
noncomputable def lenD:PyData->Option Nat
 |.list xs=>some xs.length
 |.tuple xs=>some xs.length
 |_=>none
noncomputable def f1(g:PyData->Option PyData)(fa:EM FV):EM FV:=fun Γ=>(fa Γ).bind fun (u,Γ1)=>match (derf Γ1 u).bind g with
 |some y=>.ok (.dat y,Γ1)
 |none=>.bad
noncomputable def Qk(X:Cx)(f:Value)(g:PyData->Option PyData):Prop:=∀ x z,g x=some z->noL z=true/\∃ r,jj X f r/\∀ (H:Hp) (v:V) (Q:VK),
 Rep zw H v x->(∀ w,Rep zw H w z->Q w H)->r [v] H Q
theorem VG{f:Value}{g:PyData->Option PyData}(ho:Qk X f g):jj X f (fun vs H Q=>∃ v x z,vs= [v]/\g x=some z/\Rep zw H v x/\∀ w,Rep zw H w z->Q w H):=by
 rintro pins s σ H xs us Q I r ⟨v,x,z,rfl,e,rv,k⟩
 obtain⟨_,r',hr,hh⟩:=ho x z e
 exact hr pins s σ H [v] us Q I r (hh H v Q rv k)
theorem zau{M0:Addr->Prop}{F:Fp}{Γ:Gv}{ν:Nu}{σ:St}{H:Hp}{g:PyData->Option PyData}{Q:VK}(hz:∀ x z,g x=some z->noL z=true)(ha:SE X XP mp a fa)(rs:RS M0 F Γ ν H)(hs:Sees mp ν σ)(hst:starEach [a] X.env= [(false,eval a X.env)])
  (hp:EPost M0 F ν σ H XP (fun F' Γ' H' u=>∀ v,FOk M0 F' ν H' v u->Q v H') (f1 g fa Γ)):wpA X [a] σ H fun vs H1=>∃ v x z,vs= [v]/\g x=some z/\Rep zw H1 v x/\∀ w,Rep zw H1 w z->Q w H1 :=
 (zq zc pa_nil hst).wp (ha.run rs hs hp fun F1 Γ1 H1 u v rs1 s1 o1 h1=>by
  dsimp only at h1
  split at h1
  ·rename_i y ey
   cases ex:derf Γ1 u with
   |none=>rw[ex]at ey;cases ey
   |some x=>
    rw[ex]at ey
    exact⟨v,x,y,rfl,ey,o1.weak rs1 ex,fun w rw'=>h1 F1 H1 rs1 (.refl _ _) w (Rep.free (hz x y ey) rw')⟩
  ·exact h1.elim)
theorem ke{x:Str}{id:String}{g:PyData->Option PyData}(ho:Qk X (.builtin id) g)(B:BiK X x (.builtin id))(ha:SE X XP mp a fa)(hst:starEach [a] X.env= [(false,eval a X.env)]):SE X XP mp (.Call (.Name x p) [a] [] pos) (f1 g fa):=fun M0 F Γ ν σ H Q rs hs hp=>
 (wU (VG ho) B.gl B.mg B.bt jp B.n B.d hst rfl).wp (zau (fun x z e=>(ho x z e).1) ha rs hs hst hp)
theorem zew{x:Str}{id:String}{g:PyData->Option PyData}(ho:Qk X (.type id) g)(B:BiK X x (.type id))(ha:SE X XP mp a fa)(hst:starEach [a] X.env= [(false,eval a X.env)]):SE X XP mp (.Call (.Name x p) [a] [] pos) (f1 g fa):=fun M0 F Γ ν σ H Q rs hs hp=>
 (ZU (VG ho) B.gl B.mg B.bt jp B.n B.d hst rfl).wp (zau (fun x z e=>(ho x z e).1) ha rs hs hst hp)
noncomputable def gLen(x:PyData):Option PyData:=(lenD x).map fun n=>.int n
theorem ze4:Qk X (.builtin "len") gLen:=fun x z e=>by
 cases x with
 |list xs=>cases e;exact⟨rfl,_,Qs,fun H v Q r k=>by
   obtain⟨l,vs,rfl,el,_,rl⟩:=r.lst_inv
   exact⟨l,vs,rfl,.inl (SqL.of el),by rw[rl.length];exact k _ (.int _)⟩⟩
 |tuple xs=>cases e;exact⟨rfl,_,Qs,fun H v Q r k=>by
   obtain⟨l,vs,rfl,el,rl⟩:=r.tup_inv
   exact⟨l,vs,rfl,.inr (SqT.of el),by rw[rl.length];exact k _ (.int _)⟩⟩
 |_=>cases e
noncomputable def zz:List PyData->Option (List Bool)
 |[]=>some []
 |.bool b::r=>(zz r).map (b::·)
 |_=>none
theorem zj(bs:List Bool):zz (bs.map .bool)=some bs:=by
 induction bs with
 |nil=>rfl
 |cons b r ih=>simp[zz,ih]
theorem Qa:∀ {ds:List PyData}{bs:List Bool},zz ds=some bs->ds=bs.map .bool
 |[],bs,e=>by cases e;rfl
 |.bool b::r,bs,e=>by
  unfold zz at e
  cases q:zz r with
  |none=>rw[q]at e;cases e
  |some l=>rw[q]at e;cases e;rw[Qa q];rfl
 |.none::r,bs,e=>by cases e
 |.int _::r,bs,e=>by cases e
 |.str _::r,bs,e=>by cases e
 |.list _::r,bs,e=>by cases e
 |.tuple _::r,bs,e=>by cases e
 |.dict _::r,bs,e=>by cases e
noncomputable def gAll:PyData->Option PyData
 |.list xs=>(zz xs).map fun bs=>.bool (bs.all id)
 |_=>none
noncomputable def gAny:PyData->Option PyData
 |.list xs=>(zz xs).map fun bs=>.bool (bs.any id)
 |_=>none
theorem ze2 (hc:X.calm=true):Qk X (.builtin "all") gAll:=fun x z e=>by
 cases x with
 |list xs=>
  dsimp only [gAll]at e
  cases q:zz xs with
  |none=>rw[q]at e;cases e
  |some bs=>
   rw[q]at e;cases e
   exact⟨rfl,_,kU hc,fun H v Q r k=>by
    obtain⟨l,vs,rfl,el,_,rl⟩:=r.lst_inv
    rw[Qa q]at rl
    rw[rl.bls]at el
    exact⟨l,bs,rfl,SqL.of el,k _ (.bool _)⟩⟩
 |_=>cases e
theorem ze3 (hc:X.calm=true):Qk X (.builtin "any") gAny:=fun x z e=>by
 cases x with
 |list xs=>
  dsimp only [gAny]at e
  cases q:zz xs with
  |none=>rw[q]at e;cases e
  |some bs=>
   rw[q]at e;cases e
   exact⟨rfl,_,kW hc,fun H v Q r k=>by
    obtain⟨l,vs,rfl,el,_,rl⟩:=r.lst_inv
    rw[Qa q]at rl
    rw[rl.bls]at el
    exact⟨l,bs,rfl,SqL.of el,k _ (.bool _)⟩⟩
 |_=>cases e
noncomputable def jN(Γ:Gv)(u:FV):Option (List PyData):=match u with
 |.dat (.tuple xs)=>some xs
 |u=>derL Γ u
theorem FOk.seq{M0:Addr->Prop}{F:Fp}{Γ:Gv}{ν:Nu}{H:Hp}{v:V}{u:FV}{ds:List PyData}{K:PySem.W.Frag}(h:FOk M0 F ν H v u)(rs:RS M0 F Γ ν H)(e:jN Γ u=some ds) :
  ∃ l vs,v=.ref l/\(SqL K H l vs∨SqT K H l vs)/\RepL (MM M0 F) H vs ds:=by
 unfold jN at e
 split at e
 ·cases e
  obtain⟨a,vs,rfl,e1,r⟩:=Rep.tup_inv h
  exact⟨a,vs,rfl,.inr (SqT.of e1),r⟩
 ·obtain⟨a,vs,rfl,e1,r⟩:=h.list rs e
  exact⟨a,vs,rfl,.inl (SqL.of e1),r⟩
noncomputable def fListC(fa:EM FV):EM (List PyData):=fun Γ=>(fa Γ).bind fun (u,Γ1)=>match jN Γ1 u with
 |some ds=>.ok (ds,Γ1)
 |none=>.bad
theorem zdN {x:Str}(B:BiK X x (.type "list")) (ha:SE X XP mp a fa) (hst:starEach [a] X.env= [(false,eval a X.env)]):SN X XP mp (.Call (.Name x p) [a] [] pos) (fListC fa):=fun M0 F Γ ν σ H Q rs hs hp=>
 (ZU Qt B.gl B.mg B.bt (zq zc pa_nil hst) B.n B.d hst rfl).wp (ha.run rs hs hp fun F1 Γ1 H1 u v rs1 s1 o1 h1=>by
  dsimp only at h1
  split at h1
  ·rename_i ds e
   obtain⟨l,vs,rfl,hq,r⟩:=o1.seq (K:=X.K) rs1 e
   exact⟨l,vs,rfl,hq,fun p n=>h1 F1 H1 rs1 (.refl _ _) vs p r n⟩
  ·exact h1.elim)
noncomputable def fTupC(fa:EM FV):EM FV:=fun Γ=>(fa Γ).bind fun (u,Γ1)=>match derL Γ1 u with
 |some ds=>.ok (.dat (.tuple ds),Γ1)
 |none=>.bad
theorem zbx {x:Str}(B:BiK X x (.type "tuple")) (ha:SE X XP mp a fa) (hst:starEach [a] X.env= [(false,eval a X.env)]):SE X XP mp (.Call (.Name x p) [a] [] pos) (fTupC fa):=fun M0 F Γ ν σ H Q rs hs hp=>
 (ZU Wr B.gl B.mg B.bt (zq zc pa_nil hst) B.n B.d hst rfl).wp (ha.run rs hs hp fun F1 Γ1 H1 u v rs1 s1 o1 h1=>by
  dsimp only at h1
  split at h1
  ·rename_i ds e
   obtain⟨l,vs,rfl,el,r⟩:=o1.list rs1 e
   exact⟨l,vs,rfl,.inl ⟨SqL.of el,fun p n=>h1 F1 _ (rs1.same (zv n)) (.same (zv n)) _ (Rep.tuple zf (r.grow (zv n).grow))⟩⟩
  ·exact h1.elim)
noncomputable def isiB (a T:String):Option Bool:=if (T= "int" ∨T= "bool" ∨T= "list" ∨T= "tuple" ∨T= "str")/\¬ a= "dict" then some (a==T||(a== "bool" &&T== "int")) else none
theorem zfg{K:PySem.W.Frag}{x:PyData}{T:String}{k:Bool}(h:isiB (tyD x) T=some k):PySem.W.kitOne K (.type (tyD x)) (.type T)=some k:=by
 unfold isiB at h
 split at h
 ·rename_i hT
  cases h
  rcases hT.1 with rfl | rfl | rfl | rfl | rfl<;>cases x<;>kernel_rfl
 ·cases h
theorem zff {x:PyData}{T:String}{k:Bool}(h:isiB (tyD x) T=some k):tyD x≠ "dict" :=by
 unfold isiB at h
 split at h
 ·rename_i hT;exact hT.2
 ·cases h
noncomputable def fIsi(T:String)(fa:EM FV):EM FV:=fun Γ=>(fa Γ).bind fun (u,Γ1)=>match (derf Γ1 u).bind fun x=>isiB (tyD x) T with
 |some k=>.ok (.dat (.bool k),Γ1)
 |none=>.bad
theorem We {x y:Str}{T:String}(B:BiK X x (.builtin "isinstance")) (BT:BiK X y (.type T)) (ha:SE X XP mp a fa) (hst:starEach [a,.Name y p2] X.env=(false,eval a X.env)::starEach [.Name y p2] X.env) :
  SE X XP mp (.Call (.Name x p) [a,.Name y p2] [] pos) (fIsi T fa):=fun M0 F Γ ν σ H Q rs hs hp=>
 (wU zak B.gl B.mg B.bt (zq zc (zq (zc9 (v:=.ty T) BT.gl BT.mg BT.bt rfl BT.n BT.d) pa_nil rfl) hst) B.n B.d hst rfl).wp (ha.run rs hs hp fun F1 Γ1 H1 u v rs1 s1 o1 h1=>by
  dsimp only at h1
  split at h1
  ·rename_i k ek
   cases ex:derf Γ1 u with
   |none=>rw[ex]at ek;cases ek
   |some z=>
    rw[ex]at ek
    exact⟨v,T,_,k,rfl,(o1.weak rs1 ex).ty (zff ek),zfg ek,h1 F1 H1 rs1 (.refl _ _) _ (Rep.bool k)⟩
  ·exact h1.elim)
noncomputable def f2(g:PyData->PyData->Option PyData)(fa fb:EM FV):EM FV:=fun Γ=>(fa Γ).bind fun (u,Γ1)=>(fb Γ1).bind fun (w,Γ2)=>match derf Γ2 u,derf Γ2 w with
 |some x,some y=>match g x y with
  |some z=>.ok (.dat z,Γ2)
  |none=>.bad
 |_,_=>.bad
noncomputable def gMin:PyData->PyData->Option PyData
 |.int i,.int j=>some (.int (if j<i then j else i))
 |_,_=>none
noncomputable def gMax:PyData->PyData->Option PyData
 |.int i,.int j=>some (.int (if j>i then j else i))
 |_,_=>none
theorem zax{x y z:PyData}(h:gMax x y=some z):∃ i j,x=.int i/\y=.int j/\z=.int (if j>i then j else i):=by
 cases x<;>cases y<;>cases h
 exact⟨_,_,rfl,rfl,rfl⟩
theorem zdC {x:Str}(hc:X.calm=true) (B:BiK X x (.builtin "max")) (ha:SE X XP mp a fa) (hb:SE X XP mp b fb) (hst:starEach [a,b] X.env=(false,eval a X.env)::starEach [b] X.env) (hst2:starEach [b] X.env= [(false,eval b X.env)]) :
  SE X XP mp (.Call (.Name x p) [a,b] [] pos) (f2 gMax fa fb):=fun M0 F Γ ν σ H Q rs hs hp=>
 (wU (kX hc) B.gl B.mg B.bt (zq zc (zq zc pa_nil hst2) hst) B.n B.d hst (by rw[hst2];rfl)).wp (ha.run rs hs hp fun F1 Γ1 H1 u v rs1 s1 o1 h1=>hb.run rs1 hs h1 fun F2 Γ2 H2 w v2 rs2 s2 o2 h2=>by
  dsimp only at h2
  split at h2
  ·rename_i x y e1 e2
   split at h2
   ·rename_i z e3
    obtain⟨i,j,rfl,rfl,rfl⟩:=zax e3
    cases (o1.stp s2 rs1.al0).weak rs2 e1
    cases o2.weak rs2 e2
    exact⟨i,j,rfl,h2 F2 H2 rs2 (.refl _ _) _ (Rep.int _)⟩
   ·exact h2.elim
  ·exact h2.elim)
noncomputable def gNeg:PyData->Option PyData
 |.int i=>some (.int (-i))
 |_=>none
theorem zf4(ha:SE X XP mp a fa):SE X XP mp (.UnaryOp .USub a pos) (f1 gNeg fa):=fun M0 F Γ ν σ H Q rs hs hp=>
 (zeu zgH zc).wp (ha.run rs hs hp fun F1 Γ1 H1 u v rs1 s1 o1 h1=>by
  dsimp only at h1
  split at h1
  ·rename_i y ey
   cases ex:derf Γ1 u with
   |none=>rw[ex]at ey;cases ey
   |some x=>
    rw[ex]at ey
    cases x with
    |int i=>
     cases ey
     cases o1.weak rs1 ex
     exact⟨i,rfl,h1 F1 H1 rs1 (.refl _ _) _ (Rep.int _)⟩
    |_=>cases ey
  ·exact h1.elim)
open Classical in
noncomputable def binD(op:Operator)(x y:PyData):Option PyData:=match op,x,y with
 |.Add,.int i,.int j=>some (.int (i+j))
 |.Sub,.int i,.int j=>some (.int (i-j))
 |.Mult,.int i,.int j=>if (-(2 ^ 64)<i/\i<2 ^ 64)∨(-(2 ^ 64)<j/\j<2 ^ 64) then some (.int (i*j)) else none
 |.Mod,.int i,.int j=>if 0<j then some (.int (i % j)) else none
 |.FloorDiv,.int i,.int j=>if 0<j/\j<1073741824 then some (.int (i / j)) else none
 |.Pow,.int i,.int j=>if 0<=j/\j<=1000000/\i.natAbs<2 ^ 64 then some (.int (i ^ j.toNat)) else none
 |.LShift,.int i,.int j=>if 0<=j/\j<=1000000/\i.natAbs<2 ^ 64 then some (.int (i*2 ^ j.toNat)) else none
 |.RShift,.int i,.int j=>if 0<=j then some (.int (i / 2 ^ j.toNat)) else none
 |.BitAnd,.int i,.int j=>some (.int (Builtin.bitAnd i j))
 |.Add,.tuple a,.tuple b=>if a.length+b.length<=1000000 then some (.tuple (a++b)) else none
 |.Mult,.tuple a,.int n=>if 0<=n/\n<1000000/\a.length*n.toNat<=1000000 then some (.tuple (List.replicate n.toNat a).flatten) else none
 |_,_,_=>none
theorem ZT{op:Operator}{x y z:PyData}{i j k:Int}{C:Int->Int->Prop}{f:Int->Int->Int}(hc:C i j)(ho:OpR X (binaryOp op) (rI C fun i j=>.int (f i j))) :
  ∃ r:R2,OpR X (binaryOp op) r/\∀ (M:Addr->Prop) (H:Hp) (v u:V) (Q:VK),Al M H->Rep M H v (.int i)->Rep M H u (.int j)->(∀ w H',Same H H'->Rep M H' w (.int (f i j))->Q w H')->r v u H Q :=
 ⟨_,ho,fun M H v u Q _ r1 r2 k=>by cases r1;cases r2;exact⟨i,j,rfl,rfl,hc,k _ H (Same.refl H) (.int _)⟩⟩
theorem wM{op:Operator}{i j:Int}{f:Int->Int->Int}(ho:OpR X (binaryOp op) (rI0 fun i j=>.int (f i j))) :
  ∃ r:R2,OpR X (binaryOp op) r/\∀ (M:Addr->Prop) (H:Hp) (v u:V) (Q:VK),Al M H->Rep M H v (.int i)->Rep M H u (.int j)->(∀ w H',Same H H'->Rep M H' w (.int (f i j))->Q w H')->r v u H Q :=
 ⟨_,ho,fun M H v u Q _ r1 r2 k=>by cases r1;cases r2;exact⟨i,j,rfl,rfl,k _ H (Same.refl H) (.int _)⟩⟩
theorem zeO(op:Operator):OpS X (binaryOp op) (binD op):=fun x y z e=>by
 unfold binD at e
 split at e
 ·cases e;exact wM Ye
 ·cases e;exact wM zfH
 ·split at e
  ·rename_i h;cases e;exact ZT (x:=.none) (y:=.none) (z:=.none) (k:=0) h zaX
  ·cases e
 ·split at e
  ·rename_i h;cases e;exact ZT (x:=.none) (y:=.none) (z:=.none) (k:=0) h zaW
  ·cases e
 ·split at e
  ·rename_i h;cases e;exact ZT (x:=.none) (y:=.none) (z:=.none) (k:=0) h zc5
  ·cases e
 ·split at e
  ·rename_i h;cases e;exact ZT (x:=.none) (y:=.none) (z:=.none) (k:=0) h zfD
  ·cases e
 ·split at e
  ·rename_i h;cases e;exact ZT (x:=.none) (y:=.none) (z:=.none) (k:=0) h zfE
  ·cases e
 ·split at e
  ·rename_i h;cases e;exact ZT (x:=.none) (y:=.none) (z:=.none) (k:=0) (C:=fun _ j=>0<=j) h zfF
  ·cases e
 ·cases e;exact wM zfB
 ·split at e
  ·rename_i h
   cases e
   exact⟨_,zaU,fun M H v u Q _ q1 q2 k=>by
    obtain⟨l,vs,rfl,e,r⟩:=q1.tup_inv
    obtain⟨l2,vs2,rfl,e2,r2⟩:=q2.tup_inv
    refine⟨l,l2,vs,vs2,rfl,rfl,SqT.of e,SqT.of e2,by rw[r.length,r2.length];exact sz6 h,fun z=>k _ H (Same.refl H) ?_,fun z=>k _ H (Same.refl H) ?_,fun p np=>k _ _ (zv np) (.tuple zf ((r.append r2).grow (zv np).grow))⟩
    ·subst z
     cases r
     exact q2
    ·subst z
     cases r2
     rw[xN];exact q1⟩
  ·cases e
 ·split at e
  ·rename_i h
   cases e
   exact⟨_,zc7,fun M H v u Q _ q1 q2 k=>by
    obtain⟨l,vs,rfl,e,r⟩:=q1.tup_inv
    cases q2
    refine⟨l,_,vs,rfl,rfl,SqT.of e,by omega,by omega,by rw[r.length];exact sz6 h.2.2,fun hs=>k _ H (Same.refl H) ?_,fun p np=>k _ _ (zv np) (.tuple zf ((r.rep _).grow (zv np).grow))⟩
    rcases hs with z | z
    ·subst z
     cases r
     rename_i n _
     have:(List.replicate n.toNat ([]:List PyData)).flatten= []:=by simp
     rw[this];exact q1
    ·subst z
     have key:∀ l:List PyData,(List.replicate (1:Int).toNat l).flatten=l:=fun l=>by simp
     rw[key];exact q1⟩
  ·cases e
 ·cases e
noncomputable def lay:Nat->PyData->Bool
 |_,.none=>true
 |_,.bool _=>true
 |_,.int _=>true
 |_,.str x=>PyData.strOk x
 |n+1,.list xs=>xs.all (lay n)
 |n+1,.tuple xs=>xs.all (lay n)
 |_,_=>false
theorem jZ{n:Nat}(ih:∀ d,lay n d=true->d.canLay0=true/\d.depth<=n):∀ xs:List PyData,xs.all (lay n)=true->PyData.canLayAll0 xs=true/\PyData.depthAll xs<=n
 |[],_=>⟨rfl,xV _⟩
 |x::r,h=>by
  rw[uj,xa]at h
  obtain⟨a,b⟩:=ih x h.1
  obtain⟨c,d⟩:=jZ ih r h.2
  exact⟨by simp[PyData.canLayAll0,a,c],by simp only[PyData.depthAll];omega⟩
theorem zR:∀ (n:Nat) (d:PyData),lay n d=true->d.canLay0=true/\d.depth<=n
 |n,.none,_=>⟨rfl,xV _⟩
 |n,.bool _,_=>⟨rfl,xV _⟩
 |n,.int _,_=>⟨rfl,xV _⟩
 |n,.str _,h=>⟨by simpa [PyData.canLay0,lay] using h,xV _⟩
 |n+1,.list xs,h=>by
  obtain⟨a,b⟩:=jZ (zR n) xs (by simpa [lay] using h)
  exact⟨by simpa [PyData.canLay0] using a,by simp only[PyData.depth];omega⟩
 |n+1,.tuple xs,h=>by
  obtain⟨a,b⟩:=jZ (zR n) xs (by simpa [lay] using h)
  exact⟨by simpa [PyData.canLay0] using a,by simp only[PyData.depth];omega⟩
 |0,.list _,h=>by simp[lay]at h
 |0,.tuple _,h=>by simp[lay]at h
 |0,.dict _,h=>by simp[lay]at h
 |n+1,.dict _,h=>by simp[lay]at h
noncomputable def isN:PyData->Bool
 |.none=>true
 |_=>false
noncomputable def inD(x:PyData)(ys:List PyData):Bool:=ys.any fun y=>PyData.eqv y x
noncomputable def cmpD(op:CmpOp)(x y:PyData):Option Bool:=match op,x,y with
 |.Eq,x,y=>if lay 20 x&&lay 20 y then some (PyData.eqv x y) else none
 |.NotEq,x,y=>if lay 20 x&&lay 20 y then some (!PyData.eqv x y) else none
 |.Lt,.int i,.int j=>some (decide (i<j))
 |.LtE,.int i,.int j=>some (decide (i<=j))
 |.Gt,.int i,.int j=>some (decide (j<i))
 |.GtE,.int i,.int j=>some (decide (j<=i))
 |.In,x,.list ys=>if lay 20 x&&ys.all (lay 20) then some (inD x ys) else none
 |.In,x,.tuple ys=>if lay 20 x&&ys.all (lay 20) then some (inD x ys) else none
 |.NotIn,x,.list ys=>if lay 20 x&&ys.all (lay 20) then some (!inD x ys) else none
 |.NotIn,x,.tuple ys=>if lay 20 x&&ys.all (lay 20) then some (!inD x ys) else none
 |.Is,x,.none=>some (isN x)
 |.IsNot,x,.none=>some (!isN x)
 |_,_,_=>none
end
section
variable {X:Cx}
open Classical in
/-- is the value w equal to the data? -/
noncomputable def eqW(h:Heap)(dx:PyData)(w:Value):Bool:=if ∃ d as,Reads h w d as/\d.canLay0=true/\PyData.eqv d dx=true then true else false
theorem zas{h:Heap}{dx d:PyData}{w:Value}{as:List Addr}(r:Reads h w d as)(hl:d.canLay0=true):eqW h dx w=PyData.eqv d dx:=by
 unfold eqW
 cases e:PyData.eqv d dx with
 |true=>rw[if_pos ⟨d,as,r,hl,e⟩]
 |false=>
  rw[if_neg]
  rintro⟨d',as',r',hl',e'⟩
  have:=SeqAt.Reads.unique d d' w as as' hl r r'
  rw[<- this,e]at e';cases e'
theorem Qp{h:Heap}{dx:PyData}:∀ {us:List Value}{ys:List PyData}{as:List Addr},ReadsAll h us ys as->ys.all (lay 20)=true->us.any (eqW h dx)=inD dx ys
 |_,_,_,.nil,_=>rfl
 |_,_,_,.cons r t,hl=>by
  rw[uj,xa]at hl
  unfold inD
  rw[xP,xP,zas r (zR 20 _ hl.1).1,Qp t hl.2];rfl
theorem Qz{A:Around}{s:Shared}{dx:PyData}{v:Value}{bs:List Addr}(rx:Reads s.heap v dx bs)(hx:lay 20 dx=true)(hu:∀ n,n<=60->A.units+n<cLine):∀ {us:List Value}{ys:List PyData}{as:List Addr},ReadsAll s.heap us ys as->ys.all (lay 20)=true->∀ u∈us,SeqAt.EqAt A s u v (eqW s.heap dx u)
 |_,_,_,.nil,_=>fun u hu=>by cases hu
 |_,_,_,.cons (d:=d) r t,hl=>fun u' hu'=>by
  rw[uj,xa]at hl
  rcases xu.mp hu' with rfl | hu'
  ·rw[zas r (zR 20 _ hl.1).1]
   have h1:=zR 20 _ hl.1
   have h2:=zR 20 _ hx
   exact SeqAt.eqAt_reads _ _ _ _ _ _ _ _ r rx h1.1 h2.1 (hu _ (xC (Nat.min_le_left _ _) (by omega)))
  ·exact Qz rx hx hu t hl.2 u' hu'
noncomputable def zhm(K:PySem.W.Frag)(neg:Bool):R2:=fun x y H Q=>∃ M M' dx ys p vs,Rep M H x dx/\y=.ref p/\(SqL K H p vs∨SqT K H p vs)/\RepL M' H vs ys/\lay 20 dx=true/\ys.all (lay 20)=true/\Q (.bl (if neg then !inD dx ys else inD dx ys)) H
theorem zaV(hr:Room 1 X.A):OpR X (compareOp .In) (zhm X.K false):=by
 intro pins s σ H x y v u Q I rx ry h
 obtain⟨M,M',dx,ys,p,vs,r1,rfl,hq,r2,l1,l2,q⟩:=h
 cases ry
 obtain⟨bs,z1⟩:=r1.reads I.hok (zR 20 _ l1).1 rx
 have hu:∀ n,n<=60->X.A.in1.units+n<cLine:=(hr.in1).u60
 rcases hq with hq | hq
 ·obtain⟨its,r,pl,hz⟩:=I.list hq
  obtain⟨as,z2⟩:=r2.reads I.hok (jZ (zR 20) _ l2).1 r
  refine SeqAt.in_listAt (eqW s.heap dx) pl.isList (fun w hw=>Qz z1 l1 hu z2 l2 w (by simpa using hw)) ⟨.bl _,H,I,rfl,?_⟩
  rw[show its.toArray.any (eqW s.heap dx)=its.any (eqW s.heap dx) by simp,Qp z2 l2]
  exact q
 ·obtain⟨its,r,pl,hz⟩:=I.tuple hq
  obtain⟨as,z2⟩:=r2.reads I.hok (jZ (zR 20) _ l2).1 r
  refine SeqAt.in_tupleAt (eqW s.heap dx) pl (fun w hw=>Qz z1 l1 hu z2 l2 w (by simpa using hw)) ⟨.bl _,H,I,rfl,?_⟩
  rw[show its.toArray.any (eqW s.heap dx)=its.any (eqW s.heap dx) by simp,Qp z2 l2]
  exact q
theorem vw(hr:Room 1 X.A):OpR X (compareOp .NotIn) (zhm X.K true):=by
 intro pins s σ H x y v u Q I rx ry h
 obtain⟨M,M',dx,ys,p,vs,r1,rfl,hq,r2,l1,l2,q⟩:=h
 cases ry
 obtain⟨bs,z1⟩:=r1.reads I.hok (zR 20 _ l1).1 rx
 have hu:∀ n,n<=60->X.A.in1.units+n<cLine:=(hr.in1).u60
 rcases hq with hq | hq
 ·obtain⟨its,r,pl,hz⟩:=I.list hq
  obtain⟨as,z2⟩:=r2.reads I.hok (jZ (zR 20) _ l2).1 r
  refine SeqAt.notIn_listAt (eqW s.heap dx) pl.isList (fun w hw=>Qz z1 l1 hu z2 l2 w (by simpa using hw)) ⟨.bl _,H,I,rfl,?_⟩
  rw[show its.toArray.any (eqW s.heap dx)=its.any (eqW s.heap dx) by simp,Qp z2 l2]
  exact q
 ·obtain⟨its,r,pl,hz⟩:=I.tuple hq
  obtain⟨as,z2⟩:=r2.reads I.hok (jZ (zR 20) _ l2).1 r
  refine SeqAt.notIn_tupleAt (eqW s.heap dx) pl (fun w hw=>Qz z1 l1 hu z2 l2 w (by simpa using hw)) ⟨.bl _,H,I,rfl,?_⟩
  rw[show its.toArray.any (eqW s.heap dx)=its.any (eqW s.heap dx) by simp,Qp z2 l2]
  exact q
theorem Wa{M:Addr->Prop}{H:Hp}{v:V}{x:PyData}(r:Rep M H v x):decide (v=.non)=isN x:=by
 cases r<;>rfl
theorem JE(hr:Room 1 X.A)(op:CmpOp):vJ X op (cmpD op):=fun x y z e=>by
 have h60:∀ n,n<=60->X.A.units+n<cLine:=hr.u60
 unfold cmpD at e
 split at e
 ·split at e
  ·rename_i h
   cases e
   rw[xa]at h
   have h1:=zR 20 _ h.1
   have h2:=zR 20 _ h.2
   exact⟨_,Km h60,fun H v u Q r1 r2 k=>⟨_,_,_,_,r1,r2,h1.1,h2.1,xC (Nat.min_le_left _ _) (by omega),k⟩⟩
  ·cases e
 ·split at e
  ·rename_i h
   cases e
   rw[xa]at h
   have h1:=zR 20 _ h.1
   have h2:=zR 20 _ h.2
   exact⟨_,Ko h60,fun H v u Q r1 r2 k=>⟨_,_,_,_,r1,r2,h1.1,h2.1,xC (Nat.min_le_left _ _) (by omega),k⟩⟩
  ·cases e
 ·cases e;exact⟨_,zhf,fun H v u Q r1 r2 k=>by cases r1;cases r2;exact⟨_,_,rfl,rfl,k⟩⟩
 ·cases e;exact⟨_,zhe,fun H v u Q r1 r2 k=>by cases r1;cases r2;exact⟨_,_,rfl,rfl,k⟩⟩
 ·cases e;exact⟨_,zhd,fun H v u Q r1 r2 k=>by cases r1;cases r2;exact⟨_,_,rfl,rfl,k⟩⟩
 ·cases e;exact⟨_,zhc,fun H v u Q r1 r2 k=>by cases r1;cases r2;exact⟨_,_,rfl,rfl,k⟩⟩
 ·split at e
  ·rename_i h
   cases e
   rw[xa]at h
   exact⟨_,zaV hr,fun H v u Q r1 r2 k=>by
    obtain⟨l,vs,rfl,el,_,rl⟩:=r2.lst_inv
    exact⟨_,_,_,_,l,vs,r1,rfl,.inl (SqL.of el),rl,h.1,h.2,k⟩⟩
  ·cases e
 ·split at e
  ·rename_i h
   cases e
   rw[xa]at h
   exact⟨_,zaV hr,fun H v u Q r1 r2 k=>by
    obtain⟨l,vs,rfl,el,rl⟩:=r2.tup_inv
    exact⟨_,_,_,_,l,vs,r1,rfl,.inr (SqT.of el),rl,h.1,h.2,k⟩⟩
  ·cases e
 ·split at e
  ·rename_i h
   cases e
   rw[xa]at h
   exact⟨_,vw hr,fun H v u Q r1 r2 k=>by
    obtain⟨l,vs,rfl,el,_,rl⟩:=r2.lst_inv
    exact⟨_,_,_,_,l,vs,r1,rfl,.inl (SqL.of el),rl,h.1,h.2,k⟩⟩
  ·cases e
 ·split at e
  ·rename_i h
   cases e
   rw[xa]at h
   exact⟨_,vw hr,fun H v u Q r1 r2 k=>by
    obtain⟨l,vs,rfl,el,rl⟩:=r2.tup_inv
    exact⟨_,_,_,_,l,vs,r1,rfl,.inr (SqT.of el),rl,h.1,h.2,k⟩⟩
  ·cases e
 ·cases e
  exact⟨_,zfC,fun H v u Q r1 r2 k=>by cases r2;exact⟨rfl,by rw[Wa r1];exact k⟩⟩
 ·cases e
  exact⟨_,zc6,fun H v u Q r1 r2 k=>by
   cases r2
   refine⟨rfl,?_⟩
   rw[Wa r1];exact k⟩
 ·cases e
end
mutual
inductive IT where
 |nm (s i:Nat)
 |tp (ts:ITs)
inductive ITs where
 |nil
 |cons (t:IT) (ts:ITs)
end
mutual
/-- what a store makes of the frame -/
noncomputable def tgF:IT->PyData->Gv->Option Gv
 |.nm _ i,x,Γ=>if i<Γ.length then some (Γ.set i (some (.d x))) else none
 |.tp ts,.tuple xs,Γ=>tgFs ts xs Γ
 |.tp ts,.list xs,Γ=>tgFs ts xs Γ
 |_,_,_=>none
noncomputable def tgFs:ITs->List PyData->Gv->Option Gv
 |.nil,[],Γ=>some Γ
 |.cons t ts,x::xs,Γ=>(tgF t x Γ).bind fun Γ=>tgFs ts xs Γ
 |_,_,_=>none
end
noncomputable def ITs.len:ITs->Nat
 |.nil=>0
 |.cons _ ts=>ts.len+1
theorem Wl:∀ {ts:ITs}{ds:List PyData}{Γ Γ':Gv},tgFs ts ds Γ=some Γ'->ds.length=ts.len
 |.nil,[],_,_,_=>rfl
 |.nil,_::_,_,_,e=>by simp[tgFs]at e
 |.cons t ts,[],_,_,e=>by simp[tgFs]at e
 |.cons t ts,d::ds,Γ,Γ',e=>by
  rw[tgFs]at e
  cases q:tgF t d Γ with
  |none=>rw[q]at e;cases e
  |some Γ1=>rw[q]at e;rw[xk,Wl (ts:=ts) e];rfl
theorem Yq(t:IT):∀ (d:PyData) (Γ Γ':Gv),tgF t d Γ=some Γ'->Γ'.length=Γ.length:=by
 refine IT.rec (motive_1:=fun t=>∀ (d:PyData) (Γ Γ':Gv),tgF t d Γ=some Γ'->Γ'.length=Γ.length) (motive_2:=fun ts=>∀ (ds:List PyData) (Γ Γ':Gv),tgFs ts ds Γ=some Γ'->Γ'.length=Γ.length) ?_ ?_ ?_ ?_ t
 ·intro s i d Γ Γ' e
  rw[tgF]at e
  split at e
  ·cases e;simp
  ·cases e
 ·intro ts ih d Γ Γ' e
  cases d with
  |tuple xs=>rw[tgF]at e;exact ih _ _ _ e
  |list xs=>rw[tgF]at e;exact ih _ _ _ e
  |_=>simp[tgF]at e
 ·intro ds Γ Γ' e
  cases ds with
  |nil=>simp[tgFs]at e;rw[e]
  |cons=>simp[tgFs]at e
 ·intro t ts ih1 ih2 ds Γ Γ' e
  cases ds with
  |nil=>simp[tgFs]at e
  |cons d ds=>
   rw[tgFs]at e
   cases q:tgF t d Γ with
   |none=>rw[q]at e;cases e
   |some Γ1=>rw[q]at e;rw[ih2 _ _ _ e,ih1 _ _ _ q]
noncomputable def SG(X:Cx)(mp:List Nat)(kp:Nat->Prop)(tg:Expr)(t:IT):Prop:=∀ (M0:Addr->Prop) (F:Fp) (Γ Γ':Gv) (ν:Nu) (σ:St) (H:Hp) (v:V) (d:PyData) (Q:St->Hp->Prop),RS M0 F Γ ν H->Sees mp ν σ->σ.length=X.N.length->Rep (MM M0 F) H v d ->
 tgF t d Γ=some Γ'->(∀ F' ν' σ',RS M0 F' Γ' ν' H->Stp F H F' H->Sees mp ν' σ'->σ'.length=X.N.length->(∀ i:Nat,kp i->ν'[i]?=ν[i]?)->(∀ s i:Nat,mp[s]?=some i->kp i->σ'[s]?=σ[s]?)->Q σ' H)->wpG X tg v σ H Q
noncomputable def SGs(X:Cx)(mp:List Nat)(kp:Nat->Prop)(tgs:List Expr)(ts:ITs):Prop:=∀ (M0:Addr->Prop) (F:Fp) (Γ Γ':Gv) (ν:Nu) (σ:St) (H:Hp) (vs:List V) (ds:List PyData) (Q:St->Hp->Prop),RS M0 F Γ ν H->Sees mp ν σ->σ.length=X.N.length->RepL (MM M0 F) H vs ds ->
 tgFs ts ds Γ=some Γ'->(∀ F' ν' σ',RS M0 F' Γ' ν' H->Stp F H F' H->Sees mp ν' σ'->σ'.length=X.N.length->(∀ i:Nat,kp i->ν'[i]?=ν[i]?)->(∀ s i:Nat,mp[s]?=some i->kp i->σ'[s]?=σ[s]?)->Q σ' H)->zgJ X tgs vs σ H Q
section
variable {X:Cx} {mp:List Nat} {kp:Nat->Prop} {tg:Expr} {tgs:List Expr} {t:IT} {ts:ITs} {pos:Pos}
theorem Sees.set{ν:Nu}{σ:St}{s i:Nat}{v:V}(h:Sees mp ν σ)(hn:mp.Nodup)(hm:mp[s]?=some i)(hs:s<σ.length):Sees mp (ν.set i (some v)) (σ.set s (some v)):=fun s' j w e1 e2=>by
 by_cases hj:i=j
 ·subst hj
  have:s'=s:=by
   have h1:=(xb.mp e1).1
   have h2:=(xb.mp hm).1
   exact (List.getElem?_inj h1 hn).mp (by rw[e1,hm])
  subst this
  rw[xh hs]
  by_cases hl:i<ν.length
  ·rw[xh hl]at e2;rw[e2]
  ·rw[xz (by simpa using hl)]at e2;cases e2
 ·rw[xg hj]at e2
  have:s'≠s:=fun z=>hj (by subst z;rw[hm]at e1;exact Option.some.inj e1)
  rw[xg (Ne.symm this)]
  exact h s' j w e1 e2
theorem zdF{s i:Nat}{x:Str}(hN:X.N.Nodup)(hn:mp.Nodup)(hi:X.N[s]?=some x)(hm:mp[s]?=some i)(hlo:¬ kp i)(hx:Loc X.env.scope x)(hf:X.fn x=true∨X.env.scope.names.lookup x=some .local):SG X mp kp (.Name x pos) (.nm s i) :=
 fun M0 F Γ Γ' ν σ H v d Q rs hs hl r e k=>by
  rw[tgF]at e
  split at e
  ·rename_i hi'
   cases e
   have hsl:s<σ.length:=by rw[hl];exact (xb.mp hi).1
   obtain⟨F',rs',s'⟩:=rs.setD r hi'
   refine (Y0 hN hi hx hf).wp (k F' _ _ rs' s' (hs.set hn hm hsl) (by simpa using hl) (fun j hj=>?_) (fun s2 j e2 hj=>?_))
   ·rw[xg (fun z=>hlo (by rw[z];exact hj))]
   ·rw[xg]
    intro z
    subst z
    rw[hm]at e2
    cases e2
    exact hlo hj
  ·cases e
theorem zdG:SGs X mp kp [] .nil:=fun M0 F Γ Γ' ν σ H vs ds Q rs hs hl r e k=>by
 cases r with
 |nil=>
  simp[tgFs]at e
  subst e
  exact pgs_nil.wp ⟨rfl,k F ν σ rs (.refl _ _) hs hl (fun _ _=>rfl) (fun _ _ _ _=>rfl)⟩
 |cons r rr=>simp[tgFs]at e
theorem zbA(h1:SG X mp kp tg t)(h2:SGs X mp kp tgs ts)(hst:(assignEach (tg::tgs) X.env).map (·.2)=assign tg X.env::(assignEach tgs X.env).map (·.2)):SGs X mp kp (tg::tgs) (.cons t ts):=fun M0 F Γ Γ' ν σ H vs ds Q rs hs hl r e k=>by
 cases r with
 |nil=>simp[tgFs]at e
 |cons r rr=>
  rename_i v vs d ds
  rw[tgFs]at e
  cases e1:tgF t d Γ with
  |none=>rw[e1]at e;cases e
  |some Γ1=>
   rw[e1]at e
   refine (za6 Y1 wV hst).wp ⟨v,vs,rfl,h1 M0 F Γ Γ1 ν σ H v d _ rs hs hl r e1 fun F1 ν1 σ1 rs1 s1 hs1 hl1 n1 m1=>?_⟩
   exact h2 M0 F1 Γ1 Γ' ν1 σ1 H vs ds _ rs1 hs1 hl1 (qP s1 rs.al0 rr) e fun F2 ν2 σ2 rs2 s2 hs2 hl2 n2 m2=>k F2 ν2 σ2 rs2 (s1.trans s2) hs2 hl2 (fun i hi=>(n2 i hi).trans (n1 i hi)) (fun s i e hi=>(m2 s i e hi).trans (m1 s i e hi))
theorem zgd{n:Nat}(hc:X.calm=true)(h:SGs X mp kp tgs ts)(hl:ts.len=(assignEach tgs X.env).length)(hst:(assignEach tgs X.env).findIdx? (·.1)=none):SG X mp kp (.Tuple tgs n pos) (.tp ts):=fun M0 F Γ Γ' ν σ H v d Q rs hs hl' r e k=>by
 cases d with
 |tuple ds=>
  rw[tgF]at e
  obtain⟨a,vs,rfl,ea,rr⟩:=r.tup_inv
  exact (zfN hc wV rfl hst).wp ⟨a,vs,rfl,SqT.of ea,by rw[rr.length,Wl e,hl],h M0 F Γ Γ' ν σ H vs ds Q rs hs hl' rr e k⟩
 |list ds=>
  rw[tgF]at e
  obtain⟨a,vs,rfl,ea,_,rr⟩:=r.lst_inv
  exact (zdd hc wV rfl hst).wp ⟨a,vs,rfl,SqL.of ea,by rw[rr.length,Wl e,hl],h M0 F Γ Γ' ν σ H vs ds Q rs hs hl' rr e k⟩
 |_=>simp[tgF]at e
end
noncomputable def JI(M0:Addr->Prop)(F:Fp)(J:It)(ds:List PyData)(H1:Hp):Prop:=∀ (i:Nat) (F':Fp) (H':Hp),Stp F H1 F' H'->(∀ a,M0 a->H1 a≠none) ->
 (∀ d,ds[i]?=some d->J.go i H'/\∀ x H2,J.yld i H' x H2->Same H' H2/\Rep (MM M0 F') H2 x d)/\(ds.length<=i->J.stop i H')
noncomputable def SI(X:Cx)(XP:XPT)(mp:List Nat)(tg iter:Expr)(f:EM (List PyData)):Prop:=∀ (M0:Addr->Prop) (F:Fp) (Γ:Gv) (ν:Nu) (σ:St) (H:Hp) (R:It->Hp->Prop),RS M0 F Γ ν H->Sees mp ν σ ->
 EPost M0 F ν σ H XP (fun F' Γ' H' ds=>∀ J,JI M0 F' J ds H'->R J H') (f Γ)->wpI X tg iter σ H R
section
variable {X:Cx} {XP:XPT} {mp:List Nat} {a b c e tg iter elt:Expr} {es ifs:List Expr} {pos p p2:Pos} {fa fb fc:EM FV} {ta tb:EM Bool} {na nb:EM (List PyData)}
noncomputable def fSeqL(fa:EM FV):EM (List PyData):=fun Γ=>(fa Γ).bind fun (u,Γ1)=>match derS Γ1 u with
 |some (.list ds)=>.ok (ds,Γ1)
 |_=>.bad
noncomputable def fSeqT(fa:EM FV):EM (List PyData):=fun Γ=>(fa Γ).bind fun (u,Γ1)=>match derS Γ1 u with
 |some (.tuple ds)=>.ok (ds,Γ1)
 |_=>.bad
theorem zaB{M0:Addr->Prop}{F:Fp}{K:PySem.W.Frag}{H1:Hp}{l:Addr}{ds:List PyData}{vs:List V}(e:H1 l=some (.lst vs))(n:∀ j,l∉F j)(r:RepL (MM M0 F) H1 vs ds):JI M0 F (Itl K l) ds H1:=fun i F' H' s h0=>by
 have e':H' l=some (.lst vs):=(s.keep l _ e n).1
 refine⟨fun d hd=>?_,fun hl=>⟨vs,SqL.of e',by rw[r.length];exact hl⟩⟩
 obtain⟨v,hv,rv⟩:=r.get' hd
 exact⟨⟨vs,v,SqL.of e',hv⟩,fun x H2 ⟨e2,y⟩=>by
  subst e2
  have:=y vs (SqL.of e')
  rw[hv]at this;cases this
  exact⟨Same.refl _,zr s h0 rv⟩⟩
theorem zcO{M0:Addr->Prop}{F:Fp}{K:PySem.W.Frag}{H1:Hp}{l:Addr}{ds:List PyData}{vs:List V}(e:H1 l=some (.lst vs))(n:¬ MM M0 F l)(r:RepL (MM M0 F) H1 vs ds):JI M0 F (Itl K l) ds H1:=zaB e (fun j hj=>n (.inr ⟨j,hj⟩)) r
theorem zfk{M0:Addr->Prop}{F:Fp}{K:PySem.W.Frag}{H1:Hp}{l:Addr}{ds:List PyData}{vs:List V}(e:H1 l=some (.tup vs))(r:RepL (MM M0 F) H1 vs ds):JI M0 F (Itt K l) ds H1:=fun i F' H' s h0=>by
 have e':H' l=some (.tup vs):=s.tups l _ e
 refine⟨fun d hd=>?_,fun hl=>⟨vs,SqT.of e',by rw[r.length];exact hl⟩⟩
 obtain⟨v,hv,rv⟩:=r.get' hd
 exact⟨⟨vs,v,SqT.of e',hv⟩,fun x H2 ⟨e2,y⟩=>by
  subst e2
  have:=y vs (SqT.of e')
  rw[hv]at this;cases this
  exact⟨Same.refl _,zr s h0 rv⟩⟩
theorem zdI(ha:SE X XP mp iter fa):SI X XP mp tg iter (fSeqL fa):=fun M0 F Γ ν σ H R rs hs hp=>
 (Y2 zc).wp (ha.run rs hs hp fun F1 Γ1 H1 u v rs1 s1 o1 h1=>by
  dsimp only at h1
  split at h1
  ·rename_i ds eu
   obtain⟨l,vs,rfl,e,n,r⟩:=(o1.strong rs1 eu).lst_inv
   exact⟨l,rfl,⟨vs,SqL.of e⟩,h1 F1 H1 rs1 (.refl _ _) _ (zcO e n r)⟩
  ·exact h1.elim)
theorem zge(ha:SE X XP mp iter fa):SI X XP mp tg iter (fSeqT fa):=fun M0 F Γ ν σ H R rs hs hp=>
 (zfO zc).wp (ha.run rs hs hp fun F1 Γ1 H1 u v rs1 s1 o1 h1=>by
  dsimp only at h1
  split at h1
  ·rename_i ds eu
   obtain⟨l,vs,rfl,e,r⟩:=(o1.strong rs1 eu).tup_inv
   exact⟨l,rfl,⟨vs,SqT.of e⟩,h1 F1 H1 rs1 (.refl _ _) _ (zfk e r)⟩
  ·exact h1.elim)
noncomputable def fRange(fa:EM FV):EM (List PyData):=fun Γ=>(fa Γ).bind fun (u,Γ1)=>match derf Γ1 u with
 |some (.int n)=>if -1000000<=n/\n<=1000000 then .ok (qp n.toNat,Γ1) else .bad
 |_=>.bad
theorem zaC{M0:Addr->Prop}{F:Fp}(n:Nat)(H1:Hp):JI M0 F (Itr 0 n) (qp n) H1:=fun i F' H' s h0=>by
 refine⟨fun d hd=>?_,fun hl=>?_⟩
 ·obtain⟨hi,rfl⟩:=Yh hd
  exact⟨hi,fun x H2 ⟨e,y⟩=>by subst e y;exact⟨Same.refl _,by rw[show (0:Int)+(i:Int)=i by omega];exact .int _⟩⟩
 ·show n<=i
  simpa [zh] using hl
theorem zbD {x:Str}(B:BiK X x (.type "range")) (ex:x= "range") (ha:SE X XP mp a fa) (hst:starEach [a] X.env= [(false,eval a X.env)]):SI X XP mp tg (.Call (.Name x p) [a] [] pos) (fRange fa):=fun M0 F Γ ν σ H R rs hs hp=>by
 subst ex
 exact (Kq B.gl B.mg (zq zc pa_nil hst) hst).wp (ha.run rs hs hp fun F1 Γ1 H1 u v rs1 s1 o1 h1=>by
  dsimp only at h1
  split at h1
  ·rename_i n eu
   split at h1
   ·rename_i hn
    cases o1.weak rs1 eu
    exact⟨n,rfl,by omega,by omega,h1 F1 H1 rs1 (.refl _ _) _ (zaC n.toNat H1)⟩
   ·exact h1.elim
  ·exact h1.elim)
noncomputable def SF(X:Cx)(XP:XPT)(mp:List Nat)(ifs:List Expr)(f:EM Bool):Prop:=∀ (M0:Addr->Prop) (F:Fp) (Γ:Gv) (ν:Nu) (σ:St) (H:Hp) (Q:Bool->Hp->Prop),RS M0 F Γ ν H->Sees mp ν σ ->
 EPost M0 F ν σ H XP (fun F' Γ' H' b=>Q b H') (f Γ)->wpF X ifs σ H Q
noncomputable def fYes:EM Bool:=fun Γ=>.ok (true,Γ)
theorem zgb:SF X XP mp [] fYes:=fun M0 F Γ ν σ H Q rs hs hp=>pf_nil.wp (hp F H rs (.refl _ _))
theorem zgc(h:ST X XP mp c ta):SF X XP mp [c] ta:=fun M0 F Γ ν σ H Q rs hs hp=>(zfL jq).wp (h M0 F Γ ν σ H Q rs hs hp)
noncomputable abbrev XP0:XPT:=fun _ _ _ _ _ _=>False
noncomputable def XPc(XP:XPT)(σ:St):XPT:=fun x _ _ _ _ H'=>∃ Γ F ν,XP x Γ F ν σ H'
noncomputable def mpC(mp:List Nat)(n k:Nat)(ix:List Nat):List Nat:=(List.range k).map (n+·)++ix.map fun i=>mp.getD i 0
theorem zft{mp:List Nat}{n k:Nat}{ix:List Nat}{s:Nat}(h:s<k):(mpC mp n k ix)[s]?=some (n+s):=by
 unfold mpC
 rw[xc (by simpa using h),xA,ur h];rfl
theorem zaM{mp:List Nat}{n k:Nat}{ix:List Nat}{j:Nat}:(mpC mp n k ix)[k+j]?=(ix[j]?).map fun i=>mp.getD i 0:=by
 unfold mpC
 rw[xf (by simp),xA]
 simp
noncomputable def SNt(XP:XPT)(mp:List Nat)(t:TE)(f:EM (List PyData)):Prop:=∀ (M0:Addr->Prop) (F:Fp) (Γ:Gv) (ν:Nu) (σ:St) (H:Hp) (Q:VK),RS M0 F Γ ν H->Sees mp ν σ ->
 EPost M0 F ν σ H XP (fun F' Γ' H' ds=>∀ vs p,RepL (MM M0 F') H' vs ds->H' p=none->Q (.ref p) (upd H' p (.lst vs))) (f Γ)->t σ H Q
end
end L3
namespace L2
open PySem PySem.Spec PyProof.Rows
variable [Cs]
section
variable {X:Cx} {pins:List (Addr×Obj)} {σ:St} {H:Hp} {s s':Shared} {e:Value}
theorem VH{C:Addr}(u:Up X pins σ H C e s)(hx:X.ex= [])(hst:X.stack=X.env::X.outer)(hf:X.env.frame=some X.env.locals){E':XK}(hE:E' (.ref C) none H){Ez:Value->Shared->Prop} :
  wpAny (model X.prog X.w) X.A (leaving X.env e) (fun _ s''=>CX1 X.prog X.w X.outer X.H₀ X.s₀ E' e s'') Ez s:=by
 obtain⟨ea,a0,fl,B,rfl,al,inv⟩:=u
 have I0:=inv s.heap al.1 (.refl _)
 have hfr:X.A.frames=some (X.env::X.outer):=by rw[<- hst];exact I0.ok.frames
 rw[hst]at al
 unfold leaving
 refine wpAny_bind (wQ hfr hf al fun h4 al4 up4=>Vr al4 fun h5 ⟨x1,x2,⟨_,_,x3⟩,x4⟩ up5=>⟨ea,.ref C,a0,B,s.heap,H,rfl,I0.os,I0.bare,⟨x1,x2,x3,x4⟩,up4.trans up5,fun h6 k1 k2=>?_,hE⟩)
 exact (inv h6 k1 k2).flies hx hst hf (fun b o e=>PySem.W.of_hideAll _ e) (Heap.UpToSlots.of_keeps fun _ _ e=>e)
end
theorem KZ{X:Cx}{CX:CXT}{E:XK}{sp:Sp}{σ:St}{H:Hp}{Q:VK}{r x:Str}{k i:Nat}{b:Addr}{e:Expr}{es:List Expr}{p pos:Pos}(kn:Kn X.prog X.w X.K X.mg X.base CX x k sp)(hb0:X.mg x=some (.ref b))(hr:Room k X.A)
  (hN:X.N[i]?=some r) (hv:Vis X.env.scope r) (hd:(r==("__debug__" :Str))=false) (hcd:(r==("__classdict__" :Str))=false) (hσ:σ[i]?=some (some (.ref b)))
  (hx:∀ pins H s e s',Inv X pins σ H s->CX X.stack H s E e s'->X.xe e s') (h:wpA X (e::es) σ H fun vs H1=>sp vs H1 Q E)
  (he:starEach (e::es) X.env=(false,eval e X.env)::starEach es X.env) (hpl:(backTo pos (starEach es X.env)).any (·.1)=false):wpE X (.Call (.Name r p) (e::es) [] pos) σ H Q:=fun pins s I=>by
 obtain⟨f,fd,ps,F,hm,hk,hb⟩:=kn.ex
 rw[hb0]at hm;cases hm
 refine wpAny_Call_Name_kw (thn (qB (X:=X) hN hv hd hcd pins s σ H (fun v H'=>v=.ref b/\H'=H) I ⟨_,hσ,rfl,rfl⟩) fun u s1 ⟨v,H1,I1,r1,e1,e2⟩=>?_)
 subst e1 e2
 cases r1
 refine PySem.W.callWith_K (h₀:=X.base) I1.ok.mod.kin hk (thn (h pos pins s1 I1) fun us s1 ⟨vs,H1,I1,r,q⟩=>⟨I1.kIn,?_⟩) he hpl
 have hl:us.length=ps.length:=by rw[<- r.length];exact F.len _ _ _ _ q
 have hb':=hb s1 us I1.kIn (by simpa using hl)
 rw[xN]at hb'
 refine wpAny_call (codeAny_mono (F.run X.A X.stack s1 H1 ⟨us,[]⟩ us vs Q E hr I1.env0 hb' r q) fun r s' hq=>?_)
 cases r with
 |error e=>exact hx pins H1 s1 e s' I1 hq
 |ok fl=>
  cases fl with
  |ret u=>exact I1.after hq
  |next=>exact False.elim hq
  |brk=>exact False.elim hq
  |cont=>exact False.elim hq
end L2
namespace L3
open PySem PySem.Spec PyProof.Rows L2
variable [Cs]
inductive AV where
 |v (u:FV)
 |io (i:Nat)
inductive AOks(M0:Addr->Prop)(F:Fp)(ν:Nu)(H:Hp):List V->List AV->Prop
 |nil:AOks M0 F ν H [] []
 |v {v:V} {vs:List V} {u:FV} {as:List AV}:FOk M0 F ν H v u->AOks M0 F ν H vs as->AOks M0 F ν H (v::vs) (.v u::as)
 |io {v:V} {vs:List V} {i:Nat} {as:List AV}:ν[i]?=some (some v)->AOks M0 F ν H vs as->AOks M0 F ν H (v::vs) (.io i::as)
noncomputable def APost(M0:Addr->Prop)(F:Fp)(ν:Nu)(σ:St)(H:Hp)(XP:XPT)(P:Fp->Gv->Nu->Hp->List AV->Prop)(r:R (List AV×Gv)):Prop:=match r with
 |.ok (as,Γ')=>∀ F' ν' H',RS M0 F' Γ' ν' H'->ν <+: ν'->Stp F H F' H'->P F' Γ' ν' H' as
 |.exc x Γ'=>∀ F' H',RS M0 F' Γ' ν H'->Stp F H F' H'->XP x Γ' F' ν σ H'
 |.bad=>False
noncomputable def OPost(M0:Addr->Prop)(F:Fp)(ν:Nu)(σ:St)(H:Hp)(XP:XPT)(P:Fp->Gv->Hp->OV->V->Prop)(r:R (OV×Gv)):Prop:=match r with
 |.ok (o,Γ')=>∀ F' H' v,RS M0 F' (Γ'++ [some o]) (ν++ [some v]) H'->Stp F H F' H'->P F' Γ' H' o v
 |.exc x Γ'=>∀ F' H',RS M0 F' Γ' ν H'->Stp F H F' H'->XP x Γ' F' ν σ H'
 |.bad=>False
noncomputable def SA(X:Cx)(XP:XPT)(mp:List Nat)(es:List Expr)(f:EM (List AV)):Prop:=∀ (M0:Addr->Prop) (F:Fp) (Γ:Gv) (ν:Nu) (σ:St) (H:Hp) (Q:List V->Hp->Prop),RS M0 F Γ ν H->Sees mp ν σ ->
 APost M0 F ν σ H XP (fun F' Γ' ν' H' as=>∀ vs,AOks M0 F' ν' H' vs as->Q vs H') (f Γ)->wpA X es σ H Q
noncomputable def SO(X:Cx)(XP:XPT)(mp:List Nat)(e:Expr)(f:EM OV):Prop:=∀ (M0:Addr->Prop) (F:Fp) (Γ:Gv) (ν:Nu) (σ:St) (H:Hp) (Q:VK),RS M0 F Γ ν H->Sees mp ν σ ->
 OPost M0 F ν σ H XP (fun F' Γ' H' o v=>Q v H') (f Γ)->wpE X e σ H Q
section
variable {M0:Addr->Prop} {F:Fp} {Γ:Gv} {ν:Nu} {σ:St} {H:Hp} {XP:XPT} {α:Type}
theorem APost.seq{P:Fp->Gv->Nu->Hp->List AV->Prop}{r:R (α×Gv)}{k:α×Gv->R (List AV×Gv)}(h:APost M0 F ν σ H XP P (r.bind k)):EPost M0 F ν σ H XP (fun F1 Γ1 H1 a=>APost M0 F1 ν σ H1 XP P (k (a,Γ1))) r:=by
 cases r with
 |ok a=>
  obtain⟨a,Γ1⟩:=a
  intro F1 H1 rs1 s1
  have h':APost M0 F ν σ H XP P (k (a,Γ1)):=h
  revert h'
  generalize k (a,Γ1)=r2
  intro h'
  cases r2 with
  |ok b=>exact fun F' ν' H' rs hn s=>h' F' ν' H' rs hn (s1.trans s)
  |exc x Γ'=>exact fun F' H' rs s=>h' F' H' rs (s1.trans s)
  |bad=>exact h'
 |exc x Γ'=>exact h
 |bad=>exact h
theorem APost.mono{P P':Fp->Gv->Nu->Hp->List AV->Prop}{r:R (List AV×Gv)}(h:APost M0 F ν σ H XP P r)(k:∀ F' Γ' ν' H' as,RS M0 F' Γ' ν' H'->ν <+: ν'->Stp F H F' H'->P F' Γ' ν' H' as->P' F' Γ' ν' H' as):APost M0 F ν σ H XP P' r:=by
 cases r with
 |ok a=>exact fun F' ν' H' rs hn s=>k F' _ ν' H' _ rs hn s (h F' ν' H' rs hn s)
 |exc x Γ'=>exact h
 |bad=>exact h
theorem OPost.seq{P:Fp->Gv->Hp->OV->V->Prop}{r:R (α×Gv)}{k:α×Gv->R (OV×Gv)}(h:OPost M0 F ν σ H XP P (r.bind k)):EPost M0 F ν σ H XP (fun F1 Γ1 H1 a=>OPost M0 F1 ν σ H1 XP P (k (a,Γ1))) r:=by
 cases r with
 |ok a=>
  obtain⟨a,Γ1⟩:=a
  intro F1 H1 rs1 s1
  have h':OPost M0 F ν σ H XP P (k (a,Γ1)):=h
  revert h'
  generalize k (a,Γ1)=r2
  intro h'
  cases r2 with
  |ok b=>exact fun F' H' v rs s=>h' F' H' v rs (s1.trans s)
  |exc x Γ'=>exact fun F' H' rs s=>h' F' H' rs (s1.trans s)
  |bad=>exact h'
 |exc x Γ'=>exact h
 |bad=>exact h
theorem OPost.mono{P P':Fp->Gv->Hp->OV->V->Prop}{r:R (OV×Gv)}(h:OPost M0 F ν σ H XP P r)(k:∀ F' Γ' H' o v,RS M0 F' (Γ'++ [some o]) (ν++ [some v]) H'->Stp F H F' H'->P F' Γ' H' o v->P' F' Γ' H' o v):OPost M0 F ν σ H XP P' r:=by
 cases r with
 |ok a=>exact fun F' H' v rs s=>k F' _ H' _ v rs s (h F' H' v rs s)
 |exc x Γ'=>exact h
 |bad=>exact h
end
section
variable {X:Cx} {XP:XPT} {mp:List Nat} {a b c e:Expr} {es:List Expr} {pos p p2:Pos} {fa fb fc:EM FV} {ta tb:EM Bool} {na nb:EM (List PyData)} {fl:EM (List AV)} {fo:EM OV}
noncomputable def fOwn(n:EM (List PyData)):EM OV:=fun Γ=>(n Γ).bind fun (ds,Γ1)=>.ok (.l (ds.map .d),Γ1)
theorem SN.so(h:SN X XP mp a na):SO X XP mp a (fOwn na):=fun M0 F Γ ν σ H Q rs hs hp=>
 h M0 F Γ ν σ H Q rs hs (hp.seq.mono fun F1 Γ1 H1 ds rs1 s1 h1 vs p r n=>by
  obtain⟨r2,s2⟩:=rs1.newO n r
  exact h1 _ _ _ r2 s2)
noncomputable def fOD(f:EM OV):EM FV:=fun Γ=>(f Γ).bind fun (o,Γ1)=>.ok (.dat o.view,Γ1)
theorem SO.se(h:SO X XP mp a fo):SE X XP mp a (fOD fo):=fun M0 F Γ ν σ H Q rs hs hp=>
 h M0 F Γ ν σ H Q rs hs (by
  have hp':EPost M0 F ν σ H XP (fun F' Γ' H' u=>∀ v,FOk M0 F' ν H' v u->Q v H') ((fo Γ).bind fun (o,Γ1)=>.ok (.dat o.view,Γ1)):=hp
  revert hp'
  generalize fo Γ=r
  intro hp'
  cases r with
  |ok z=>
   obtain⟨o,Γ1⟩:=z
   intro F' H' v rs' s'
   obtain⟨F2,rs2,s2,r2⟩:=rs'.dropD
   exact hp' F2 H' rs2 (s'.trans s2) v r2
  |exc x y=>exact hp'
  |bad=>exact hp')
theorem FOk.ext{M0:Addr->Prop}{F:Fp}{ν ν':Nu}{H:Hp}{v:V}{u:FV}(h:FOk M0 F ν H v u)(hn:ν <+: ν'):FOk M0 F ν' H v u:=by
 cases u with
 |dat x=>exact h
 |own i=>
  have h':ν[i]?=some (some v):=h
  obtain⟨t,rfl⟩:=hn
  show (ν++t)[i]?=_
  rw[xc (xb.mp h').1];exact h'
noncomputable def aNil:EM (List AV):=fun Γ=>.ok ([],Γ)
noncomputable def aCons(fa:EM FV)(fl:EM (List AV)):EM (List AV):=fun Γ=>(fa Γ).bind fun (u,Γ1)=>(fl Γ1).bind fun (as,Γ2)=>.ok (.v u::as,Γ2)
noncomputable def aIo(i:Nat)(fl:EM (List AV)):EM (List AV):=fun Γ=>match Γ[i]? with
 |some (some _)=>(fl Γ).bind fun (as,Γ2)=>.ok (.io i::as,Γ2)
 |_=>.bad
noncomputable def zgR(n:EM (List PyData)):EM (List AV):=fun Γ=>(n Γ).bind fun (ds,Γ1)=>.ok ([.io Γ1.length],Γ1++ [some (.l (ds.map .d))])
theorem zfY:SA X XP mp [] aNil:=fun M0 F Γ ν σ H Q rs hs hp=>pa_nil.wp (hp F ν H rs (List.prefix_refl _) (.refl _ _) [] .nil)
theorem APost.tail{M0:Addr->Prop}{F:Fp}{ν:Nu}{σ:St}{H:Hp}{P:Fp->Gv->Nu->Hp->List AV->Prop}{r:R (List AV×Gv)}{f:List AV->List AV}(h:APost M0 F ν σ H XP P (r.bind fun (as,Γ2)=>.ok (f as,Γ2))) :
  APost M0 F ν σ H XP (fun F' Γ' ν' H' as=>P F' Γ' ν' H' (f as)) r:=by
 cases r with
 |ok a=>exact h
 |exc x Γ'=>exact h
 |bad=>exact h
theorem zdq(ha:SE X XP mp a fa)(hl:SA X XP mp es fl)(hst:starEach (a::es) X.env=(false,eval a X.env)::starEach es X.env):SA X XP mp (a::es) (aCons fa fl):=fun M0 F Γ ν σ H Q rs hs hp=>
 (zq zc jp hst).wp (ha M0 F Γ ν σ H _ rs hs (hp.seq.mono fun F1 Γ1 H1 u rs1 s1 h1 v o1=>
  hl M0 F1 Γ1 ν σ H1 _ rs1 hs (h1.tail.mono fun F2 Γ2 ν2 H2 as rs2 hn s2 h2 vs oks=>h2 (v::vs) (.v ((o1.stp s2 rs1.al0).ext hn) oks))))
theorem zhs {s i:Nat}{x:Str}(hN:X.N[s]?=some x) (hv:Vis X.env.scope x) (hm:mp[s]?=some i) (hd:(x==("__debug__" :Str))=false) (hcd:(x==("__classdict__" :Str))=false) (hl:SA X XP mp es fl) (hst:starEach (.Name x pos::es) X.env=(false,eval (.Name x pos) X.env)::starEach es X.env) :
  SA X XP mp (.Name x pos::es) (aIo i fl):=fun M0 F Γ ν σ H Q rs hs hp=>by
 unfold aIo at hp
 split at hp
 ·rename_i o q
  obtain⟨v,e1,r⟩:=rs.at' i _ q
  exact (zq (qB hN hv hd hcd) jp hst).wp ⟨v,hs s i v hm e1,hl M0 F Γ ν σ H _ rs hs (hp.tail.mono fun F2 Γ2 ν2 H2 as rs2 hn s2 h2 vs oks=>h2 (v::vs) (.io (by
   obtain⟨t,rfl⟩:=hn
   rw[xc (xb.mp e1).1];exact e1) oks))⟩
 ·exact hp.elim
theorem zfZ(h:SN X XP mp a na)(hst:starEach [a] X.env= [(false,eval a X.env)]):SA X XP mp [a] (zgR na):=fun M0 F Γ ν σ H Q rs hs hp=>
 (zq zc pa_nil hst).wp (h M0 F Γ ν σ H _ rs hs (hp.seq.mono fun F1 Γ1 H1 ds rs1 s1 h1 vs p r n=>by
  obtain⟨r2,s2⟩:=rs1.newO n r
  exact h1 _ _ _ r2 (List.prefix_append _ _) s2 _ (.io (by rw[<- rs1.len];simp) .nil)))
inductive RF where
 |ok (r:OV) (outs:List (Option OV))
 |exc (x:Exc) (outs:List (Option OV))
 |bad
noncomputable def spX(mg:Str->Option Value)(n:Nat)(run:List OV->RF):Sp:=fun vs H Q E=>vs.length=n/\∃ (M0:Addr->Prop) (F:Fp) (args:List OV),RS M0 F (args.map some) (vs.map some) H/\match run args with
 |.ok r outs=>∀ F' v H',RS M0 F' (outs++ [some r]) (vs.map some++ [some v]) H'->Stp F H F' H'->Q v H'
 |.exc x outs=>∀ C,mg x.cls=some (.ref C)->∀ F' H',RS M0 F' (outs++ [some (.d .none)]) (vs.map some++ [some .non]) H'->Stp F H F' H'->E (.ref C) none H'
 |.bad=>False
noncomputable def PxOk(X:Cx)(XP:XPT):Prop:=∀ (σ:St) (pins:List (Addr×Obj)) (H:Hp) (e:Value) (s:Shared) (x:Exc) (Γ:Gv) (F:Fp) (ν:Nu) (C:Addr),X.mg x.cls=some (.ref C)->XP x Γ F ν σ H->Up X pins σ H C e s->X.xe e s
theorem zdj{X:Cx}:PxOk X XP0:=fun σ pins H e s x Γ F ν C h z=>z.elim
theorem PxOk.call{X:Cx}{XP:XPT}(px:PxOk X XP)(σ:St)(pins:List (Addr×Obj))(H:Hp)(s:Shared)(e:Value)(s':Shared)(E:XK)(h:∀ c H',E c none H'->∃ (x:Exc) (Γ:Gv) (F:Fp) (ν:Nu) (C:Addr),X.mg x.cls=some (.ref C)/\c=.ref C/\XP x Γ F ν σ H')
  (I:Inv X pins σ H s) (hc:CX1 X.prog X.w X.stack H s E e s'):X.xe e s':=I.up hc fun c H' q u=>by
 obtain⟨x,Γ,F,ν,C,h1,rfl,h2⟩:=h c H' q
 exact px σ pins H' e s' x Γ F ν C h1 h2 (u C rfl)
theorem zdi{X:Cx}{XP:XPT}{σ:St}{N':List Str}{scope:Scope}{cl:List (Str×Addr)}{C:Addr}{s2:Shared}{H2:Hp}{fp:List Addr}(px:PxOk X XP)(sk:Sk X)(cat:Cat X σ C s2 H2 fp):PxOk (X.comp N' scope cl C s2 H2 fp) (XPc XP σ) :=
 fun σ' pins' H e s x _ _ _ C0 h ⟨Γ,F,ν,hx⟩ u=>u.comp sk cat fun pins s' u'=>px σ pins H e s' x Γ F ν C0 h hx u'
noncomputable abbrev EX(X:Cx)(XP:XPT)(σ:St):XK:=fun c _ H'=>∃ (x:Exc) (Γ:Gv) (F:Fp) (ν:Nu) (C:Addr),X.mg x.cls=some (.ref C)/\c=.ref C/\XP x Γ F ν σ H'
noncomputable def toArg(Γ:Gv):AV->Option OV
 |.v u=>(derS Γ u).map .d
 |.io i=>match Γ[i]? with
  |some (some o)=>some o
  |_=>none
noncomputable def toArgs(Γ:Gv):List AV->Option (List OV)
 |[]=>some []
 |a::as=>match toArg Γ a,toArgs Γ as with
  |some o,some os=>some (o::os)
  |_,_=>none
noncomputable def ios:List AV->List Nat
 |[]=> []
 |.v _::as=>ios as
 |.io i::as=>i::ios as
noncomputable def putBack:List AV->List (Option OV)->Gv->Option Gv
 |[],_,Γ=>some Γ
 |.v _::as,_::os,Γ=>putBack as os Γ
 |.io i::as,some o::os,Γ=>if i<Γ.length then putBack as os (Γ.set i (some o)) else none
 |_,_,_=>none
theorem mem_ios{as:List AV}{i:Nat}:i∈ios as↔∃ j:Nat,as[j]?=some (.io i):=by
 induction as with
 |nil=>simp[ios]
 |cons a as ih=>
  cases a with
  |v u=>
   rw[ios,ih]
   constructor
   ·rintro⟨j,h⟩;exact⟨j+1,by simpa using h⟩
   ·rintro⟨j,h⟩
    cases j with
    |zero=>simp at h
    |succ j=>exact⟨j,by simpa using h⟩
  |io k=>
   rw[ios,xu,ih]
   constructor
   ·rintro (rfl | ⟨j,h⟩)
    ·exact⟨0,rfl⟩
    ·exact⟨j+1,by simpa using h⟩
   ·rintro⟨j,h⟩
    cases j with
    |zero=>simp at h;exact .inl h.symm
    |succ j=>exact .inr ⟨j,by simpa using h⟩
theorem wo:∀ {as:List AV}{i j k:Nat},(ios as).Nodup->as[j]?=some (.io i)->as[k]?=some (.io i)->j=k
 |[],_,_,_,_,h,_=>by simp at h
 |.v u::as,i,j,k,nd,h1,h2=>by
  cases j with
  |zero=>simp at h1
  |succ j=>
   cases k with
   |zero=>simp at h2
   |succ k=>exact congrArg (·+1) (wo (as:=as) (i:=i) (by rw[ios]at nd;exact nd) (by simpa using h1) (by simpa using h2))
 |.io m::as,i,j,k,nd,h1,h2=>by
  rw[ios,xG]at nd
  cases j with
  |zero=>
   cases k with
   |zero=>rfl
   |succ k=>
    simp at h1;subst h1
    exact absurd (mem_ios.mpr ⟨k,by simpa using h2⟩) nd.1
  |succ j=>
   cases k with
   |zero=>
    simp at h2;subst h2
    exact absurd (mem_ios.mpr ⟨j,by simpa using h1⟩) nd.1
   |succ k=>exact congrArg (·+1) (wo (as:=as) (i:=i) nd.2 (by simpa using h1) (by simpa using h2))
section
variable {M0:Addr->Prop} {F:Fp} {Γ:Gv} {ν:Nu} {H:Hp}
theorem AOks.get:∀ {vs:List V}{as:List AV}{args:List OV}{j:Nat}{o:OV},AOks M0 F ν H vs as->toArgs Γ as=some args->args[j]?=some o ->
  ∃ v,vs[j]?=some v/\((∃ u x,as[j]?=some (.v u)/\derS Γ u=some x/\o=.d x/\FOk M0 F ν H v u)∨∃ i,as[j]?=some (.io i)/\ν[i]?=some (some v)/\Γ[i]?=some (some o))
 |_,_,_,j,o,.nil,e,h=>by cases e;simp at h
 |_,_,_,j,o,.v (u:=u) (as:=as) h1 t,e,h=>by
  unfold toArgs at e
  split at e
  ·rename_i o' os e1 e2
   cases e
   cases j with
   |zero=>
    simp at h;subst h
    simp only[toArg,Option.map_eq_some_iff]at e1
    obtain⟨x,ex,rfl⟩:=e1
    exact⟨_,rfl,.inl ⟨u,x,rfl,ex,rfl,h1⟩⟩
   |succ j=>
    obtain⟨v,ev,q⟩:=AOks.get (j:=j) t e2 (by simpa using h)
    exact⟨v,by simpa using ev,by simpa using q⟩
  ·cases e
 |_,_,_,j,o,.io (i:=i) (as:=as) h1 t,e,h=>by
  unfold toArgs at e
  split at e
  ·rename_i o' os e1 e2
   cases e
   cases j with
   |zero=>
    simp at h;subst h
    simp only[toArg]at e1
    split at e1
    ·rename_i q
     cases e1
     exact⟨_,rfl,.inr ⟨i,rfl,h1,q⟩⟩
    ·cases e1
   |succ j=>
    obtain⟨v,ev,q⟩:=AOks.get (j:=j) t e2 (by simpa using h)
    exact⟨v,by simpa using ev,by simpa using q⟩
  ·cases e
theorem AOks.len:∀ {vs:List V}{as:List AV},AOks M0 F ν H vs as->vs.length=as.length
 |_,_,.nil=>rfl
 |_,_,.v _ t=>by rw[xk,xk,AOks.len t]
 |_,_,.io _ t=>by rw[xk,xk,AOks.len t]
theorem ji:∀ {as:List AV}{args:List OV},toArgs Γ as=some args->args.length=as.length
 |[],_,e=>by cases e;rfl
 |a::as,_,e=>by
  unfold toArgs at e
  split at e
  ·rename_i e1 e2
   cases e
   rw[xk,xk,ji e2]
  ·cases e
noncomputable def cM(M0:Addr->Prop)(F:Fp)(as:List AV):Addr->Prop:=fun a=>M0 a∨∃ i,i∉ios as/\a∈F i
noncomputable def cF(F:Fp)(as:List AV):Fp:=fun j=>match as[j]? with
 |some (.io i)=>F i
 |_=> []
theorem zei{as:List AV}{j i:Nat}(h:as[j]?=some (.io i)):cF F as j=F i:=by unfold cF;rw[h]
theorem Jn{as:List AV}{j:Nat}{a:Addr}(h:a∈cF F as j):∃ i,as[j]?=some (.io i)/\a∈F i:=by
 unfold cF at h
 split at h
 ·rename_i i e;exact⟨i,e,h⟩
 ·cases h
theorem cMM{as:List AV}:MM (cM M0 F as) (cF F as)=MM M0 F:=by
 funext a
 apply propext
 constructor
 ·rintro ((h | ⟨i,_,h⟩) | ⟨j,h⟩)
  ·exact .inl h
  ·exact .inr ⟨i,h⟩
  ·obtain⟨i,_,h⟩:=Jn h;exact .inr ⟨i,h⟩
 ·rintro (h | ⟨i,h⟩)
  ·exact .inl (.inl h)
  ·by_cases hi:i∈ios as
   ·obtain⟨j,hj⟩:=mem_ios.mp hi
    exact .inr ⟨j,by rw[zei hj];exact h⟩
   ·exact .inl (.inr ⟨i,hi,h⟩)
theorem yV{vs:List V}{as:List AV}{args:List OV}(rs:RS M0 F Γ ν H)(oks:AOks M0 F ν H vs as)(e:toArgs Γ as=some args)(nd:(ios as).Nodup):RS (cM M0 F as) (cF F as) (args.map some) (vs.map some) H where
 al0 a h:=by
  rcases h with h | ⟨i,_,h⟩
  ·exact rs.al0 a h
  ·exact rs.al a (.inr ⟨i,h⟩)
 dis0 j a h:=by
  obtain⟨i,hi,ha⟩:=Jn h
  rintro (h0 | ⟨i',hi',ha'⟩)
  ·exact rs.dis0 i a ha h0
  ·have:=rs.dis _ _ a ha ha'
   subst this
   exact hi' (mem_ios.mpr ⟨j,hi⟩)
 nd j:=by
  unfold cF
  split
  ·exact rs.nd _
  ·exact .nil
 dis j k a h1 h2:=by
  obtain⟨i,hi,ha⟩:=Jn h1
  obtain⟨i',hi',ha'⟩:=Jn h2
  have:=rs.dis _ _ a ha ha'
  subst this
  exact wo nd hi hi'
 at' j o ej:=by
  rw[xA]at ej
  cases q:args[j]? with
  |none=>rw[q]at ej;cases ej
  |some o'=>
   rw[q]at ej
   have eo:o'=o:=by simpa using ej
   subst eo
   obtain⟨v,ev,h⟩:=oks.get e q
   refine⟨v,by rw[xA,ev];rfl,?_⟩
   rw[cMM]
   rcases h with ⟨u,x,ea,ex,rfl,ok⟩ | ⟨i,ea,en,eg⟩
   ·have:cF F as j= []:=by unfold cF;rw[ea]
    rw[this]
    exact .d (ok.strong rs ex)
   ·rw[zei ea]
    obtain⟨v',ev',r⟩:=rs.at' i o' eg
    rw[en]at ev';cases ev'
    exact r
 emp j h:=by
  unfold cF
  split
  ·rename_i i ea
   exfalso
   have hj:j<args.length:=by rw[ji e];exact (xb.mp ea).1
   exact h args[j] (by rw[xA,xD hj];rfl)
  ·rfl
 len:=by rw[xt,xt,oks.len,ji e]
theorem Zp:∀ {as:List AV}{outs:List (Option OV)}{Γ Γ2:Gv},putBack as outs Γ=some Γ2->(ios as).Nodup->Γ2.length=Γ.length/\(∀ i:Nat,i∉ios as->Γ2[i]?=Γ[i]?)/\∀ j i:Nat,as[j]?=some (.io i)->∃ o,outs[j]?=some (some o)/\Γ2[i]?=some (some o)/\i<Γ.length
 |[],_,Γ,_,e,_=>by
  have:some Γ=some _:=e
  cases this
  exact⟨rfl,fun _ _=>rfl,fun j i h=>by simp at h⟩
 |.v u::as,[],Γ,_,e,_=>by cases e
 |.v u::as,x::os,Γ,Γ2,e,nd=>by
  obtain⟨h0,h1,h2⟩:=Zp (as:=as) (outs:=os) (Γ:=Γ) (Γ2:=Γ2) e (by rw[ios]at nd;exact nd)
  refine⟨h0,fun i hi=>h1 i (by rw[ios]at hi;exact hi),fun j i hj=>?_⟩
  cases j with
  |zero=>simp at hj
  |succ j=>
   obtain⟨o,a,b⟩:=h2 j i (by simpa using hj)
   exact⟨o,by simpa using a,b⟩
 |.io k::as,[],Γ,_,e,_=>by cases e
 |.io k::as,none::os,Γ,_,e,_=>by cases e
 |.io k::as,some o::os,Γ,Γ2,e,nd=>by
  rw[putBack]at e
  split at e
  ·rename_i hk
   rw[ios,xG]at nd
   obtain⟨h0,h1,h2⟩:=Zp (as:=as) (outs:=os) e nd.2
   rw[xL]at h0
   refine⟨h0,fun i hi=>?_,fun j i hj=>?_⟩
   ·rw[ios,xu]at hi
    rw[h1 i (fun z=>hi (.inr z)),xg (fun z=>hi (.inl z.symm))]
   ·cases j with
    |zero=>
     have:k=i:=by simpa using hj
     subst this
     refine⟨o,rfl,?_,hk⟩
     rw[h1 k nd.1,xh hk]
    |succ j=>
     obtain⟨o',a,b,c⟩:=h2 j i (by simpa using hj)
     exact⟨o',by simpa using a,b,by simpa using c⟩
  ·cases e
open Classical in
theorem W7{vs:List V}{as:List AV}{args:List OV}{outs:List (Option OV)}{r:OV}{v:V}{Γ2:Gv}{ν0:Nu}{Fc':Fp}{H':Hp}{n:Nat}(rs:RS M0 F Γ ν H)(oks:AOks M0 F ν H vs as)(e:toArgs Γ as=some args)(nd:(ios as).Nodup)
  (rc:RS (cM M0 F as) Fc' (outs++ [some r]) (vs.map some++ [some v]) H') (sc:Stp (cF F as) H Fc' H') (pb:putBack as outs Γ=some Γ2) (hν:ν0 <+: ν) (hn:ν0.length=n) :
  ∃ F',RS M0 F' (Γ2.take n++ [some r]) (ν0++ [some v]) H'/\Stp F H F' H':=by
 obtain⟨p0,p1,p2⟩:=Zp pb nd
 have hol:outs.length=as.length:=by have:=rc.len;simp[oks.len]at this;omega
 obtain⟨tl,rfl⟩:=hν
 have hnl:n<=Γ.length:=by have:=rs.len;simp at this;omega
 have htl:(Γ2.take n).length=n:=by rw[xJ];omega
 let F':Fp:=fun i=>if i<n then (if h:∃ j:Nat,as[j]?=some (.io i) then Fc' (Classical.choose h) else F i) else if i=n then Fc' as.length else []
 have f1:∀ (i j:Nat),i<n->as[j]?=some (.io i)->F' i=Fc' j:=fun i j hi hj=>by
  show (if i<n then _ else _)=_
  rw[if_pos hi]
  have hex:∃ j:Nat,as[j]?=some (.io i):=⟨j,hj⟩
  rw[dif_pos hex,wo nd (Classical.choose_spec hex) hj]
 have f2:∀ (i:Nat),i<n->i∉ios as->F' i=F i:=fun i hi hj=>by
  show (if i<n then _ else _)=_
  rw[if_pos hi,dif_neg]
  rintro hex
  exact hj (mem_ios.mpr hex)
 have f3:F' n=Fc' as.length:=by show (if n<n then _ else _)=_;rw[if_neg (xO _),if_pos rfl]
 have f4:∀ i,n<i->F' i= []:=fun i hi=>by show (if i<n then _ else _)=_;rw[if_neg (by omega),if_neg (by omega)]
 have cls:∀ i a,a∈F' i->(∃ j,i<n/\as[j]?=some (.io i)/\a∈Fc' j)∨(i<n/\i∉ios as/\a∈F i)∨(i=n/\a∈Fc' as.length):=fun i a h=>by
  by_cases hi:i<n
  ·by_cases hj:i∈ios as
   ·obtain⟨j,hj⟩:=mem_ios.mp hj
    rw[f1 i j hi hj]at h
    exact .inl ⟨j,hi,hj,h⟩
   ·rw[f2 i hi hj]at h;exact .inr (.inl ⟨hi,hj,h⟩)
  ·by_cases hj:i=n
   ·subst hj;rw[f3]at h;exact .inr (.inr ⟨rfl,h⟩)
   ·rw[f4 i (by omega)]at h;cases h
 have keepF:∀ i,i∉ios as->∀ a∈F i,H' a=H a:=fun i hi a ha=>by
  obtain⟨us,ea⟩:=rs.laidF ha
  rw[ea]
  refine (sc.keep a _ ea fun j hj=>?_).1
  obtain⟨i',hi',ha'⟩:=Jn hj
  have:=rs.dis _ _ a ha ha'
  subst this
  exact hi (mem_ios.mpr ⟨j,hi'⟩)
 have st:Stp F H F' H':=⟨fun b o eb nb=>by
  obtain⟨e1,n1⟩:=sc.keep b o eb fun j hj=>let ⟨i,_,ha⟩:=Jn hj;nb i ha
  refine⟨e1,fun i hi=>?_⟩
  rcases cls i b hi with ⟨j,_,_,h⟩ | ⟨_,_,h⟩ | ⟨_,h⟩
  ·exact n1 j h
  ·exact nb i h
  ·exact n1 _ h,sc.tups,sc.stay⟩
 have sub:∀ b,MM M0 F' b->MM (cM M0 F as) Fc' b:=fun b hb=>by
  rcases hb with hb | ⟨i,hb⟩
  ·exact .inl (.inl hb)
  ·rcases cls i b hb with ⟨j,_,_,h⟩ | ⟨_,hi,h⟩ | ⟨_,h⟩
   ·exact .inr ⟨j,h⟩
   ·exact .inl (.inr ⟨i,hi,h⟩)
   ·exact .inr ⟨_,h⟩
 have conv:∀ {w:V} {o:OV} {A:List Addr},OR (MM (cM M0 F as) Fc') H' w o A->OR (MM M0 F') H' w o A:=fun {w o A} q=>q.go (fun v d x=>x.less fun b hb _=>sub b hb) (fun _ _ e=>e) fun _ _=>rfl
 have out:∀ (j:Nat) (a:Addr),a∈Fc' j->¬ M0 a/\∀ i,i∉ios as->a∉F i:=fun j a ha=>by
  have h:=rc.dis0 j a ha
  exact⟨fun z=>h (.inl z),fun i hi z=>h (.inr ⟨i,hi,z⟩)⟩
 refine⟨F',⟨fun a ha=>sc.stay a (rs.al0 a ha),fun i a ha=>?_,fun i=>?_,fun i k a h1 h2=>?_,fun i o ei=>?_,fun i hi=>?_,by simp[htl,hn]⟩,st⟩
 ·rcases cls i a ha with ⟨j,_,_,h⟩ | ⟨_,hi,h⟩ | ⟨_,h⟩
  ·exact (out j a h).1
  ·exact rs.dis0 i a h
  ·exact (out _ a h).1
 ·by_cases hi:i<n
  ·by_cases hj:i∈ios as
   ·obtain⟨j,hj⟩:=mem_ios.mp hj
    rw[f1 i j hi hj];exact rc.nd j
   ·rw[f2 i hi hj];exact rs.nd i
  ·by_cases hj:i=n
   ·subst hj;rw[f3];exact rc.nd _
   ·rw[f4 i (by omega)];exact .nil
 ·rcases cls i a h1 with ⟨j,hi,ej,z1⟩ | ⟨hi,ni,z1⟩ | ⟨rfl,z1⟩
  ·rcases cls k a h2 with ⟨j',hk,ej',z2⟩ | ⟨hk,nk,z2⟩ | ⟨rfl,z2⟩
   ·have:=rc.dis _ _ a z1 z2
    subst this
    rw[ej]at ej';cases ej';rfl
   ·exact absurd z2 ((out j a z1).2 k nk)
   ·have:=rc.dis _ _ a z1 z2
    subst this
    rw[xz (xi _)]at ej;cases ej
  ·rcases cls k a h2 with ⟨j',hk,ej',z2⟩ | ⟨hk,nk,z2⟩ | ⟨rfl,z2⟩
   ·exact absurd z1 ((out j' a z2).2 i ni)
   ·exact rs.dis _ _ a z1 z2
   ·exact absurd z1 ((out _ a z2).2 i ni)
  ·rcases cls k a h2 with ⟨j',hk,ej',z2⟩ | ⟨hk,nk,z2⟩ | ⟨rfl,z2⟩
   ·have:=rc.dis _ _ a z1 z2
    subst this
    rw[xz (xi _)]at ej';cases ej'
   ·exact absurd z2 ((out _ a z1).2 k nk)
   ·rfl
 ·by_cases hi:i<n
  ·rw[xc (by omega),xM hi]at ei
   rw[xc (by omega)]
   by_cases hj:i∈ios as
   ·obtain⟨j,hj⟩:=mem_ios.mp hj
    obtain⟨o',eo,eg,_⟩:=p2 j i hj
    rw[eg]at ei
    have eoo:o'=o:=by simpa using ei
    subst eoo
    have hjl:j<as.length:=(xb.mp hj).1
    obtain⟨w,ew,q⟩:=rc.at' j o' (by rw[xc (by omega)];exact eo)
    rw[xc (by rw[xt,oks.len];exact hjl),xA]at ew
    have hal:j<args.length:=by rw[ji e];exact hjl
    obtain⟨v',ev',hh⟩:=oks.get e (xD hal)
    rw[ev']at ew
    have ew':v'=w:=by simpa using ew
    subst ew'
    rcases hh with ⟨u,x,ea,_⟩ | ⟨i',ea,en,_⟩
    ·rw[hj]at ea;cases ea
    ·rw[hj]at ea;cases ea
     rw[xc (by omega)]at en
     exact⟨v',en,by rw[f1 i j hi hj];exact conv q⟩
   ·rw[p1 i hj]at ei
    obtain⟨w,ew,q⟩:=rs.at' i o ei
    rw[xc (by omega)]at ew
    refine⟨w,ew,?_⟩
    rw[f2 i hi hj]
    exact q.go (fun v d x=>zr st rs.al0 x) st.tups (keepF i hj)
  ·have hin:i=n:=by
    have:=(xb.mp ei).1
    simp[htl]at this;omega
   subst hin
   rw[xf (by omega),htl]at ei
   have:r=o:=by simpa using ei
   subst this
   refine⟨v,by rw[xf (by omega),hn];simp,?_⟩
   rw[f3]
   obtain⟨w,ew,q⟩:=rc.at' as.length r (by rw[xf (by omega),hol];simp)
   rw[xf (by rw[xt,oks.len];exact xi _),xt,oks.len]at ew
   have:v=w:=by simpa using ew
   subst this
   exact conv q
 ·by_cases hlt:i<n
  ·have nj:i∉ios as:=fun hj=>by
    obtain⟨j,hj⟩:=mem_ios.mp hj
    obtain⟨o',eo,eg,_⟩:=p2 j i hj
    exact hi o' (by rw[xc (by omega),xM hlt];exact eg)
   rw[f2 i hlt nj]
   refine rs.emp i fun o eo=>hi o ?_
   rw[xc (by omega),xM hlt,p1 i nj];exact eo
  ·by_cases hin:i=n
   ·subst hin
    exact absurd (by rw[xf (by omega),htl];simp) (hi r)
   ·exact f4 i (by omega)
end
noncomputable def fCall(run:List OV->RF)(fl:EM (List AV)):EM OV:=fun Γ=>(fl Γ).bind fun (as,Γ1)=>match toArgs Γ1 as with
 |none=>.bad
 |some args=>if (ios as).Nodup then match run args with
  |.ok r outs=>match putBack as outs Γ1 with
   |some Γ2=>.ok (r,Γ2.take Γ.length)
   |none=>.bad
  |.exc x outs=>match putBack as outs Γ1 with
   |some Γ2=>.exc x (Γ2.take Γ.length)
   |none=>.bad
  |.bad=>.bad
  else .bad
theorem JD{M0:Addr->Prop}{F:Fp}{Γ:Gv}{ν:Nu}{σ:St}{H:Hp}{run:List OV->RF}{n:Nat}{Q:VK}(rs:RS M0 F Γ ν H)(hrun:∀ args,run args≠ .bad->args.length=n)
  (hp:OPost M0 F ν σ H XP (fun F' Γ' H' o v=>Q v H') (fCall run fl Γ)):APost M0 F ν σ H XP (fun F1 Γ1 ν1 H1 as=>∀ vs,AOks M0 F1 ν1 H1 vs as->spX X.mg n run vs H1 Q (EX X XP σ)) (fl Γ):=by
 unfold fCall at hp
 generalize fl Γ=ra at hp
 cases ra with
 |bad=>exact hp
 |exc x y=>exact hp
 |ok z=>
  obtain⟨as,Γ1⟩:=z
  intro F1 ν1 H1 rs1 hn s1 vs oks
  simp only[R.bind]at hp
  split at hp
  ·exact hp.elim
  ·rename_i args ea
   split at hp
   ·rename_i nd
    have hl:vs.length=n:=by
     rw[oks.len,<- ji ea]
     refine hrun args fun z=>?_
     rw[z]at hp;exact hp.elim
    refine⟨hl,cM M0 F1 as,cF F1 as,args,yV rs1 oks ea nd,?_⟩
    split at hp
    ·rename_i r outs er
     split at hp
     ·rename_i Γ2 eb
      intro F' v H' rc sc
      obtain⟨F2,rs2,s2⟩:=W7 (n:=Γ.length) rs1 oks ea nd rc sc eb hn rs.len
      exact hp F2 H' v rs2 (s1.trans s2)
     ·exact hp.elim
    ·rename_i x outs er
     split at hp
     ·rename_i Γ2 eb
      intro C hC F' H' rc sc
      obtain⟨F2,rs2,s2⟩:=W7 (n:=Γ.length) rs1 oks ea nd rc sc eb hn rs.len
      obtain⟨F3,rs3,s3,_⟩:=rs2.dropD
      exact⟨x,_,F3,ν,C,hC,rfl,hp F3 H' rs3 ((s1.trans s2).trans s3)⟩
     ·exact hp.elim
    ·exact hp.elim
   ·exact hp.elim
theorem zdO{x:Str}{k n:Nat}{run:List OV->RF}(px:PxOk X XP)(kn:Kn X.prog X.w X.K X.mg X.base (CX1 X.prog X.w) x k (spX X.mg n run))(hr:Room k X.A)(hg:Gl X x)(hrun:∀ args,run args≠ .bad->args.length=n)(hl:SA X XP mp (a::es) fl)
  (hdb:(x==("__debug__" :Str))=false) (he:starEach (a::es) X.env=(false,eval a X.env)::starEach es X.env) (hpl:(backTo pos (starEach es X.env)).any (·.1)=false):SO X XP mp (.Call (.Name x p) (a::es) [] pos) (fCall run fl):=fun M0 F Γ ν σ H Q rs hs hp=>
 zce (E:=EX X XP σ) kn hr hg (fun pins H1 s1 e s' I hx=>px.call σ pins H1 s1 e s' _ (fun c H' q=>q) I hx) (hl M0 F Γ ν σ H _ rs hs (JD rs hrun hp)) hdb he hpl
theorem zbG{x:Str}{k n:Nat}{run:List OV->RF}(px:PxOk X XP)(kn:Kn X.prog X.w X.K X.mg X.base (CX1 X.prog X.w) x k (spX X.mg n run))(hr:Room k X.A)(hg:Gl X x)(hrun:∀ args,run args≠ .bad->args.length=n)
  (hdb:(x==("__debug__" :Str))=false):SO X XP mp (.Call (.Name x p) [] [] pos) (fCall run aNil):=fun M0 F Γ ν σ H Q rs hs hp=>by
 have h:=JD (X:=X) (n:=n) rs hrun hp F ν H rs (List.prefix_refl _) (.refl _ _) [] .nil
 exact K0 kn hr hg (fun pins H1 s1 e s' I hx=>px.call σ pins H1 s1 e s' _ (fun c H' q=>q) I hx) h hdb
end
inductive FL where
 |next
 |ret (o:OV)
 |brk
 |cnt
noncomputable abbrev SM:=Gv->R (FL×Gv)
noncomputable def SPost(M0:Addr->Prop)(F:Fp)(ν:Nu)(H:Hp)(XP:XPT)(mp:List Nat)(N:Nat)(io:List Nat)(D:qQ)(r:R (FL×Gv)):Prop:=match r with
 |.ok (.next,Γ')=>∀ F' ν' σ' H',RS M0 F' Γ' ν' H'->Stp F H F' H'->Sees mp ν' σ'->σ'.length=N->(∀ i∈io,ν'[i]?=ν[i]?)->D.nx σ' H'
 |.ok (.brk,Γ')=>∀ F' ν' σ' H',RS M0 F' Γ' ν' H'->Stp F H F' H'->Sees mp ν' σ'->σ'.length=N->(∀ i∈io,ν'[i]?=ν[i]?)->D.bk σ' H'
 |.ok (.cnt,Γ')=>∀ F' ν' σ' H',RS M0 F' Γ' ν' H'->Stp F H F' H'->Sees mp ν' σ'->σ'.length=N->(∀ i∈io,ν'[i]?=ν[i]?)->D.ct σ' H'
 |.ok (.ret o,Γ')=>∀ F' ν' v H',RS M0 F' (Γ'++ [some o]) (ν'++ [some v]) H'->Stp F H F' H'->(∀ i∈io,ν'[i]?=ν[i]?)->D.rt v H'
 |.exc x Γ'=>∀ F' ν' σ' H',RS M0 F' Γ' ν' H'->Stp F H F' H'->Sees mp ν' σ'->σ'.length=N->(∀ i∈io,ν'[i]?=ν[i]?)->XP x Γ' F' ν' σ' H'
 |.bad=>False
noncomputable def SS(X:Cx)(XP:XPT)(mp:List Nat)(io:List Nat)(st:Stmt)(f:SM):Prop:=∀ (M0:Addr->Prop) (F:Fp) (Γ:Gv) (ν:Nu) (σ:St) (H:Hp) (D:qQ),RS M0 F Γ ν H->Sees mp ν σ->σ.length=X.N.length ->
 SPost M0 F ν H XP mp X.N.length io D (f Γ)->wpS X st D σ H
noncomputable def SB(X:Cx)(XP:XPT)(mp:List Nat)(io:List Nat)(sts:List Stmt)(f:SM):Prop:=∀ (M0:Addr->Prop) (F:Fp) (Γ:Gv) (ν:Nu) (σ:St) (H:Hp) (D:qQ),RS M0 F Γ ν H->Sees mp ν σ->σ.length=X.N.length ->
 SPost M0 F ν H XP mp X.N.length io D (f Γ)->wpB X sts D σ H
section
variable {M0:Addr->Prop} {F F1:Fp} {Γ:Gv} {ν ν1:Nu} {σ:St} {H H1:Hp} {XP:XPT} {mp:List Nat} {N:Nat} {io:List Nat} {D D':qQ} {r:R (FL×Gv)}
theorem SPost.step(h:SPost M0 F ν H XP mp N io D r)(s1:Stp F H F1 H1)(hn:∀ i∈io,ν1[i]?=ν[i]?):SPost M0 F1 ν1 H1 XP mp N io D r:=by
 cases r with
 |ok z=>
  obtain⟨fl,Γ'⟩:=z
  cases fl with
  |next=>exact fun F' ν' σ' H' a b c d e=>h F' ν' σ' H' a (s1.trans b) c d fun i hi=>(e i hi).trans (hn i hi)
  |brk=>exact fun F' ν' σ' H' a b c d e=>h F' ν' σ' H' a (s1.trans b) c d fun i hi=>(e i hi).trans (hn i hi)
  |cnt=>exact fun F' ν' σ' H' a b c d e=>h F' ν' σ' H' a (s1.trans b) c d fun i hi=>(e i hi).trans (hn i hi)
  |ret o=>exact fun F' ν' v H' a b e=>h F' ν' v H' a (s1.trans b) fun i hi=>(e i hi).trans (hn i hi)
 |exc x Γ'=>exact fun F' ν' σ' H' a b c d e=>h F' ν' σ' H' a (s1.trans b) c d fun i hi=>(e i hi).trans (hn i hi)
 |bad=>exact h
theorem SPost.seq{α:Type}{r:R (α×Gv)}{k:α×Gv->R (FL×Gv)}(hs:Sees mp ν σ)(hl:σ.length=N)(h:SPost M0 F ν H XP mp N io D (r.bind k)):EPost M0 F ν σ H XP (fun F1 Γ1 H1 a=>SPost M0 F1 ν H1 XP mp N io D (k (a,Γ1))) r:=by
 cases r with
 |ok z=>
  obtain⟨a,Γ1⟩:=z
  intro F1 H1 rs1 s1
  have h':SPost M0 F ν H XP mp N io D (k (a,Γ1)):=h
  exact h'.step s1 fun _ _=>rfl
 |exc x Γ'=>exact fun F' H' rs s=>h F' ν σ H' rs s hs hl fun _ _=>rfl
 |bad=>exact h
theorem SPost.seqO{r:R (OV×Gv)}{k:OV×Gv->R (FL×Gv)}(hs:Sees mp ν σ)(hl:σ.length=N)(h:SPost M0 F ν H XP mp N io D (r.bind k)):OPost M0 F ν σ H XP (fun F1 Γ1 H1 o v=>SPost M0 F1 ν H1 XP mp N io D (k (o,Γ1))) r:=by
 cases r with
 |ok z=>
  obtain⟨a,Γ1⟩:=z
  intro F1 H1 v rs1 s1
  have h':SPost M0 F ν H XP mp N io D (k (a,Γ1)):=h
  exact h'.step s1 fun _ _=>rfl
 |exc x Γ'=>exact fun F' H' rs s=>h F' ν σ H' rs s hs hl fun _ _=>rfl
 |bad=>exact h
end
noncomputable def sNext:SM:=fun Γ=>.ok (.next,Γ)
noncomputable def sSeq(f g:SM):SM:=fun Γ=>match f Γ with
 |.ok (.next,Γ1)=>g Γ1
 |r=>r
section
variable {X:Cx} {XP:XPT} {mp io:List Nat} {a b c e tg iter:Expr} {es:List Expr} {pos p p2 pos':Pos} {fa fb fc:EM FV} {ta tb:EM Bool} {na nb:EM (List PyData)} {fo:EM OV} {st:Stmt} {sts body els:List Stmt} {f g:SM}
theorem zbp:SB X XP mp io [] sNext:=fun M0 F Γ ν σ H D rs hs hl hp=>pss_nil.wp (hp F ν σ H rs (.refl _ _) hs hl fun _ _=>rfl)
theorem zby{M0:Addr->Prop}{F:Fp}{Γ:Gv}{ν:Nu}{H:Hp}{N:Nat}{D:qQ}{nx:St->Hp->Prop}(hp:SPost M0 F ν H XP mp N io D (sSeq f g Γ))
  (hn:∀ F1 Γ1 ν1 σ1 H1,RS M0 F1 Γ1 ν1 H1->Sees mp ν1 σ1->σ1.length=N->SPost M0 F1 ν1 H1 XP mp N io D (g Γ1)->nx σ1 H1):SPost M0 F ν H XP mp N io { D with nx:=nx } (f Γ):=by
 unfold sSeq at hp
 generalize f Γ=r at hp
 cases r with
 |ok z=>
  obtain⟨fl,Γ'⟩:=z
  cases fl with
  |next=>exact fun F' ν' σ' H' a b c d e=>hn F' Γ' ν' σ' H' a c d (hp.step b e)
  |brk=>exact hp
  |cnt=>exact hp
  |ret o=>exact hp
 |exc x Γ'=>exact hp
 |bad=>exact hp
theorem Vq(h1:SS X XP mp io st f)(h2:SB X XP mp io sts g):SB X XP mp io (st::sts) (sSeq f g):=fun M0 F Γ ν σ H D rs hs hl hp=>
 (Zo Y5 qO).wp (h1 M0 F Γ ν σ H _ rs hs hl (zby hp fun F1 Γ1 ν1 σ1 H1 rs1 hs1 hl1 h=>h2 M0 F1 Γ1 ν1 σ1 H1 D rs1 hs1 hl1 h))
theorem zdS:SS X XP mp io (.Pass pos) sNext:=fun M0 F Γ ν σ H D rs hs hl hp=>ps_pass.wp (hp F ν σ H rs (.refl _ _) hs hl fun _ _=>rfl)
noncomputable def zhr:SM:=fun _=>.bad
theorem zgo:SS X XP mp io st zhr:=fun M0 F Γ ν σ H D rs hs hl hp=>hp.elim
noncomputable def fD(fa:EM FV):EM OV:=fun Γ=>(fa Γ).bind fun (u,Γ1)=>match derS Γ1 u with
 |some x=>.ok (.d x,Γ1)
 |none=>.bad
theorem RS.newD{M0:Addr->Prop}{F:Fp}{Γ:Gv}{ν:Nu}{H:Hp}{v:V}{x:PyData}(r:RS M0 F Γ ν H)(q:Rep (MM M0 F) H v x):RS M0 F (Γ++ [some (.d x)]) (ν++ [some v]) H:=by
 have he:F Γ.length= []:=r.emp _ fun o e=>by
  rw[xz (xi _)]at e;cases e
 refine⟨r.al0,r.dis0,r.nd,r.dis,fun j o e=>?_,fun j h=>?_,by simp[r.len]⟩
 ·by_cases hj:j<Γ.length
  ·rw[xc hj]at e
   obtain⟨w,e1,z⟩:=r.at' j o e
   exact⟨w,by rw[xc (by rw[r.len];exact hj)];exact e1,z⟩
  ·have hj':j=Γ.length:=by
    have:=(xb.mp e).1
    simp at this;omega
   subst hj'
   rw[xf (xi _)]at e
   have:(OV.d x)=o:=by simpa using e
   subst this
   refine⟨v,by rw[xf (by rw[r.len];exact xi _),r.len];simp,?_⟩
   rw[he];exact .d q
 ·refine r.emp j fun o e=>h o ?_
  rw[xc (xb.mp e).1];exact e
theorem SE.so(h:SE X XP mp a fa):SO X XP mp a (fD fa):=fun M0 F Γ ν σ H Q rs hs hp=>
 h M0 F Γ ν σ H Q rs hs (hp.seq.mono fun F1 Γ1 H1 u rs1 s1 h1 v hv=>by
  dsimp only at h1
  split at h1
  ·rename_i x e
   exact h1 F1 H1 v (rs1.newD (hv.strong rs1 e)) (.refl _ _)
  ·exact h1.elim)
noncomputable def fMove(i:Nat):EM OV:=fun Γ=>match Γ[i]? with
 |some (some o)=>.ok (o,Γ.set i none)
 |_=>.bad
theorem RS.take{M0:Addr->Prop}{F:Fp}{Γ:Gv}{ν:Nu}{H:Hp}{i:Nat}{o:OV}(r:RS M0 F Γ ν H)(e:Γ[i]?=some (some o)):∃ F' v,ν[i]?=some (some v)/\RS M0 F' (Γ.set i none++ [some o]) (ν++ [some v]) H/\Stp F H F' H:=by
 obtain⟨v,ev,q⟩:=r.at' i o e
 have hi:=(xb.mp e).1
 let F':Fp:=fun j=>if j=i then [] else if j=Γ.length then F i else F j
 have g1:F' i= []:=by show (if i=i then _ else _)=_;rw[if_pos rfl]
 have g2:F' Γ.length=F i:=by show (if Γ.length=i then _ else _)=_;rw[if_neg (by omega),if_pos rfl]
 have g3:∀ j,j≠i->j≠Γ.length->F' j=F j:=fun j h1 h2=>by show (if j=i then _ else _)=_;rw[if_neg h1,if_neg h2]
 have cls:∀ j a,a∈F' j->(j=Γ.length/\a∈F i)∨(j≠i/\j≠Γ.length/\a∈F j):=fun j a h=>by
  by_cases h1:j=i
  ·subst h1;rw[g1]at h;cases h
  ·by_cases h2:j=Γ.length
   ·subst h2;rw[g2]at h;exact .inl ⟨rfl,h⟩
   ·rw[g3 j h1 h2]at h;exact .inr ⟨h1,h2,h⟩
 have st:Stp F H F' H:=ZV fun j a h=>by
  rcases cls j a h with ⟨_,h⟩ | ⟨_,_,h⟩
  ·exact⟨_,h⟩
  ·exact⟨_,h⟩
 refine⟨F',v,ev,⟨r.al0,fun j a h=>?_,fun j=>?_,fun j k a h1 h2=>?_,fun j p ej=>?_,fun j h=>?_,by simp[r.len]⟩,st⟩
 ·rcases cls j a h with ⟨_,h⟩ | ⟨_,_,h⟩
  ·exact r.dis0 _ a h
  ·exact r.dis0 _ a h
 ·by_cases h1:j=i
  ·subst h1;rw[g1];exact .nil
  ·by_cases h2:j=Γ.length
   ·subst h2;rw[g2];exact r.nd _
   ·rw[g3 j h1 h2];exact r.nd _
 ·rcases cls j a h1 with ⟨e1,z1⟩ | ⟨n1,m1,z1⟩
  ·rcases cls k a h2 with ⟨e2,z2⟩ | ⟨n2,m2,z2⟩
   ·rw[e1,e2]
   ·exact absurd (r.dis _ _ a z2 z1) n2
  ·rcases cls k a h2 with ⟨e2,z2⟩ | ⟨n2,m2,z2⟩
   ·exact absurd (r.dis _ _ a z1 z2) n1
   ·exact r.dis _ _ a z1 z2
 ·have hsl:(Γ.set i none).length=Γ.length:=by simp
  by_cases hj:j<Γ.length
  ·rw[xc (by omega)]at ej
   by_cases hji:j=i
   ·subst hji;rw[xh hi]at ej;cases ej
   ·rw[xg (Ne.symm hji)]at ej
    obtain⟨w,ew,z⟩:=r.at' j p ej
    refine⟨w,by rw[xc (by rw[r.len];exact hj)];exact ew,?_⟩
    rw[g3 j hji (by omega)]
    exact z.go (fun _ _ x=>zr st r.al0 x) st.tups fun _ _=>rfl
  ·have hj':j=Γ.length:=by
    have:=(xb.mp ej).1
    simp at this;omega
   subst hj'
   rw[xf (by omega),hsl]at ej
   have:o=p:=by simpa using ej
   subst this
   refine⟨v,by rw[xf (by rw[r.len];exact xi _),r.len];simp,?_⟩
   rw[g2]
   exact q.go (fun _ _ x=>zr st r.al0 x) st.tups fun _ _=>rfl
 ·by_cases h1:j=i
  ·subst h1;exact g1
  ·by_cases h2:j=Γ.length
   ·subst h2
    exact absurd (by rw[xf (by simp)];simp) (h o)
   ·rw[g3 j h1 h2]
    refine r.emp j fun p ep=>h p ?_
    rw[xc (by simpa using (xb.mp ep).1),xg (Ne.symm h1)];exact ep
theorem zdP {s i:Nat}{x:Str}(hN:X.N[s]?=some x) (hv:Vis X.env.scope x) (hm:mp[s]?=some i) (hd:(x==("__debug__" :Str))=false) (hcd:(x==("__classdict__" :Str))=false) :
  SO X XP mp (.Name x pos) (fMove i):=fun M0 F Γ ν σ H Q rs hs hp=>by
 unfold fMove at hp
 split at hp
 ·rename_i o q
  obtain⟨F',v,e1,rs1,s1⟩:=rs.take q
  exact (qB hN hv hd hcd).wp ⟨v,hs s i v hm e1,hp F' H v rs1 s1⟩
 ·exact hp.elim
noncomputable def sRet(fo:EM OV):SM:=fun Γ=>(fo Γ).bind fun (o,Γ1)=>.ok (.ret o,Γ1)
theorem zgr(h:SO X XP mp e fo):SS X XP mp io (.Return (some e) pos) (sRet fo):=fun M0 F Γ ν σ H D rs hs hl hp=>
 (Yf zc).wp (h M0 F Γ ν σ H _ rs hs ((SPost.seqO hs hl hp).mono fun F1 Γ1 H1 o v rs1 s1 h1=>h1 F1 ν v H1 rs1 (.refl _ _) fun _ _=>rfl))
noncomputable def SOt(XP:XPT)(mp:List Nat)(t:TE)(f:EM OV):Prop:=∀ (M0:Addr->Prop) (F:Fp) (Γ:Gv) (ν:Nu) (σ:St) (H:Hp) (Q:VK),RS M0 F Γ ν H->Sees mp ν σ ->
 OPost M0 F ν σ H XP (fun F' Γ' H' o v=>Q v H') (f Γ)->t σ H Q
theorem SNt.so{t:TE}(h:SNt XP mp t na):SOt XP mp t (fOwn na):=fun M0 F Γ ν σ H Q rs hs hp=>
 h M0 F Γ ν σ H Q rs hs (hp.seq.mono fun F1 Γ1 H1 ds rs1 s1 h1 vs p r n=>by
  obtain⟨r2,s2⟩:=rs1.newO n r
  exact h1 _ _ _ r2 s2)
theorem SNt.sd{t:TE}(h:SNt XP mp t na):SOt XP mp t (fD (fNew na)):=fun M0 F Γ ν σ H Q rs hs hp=>
 h M0 F Γ ν σ H Q rs hs (by
  have hp':OPost M0 F ν σ H XP (fun F' Γ' H' o v=>Q v H') ((na Γ).bind fun (ds,Γ1)=>.ok (.d (.list ds),Γ1)):=by
   have e:fD (fNew na) Γ=(na Γ).bind fun (ds,Γ1)=>.ok (.d (.list ds),Γ1):=by
    unfold fD fNew
    cases na Γ<;>rfl
   rw[<- e];exact hp
  exact hp'.seq.mono fun F1 Γ1 H1 ds rs1 s1 h1 vs p r n=>by
   have s2:Same H1 (upd H1 p (.lst vs)):=zv n
   exact h1 F1 _ _ ((rs1.same s2).newD (Rep.list zf (fun z=>rs1.al p z n) (r.grow s2.grow))) (.same s2))
noncomputable def sAsg(io:List Nat)(i:Nat)(fo:EM OV):SM:=fun Γ=>(fo Γ).bind fun (o,Γ1)=>if i<Γ1.length/\i∉io then .ok (.next,Γ1.set i (some o)) else .bad
theorem Vu{s i:Nat}{t:TE}(hps:PS X st (yt t (wI s)))(hn:mp.Nodup)(hm:mp[s]?=some i)(hsl:s<X.N.length)(h:SOt XP mp t fo):SS X XP mp io st (sAsg io i fo):=fun M0 F Γ ν σ H D rs hs hl hp=>
 hps.wp (h M0 F Γ ν σ H _ rs hs ((SPost.seqO hs hl hp).mono fun F1 Γ1 H1 o v rs1 s1 h1=>by
  dsimp only at h1
  split at h1
  ·rename_i hh
   obtain⟨F2,rs2,s2⟩:=rs1.move hh.1
   exact h1 F2 _ _ H1 rs2 s2 (hs.set hn hm (by rw[hl];exact hsl)) (by simpa using hl) fun j hj=>by
    rw[xg (fun z=>hh.2 (by rw[z];exact hj))]
  ·exact h1.elim))
theorem zgn{s i:Nat}{x:Str}(hN:X.N.Nodup)(hi:X.N[s]?=some x)(hx:Loc X.env.scope x)(hf:X.fn x=true∨X.env.scope.names.lookup x=some .local)(hn:mp.Nodup)(hm:mp[s]?=some i)(h:SO X XP mp e fo)
  (hsw:swapsWith e (some (.Name x pos')) pos.line X.env=pure false):SS X XP mp io (.Assign [.Name x pos'] e pos) (sAsg io i fo) :=
 Vu (JQ hN hi hx zc hsw hf) hn hm (xb.mp hi).1 h
noncomputable def sExpr(fa:EM FV):SM:=fun Γ=>(fa Γ).bind fun (_,Γ1)=>.ok (.next,Γ1)
theorem kq(ha:SE X XP mp e fa)(hsw:swapsWith e none pos.line X.env=pure false):SS X XP mp io (.Expr e pos) (sExpr fa):=fun M0 F Γ ν σ H D rs hs hl hp=>
 (Y4 zc hsw).wp (ha M0 F Γ ν σ H _ rs hs ((SPost.seq hs hl hp).mono fun F1 Γ1 H1 u rs1 s1 h1 v hv=>h1 F1 ν σ H1 rs1 (.refl _ _) hs hl fun _ _=>rfl))
noncomputable def sIf(t:EM Bool)(f g:SM):SM:=fun Γ=>(t Γ).bind fun (b,Γ1)=>if b then f Γ1 else g Γ1
theorem zeA(hc:ST X XP mp c ta)(ha:SB X XP mp io body f)(hb:SB X XP mp io els g):SS X XP mp io (.If c body els pos) (sIf ta f g):=fun M0 F Γ ν σ H D rs hs hl hp=>
 (zhk jq qO qO).wp (hc M0 F Γ ν σ H _ rs hs ((SPost.seq hs hl hp).mono fun F1 Γ1 H1 b rs1 s1 h1=>by
  cases b with
  |true=>exact VY (ha M0 F1 Γ1 ν σ H1 D rs1 hs hl h1)
  |false=>exact VX (hb M0 F1 Γ1 ν σ H1 D rs1 hs hl h1)))
noncomputable def qV(t:IT)(body:SM):List PyData->Gv->R (FL×Gv)
 |[],Γ=>.ok (.next,Γ)
 |d::ds,Γ=>match tgF t d Γ with
  |none=>.bad
  |some Γ1=>match body Γ1 with
   |.ok (.next,Γ2)=>qV t body ds Γ2
   |.ok (.cnt,Γ2)=>qV t body ds Γ2
   |.ok (.brk,Γ2)=>.ok (.next,Γ2)
   |r=>r
noncomputable def sFor(t:IT)(src:EM (List PyData))(body:SM):SM:=fun Γ=>(src Γ).bind fun (ds,Γ1)=>qV t body ds Γ1
theorem zgp{t:IT}{src:EM (List PyData)}(hpo:PassesOwn (model X.prog X.w) X.A X.env X.xe)(hc:X.calm=true)(hi:SI X XP mp tg iter src)(hg:SG X mp (·∈io) tg t)(hb:SB X XP mp io body f)
  (hf:∀ x,foldedSetIterable iter X.env x=pure x):SS X XP mp io (.For tg iter body [] pos) (sFor t src f):=fun M0 F Γ ν σ H D rs hs hl hp=>by
 refine (za9 hpo hc QK Y1 qO hf).wp (hi M0 F Γ ν σ H _ rs hs ((SPost.seq hs hl hp).mono fun F1 Γ1 H1 ds rs1 s1 h1 J hJ=>?_))
 dsimp only at h1
 refine⟨fun i m σ' H'=>m=ds.length-i/\i<=ds.length/\∃ F' Γ' ν',RS M0 F' Γ' ν' H'/\Stp F1 H1 F' H'/\Sees mp ν' σ'/\σ'.length=X.N.length/\SPost M0 F' ν' H' XP mp X.N.length io D (qV t f (ds.drop i) Γ'),⟨ds.length,by simp,xV _,F1,Γ1,ν,rs1,.refl _ _,hs,hl,h1⟩,?_⟩
 rintro i m σ' H' ⟨rfl,hil,F',Γ',ν',rs',st',hs',hl',hp'⟩
 obtain⟨jgo,jst⟩:=hJ i F' H' st' rs1.al0
 by_cases hlt:i<ds.length
 ·obtain⟨go,yl⟩:=jgo ds[i] (by simp[hlt])
  rw[uq hlt,qV]at hp'
  refine .inr ⟨go,fun σ2 H2=>∃ F2 Γ2 ν2,RS M0 F2 Γ2 ν2 H2/\Stp F1 H1 F2 H2/\Sees mp ν2 σ2/\σ2.length=X.N.length/\SPost M0 F2 ν2 H2 XP mp X.N.length io D (qV t f (ds.drop (i+1)) Γ2),fun σ2 H2 h=>⟨ds.length-(i+1),by omega,rfl,hlt,h⟩,fun x H2 hy=>?_⟩
  obtain⟨s2,rx⟩:=yl x H2 hy
  cases et:tgF t ds[i] Γ' with
  |none=>rw[et]at hp';exact hp'.elim
  |some Γ2=>
   rw[et]at hp'
   dsimp only at hp'
   refine hg M0 F' Γ' Γ2 ν' σ' H2 x ds[i] _ (rs'.same s2) hs' hl' rx et fun F3 ν3 σ3 rs3 s3 hs3 hl3 n3 m3=>?_
   have sA:Stp F' H' F3 H2:=(Stp.same s2).trans s3
   refine hb M0 F3 Γ2 ν3 σ3 H2 _ rs3 hs3 hl3 ?_
   cases ef:f Γ2 with
   |bad=>rw[ef]at hp';exact hp'.elim
   |exc xx yy=>
    rw[ef]at hp'
    exact hp'.step sA n3
   |ok z=>
    obtain⟨fl,Γ4⟩:=z
    rw[ef]at hp'
    cases fl with
    |next=>exact fun F4 ν4 σ4 H4 a b c d e=>⟨F4,Γ4,ν4,a,(st'.trans sA).trans b,c,d,hp'.step (sA.trans b) fun i hi=>(e i hi).trans (n3 i hi)⟩
    |cnt=>exact fun F4 ν4 σ4 H4 a b c d e=>⟨F4,Γ4,ν4,a,(st'.trans sA).trans b,c,d,hp'.step (sA.trans b) fun i hi=>(e i hi).trans (n3 i hi)⟩
    |brk=>exact fun F4 ν4 σ4 H4 a b c d e=>hp' F4 ν4 σ4 H4 a (sA.trans b) c d fun i hi=>(e i hi).trans (n3 i hi)
    |ret o=>exact fun F4 ν4 v4 H4 a b e=>hp' F4 ν4 v4 H4 a (sA.trans b) fun i hi=>(e i hi).trans (n3 i hi)
 ·have e:i=ds.length:=by omega
  subst e
  rw[uC,qV]at hp'
  exact .inl ⟨jst (xi _),hp' F' ν' σ' H' rs' (.refl _ _) hs' hl' fun _ _=>rfl⟩
theorem wT{M0:Addr->Prop}{F:Fp}{Γ:Gv}{ν:Nu}{H:Hp}{i:Nat}{xs:List OV}(rs:RS M0 F Γ ν H)(e:Γ[i]?=some (some (.l xs))):∃ a vs A,ν[i]?=some (some (.ref a))/\H a=some (.lst vs)/\ORL (MM M0 F) H vs xs A/\F i=a::A/\A.Nodup:=by
 obtain⟨v,ev,q⟩:=rs.at' i _ e
 have nd:=rs.nd i
 generalize hA:F i=A at q
 rw[hA]at nd
 cases q with
 |l ea qa=>exact⟨_,_,_,ev,ea,qa,rfl,(xG.mp nd).2⟩
theorem zaO{M0:Addr->Prop}{F:Fp}{Γ:Gv}{ν:Nu}{H:Hp}{i:Nat}{xs xs':List OV}{a:Addr}{vs vs':List V}(rs:RS M0 F Γ ν H)(e:Γ[i]?=some (some (.l xs)))(en:ν[i]?=some (some (.ref a)))(eh:H a=some (.lst vs))
  (h:∀ A,ORL (MM M0 F) H vs xs A->ORL (MM M0 F) H vs' xs' A):∃ F',RS M0 F' (Γ.set i (some (.l xs'))) ν (upd H a (.lst vs'))/\Stp F H F' (upd H a (.lst vs')) :=
 rs.mut (xs':=xs') (vs:=vs') e en fun us A eu qa eF=>by
  rw[eh]at eu;cases eu
  have nd:=rs.nd i
  rw[eF]at nd
  exact⟨A,fun _ h=>h,(xG.mp nd).2,h A qa⟩
noncomputable def isOwn(Γ:Gv)(i:Nat):Bool:=match Γ[i]? with
 |some (some (.l _))=>true
 |_=>false
theorem VW{Γ:Gv}{i:Nat}(h:isOwn Γ i=true):∃ xs,Γ[i]?=some (some (.l xs)):=by
 unfold isOwn at h
 split at h
 ·rename_i xs e;exact⟨xs,e⟩
 ·cases h
structure NmK(X:Cx)(mp:List Nat)(s i:Nat)(x:Str):Prop where
 hN:X.N[s]?=some x
 hv:Vis X.env.scope x
 hm:mp[s]?=some i
 hd:(x==("__debug__" :Str))=false
 hcd:(x==("__classdict__" :Str))=false
noncomputable def sSet(i:Nat)(fi fv:EM FV):SM:=fun Γ=>(fv Γ).bind fun (u,Γ1)=>if isOwn Γ1 i then (fi Γ1).bind fun (w,Γ2)=>match derS Γ2 u,derf Γ2 w,Γ2[i]? with
 |some x,some (.int k),some (some (.l xs))=>match ixN xs.length k with
  |some j=>match xs[j]? with
   |some (.d _)=>.ok (.next,Γ2.set i (some (.l (xs.set j (.d x)))))
   |_=>.bad
  |none=>.bad
 |_,_,_=>.bad
 else .bad
theorem zgs{s i:Nat}{x:Str}(n:NmK X mp s i x)(hi:SE X XP mp b fb)(hv:SE X XP mp a fa)(hsw:swapsWithSole [.Subscript (.Name x p) b p2] a pos.line X.env=pure false)(hw:swappedStores [.Subscript (.Name x p) b p2] a X.env=pure none)
  (hps:∀ {te:TE} {g:TG},PE X a te->PG X (.Subscript (.Name x p) b p2) g->PS X (.Assign [.Subscript (.Name x p) b p2] a pos) (yt te g)) (hpg:∀ {to ti:TE} {t:zcm},PE X (.Name x p) to->PE X b ti->zeK X t->PG X (.Subscript (.Name x p) b p2) (zg2 to ti t)) :
  SS X XP mp io (.Assign [.Subscript (.Name x p) b p2] a pos) (sSet i fb fa):=fun M0 F Γ ν σ H D rs hs hl hp=>by
 refine (hps zc (hpg (qB n.hN n.hv n.hd n.hcd) zc zbz)).wp (hv M0 F Γ ν σ H _ rs hs ((SPost.seq hs hl hp).mono fun F1 Γ1 H1 u rs1 s1 h1 v ov=>?_))
 dsimp only at h1
 split at h1
 ·rename_i hw
  obtain⟨xs0,e0⟩:=VW hw
  obtain⟨a0,vs0,A0,en0,eh0,q0,_,_⟩:=wT rs1 e0
  refine⟨.ref a0,hs s i _ n.hm en0,?_⟩
  refine hi M0 F1 Γ1 ν σ H1 _ rs1 hs ((SPost.seq hs hl h1).mono fun F2 Γ2 H2 w rs2 s2 h2 vi oi=>?_)
  dsimp only at h2
  split at h2
  ·rename_i y k xs ey ek ex
   split at h2
   ·rename_i j ej
    split at h2
    ·rename_i z ez
     obtain⟨a1,vs1,A1,en1,eh1,q1,_,_⟩:=wT rs2 ex
     rw[en0]at en1
     cases en1
     cases oi.weak rs2 ek
     refine⟨a0,vs1,k,j,rfl,rfl,eh1,by rw[q1.length];exact ej,?_⟩
     obtain⟨F3,rs3,s3⟩:=zaO rs2 ex en0 eh1 fun A qa=>qa.setD ((ov.stp s2 rs1.al0).strong rs2 ey) ez
     exact h2 F3 ν σ _ rs3 s3 hs hl fun _ _=>rfl
    ·exact h2.elim
   ·exact h2.elim
  ·exact h2.elim
 ·exact h1.elim
noncomputable def Qy(n:Nat)(x:Int):Nat:=if x<0 then (x+(n:Int)).toNat else min x.toNat n
noncomputable def rIns:V->List V->Hp->VK->Prop:=fun x vs H Q=>∃ l xs i y,x=.ref l/\vs= [.int i,y]/\H l=some (.lst xs)/\ -(2 ^ 63)<=i/\i<2 ^ 63/\xs.length<sizeLine/\Q .non (upd H l (.lst (xs.take (Qy xs.length i)++y::xs.drop (Qy xs.length i))))
theorem Kj:MtM X "list.insert" rIns:=by
 intro pins s σ H x vs v us Q I rx rv h
 obtain⟨l,xs,i,y,rfl,rfl,hH,h1,h2,hz,q⟩:=h
 cases rx
 obtain⟨u,w',rfl,ru,rw'⟩:=kG rv
 obtain⟨t,rfl⟩:=ru
 obtain⟨z,its,n,r,hl,e⟩:=I.lstM hH
 have hf:Builtin.List.listFitsIndex i=true:=by
  unfold Builtin.List.listFitsIndex
  simp only[xa,decide_eq_true_eq]
  exact⟨h1,h2⟩
 refine call_meets PySem.F.slot_list_insert ⟨_,e,rfl⟩ PySem.F.entry_list_insert (PySem.F.args_list_insert_3 _ _ _) (PySem.AutoSeq1.list_insert_list_int_val_1 l its.toArray n i t w' (by simp[hf]) (by rw[xo];omega)) ⟨e,?_⟩
 refine⟨.non,_,I.lset (its':=its.take (Qy xs.length i)++w'::its.drop (Qy xs.length i)) hH e ?_ ((r.take _).append (.cons rw' (r.drop _))) ?_,rfl,q⟩
 ·show (its.toArray.extract 0 (if i<0 then (i+(its.toArray.size:Int)).toNat else min i.toNat its.toArray.size)).push w'++its.toArray.extract (if i<0 then (i+(its.toArray.size:Int)).toNat else min i.toNat its.toArray.size)=_
  rw[xo,<- hl]
  show (its.toArray.extract 0 (Qy xs.length i)).push w'++its.toArray.extract (Qy xs.length i) xs.length=_
  apply Array.ext'
  simp
  exact List.take_of_length_le (by rw[um];omega)
 ·simp only[xF,xk,xJ,um]
  omega
noncomputable def zbo(i:Nat)(fi fv:EM FV):SM:=fun Γ=>if isOwn Γ i then (fi Γ).bind fun (w,Γ1)=>(fv Γ1).bind fun (u,Γ2)=>match derS Γ2 u,derf Γ2 w,Γ2[i]? with
 |some x,some (.int k),some (some (.l xs))=>if xs.length<1000000/\ -1000000<=k/\k<=1000000 then .ok (.next,Γ2.set i (some (.l (xs.take (Qy xs.length k)++.d x::xs.drop (Qy xs.length k))))) else .bad
 |_,_,_=>.bad
 else .bad
theorem zgq{s i:Nat}{x:Str}(n:NmK X mp s i x)(hi:SE X XP mp b fb)(ha:SE X XP mp a fa)(hst:starEach [b,a] X.env=(false,eval b X.env)::starEach [a] X.env)(hst2:starEach [a] X.env= [(false,eval a X.env)])(hline:(p2.endLine==pos.line)=true) :
  SS X XP mp io (.Expr (.Call (.Attribute (.Name x p) "insert" p2) [b,a] [] pos) pos') (zbo i fb fa):=fun M0 F Γ ν σ H D rs hs hl hp=>by
 unfold zbo at hp
 split at hp
 ·rename_i hw
  obtain⟨xs0,e0⟩:=VW hw
  obtain⟨a0,vs0,A0,en0,eh0,q0,_,_⟩:=wT rs e0
  refine (Y4 (YY PySem.F.plainAttrs_list PySem.F.slot_list_insert PySem.F.type_list_insert Kj (qB n.hN n.hv n.hd n.hcd) (zq zc (zq zc pa_nil hst2) hst) rfl (by rw[hst,hst2];rfl) hline hst (by rw[hst2];rfl)) rfl).wp ⟨.ref a0,hs s i _ n.hm en0,.inl ⟨rfl,_,SqL.of eh0⟩,?_⟩
  refine hi M0 F Γ ν σ H _ rs hs ((SPost.seq hs hl hp).mono fun F1 Γ1 H1 w rs1 s1 h1 vi oi=>?_)
  refine ha M0 F1 Γ1 ν σ H1 _ rs1 hs ((SPost.seq hs hl h1).mono fun F2 Γ2 H2 u rs2 s2 h2 v ov=>?_)
  dsimp only at h2
  split at h2
  ·rename_i y k xs ey ek ex
   split at h2
   ·rename_i hz
    obtain⟨a1,vs1,A1,en1,eh1,q1,_,_⟩:=wT rs2 ex
    rw[en0]at en1
    cases en1
    cases (oi.stp s2 rs1.al0).weak rs2 ek
    refine⟨a0,vs1,k,v,rfl,rfl,eh1,by omega,by omega,by have:=sizeLine_eq;rw[q1.length];omega,?_⟩
    obtain⟨F3,rs3,s3⟩:=zaO (xs':=xs.take (Qy xs.length k)++.d y::xs.drop (Qy xs.length k)) (vs':=vs1.take (Qy vs1.length k)++v::vs1.drop (Qy vs1.length k)) rs2 ex en0 eh1 fun A qa=>by
     rw[q1.length];exact qa.insD (ov.strong rs2 ey) _
    exact h2 F3 ν σ _ rs3 s3 hs hl fun _ _=>rfl
   ·exact h2.elim
  ·exact h2.elim
 ·exact hp.elim
end
end L3
namespace L2
open PySem PySem.Spec PyProof.Rows
variable [Cs]
section
variable {X:Cx} {pins:List (Addr×Obj)} {σ:List (Option V)} {H:Hp} {s:Shared} {h':Heap}
end
section
variable {X:Cx}
end
end L2
namespace L3
open PySem PySem.Spec PyProof.Rows L2
variable [Cs]
section
variable {X:Cx} {XP:XPT} {mp:List Nat} {a:Expr} {p pos:Pos} {fa:EM FV}
end
end L3
namespace L2
open PySem PySem.Spec PyProof.Rows
variable [Cs]
structure zgM(M:Addr->Prop)(H:Hp)(b c:Addr)(cells:List Int)(i l t s:Int):Prop where
 mb:M b
 hb:H b=some (.lst [.ref c,.int i,.int l,.int t,.int s])
 hc:Rep M H (.ref c) (.list (cells.map PyData.int))
 hi:0<=i
noncomputable def BoxAt(M:Addr->Prop)(H:Hp)(b:Addr):Prop:=∃ c cells i l t s,zgM M H b c cells i l t s
theorem BoxAt.mem{M:Addr->Prop}{H:Hp}{b:Addr}(B:BoxAt M H b):M b:=let ⟨_,_,_,_,_,_,B⟩:=B;B.mb
theorem BoxAt.lst{M:Addr->Prop}{H:Hp}{b:Addr}(B:BoxAt M H b):∃ xs,H b=some (.lst xs):=let ⟨_,_,_,_,_,_,B⟩:=B;⟨_,B.hb⟩
noncomputable def zbH(K:PySem.W.Frag):Sp:=fun vs H Q _=>∃ (a:Addr) (ns:List Int),vs= [.ref a]/\SqL K H a (ns.map V.int)/\ns.length<=63/\∀ b H',Same H H'->H b=none->H' b≠none->BoxAt (fun a=>a=b) H' b->Q (.ref b) H'
section
variable {X:Cx} {M:Addr->Prop} {Γ:Ge} {σ:St} {H:Hp} {D:qQ} {sts:List Stmt} {e e1:Expr} {p pos pos':Pos} {x:Str} {k:Nat} {b:Addr} {n:Int} {Q:VK}
end
theorem WZ{n i:Nat}{z:Ent}(e:(List.replicate n none:Ge)[i]?=some (some z)):False:=by
 rw[xK]at e
 split at e
 ·cases e
 ·cases e
theorem RS.blank{M:Addr->Prop}{σ:St}{H:Hp}(n:Nat)(al:Al M H):RS M (List.replicate n none) σ H:=⟨al,fun i d e=>(WZ e).elim,fun i d e=>(WZ e).elim⟩
section
variable {X:Cx} {H:Hp} {D:qQ} {sts:List Stmt} {p pos pos' p2:Pos} {x:Str} {k:Nat} {Q:VK}
theorem zgI {a:Addr}{ns:List Int}{N:List Str}(hN:X.N.Nodup) (kb:Kn X.prog X.w X.K X.mg X.base CX0 "_law_box" k (zbH X.K)) (hr:Room k X.A) (hS:SqL X.K H a (ns.map V.int)) (hlen:ns.length<=63)
  (kk:∀ b σ' H',Same H H'->H b=none->BoxAt (fun a=>a=b) H' b->RS (fun a=>a=b) ((List.replicate X.N.length none).set 1 (some (.v (.ref b)))) σ' H'->σ'.length=X.N.length->wpB X sts D σ' H')
  (hNe:X.N=N) (h0:N[0]?=some ("_law_script" :Str)) (hi:X.N[1]?=some x:=by rfl) (hv0:Vis X.env.scope "_law_script" :=by first | exact Or.inl rfl | exact Or.inr (Or.inl rfl) | exact Or.inr (Or.inr rfl)) (hx:Loc X.env.scope x:=by first | exact Or.inl rfl | exact Or.inr rfl)
  (hf:X.fn x=true∨X.env.scope.names.lookup x=some .local:=by first | exact .inl rfl | exact .inr rfl | assumption) (hg:Gl X "_law_box" :=by rfl)
  (hs:starEach [.Name "_law_script" p2] X.env= [(false,eval (.Name "_law_script" p2) X.env)]:=by rfl) (hpl:(backTo p (starEach [] X.env)).any (·.1)=false:=by rfl) {p3:Pos} :
  wpB X (.Assign [.Name x pos'] (.Call (.Name "_law_box" p3) [.Name "_law_script" p2] [] p) pos::sts) D (start N [.ref a]) H:=by
 have hl:1<N.length:=by rw[<- hNe];exact (xb.mp hi).1
 have hst:(start N [V.ref a]).length=N.length:=Vv (by simp;omega)
 refine zhL 1 (Q:=fun v H'=>∃ b,v=.ref b/\Same H H'/\H b=none/\BoxAt (fun a=>a=b) H' b) hN (zec kb hr hg zhh ((zq (qB (by rw[hNe];exact h0) hv0) pa_nil hs).wp ⟨.ref a,by simp[start],a,ns,rfl,hS,hlen,fun b H' s' nb _ hB=>⟨b,rfl,s',nb,hB⟩⟩) (by decide) hs hpl) (fun v H1 ⟨b,ev,s1,nb,hB⟩=>?_) hi hx rfl hf
 subst ev
 refine kk b _ H1 s1 nb hB ((RS.blank X.N.length (fun c hc=>?_)).setV (by rw[hst];exact hl)) (by rw[xL,hst,hNe])
 subst hc
 obtain⟨xs,hx⟩:=hB.lst
 rw[hx]
 exact fun z=>nomatch z
end
section
variable {X:Cx}
end
end L2
namespace L3
open PySem PySem.Spec PyProof.Rows L2
variable [Cs]
noncomputable def Vd:List PyData->Option (List Int)
 |[]=>some []
 |.int b::r=>(Vd r).map (b::·)
 |_=>none
section
variable {X:Cx} {XP:XPT} {mp:List Nat} {a:Expr} {p pos:Pos} {fa:EM FV}
end
section
variable {X:Cx} {XP:XPT} {mp:List Nat} {a b:Expr} {p p2 pos:Pos} {fa fb:EM FV}
end
end L3
namespace Tab
open PySem PySem.SetTable
section
variable {prog:Program} {w:World} {A:Around} {E:Value->Shared->Prop} {s:Shared}
inductive Keys(prog:Program)(w:World):List (Int×Value)->List Int->Prop
 |nil:Keys prog w [] []
 |cons {k:Int} {t:Tok} {es ks}:Keys prog w es ks->Keys prog w (((intKind prog w).hash k,.int k t)::es) (k::ks)
end
section
variable {prog:Program} {w:World} {A:Around} {E:Value->Shared->Prop} {s:Shared}
end
section
variable {prog:Program} {w:World} {A:Around} {E:Value->Shared->Prop} {s:Shared}
end
section
variable {prog:Program} {w:World} {A:Around} {E:Value->Shared->Prop} {s:Shared}
end
end Tab
namespace L2
open PySem PySem.Spec PyProof.Rows
variable [Cs]
section
variable {X:Cx}
end
end L2
namespace L3
open PySem PySem.Spec PyProof.Rows L2
variable [Cs]
section
variable {X:Cx} {XP:XPT} {mp:List Nat} {a b:Expr} {fa fb:EM FV}
end
end L3
namespace L2
open PySem PySem.Spec PyProof.Rows
section
variable {X:Cx} {e:Expr} {te:TE} {st:Expr} {ts:TO} {pos p2:Pos}
end
variable [Cs]
section
variable {X:Cx}
end
end L2
namespace L3
open PySem PySem.Spec PyProof.Rows L2
variable [Cs]
section
variable {X:Cx} {XP:XPT} {mp:List Nat} {a st:Expr} {p p2 pos:Pos} {fa fs:EM FV}
end
section
variable {M0:Addr->Prop} {F F':Fp} {Γ Γ':Gv} {ν ν':Nu} {H H':Hp}
end
section
variable {X:Cx} {XP:XPT} {mp io:List Nat} {a b c e tg iter:Expr} {es:List Expr} {pos p p2 pos':Pos} {fa fb fc:EM FV} {ta tb:EM Bool} {na nb:EM (List PyData)} {fo:EM OV} {st:Stmt} {sts body els:List Stmt} {f g:SM}
end
section
variable {M0:Addr->Prop} {F F':Fp} {Γ Γ':Gv} {ν ν':Nu} {H H':Hp}
end
section
variable {M0:Addr->Prop} {F F':Fp} {Γ Γ':Gv} {ν ν':Nu} {H H':Hp}
end
section
variable {X:Cx} {XP:XPT} {mp io:List Nat} {a b c e tg iter:Expr} {es:List Expr} {pos p p2 pos' p3:Pos} {fa fb fc:EM FV} {ta tb:EM Bool} {na nb:EM (List PyData)} {fo:EM OV} {st:Stmt} {sts body els:List Stmt} {f g:SM}
end
section
variable {X:Cx} {XP:XPT} {mp io:List Nat} {a b c e tg iter:Expr} {es:List Expr} {pos p p2 pos' p3 py pc pf:Pos} {fa fb fc:EM FV} {ta tb:EM Bool} {na nb:EM (List PyData)} {fo:EM OV} {st:Stmt} {sts body els:List Stmt} {f g:SM}
end
noncomputable def Za(x:Str):SM:=fun Γ=>.exc ⟨x,.none⟩ Γ
noncomputable def zgP(X:Cx)(XP:XPT):Prop:=∀ (x:Exc) (Γ:Gv) (F:Fp) (ν:Nu) (σ:St) (H:Hp),XP x Γ F ν σ H->∀ C,X.mg x.cls=some (.ref C)->∀ pins s,Inv X pins σ H s->∀ h' ea args,Heap.MadeExcOf s.heap h' ea (.ref C) args->X.xe (.ref ea) { s with heap:=h' }
section
variable {X:Cx} {XP:XPT} {mp io:List Nat} {x:Str} {C:Addr} {np cpos pos cp:Pos} {z:Str} {cj:Nat}
theorem zbJ(k:kL X x C)(hcalm:X.calm=true)(rz:zgP X XP):SS X XP mp io (.Raise (some (.Call (.Name x np) [.Constant (.str z) cj cp] [] cpos)) none pos) (Za x):=fun M0 F Γ ν σ H D rs hs hl hp=>
 zcf k hcalm fun pins s I h' ea args hm=>rz ⟨x,.none⟩ Γ F ν σ H (hp F ν σ H rs (.refl _ _) hs hl fun _ _=>rfl) C k.mg pins s I h' ea args hm
end
theorem HC.rep{M:Addr->Prop}{H:Hp}(v:HC):Rep M H v.V v.D:=by
 cases v with
 |s z=>exact .str z
 |b c=>exact .bool c
noncomputable def Zc(c:Str):List (Str×Nat×Nat×HC)->Option (Nat×Nat×HC)
 |[]=>none
 | (x,t,j,v)::r=>if x=c then some (t,j,v) else Zc c r
structure HdN(X:Cx)(L:Str->Addr->Prop)(mp:List Nat)(hd:ExceptHandler)(x:Str)(C:Addr)(t j:Nat)(v:HC):Prop where
 k:HdK X hd C t v
 e:kL X x C
 l:L x C
 m:mp[t]?=some j
inductive HdNs(X:Cx)(L:Str->Addr->Prop)(mp:List Nat):List ExceptHandler->List (Str×Nat×Nat×HC)->List (Addr×Nat×HC)->Prop
 |nil:HdNs X L mp [] [] []
 |cons {hd:ExceptHandler} {hs:List ExceptHandler} {x:Str} {C:Addr} {t j:Nat} {v:HC} {ns:List (Str×Nat×Nat×HC)} {zs:List (Addr×Nat×HC)}:HdN X L mp hd x C t j v->HdNs X L mp hs ns zs->HdNs X L mp (hd::hs) ((x,t,j,v)::ns) ((C,t,v)::zs)
theorem HdNs.ks{X:Cx}{L:Str->Addr->Prop}{mp:List Nat}:∀ {hs:List ExceptHandler}{ns:List (Str×Nat×Nat×HC)}{zs:List (Addr×Nat×HC)},HdNs X L mp hs ns zs->yM X hs zs
 |_,_,_,.nil=>.nil
 |_,_,_,.cons h t=>.cons h.k t.ks
theorem HdNs.found{X:Cx}{L:Str->Addr->Prop}{mp:List Nat}{c:Str}{t j:Nat}{v:HC}:∀ {hs:List ExceptHandler}{ns:List (Str×Nat×Nat×HC)}{zs:List (Addr×Nat×HC)},HdNs X L mp hs ns zs->Zc c ns=some (t,j,v)->∃ C,kL X c C/\L c C/\mp[t]?=some j
 |_,_,_,.nil,e=>by cases e
 |_,_,_,.cons (x:=x) (C:=C) h r,e=>by
  unfold Zc at e
  split at e
  ·rename_i q
   subst q
   cases e
   exact⟨C,h.e,h.l,h.m⟩
  ·exact r.found e
theorem HdNs.pick{X:Cx}{L:Str->Addr->Prop}{mp:List Nat}(mr:∀ x C y C2,L x C->L y C2->(mroIn X.K C).contains (.ref C2)=decide (x=y)){c:Str}{C:Addr}(hc:L c C){t j:Nat}{v:HC} :
  ∀ {hs:List ExceptHandler} {ns:List (Str×Nat×Nat×HC)} {zs:List (Addr×Nat×HC)},HdNs X L mp hs ns zs->Zc c ns=some (t,j,v)->wW X.K C zs=some (t,v)
 |_,_,_,.nil,e=>by cases e
 |_,_,_,.cons (x:=x) (C:=C2) h r,e=>by
  unfold Zc at e
  unfold wW
  rw[mr c C x C2 hc h.l]
  split at e
  ·rename_i q
   subst q
   cases e
   rw[if_pos (by simp)]
  ·rename_i q
   rw[if_neg (by simpa using fun z=>q z.symm)]
   exact r.pick mr hc e
theorem HdNs.lt{X:Cx}{L:Str->Addr->Prop}{mp:List Nat}{c:Str}{t j:Nat}{v:HC}:∀ {hs:List ExceptHandler}{ns:List (Str×Nat×Nat×HC)}{zs:List (Addr×Nat×HC)},HdNs X L mp hs ns zs->Zc c ns=some (t,j,v)->t<X.N.length
 |_,_,_,.nil,e=>by cases e
 |_,_,_,.cons h r,e=>by
  unfold Zc at e
  split at e
  ·cases e
   obtain⟨_,_,_,_,_,_,_,_,_,_,q,_⟩:=h.k.ex
   exact (xb.mp q).1
  ·exact r.lt e
noncomputable def Yj(io:List Nat)(b:SM)(hs:List (Str×Nat×Nat×HC)):SM:=fun Γ=>match b Γ with
 |.exc x Γ1=>match Zc x.cls hs with
  |some (_,j,v)=>if j<Γ1.length/\j∉io then .ok (.next,Γ1.set j (some (.d v.D))) else .bad
  |none=>.bad
 |r=>r
noncomputable def XPt (X:Cx) (zs:List (Addr×Nat×HC)) (D:qQ):XPT:=fun x _ _ _ σ H=>∃ C t v,X.mg x.cls=some (.ref C)/\PySem.W.excIn X.K C bmV "ValueError.__new__" =true/\wW X.K C zs=some (t,v)/\D.nx (σ.set t (some v.V)) H
section
variable {X:Cx} {XP:XPT} {mp io:List Nat} {L:Str->Addr->Prop} {hs:List ExceptHandler} {ns:List (Str×Nat×Nat×HC)} {zs:List (Addr×Nat×HC)} {f:SM} {body:List Stmt} {hd:ExceptHandler} {pos:Pos}
theorem zfV(hst:X.stack=X.env::X.outer)(hfr:X.env.frame=some X.env.locals)(hN:X.N.Nodup)(hh:yM X hs zs)(pins:List (Addr×Obj))(D:qQ):PxOk (X.tried pins (zbT X pins D hs)) (XPt X zs D):=fun σ pins' H e s x Γ F ν C h1 ⟨C',t,v,h2,h3,h4,h5⟩ u=>by
 have h1':X.mg x.cls=some (.ref C):=h1
 rw[h2]at h1'
 cases h1'
 obtain⟨ea,a0,fl,B,rfl,al,inv⟩:=u
 have I:=inv s.heap al.1 (.refl _)
 have ok:X.Ok:=⟨I.ok.mod,I.ok.kind,I.ok.glob,I.ok.blt,I.ok.above,I.ok.inj,I.ok.has,I.ok.cab,I.ok.hd,I.ok.frames,I.ok.stk,I.ok.exf,I.ok.bs,I.ok.bsz,I.ok.noex,I.ok.exfs,I.ok.funs,I.ok.frf⟩
 exact ze1 (X:=X) (pins:=pins) ⟨ea,a0,fl,B,rfl,al,fun h6 k1 k2=>(inv h6 k1 k2).untried ok⟩ ok hst hfr hN hh h3 h4 h5
theorem zgt (hn:mp.Nodup) (hh:HdNs X L mp (hd::hs) ns zs) (mr:∀ x C y C2,L x C->L y C2->(mroIn X.K C).contains (.ref C2)=decide (x=y)) (exL:∀ x C,L x C->X.mg x=some (.ref C)/\PySem.W.excIn X.K C bmV "ValueError.__new__" =true)
  (hb:∀ pins D,SB (X.tried pins (zbT X pins D (hd::hs))) (XPt X zs D) mp io body f):SS X XP mp io (.Try body (hd::hs) [] [] pos) (Yj io f ns):=fun M0 F Γ ν σ H D rs hs0 hsl hp=>by
 refine zgK fun pins=>hb pins D M0 F Γ ν σ H D rs hs0 hsl ?_
 unfold Yj at hp
 generalize f Γ=r at hp
 cases r with
 |bad=>exact hp
 |ok z=>
  obtain⟨fl,Γ'⟩:=z
  cases fl<;>exact hp
 |exc x Γ1=>
  dsimp only at hp
  intro F' ν' σ' H' rs' s' hs' hl' hio
  split at hp
  ·rename_i t j v ep
   split at hp
   ·rename_i hj
    obtain⟨C,k,hcL,hmj⟩:=hh.found ep
    refine⟨C,t,v,(exL _ _ hcL).1,(exL _ _ hcL).2,hh.pick mr hcL ep,?_⟩
    obtain⟨F2,rs2,s2⟩:=rs'.setD (i:=j) (d:=v.D) (v:=v.V) (HC.rep v) hj.1
    have hl'':σ'.length=X.N.length:=hl'
    refine hp F2 _ _ H' rs2 (s'.trans s2) (hs'.set hn hmj (by rw[hl''];exact hh.lt ep)) (by rw[xL];exact hl') fun l hl2=>?_
    rw[xg (fun z=>hj.2 (by rw[z];exact hl2))]
    exact hio l hl2
   ·exact hp.elim
  ·exact hp.elim
end
end L3
namespace Tab
open PySem PySem.Spec PyProof.Rows
section
variable {prog:Program} {w:World} {A:Around} {E:Value->Shared->Prop} {s:Shared}
end
end Tab
namespace L2
open PySem PySem.Spec PyProof.Rows
variable [Cs]
section
variable {X:Cx}
end
end L2
namespace L3
open PySem PySem.Spec PyProof.Rows L2
variable [Cs]
section
variable {X:Cx} {XP:XPT} {mp:List Nat} {a b:Expr} {p1 p2 q1 q2:Pos} {fa fb:EM FV}
theorem ZY{M:Addr->Prop}{H:Hp}:∀ {vs:List V}{ds:List PyData}{ns:List Int},RepL M H vs ds->Vd ds=some ns->vs=ns.map V.int
 |_,_,_,.nil,e=>by cases e;rfl
 |_,_,_,.cons (ds:=ds) (d:=d) r t,e=>by
  cases d with
  |int i=>
   unfold Vd at e
   cases q:Vd ds with
   |none=>rw[q]at e;cases e
   |some ms=>
    rw[q]at e
    cases e
    cases r
    rw[xm,ZY t q]
  |_=>cases e
end
end L3
namespace L2
open PySem PySem.Spec PyProof.Rows
variable [Cs]
section
variable {X:Cx}
end
end L2
namespace L3
open PySem PySem.Spec PyProof.Rows L2
variable [Cs]
section
variable {X:Cx} {XP:XPT} {mp io:List Nat} {a e:Expr} {p p1 p2 q1 q2 pos px py ps:Pos} {fa:EM FV}
noncomputable def yh(io:List Nat)(i j:Nat)(fa:EM FV):SM:=fun Γ=>(fa Γ).bind fun (u,Γ1)=>match derS Γ1 u with
 |some (.list (d::ds))=>if i<Γ1.length/\j<Γ1.length/\i∉io/\j∉io then .ok (.next,(Γ1.set i (some (.d d))).set j (some (.d (.list ds)))) else .bad
 |some (.tuple (d::ds))=>if i<Γ1.length/\j<Γ1.length/\i∉io/\j∉io then .ok (.next,(Γ1.set i (some (.d d))).set j (some (.d (.list ds)))) else .bad
 |_=>.bad
theorem zdT{s i t j:Nat}{x y:Str}{k:Nat}(hc:X.calm=true)(hN:X.N.Nodup)(hn:mp.Nodup)(hi:X.N[s]?=some x)(hx:Loc X.env.scope x)(hfx:X.fn x=true∨X.env.scope.names.lookup x=some .local)(hm:mp[s]?=some i)(hj:X.N[t]?=some y)(hy:Loc X.env.scope y)(hfy:X.fn y=true∨X.env.scope.names.lookup y=some .local)(hmt:mp[t]?=some j)
  (ha:SE X XP mp a fa) (hsw:swapsWithSole [.Tuple [.Name x px,.Starred (.Name y py) ps] k p] a pos.line X.env=pure false) (hw:swappedStores [.Tuple [.Name x px,.Starred (.Name y py) ps] k p] a X.env=pure none) :
  SS X XP mp io (.Assign [.Tuple [.Name x px,.Starred (.Name y py) ps] k p] a pos) (yh io i j fa):=fun M0 F Γ ν σ H D rs hs hl hp=>by
 have hsl:s<X.N.length:=(xb.mp hi).1
 have htl:t<X.N.length:=(xb.mp hj).1
 refine (za8 zc (zdc hc hN hi hx hfx hj hy hfy) hsw hw).wp (ha M0 F Γ ν σ H _ rs hs ((SPost.seq hs hl hp).mono fun F1 Γ1 H1 u rs1 s1 h1 v hv=>?_))
 have go:∀ (d:PyData) (ds:List PyData) (l:Addr) (zs:List V),(SqL X.K H1 l zs∨SqT X.K H1 l zs)->v=.ref l->RepL (MM M0 F1) H1 zs (d::ds)->SPost M0 F1 ν H1 XP mp X.N.length io D (if i<Γ1.length/\j<Γ1.length/\i∉io/\j∉io then R.ok (FL.next,(Γ1.set i (some (.d d))).set j (some (.d (.list ds)))) else .bad)->zep X.K s t v σ H1 fun σ' H'=>D.nx σ' H':=fun d ds l zs hq hv r h1=>by
  subst hv
  split at h1
  ·rename_i hh
   obtain⟨k1,k2,k3,k4⟩:=hh
   cases r with
   |cons r1 r2=>
    rename_i w ws
    refine⟨l,w,ws,rfl,hq,fun q hq=>?_⟩
    have sm:Same H1 (upd H1 q (.lst ws)):=zv hq
    obtain⟨F2,rs2,s2⟩:=(rs1.same sm).setD (i:=i) (r1.grow sm.grow) k1
    have hnm:¬ MM M0 F1 q:=fun z=>rs1.al q z hq
    have rl:Rep (MM M0 F1) (upd H1 q (.lst ws)) (.ref q) (.list ds):=Rep.list zf hnm (r2.grow sm.grow)
    obtain⟨F3,rs3,s3⟩:=rs2.setD (i:=j) (zr s2 (rs1.same sm).al0 rl) (by simpa using k2)
    refine h1 F3 _ _ _ rs3 (((Stp.same sm).trans s2).trans s3) ((hs.set hn hm (by rw[hl];exact hsl)).set hn hmt (by rw[xL,hl];exact htl)) (by simpa using hl) fun z hz=>?_
    rw[xg (fun e=>k4 (by rw[e];exact hz)),xg (fun e=>k3 (by rw[e];exact hz))]
  ·exact h1.elim
 dsimp only at h1
 split at h1
 ·rename_i d ds ed
  obtain⟨l,zs,e,el,_,r⟩:=(hv.strong rs1 ed).lst_inv
  exact go d ds l zs (.inl (SqL.of el)) e r h1
 ·rename_i d ds ed
  obtain⟨l,zs,e,el,r⟩:=(hv.strong rs1 ed).tup_inv
  exact go d ds l zs (.inr (SqT.of el)) e r h1
 ·exact h1.elim
end
end L3
namespace L2
open PySem PySem.Spec PyProof.Rows
variable [Cs]
section
variable {X:Cx}
theorem zc8:OpR X (binaryOp .Add) (fun x y H Q=>∃ a b,x=.str a/\y=.str b/\a.length+b.length<=sizeLine/\Q (.str (a++b)) H):=by
 intro pins s σ H x y v u Q I rx ry h
 obtain⟨a,b,rfl,rfl,hz,q⟩:=h
 obtain⟨t,rfl⟩:=rx
 obtain⟨t2,rfl⟩:=ry
 exact PyProof.Rows.add_str (fun t' tk=>⟨.str (a++b),H,I.tok tk,⟨t',rfl⟩,q⟩) hz
theorem zfG:OpR X (compareOp .In) (fun x y H Q=>∃ a b,x=.str a/\y=.str b/\Q (.bl (Txt.contains b a)) H):=by
 intro pins s σ H x y v u Q I rx ry h
 obtain⟨a,b,rfl,rfl,q⟩:=h
 obtain⟨t,rfl⟩:=rx
 obtain⟨t2,rfl⟩:=ry
 exact SB.contains ⟨.bl _,H,I,rfl,q⟩
theorem vV:jj X (.builtin "len") (fun xs H Q=>∃ a,xs= [.str a]/\a.length<=sizeLine/\Q (.int a.length) H):=by
 intro pins s σ H xs us Q I r h
 obtain⟨a,rfl,hz,q⟩:=h
 obtain⟨u,rfl,t,rfl⟩:=Zd r
 have:=sizeLine_eq
 exact PyProof.Rows.len_str (by omega) ⟨.int a.length,H,I.tok _,⟨_,rfl⟩,q⟩
theorem W8:jj X (.type "str") (fun xs H Q=>(∃ a,xs= [.str a]/\Q (.str a) H)∨∃ i:Int,xs= [.int i]/\i.natAbs.log2<1920/\Q (.str (toString i)) H):=by
 intro pins s σ H xs us Q I r h
 rcases h with ⟨a,rfl,q⟩ | ⟨i,rfl,hi,q⟩
 ·obtain⟨u,rfl,t,rfl⟩:=Zd r
  exact PySem.P.str_of_str ⟨.str a,H,I,⟨_,rfl⟩,q⟩
 ·obtain⟨u,rfl,t,rfl⟩:=Zd r
  exact PySem.P.str_of_int hi ⟨.str (toString i),H,I.tok _,⟨_,rfl⟩,q⟩
theorem Wi:∀ {xs:List V}{us:List Value}{ys:List Str},Vals xs us->xs=ys.map .str->StrsAre us ys
 |_,_,[],.nil,_=>.nil
 |_,_,_::_,.nil,e=>by cases e
 |_,_,[],.cons _ _,e=>by cases e
 |_,_,y::ys,.cons r t,e=>by
  rw[xm,List.cons.injEq]at e
  obtain⟨e1,e2⟩:=e
  subst e1
  obtain⟨tk,rfl⟩:=r
  exact .cons y tk (Wi t e2)
theorem zc1:MtR X "str.join" (fun x xs H Q=>∃ (a:Str) (p:Addr) (ys:List Str),x=.str a/\xs= [.ref p]/\(SqL X.K H p (ys.map .str)∨SqT X.K H p (ys.map .str))/\a.length<=16/\(ys.map (·.length)).sum+ys.length<=1048576/\Q (.str (Txt.join a ys)) H):=by
 intro pins s σ H x xs v us Q I rx r h
 obtain⟨a,p,ys,rfl,rfl,hq,h16,hw,q⟩:=h
 obtain⟨t,rfl⟩:=rx
 obtain⟨u,rfl,ru⟩:=Zd r
 cases ru
 rcases hq with hq | hq
 ·obtain⟨its,r2,pl,hz⟩:=I.list hq
  exact join_listW pl.isList (by simpa using Wi r2 rfl) h16 hw fun t' k=>⟨.str _,H,I.tok k,⟨t',rfl⟩,q⟩
 ·obtain⟨its,r2,pl,hz⟩:=I.tuple hq
  exact join_tupleW pl (by simpa using Wi r2 rfl) h16 hw fun t' k=>⟨.str _,H,I.tok k,⟨t',rfl⟩,q⟩
end
end L2
namespace L3
open PySem PySem.Spec PyProof.Rows L2
variable [Cs]
section
variable {X:Cx} {XP:XPT} {mp:List Nat} {a b c e:Expr} {es:List Expr} {pos p p2:Pos} {fa fb fc:EM FV}
noncomputable def qv:PyData->PyData->Option PyData
 |.str x,.str y=>if x.length+y.length<=1000000 then some (.str (x++y)) else none
 |_,_=>none
theorem zdr:OpS X (binaryOp .Add) qv:=fun x y z e=>by
 unfold qv at e
 split at e
 ·split at e
  ·rename_i h
   cases e
   exact⟨_,zc8,fun M H v u Q _ r1 r2 k=>by
    cases r1;cases r2
    exact⟨_,_,rfl,rfl,sz6 h,k _ H (Same.refl H) (.str _)⟩⟩
  ·cases e
 ·cases e
noncomputable def Vb:PyData->PyData->Option Bool
 |.str x,.str y=>some (Txt.contains y x)
 |_,_=>none
theorem zbE:vJ X .In Vb:=fun x y z e=>by
 unfold Vb at e
 split at e
 ·cases e
  exact⟨_,zfG,fun H v u Q r1 r2 k=>by
   cases r1;cases r2
   exact⟨_,_,rfl,rfl,k⟩⟩
 ·cases e
noncomputable def zC:PyData->Option PyData
 |.str x=>if x.length<=1000000 then some (.int x.length) else none
 |_=>none
theorem zcE:Qk X (.builtin "len") zC:=fun x z e=>by
 unfold zC at e
 split at e
 ·split at e
  ·rename_i h
   cases e
   exact⟨rfl,_,vV,fun H v Q r k=>by cases r;exact⟨_,rfl,sz6 h,k _ (.int _)⟩⟩
  ·cases e
 ·cases e
noncomputable def y6:PyData->Option PyData
 |.str x=>some (.str x)
 |.int i=>if i.natAbs.log2<1920 then some (.str (toString i)) else none
 |_=>none
theorem ze5:Qk X (.type "str") y6:=fun x z e=>by
 unfold y6 at e
 split at e
 ·cases e
  exact⟨rfl,_,W8,fun H v Q r k=>by cases r;exact .inl ⟨_,rfl,k _ (.str _)⟩⟩
 ·split at e
  ·rename_i h
   cases e
   exact⟨rfl,_,W8,fun H v Q r k=>by cases r;exact .inr ⟨_,rfl,h,k _ (.str _)⟩⟩
  ·cases e
 ·cases e
noncomputable def v8(fa fb:EM FV):EM FV:=fun Γ=>(fa Γ).bind fun (u,Γ1)=>(fb Γ1).bind fun (w,Γ2)=>match derf Γ2 u,derf Γ2 w with
 |some (.str x),some (.int i)=>if x.length<=1000000 then match atI x.cps.toList i with
  |some c=>.ok (.dat (.str ⟨#[c]⟩),Γ2)
  |none=>.bad
  else .bad
 |_,_=>.bad
theorem zf6(ha:SE X XP mp a fa)(hb:SE X XP mp b fb)(hx:wj b):SE X XP mp (.Subscript a b pos) (v8 fa fb):=fun M0 F Γ ν σ H Q rs hs hp=>
 (zet zfi zc zc hx).wp (ha.run rs hs hp fun F1 Γ1 H1 u v rs1 s1 o1 h1=>hb.run rs1 hs h1 fun F2 Γ2 H2 w v2 rs2 s2 o2 h2=>by
  dsimp only at h2
  split at h2
  ·rename_i x i e1 e2
   split at h2
   ·rename_i hz
    split at h2
    ·rename_i cc ec
     have r1:=(o1.stp s2 rs1.al0).weak rs2 e1
     have r2:=o2.weak rs2 e2
     cases r1;cases r2
     exact⟨_,_,cc,rfl,rfl,sz6 hz,ec,h2 F2 H2 rs2 (.refl _ _) _ (Rep.str _)⟩
    ·exact h2.elim
   ·exact h2.elim
  ·exact h2.elim)
noncomputable def Zt:List PyData->Option (List Str)
 |[]=>some []
 |.str x::r=>(Zt r).map (x::·)
 |_=>none
theorem Wh(xs:List Str):Zt (xs.map .str)=some xs:=by
 induction xs with
 |nil=>rfl
 |cons b r ih=>simp[Zt,ih]
theorem JT:∀ {ds:List PyData}{xs:List Str},Zt ds=some xs->ds=xs.map .str
 |[],xs,e=>by cases e;rfl
 |.str b::r,xs,e=>by
  unfold Zt at e
  cases q:Zt r with
  |none=>rw[q]at e;cases e
  |some l=>rw[q]at e;cases e;rw[JT q];rfl
 |.none::r,xs,e=>by cases e
 |.bool _::r,xs,e=>by cases e
 |.int _::r,xs,e=>by cases e
 |.list _::r,xs,e=>by cases e
 |.tuple _::r,xs,e=>by cases e
 |.dict _::r,xs,e=>by cases e
theorem JR{M:Addr->Prop}{H:Hp}:∀ {vs:List V}{xs:List Str},RepL M H vs (xs.map .str)->vs=xs.map .str
 |_,[],.nil=>rfl
 |_,x::xs,.cons r t=>by
  cases r
  rw[JR t];rfl
noncomputable def Z3(z:Str)(x:PyData):Option PyData:=match (match x with | .list ds=>Zt ds | .tuple ds=>Zt ds | _=>none) with
 |some ys=>if (ys.map (·.length)).sum+ys.length<=1000000/\z.length<=16 then some (.str (Txt.join z ys)) else none
 |none=>none
theorem zdB {z:Str}{j:Nat}{p1:Pos}{name:Str}(en:name= "join") (ha:SE X XP mp a fa) (hst:starEach [a] X.env= [(false,eval a X.env)]) (hl:(p2.endLine==pos.line)=true) :
  SE X XP mp (.Call (.Attribute (.Constant (.str z) j p1) name p2) [a] [] pos) (f1 (Z3 z) fa):=fun M0 F Γ ν σ H Q rs hs hp=>by
 subst en
 have hfew:((backTo pos (starEach [a] X.env)).all (fun x=> !x.1)&&(backToKw pos (keywordEach [] X.env)).all (fun x=>x.1.isSome)&&decide ([a].length+([]:List Keyword).length+(if ([]:List Keyword).isEmpty then 0 else 1)<30))=true:=by rw[hst];rfl
 refine (YY PySem.F.plainAttrs_str PySem.F.slot_str_join PySem.F.type_str_join zc1 pe_str (zq zc pa_nil hst) rfl hfew hl hst rfl).wp ⟨rfl,?_⟩
 refine ha.run rs hs hp fun F1 Γ1 H1 u v rs1 s1 o1 h1=>?_
 dsimp only at h1
 split at h1
 ·rename_i y ey
  cases ex:derf Γ1 u with
  |none=>rw[ex]at ey;cases ey
  |some x=>
   rw[ex]at ey
   have ey:Z3 z x=some y:=ey
   unfold Z3 at ey
   split at ey
   ·rename_i ys es
    split at ey
    ·rename_i hh
     cases ey
     have r:=o1.weak rs1 ex
     cases x with
     |list ds=>
      obtain⟨l,vs,rfl,el,_,rl⟩:=r.lst_inv
      rw[JT es]at rl
      have:=JR rl
      subst this
      exact⟨z,l,ys,rfl,rfl,.inl (SqL.of el),hh.2,by omega,h1 F1 H1 rs1 (.refl _ _) _ (Rep.str _)⟩
     |tuple ds=>
      obtain⟨l,vs,rfl,el,rl⟩:=r.tup_inv
      rw[JT es]at rl
      have:=JR rl
      subst this
      exact⟨z,l,ys,rfl,rfl,.inr (SqT.of el),hh.2,by omega,h1 F1 H1 rs1 (.refl _ _) _ (Rep.str _)⟩
     |_=>cases es
    ·cases ey
   ·cases ey
 ·exact h1.elim
noncomputable def Qv:PyData->Option Str
 |.str x=>if x.length<=10000 then some x else none
 |.int i=>if i.natAbs.log2<1920/\(Str.ofString (toString i)).length<=10000 then some (toString i) else none
 |_=>none
noncomputable def J7:List Str->Str
 |[]=>Str.empty
 |x::r=>x++J7 r
theorem qC(x y z:Str):x++y++z=x++(y++z):=by
 show Str.append (Str.append x y) z=Str.append x (Str.append y z)
 simp[Str.append,Array.append_assoc]
theorem jh(x:Str):x++Str.empty=x:=by
 show Str.append x Str.empty=x
 cases x;simp[Str.append,Str.empty]
theorem Yk(x:Str):Str.empty++x=x:=by
 show Str.append Str.empty x=x
 cases x;simp[Str.append,Str.empty]
theorem qt(x y:Str):(x++y).length=x.length+y.length:=by
 show (Str.append x y).length=_
 simp[Str.append,Str.length]
noncomputable def JL:EM (List Str):=fun Γ=>.ok ([],Γ)
noncomputable def Z2(fa:EM FV)(fl:EM (List Str)):EM (List Str):=fun Γ=>(fa Γ).bind fun (u,Γ1)=>match (derf Γ1 u).bind Qv with
 |some y=>(fl Γ1).bind fun (ys,Γ2)=>.ok (y::ys,Γ2)
 |none=>.bad
noncomputable def J1(fl:EM (List Str)):EM FV:=fun Γ=>(fl Γ).bind fun (ys,Γ1)=>.ok (.dat (.str (J7 ys)),Γ1)
noncomputable def SJ(X:Cx)(XP:XPT)(mp:List Nat)(es:List Expr)(f:EM (List Str)):Prop:=∀ (M0:Addr->Prop) (F:Fp) (Γ:Gv) (ν:Nu) (σ:St) (H:Hp) (acc:Str) (Q:Str->Hp->Prop),RS M0 F Γ ν H->Sees mp ν σ->acc.length+10000*es.length<=10000000 ->
 EPost M0 F ν σ H XP (fun F' Γ' H' ys=>Q (acc++J7 ys) H') (f Γ)->∀ pins s,Inv X pins σ H s->Joins (model X.prog X.w) X.A X.xe (evalEach es X.env) acc (fun out s1=>out.length<=sizeLine/\∃ H',Inv X pins σ H' s1/\Q out H') s
theorem zgh:SJ X XP mp [] JL:=fun M0 F Γ ν σ H acc Q rs hs hz hp pins s I=>by
 have:=hp F H rs (.refl _ _)
 unfold J7 at this
 rw[jh]at this
 exact⟨by have:=sizeLine_eq;omega,H,I,this⟩
theorem YL{x:PyData}{y:Str}(e:Qv x=some y):y.length<=10000:=by
 unfold Qv at e
 split at e
 ·split at e
  ·rename_i h;cases e;exact h
  ·cases e
 ·split at e
  ·rename_i h;cases e;exact h.2
  ·cases e
 ·cases e
theorem zgg{fl:EM (List Str)}{z:Str}{j:Nat}(hz:z.length<=10000)(hl:SJ X XP mp es fl):SJ X XP mp (.Constant (.str z) j p::es) (Z2 (fC (.str z)) fl):=fun M0 F Γ ν σ H acc Q rs hs hb hp pins s I=>by
 rw[xk]at hb
 have hb1:=sizeLine_eq
 have hg:Qv (.str z)=some z:=by simp[Qv,hz]
 have hp':EPost M0 F ν σ H XP (fun F' Γ' H' ys=>Q (acc++J7 ys) H') ((fl Γ).bind fun (ys,Γ2)=>.ok (z::ys,Γ2)):=by
  have e:Z2 (fC (.str z)) fl Γ=((fl Γ).bind fun (ys,Γ2)=>.ok (z::ys,Γ2)):=by
   unfold Z2 fC
   show (match (some (PyData.str z)).bind Qv with | some y=>(fl Γ).bind fun (ys,Γ2)=>R.ok (y::ys,Γ2) | none=>.bad)=_
   have:(some (PyData.str z)).bind Qv=some z:=hg
   rw[this]
  rw[<- e];exact hp
 show wpAny _ _ (eval (.Constant (.str z) j p) X.env) _ _ s
 refine thn (pe_str (X:=X) (j:=j) (pos:=p) pins s σ H (fun v H'=>v=.str z/\H'=H) I ⟨rfl,rfl⟩) fun v s1 ⟨x,H1,I1,r1,e1,e2⟩=>?_
 subst e1 e2
 obtain⟨t,rfl⟩:=r1
 refine⟨z,t,rfl,by rw[qt];omega,?_⟩
 refine hl M0 F Γ ν σ H1 (acc++z) Q rs hs (by rw[qt];omega) ?_ pins s1 I1
 cases q:fl Γ with
 |ok w=>
  obtain⟨ys,Γ2⟩:=w
  rw[q]at hp'
  exact fun F' H' rs' s'=>by have:=hp' F' H' rs' s';show Q (acc++z++J7 ys) H';rw[qC];exact this
 |exc x y=>rw[q]at hp';exact hp'
 |bad=>rw[q]at hp';exact hp'
theorem zgi{fl:EM (List Str)}(ha:SE X XP mp a fa)(hl:SJ X XP mp es fl):SJ X XP mp (.FormattedValue a (-1) none p::es) (Z2 fa fl):=fun M0 F Γ ν σ H acc Q rs hs hb hp pins s I=>by
 rw[xk]at hb
 have hb1:=sizeLine_eq
 show wpAny _ _ (eval (.FormattedValue a (-1) none p) X.env) _ _ s
 refine wpAny_FormattedValue_plain ?_
 have key:wpE X a σ H fun v H1=>∃ F1 Γ1 x y,RS M0 F1 Γ1 ν H1/\Stp F H F1 H1/\Rep zw H1 v x/\Qv x=some y/\EPost M0 F1 ν σ H1 XP (fun F' Γ' H' ys=>Q (acc++J7 ys) H') ((fl Γ1).bind fun (ys,Γ2)=>.ok (y::ys,Γ2)):=by
  refine ha.run rs hs hp fun F1 Γ1 H1 u v rs1 s1 o1 h1=>?_
  dsimp only at h1
  split at h1
  ·rename_i y ey
   cases ex:derf Γ1 u with
   |none=>rw[ex]at ey;cases ey
   |some x=>
    rw[ex]at ey
    exact⟨F1,Γ1,x,y,rs1,s1,o1.weak rs1 ex,ey,h1⟩
  ·exact h1.elim
 refine thn (key pins s I) fun r s1 ⟨v,H1,I1,r1,F1,Γ1,x,y,rs1,s1',rx,ey,h1⟩=>?_
 have go:∀ t (k:Nat),∃ y0 t0,(Value.str y t:Value)=.str y0 t0/\(acc++y0).length<=sizeLine/\Joins (model X.prog X.w) X.A X.xe (evalEach es X.env) (acc++y0) (fun out s2=>out.length<=sizeLine/\∃ H',Inv X pins σ H' s2/\Q out H') { s1 with toks:=k }:=fun t k=>by
  have hy:=YL ey
  refine⟨y,t,rfl,by rw[qt];omega,?_⟩
  refine hl M0 F1 Γ1 ν σ H1 (acc++y) Q rs1 hs (by rw[qt];omega) ?_ pins _ (I1.tok k)
  cases q:fl Γ1 with
  |ok w=>
   obtain⟨ys,Γ2⟩:=w
   rw[q]at h1
   exact fun F' H' rs' s'=>by have:=h1 F' H' rs' s';show Q (acc++y++J7 ys) H';rw[qC];exact this
  |exc x y=>rw[q]at h1;exact h1
  |bad=>rw[q]at h1;exact h1
 cases rx with
 |str z=>
  obtain⟨t,rfl⟩:=r1
  have hy:=YL ey
  have ez:y=z:=by
   simp only[Qv]at ey
   split at ey
   ·cases ey;rfl
   ·cases ey
  subst ez
  exact wpAny_formatField_str (go t s1.toks) (go _ _) (by omega)
 |int i=>
  obtain⟨t,rfl⟩:=r1
  simp only[Qv]at ey
  split at ey
  ·rename_i hh
   cases ey
   exact wpAny_formatField_int hh.1 (go _ _)
  ·cases ey
 |none=>cases ey
 |bool b=>cases ey
 |list _ _ _=>cases ey
 |tuple _ _=>cases ey
 |dict _ _ _ _=>cases ey
 |inst _ _ _ _=>cases ey
theorem zdx{fl:EM (List Str)}{v1 v2:Expr}(hl:SJ X XP mp (v1::v2::es) fl)(hz:(v1::v2::es).length<=100):SE X XP mp (.JoinedStr (v1::v2::es) pos) (J1 fl):=fun M0 F Γ ν σ H Q rs hs hp pins s I=>by
 refine wpAny_JoinedStr ?_
 have he:Str.empty.length=0:=rfl
 have:=hl M0 F Γ ν σ H Str.empty (fun out H'=>Q (.str out) H') rs hs (by rw[he];omega) (by
  unfold J1 at hp
  refine (EPost.seq hp).mono fun F1 Γ1 H1 ys rs1 s1 h1=>?_
  rw[Yk]
  exact h1 F1 H1 rs1 (.refl _ _) _ (Rep.str _)) pins s I
 revert this
 generalize evalEach (v1::v2::es) X.env=parts
 generalize Str.empty=acc
 intro this
 have mono:∀ (parts:List (Sem Value)) (acc:Str) (s:Shared),Joins (model X.prog X.w) X.A X.xe parts acc (fun out s1=>out.length<=sizeLine/\∃ H',Inv X pins σ H' s1/\Q (.str out) H') s ->
   Joins (model X.prog X.w) X.A X.xe parts acc (fun out s₁=>out.length<=sizeLine/\EP X pins σ Q (.str out s₁.toks) { s₁ with toks:=s₁.toks+1 }) s:=by
  intro parts
  induction parts with
  |nil=>
   intro acc s h
   obtain⟨h1,H',I',q⟩:=h
   exact⟨h1,.str acc,H',I'.tok _,⟨_,rfl⟩,q⟩
  |cons x r ih=>
   intro acc s h
   exact wpAny_mono h (fun v s1 ⟨y,t,e,hz,k⟩=>⟨y,t,e,hz,ih _ _ k⟩) fun _ _ y=>y
 exact mono parts acc s this
end
end L3
namespace L2
open PySem PySem.Spec PyProof.Rows PySem.Builtin PySem.Builtin.Str
variable [Cs]
theorem Ym{prog:Program}{w:World}{A:Around}{E:Value->Shared->Prop}{s:Shared}{x y:Str}{t u:Tok}{Q:Value->Shared->Prop}(hy:(y.length==0)=false)
  (h:∀ (l:List (Str×Tok)) k,l.map (·.1)=Txt.split x y->Q (.ref s.heap.objs.size) { s with heap:=s.heap.push { cls:=.type "list",data:=.seq (strValues l).toArray },toks:=k })
  (hsz:x.length+2<=sizeLine):wpAny (model prog w) A (call (.builtin "str.split") [.str x t,.str y u]) Q E s:=by
 have hn:(partsBetween x (occurrences x y 0 x.length (x.length+1)) y.length).length<=sizeLine:=by
  have e1:=StrLaws.occ_length_le x y 0 x.length (x.length+1)
  rw[length_partsBetween];omega
 cases h1:(decide (x.length<y.length)||decide (strKind x<strKind y))
 ·cases hf:(occurrences x y 0 x.length (x.length+1)).isEmpty
  ·refine call_meets F.slot_str_split (typeIs_str _ _ _) F.entry_str_split (F.args_str_split_2 _ _) (meets_str_split_sep x y t u h1 hy hf (by omega) hn) ?_
   show wants Q E _ { s with toks:=_,heap:=s.heap.push { cls:=.type "list",data:=.seq (strsFrom s.toks (partsBetween x (occurrences x y 0 x.length (x.length+1)) y.length)).toArray } }
   rw[strsFrom_eq]
   exact h (numbered s.toks _) _ ((numbered_texts _ _).trans ((if_neg (ne_true_of_eq_false h1)).trans (if_neg (ne_true_of_eq_false hf))).symm)
  ·exact call_meets F.slot_str_split (typeIs_str _ _ _) F.entry_str_split (F.args_str_split_2 _ _) (meets_str_split_not_found x y t u h1 hy hf)
    (h [(x,t)] s.toks ((if_neg (ne_true_of_eq_false h1)).trans (if_pos hf)).symm)
 ·exact call_meets F.slot_str_split (typeIs_str _ _ _) F.entry_str_split (F.args_str_split_2 _ _) (meets_str_split_cannot_occur x y t u h1)
   (h [(x,t)] s.toks (if_pos h1).symm)
theorem vI:∀ (l:List (Str×Tok)),Vals ((l.map (·.1)).map .str) (strValues l)
 |[]=>.nil
 |p::r=>.cons ⟨p.2,rfl⟩ (vI r)
theorem vz(x y:Str):(Txt.split x y).length<=x.length+2:=by
 unfold Txt.split
 split
 ·simp
 ·split
  ·simp
  ·have e1:=StrLaws.occ_length_le x y 0 x.length (x.length+1)
   rw[length_partsBetween];omega
section
variable {X:Cx}
theorem zc0:MtR X "str.endswith" (fun x xs H Q=>∃ a b:Str,x=.str a/\xs= [.str b]/\Q (.bl (Txt.endswith a b)) H):=by
 intro pins s σ H x xs v us Q I rx r h
 obtain⟨a,b,rfl,rfl,q⟩:=h
 obtain⟨t,rfl⟩:=rx
 obtain⟨u,rfl,t2,rfl⟩:=Zd r
 exact SC.endswith ⟨.bl _,H,I,rfl,q⟩
theorem zaN:MtR X "str.split" (fun x xs H Q=>∃ a b:Str,x=.str a/\xs= [.str b]/\(b.length==0)=false/\a.length+2<=sizeLine/\∀ p,H p=none->Q (.ref p) (upd H p (.lst ((Txt.split a b).map .str)))):=by
 intro pins s σ H x xs v us Q I rx r h
 obtain⟨a,b,rfl,rfl,hy,hz,q⟩:=h
 obtain⟨t,rfl⟩:=rx
 obtain⟨u,rfl,t2,rfl⟩:=Zd r
 refine Ym hy (fun l k el=>?_) hz
 refine⟨.ref s.heap.objs.size,_,I.laid (t':=k) (o:=.lst ((Txt.split a b).map .str)) (fun b ob q=>Heap.get?_push_of_some _ q) (xi _) ?_,rfl,q _ (I.hok.fresh (xi _))⟩
 refine⟨?_,_,0,by rw[<- el];exact vI l,Heap.get?_push_size _ rfl⟩
 rw[xt]
 exact xC (vz a b) hz
theorem vU:jj X (.type "int") (fun xs H Q=>∃ (a:Str) (n:Int),xs= [.str a]/\PySem.intText? a=some n/\a.length<=640/\Q (.int n) H):=by
 intro pins s σ H xs us Q I r h
 obtain⟨a,n,rfl,hn,hz,q⟩:=h
 obtain⟨u,rfl,t,rfl⟩:=Zd r
 exact PySem.W.KIN.call_text hn hz ⟨.int n,H,I.tok _,⟨_,rfl⟩,q⟩
theorem zgk:SlR X (fun x lo hi H Q=>∃ a:Str,x=.str a/\a.length<=sizeLine/\Q (.str (Txt.slice a lo hi)) H):=by
 intro pins s σ H x v vl vu lo hi sl Q I rx hs pl pu h
 obtain⟨a,rfl,hz,q⟩:=h
 obtain⟨t,rfl⟩:=rx
 refine⟨"str",_,F.slot_str_getitem.lookup,typeIs_str _ _ _,?_⟩
 have key:∀ (l u:Option (Int×Tok)),vl=partValue l->vu=partValue u->lo=l.map (·.1)->hi=u.map (·.1)->wpAny (model X.prog X.w) X.A (getItem (.str a t) (.ref sl)) (EP X pins σ Q) X.xe s:=by
  intro l u e1 e2 e3 e4
  subst e1 e2 e3 e4
  refine wpAny_getItem_str_slice (l:=l) (u:=u) (st:=none) ?_ rfl ?_
  ·obtain⟨o,ho,hc,hd⟩:=hs
   exact⟨o,ho,hc,hd⟩
  ·exact post_val_or_str ⟨xC (Txt.slice_le a _ _) hz,fun t' k=>⟨.str (Txt.slice a (l.map (·.1)) (u.map (·.1))),H,I.tok k,⟨t',rfl⟩,q⟩⟩
 cases pl with
 |none=>cases pu with
  |none=>exact key none none rfl rfl rfl rfl
  |int j t2=>exact key none (some (j,t2)) rfl rfl rfl rfl
 |int i t1=>cases pu with
  |none=>exact key (some (i,t1)) none rfl rfl rfl rfl
  |int j t2=>exact key (some (i,t1)) (some (j,t2)) rfl rfl rfl rfl
end
noncomputable def Itc(x:Str):It:=⟨fun i _=>i<x.length,fun i H v H'=>H'=H/\∃ c,x.cps[i]?=some c/\v=.str ⟨#[c]⟩,fun i _=>x.length<=i⟩
theorem Yr {P:Program}{w:World}{K:PySem.W.Frag}{tg:Expr}(x:Str) (t:Tok) (it:Addr):vO P w K tg (Itc x) [it] it (fun i h=>h.IsStrIter it "str_ascii_iterator" x t i) where
 mem:=by simp
 obj:=fun i h st b hb=>by
  have e:b=it:=by simpa using hb
  subst e
  obtain⟨o,e,c,d⟩:=st
  exact⟨o,e,fun v z=>by rw[d]at z;cases z⟩
 keep:=fun i h h' st k=>by
  obtain⟨o,e,c,d⟩:=st
  exact⟨o,k it (by simp) o e,c,d⟩
 item:=by
  intro X hP hw hK hc i pins s σ H E I hf st hg
  subst hP hw hK
  have hg:i<x.cps.size:=hg
  obtain⟨f0,f1,f2,f3,f4,f5⟩:=hf it (by simp)
  have hx:x.cps[i]?=some x.cps[i]:=Array.getElem?_eq_getElem hg
  refine wpAny_pyNext_ascii_item st hx fun h' st' sb=>?_
  have I1:Inv X pins σ H { s with heap:=h',toks:=s.toks+1 }:=I.turned (t':=s.toks+1) (fun b o hb e=>(sb.2 b hb).trans e) f0 f1 f3 f4 f5
  obtain⟨o,e,c,d⟩:=id st'
  exact⟨_,rfl,YM (s:={ s with heap:=h',toks:=s.toks+1 }) e c d (by decide) ⟨.str ⟨#[x.cps[i]]⟩,H,I1,⟨_,rfl⟩,⟨rfl,_,hx,rfl⟩,st',fun b hb=>(hf b hb).1⟩⟩
 done:=by
  intro X hP hw hK hc i pins s σ H E I hf st hg
  subst hP hw hK
  have hg:x.cps.size<=i:=hg
  obtain⟨f0,f1,f2,f3,f4,f5⟩:=hf it (by simp)
  exact wpAny_pyNext_ascii_end (I.ok.hd hc) st (Array.getElem?_eq_none hg) fun h' eb=>⟨rfl,I.turned (t':=s.toks) (fun b o hb e=>eb b o hb e) f0 f1 f3 f4 f5⟩
 self:=fun _ _ _ _ _ st h=>wpAny_pyIter_striter_ascii st h
section
variable {X:Cx}
noncomputable def zfd(tl:TE):TI:=fun σ H R=>tl σ H fun x H1=>∃ a:Str,x=.str a/\a.cps.all (·<128)=true/\R (Itc a) H1
theorem za7{tg l:Expr}{tl:TE}(hl:PE X l tl):PI X tg l (zfd tl):=by
 intro pins s σ H R I h
 refine thn (hl pins s σ H _ I h) fun v s1 ⟨x,H1,I1,r1,q1⟩=>?_
 obtain⟨a,rfl,ha,q⟩:=q1
 obtain⟨t,rfl⟩:=r1
 refine wpAny_pyIter_ascii ha ?_
 have I2:Inv X pins σ H1 { s1 with heap:=s1.heap.push { cls:=.type "str_ascii_iterator",data:=.fields #[.str a t,.int 0 0] } }:=I1.kept (t':=s1.toks) fun b ob q=>Heap.get?_push_of_some _ q
 refine⟨s1.heap.objs.size,[s1.heap.objs.size],_,_,H1,rfl,I2,Yr a t _,⟨_,Heap.get?_push_size _ rfl,rfl,rfl⟩,fun b hb=>?_,q⟩
 have eb:b=s1.heap.objs.size:=by simpa using hb
 subst eb
 exact I1.fpOk (xi _) (I1.hok.fresh (xi _))
end
noncomputable def ItK:Bool->Heap->Addr->Addr->Nat->Prop
 |true,h,i,l,k=>h.IsTupleIter i l k
 |false,h,i,l,k=>h.IsListIter i l k
noncomputable def SqK:Bool->Heap->Addr->Array Value->Prop
 |true,h,l,xs=>h.IsTuple l xs
 |false,h,l,xs=>h.IsList l xs
noncomputable def itN:Bool->String
 |true=> "tuple_iterator"
 |false=> "list_iterator"
theorem ItK.obj{tp:Bool}{h:Heap}{i l:Addr}{k:Nat}(x:ItK tp h i l k):∃ o,h.get? i=some o/\o.cls=.type (itN tp)/\o.data=.fields #[.ref l,.int k 0]:=by
 cases tp<;>exact x
theorem ItK.of{tp:Bool}{h:Heap}{i l:Addr}{k:Nat}(x:∃ o,h.get? i=some o/\o.cls=.type (itN tp)/\o.data=.fields #[.ref l,.int k 0]):ItK tp h i l k:=by
 cases tp<;>exact x
theorem ItK.at{tp:Bool}{h h':Heap}{i l:Addr}{k:Nat}(x:ItK tp h i l k)(e:∀ o,h.get? i=some o->h'.get? i=some o):ItK tp h' i l k:=by
 obtain⟨o,a,b,c⟩:=x.obj
 exact .of ⟨o,e o a,b,c⟩
theorem SqK.at{tp:Bool}{h h':Heap}{l:Addr}{xs:Array Value}(x:SqK tp h l xs)(e:∀ o,h.get? l=some o->h'.get? l=some o):SqK tp h' l xs:=by
 cases tp
 ·obtain⟨o,a,b⟩:=id x;exact⟨o,e o a,b⟩
 ·obtain⟨o,a,b⟩:=id x;exact⟨o,e o a,b⟩
section
variable {prog:Program} {w:World} {A:Around} {E:Value->Shared->Prop} {s:Shared}
theorem Qh{tp:Bool}{it l:Addr}{i:Nat}{items:Array Value}{x:Value}{Q:Value->Shared->Prop}(hit:ItK tp s.heap it l i)(hl:SqK tp s.heap l items)(hx:items[i]?=some x)
  (hQ:∀ h',ItK tp h' it l (i+1)->Heap.SameBut it s.heap h'->Q x { s with heap:=h' }):wpAny (model prog w) A (Builtin.SmallTypes.nextOf (.ref it)) Q E s:=by
 cases tp with
 |false=>exact wpAny_nextOf_list_item hit hl hx hQ
 |true=>
  have hit:s.heap.IsTupleIter it l i:=hit
  obtain⟨o,ho,hc,hd⟩:=id hit
  obtain⟨ol,hol,_,nl,hdl⟩:=id hl
  unfold Builtin.SmallTypes.nextOf
  refine wpAny_bind (wpAny_callSpecial?_slot (name:=Str.ofString "__next__") hit.typeIs F.slot_tuple_iterator_next
   (wpAny_call_entry F.slot_tuple_iterator_next hit.typeIs F.entry_tuple_iterator_next ?_ (F.args_tuple_iterator_next_1 _)))
  show wpAny _ _ (field (.ref it) 0 >>= _) _ _ s
  refine wpAny_bind (wpAny_field ho hd (x:=.ref l) rfl ?_)
  show wpAny _ _ (if (Value.ref l==Value.none)=true then _ else _) _ _ s
  rw[if_neg (show ¬ ((Value.ref l==Value.none)=true) from uv)]
  show wpAny _ _ (field (.ref it) 1 >>= _) _ _ s
  refine wpAny_bind (wpAny_field ho hd (x:=.int i 0) rfl ?_)
  show wpAny _ _ (seqItems? (.ref l) >>= _) _ _ s
  refine wpAny_bind (wpAny_seqItems hol hdl ?_)
  simp only[Int.toNat_natCast,hx]
  refine wpAny_bind (wpAny_setField ho hd (by simp) (wpAny_pure ⟨x,rfl,wpAny_pure (hQ _ ?_ (Heap.SameBut.update ..))⟩))
  exact⟨_,Heap.get?_update_self _ ho (Obj.isFreed_of_fields (Obj.data_mapFields hd _)),(Obj.cls_mapFields ..).trans hc,by
   rw[Obj.data_mapFields hd];simp[rawInt]⟩
theorem vp{tp:Bool}{it l:Addr}{i:Nat}{items:Array Value}{Q:Value->Shared->Prop}(hh:A.handled=none)(hit:ItK tp s.heap it l i)(hl:SqK tp s.heap l items)(hx:items[i]?=none)
  (hE:∀ h' e,Heap.ExtBut it s.heap h'->(∃ o,h'.get? e=some o/\o.cls=.type "StopIteration")->E (.ref e) { s with heap:=h' }):wpAny (model prog w) A (Builtin.SmallTypes.nextOf (.ref it)) Q E s:=by
 cases tp with
 |false=>exact wpAny_nextOf_list_end hh hit hl hx hE
 |true=>
  have hit:s.heap.IsTupleIter it l i:=hit
  obtain⟨o,ho,hc,hd⟩:=id hit
  obtain⟨ol,hol,_,nl,hdl⟩:=id hl
  unfold Builtin.SmallTypes.nextOf
  refine wpAny_bind (wpAny_callSpecial?_slot (name:=Str.ofString "__next__") hit.typeIs F.slot_tuple_iterator_next
   (wpAny_call_entry F.slot_tuple_iterator_next hit.typeIs F.entry_tuple_iterator_next ?_ (F.args_tuple_iterator_next_1 _)))
  show wpAny _ _ (field (.ref it) 0 >>= _) _ _ s
  refine wpAny_bind (wpAny_field ho hd (x:=.ref l) rfl ?_)
  show wpAny _ _ (if (Value.ref l==Value.none)=true then _ else _) _ _ s
  rw[if_neg (show ¬ ((Value.ref l==Value.none)=true) from uv)]
  show wpAny _ _ (field (.ref it) 1 >>= _) _ _ s
  refine wpAny_bind (wpAny_field ho hd (x:=.int i 0) rfl ?_)
  show wpAny _ _ (seqItems? (.ref l) >>= _) _ _ s
  refine wpAny_bind (wpAny_seqItems hol hdl ?_)
  simp only[Int.toNat_natCast,hx]
  refine wpAny_bind (wpAny_rule (wpAny_bind (wpAny_setField ho hd (by simp) ?_)))
  show wpAny _ _ (newExc (.type "StopIteration") [] >>= _) _ _ _
  refine wpAny_bind ?_
  simp only[newExc,newTuple]
  refine wpAny_bind (wpAny_newObj_type ?_ (by size_fits))
  refine wpAny_bind (m:=firstArgMember _ _) (wpAny_of_eq (a:=Value.none) (by first | rfl | (simp only[firstArgMember];rfl)) ?_)
  refine wpAny_newObj_type ?_ (by size_fits)
  simp only[raiseNew]
  refine wpAny_bind (wpAny_handled ?_)
  first | rw[show A.in1.handled=none from hh] | rw[hh]
  refine wpAny_bind (wpAny_pure (wpAny_throw ?_))
  exact hE _ _ (((Heap.SameBut.update ..).extBut.push _).push _) ⟨_,Heap.get?_push_size _ rfl,rfl⟩
structure ZAp(z TI TO i1 i2:Addr):Prop where
 TIz:TI≠z
 TOz:TO≠z
 i1z:i1≠z
 i2z:i2≠z
 TITO:TI≠TO
 TIi1:TI≠i1
 TIi2:TI≠i2
 TOi1:TO≠i1
 TOi2:TO≠i2
 i12:i1≠i2
theorem K1{tp:Bool}{z TI TO i1 i2 l1 l2:Addr}{k1 k2:Nat}{xs ys:Array Value}{x y a b:Value}{Q:Option Value->Shared->Prop}(D:ZAp z TI TO i1 i2)
  (n1:l1≠z/\l1≠TO/\l1≠i1/\l1≠i2) (n2:l2≠z/\l2≠TO/\l2≠i1/\l2≠i2)
  (hz:IsZip s.heap z TI TO .none) (hTI:IsPair s.heap TI (.ref i1) (.ref i2)) (hTO:IsPair s.heap TO a b)
  (h1:ItK tp s.heap i1 l1 k1) (h2:ItK tp s.heap i2 l2 k2) (hl1:SqK tp s.heap l1 xs) (hl2:SqK tp s.heap l2 ys) (hx:xs[k1]?=some x) (hy:ys[k2]?=some y)
  (hQ:∀ h',IsZip h' z TI TO (rawInt s.heap.objs.size)->IsPair h' TO x y->ItK tp h' i1 l1 (k1+1)->ItK tp h' i2 l2 (k2+1)->IsPair h' s.heap.objs.size x y->h'.objs.size=s.heap.objs.size+1 ->
   (∀ c o,c≠z->c≠TO->c≠i1->c≠i2->s.heap.get? c=some o->h'.get? c=some o)->Q (some (.ref s.heap.objs.size)) { s with heap:=h' }) :
  wpAny (model prog w) A (pyNext (.ref z)) Q E s:=by
 have hT:s.TypeIs (.ref z) "zip" :=⟨_,hz,rfl⟩
 unfold pyNext
 refine wpAny_bind (wpAny_attempt (wpAny_callSpecial?_slot (name:=Str.ofString "__next__") hT F.slot_zip_next (wpAny_call_entry F.slot_zip_next hT F.entry_zip_next ?_ (F.args_zip_next_1 _))))
 show wpAny _ _ (field (.ref z) 2 >>= _) _ _ _
 refine wpAny_bind (wpAny_field hz rfl (x:=.bool false) rfl ?_)
 show wpAny _ _ (field (.ref z) 3 >>= _) _ _ _
 refine wpAny_bind (wpAny_field hz rfl (x:=.ref TI) rfl ?_)
 refine wpAny_bind (wpAny_seqItems hTI rfl ?_)
 show wpAny _ _ (Builtin.SmallTypes.ownedTupleIsFree (.ref z) >>= _) _ _ _
 refine wpAny_bind ?_
 unfold Builtin.SmallTypes.ownedTupleIsFree
 refine wpAny_bind (wpAny_field hz rfl (x:=.none) rfl (wpAny_pure ?_))
 simp only[if_true]
 refine wpAny_bind (wpAny_rule ?_)
 refine wpAny_bind (wpAny_field hz rfl (x:=.ref TO) rfl ?_)
 refine wpAny_bind (wpAny_setField_rec hz (by simp) fun h₁ hz₁ hs₁=>?_)
 replace hz₁:IsZip h₁ z TI TO .ellipsis:=hz₁
 refine wpAny_bind ?_
 simp only[List.zipIdx_cons,List.zipIdx_nil,List.forIn_cons,List.forIn_nil]
 refine wpAny_bind (wpAny_bind (wpAny_onRaise ?_))
 show wpAny _ _ (Builtin.SmallTypes.nextOf (.ref i1) >>= _) _ _ _
 refine wpAny_bind (Qh (h1.at fun o e=>hs₁.extBut _ _ D.i1z e) (hl1.at fun o e=>hs₁.extBut _ _ n1.1 e) hx fun h₂ h1₂ hs₂=>wpAny_pure ?_)
 have hTO₂:IsPair h₂ TO a b:=hs₂.extBut _ _ D.TOi1 (hs₁.extBut _ _ D.TOz hTO)
 refine wpAny_bind (wpAny_seqItems hTO₂ rfl ?_)
 refine wpAny_bind (wpAny_updateSeq_pair hTO₂ fun h₃ hTO₃ hs₃=>?_)
 replace hTO₃:IsPair h₃ TO x b:=hTO₃
 refine wpAny_bind (wpAny_letGo (wpAny_pure ?_))
 refine wpAny_bind (wpAny_bind (wpAny_onRaise ?_))
 show wpAny _ _ (Builtin.SmallTypes.nextOf (.ref i2) >>= _) _ _ _
 refine wpAny_bind (Qh (h2.at fun o e=>hs₃.extBut _ _ D.TOi2.symm (hs₂.extBut _ _ D.i12.symm (hs₁.extBut _ _ D.i2z e))) (hl2.at fun o e=>hs₃.extBut _ _ n2.2.1 (hs₂.extBut _ _ n2.2.2.1 (hs₁.extBut _ _ n2.1 e))) hy fun h₄ h2₄ hs₄=>wpAny_pure ?_)
 have hTO₄:IsPair h₄ TO x b:=hs₄.extBut _ _ D.TOi2 hTO₃
 refine wpAny_bind (wpAny_seqItems hTO₄ rfl ?_)
 refine wpAny_bind (wpAny_updateSeq_pair hTO₄ fun h₅ hTO₅ hs₅=>?_)
 replace hTO₅:IsPair h₅ TO x y:=hTO₅
 refine wpAny_bind (wpAny_letGo (wpAny_pure (wpAny_pure ?_)))
 refine wpAny_bind (wpAny_seqItems hTO₅ rfl ?_)
 refine wpAny_bind (wpAny_newTuple ?_)
 have hsz:h₅.objs.size=s.heap.objs.size:=by rw[hs₅.1,hs₄.1,hs₃.1,hs₂.1,hs₁.1]
 have hz₅:IsZip h₅ z TI TO .ellipsis:=hs₅.extBut _ _ D.TOz.symm (hs₄.extBut _ _ D.i2z.symm (hs₃.extBut _ _ D.TOz.symm (hs₂.extBut _ _ D.i1z.symm hz₁)))
 have hk₅:∀ c o,c≠z->c≠TO->c≠i1->c≠i2->s.heap.get? c=some o->h₅.get? c=some o:=fun c o c1 c2 c3 c4 e=>
  hs₅.extBut _ _ c2 (hs₄.extBut _ _ c4 (hs₃.extBut _ _ c2 (hs₂.extBut _ _ c3 (hs₁.extBut _ _ c1 e))))
 have h1₅:ItK tp h₅ i1 l1 (k1+1):=h1₂.at fun o e=>hs₅.extBut _ _ D.TOi1.symm (hs₄.extBut _ _ D.i12 (hs₃.extBut _ _ D.TOi1.symm e))
 have h2₅:ItK tp h₅ i2 l2 (k2+1):=h2₄.at fun o e=>hs₅.extBut _ _ D.TOi2.symm e
 have hzlt:z<h₅.objs.size:=Heap.lt_size hz₅
 show wpAny _ _ (Builtin.SmallTypes.ownedTupleHandOut (.ref z) (.ref h₅.objs.size) >>= _) _ _ _
 refine wpAny_bind ?_
 unfold Builtin.SmallTypes.ownedTupleHandOut
 have hz₆:IsZip (h₅.push { cls:=.type "tuple",data:=.seq #[x,y] }) z TI TO .ellipsis:=Heap.get?_push_of_some _ hz₅
 refine wpAny_bind (wpAny_setField_rec hz₆ (by simp) fun h₇ hz₇ hs₇=>?_)
 replace hz₇:IsZip h₇ z TI TO (rawInt h₅.objs.size):=hz₇
 refine wpAny_setField_rec hz₇ (by simp) fun h₈ hz₈ hs₈=>?_
 replace hz₈:IsZip h₈ z TI TO (rawInt h₅.objs.size):=hz₈
 have up:∀ c o,c≠z->h₅.get? c=some o->h₈.get? c=some o:=fun c o c1 e=>hs₈.extBut _ _ c1 (hs₇.extBut _ _ c1 (Heap.get?_push_of_some _ e))
 have hT₈:IsPair h₈ h₅.objs.size x y:=hs₈.extBut _ _ (ux hzlt) (hs₇.extBut _ _ (ux hzlt) (Heap.get?_push_size _ rfl))
 have hz8:h₈.objs.size=h₅.objs.size+1:=by rw[hs₈.1,hs₇.1,Heap.size_push]
 rw[hsz]at hz₈ hT₈ hz8
 refine wpAny_pure ⟨_,rfl,?_⟩
 refine wpAny_pure ?_
 show Q (some (.ref h₅.objs.size)) _
 rw[hsz]
 exact hQ h₈ hz₈ (up _ _ D.TOz hTO₅) (h1₅.at fun o e=>up _ o D.i1z e) (h2₅.at fun o e=>up _ o D.i2z e) hT₈ hz8 fun c o c1 c2 c3 c4 e=>up c o c1 (hk₅ c o c1 c2 c3 c4 e)
theorem zch{tp:Bool}{z TI TO i1 i2 l1 l2:Addr}{k1 k2:Nat}{xs ys:Array Value}{a b:Value}{Q:Option Value->Shared->Prop}(hh:A.handled=none)(D:ZAp z TI TO i1 i2)
  (n1:l1≠z/\l1≠TO/\l1≠i1/\l1≠i2) (n2:l2≠z/\l2≠TO/\l2≠i1/\l2≠i2)
  (hz:IsZip s.heap z TI TO .none) (hTI:IsPair s.heap TI (.ref i1) (.ref i2)) (hTO:IsPair s.heap TO a b)
  (h1:ItK tp s.heap i1 l1 k1) (h2:ItK tp s.heap i2 l2 k2) (hl1:SqK tp s.heap l1 xs) (hl2:SqK tp s.heap l2 ys) (hend:xs[k1]?=none∨ys[k2]?=none)
  (hQ:∀ h',(∀ c o,c≠z->c≠TO->c≠i1->c≠i2->s.heap.get? c=some o->h'.get? c=some o)->Q none { s with heap:=h' }):wpAny (model prog w) A (pyNext (.ref z)) Q E s:=by
 have hT:s.TypeIs (.ref z) "zip" :=⟨_,hz,rfl⟩
 unfold pyNext
 have fin:∀ h' e,(∀ c o,c≠z->c≠TO->c≠i1->c≠i2->s.heap.get? c=some o->h'.get? c=some o)->(∃ o,h'.get? e=some o/\o.cls=.type "StopIteration") ->
   wpAny (model prog w) A (do if<-isInstance (.ref e) (.type "StopIteration") then pure none else throw (.ref e):Sem (Option Value)) Q E { s with heap:=h' }:=fun h' e hk ⟨o,ho,hc⟩=>by
  refine wpAny_bind (wpAny_isInstance (T:= "StopIteration") (b:=true) ⟨o,ho,hc⟩ isSubtype_stop ?_)
  exact wpAny_pure (hQ _ hk)
 refine wpAny_bind (wpAny_attempt (wpAny_callSpecial?_slot (name:=Str.ofString "__next__") hT F.slot_zip_next (wpAny_call_entry F.slot_zip_next hT F.entry_zip_next ?_ (F.args_zip_next_1 _))))
 show wpAny _ _ (field (.ref z) 2 >>= _) _ _ _
 refine wpAny_bind (wpAny_field hz rfl (x:=.bool false) rfl ?_)
 show wpAny _ _ (field (.ref z) 3 >>= _) _ _ _
 refine wpAny_bind (wpAny_field hz rfl (x:=.ref TI) rfl ?_)
 refine wpAny_bind (wpAny_seqItems hTI rfl ?_)
 show wpAny _ _ (Builtin.SmallTypes.ownedTupleIsFree (.ref z) >>= _) _ _ _
 refine wpAny_bind ?_
 unfold Builtin.SmallTypes.ownedTupleIsFree
 refine wpAny_bind (wpAny_field hz rfl (x:=.none) rfl (wpAny_pure ?_))
 simp only[if_true]
 refine wpAny_bind (wpAny_rule ?_)
 refine wpAny_bind (wpAny_field hz rfl (x:=.ref TO) rfl ?_)
 refine wpAny_bind (wpAny_setField_rec hz (by simp) fun h₁ hz₁ hs₁=>?_)
 replace hz₁:IsZip h₁ z TI TO .ellipsis:=hz₁
 refine wpAny_bind ?_
 simp only[List.zipIdx_cons,List.zipIdx_nil,List.forIn_cons,List.forIn_nil]
 refine wpAny_bind (wpAny_bind (wpAny_onRaise ?_))
 show wpAny _ _ (Builtin.SmallTypes.nextOf (.ref i1) >>= _) _ _ _
 cases hx:xs[k1]? with
 |none=>
  refine wpAny_bind (vp hh (h1.at fun o e=>hs₁.extBut _ _ D.i1z e) (hl1.at fun o e=>hs₁.extBut _ _ n1.1 e) hx fun h₂ e hs₂ he=>?_)
  obtain⟨oe,hoe,hce⟩:=he
  have hz₂:IsZip h₂ z TI TO .ellipsis:=hs₂ _ _ D.i1z.symm hz₁
  have hez:e≠z:=fun x=>by subst x;rw[hz₂]at hoe;cases hoe;simp at hce
  refine wpAny_setField_rec hz₂ (by simp) fun h₃ _ hs₃=>fin h₃ e (fun c o c1 _ c3 _ x=>hs₃.extBut _ _ c1 (hs₂ _ _ c3 (hs₁.extBut _ _ c1 x))) ⟨oe,hs₃.extBut _ _ hez hoe,hce⟩
 |some x=>
  have hy:ys[k2]?=none:=by rcases hend with h | h;rw[hx]at h;cases h;exact h
  refine wpAny_bind (Qh (h1.at fun o e=>hs₁.extBut _ _ D.i1z e) (hl1.at fun o e=>hs₁.extBut _ _ n1.1 e) hx fun h₂ h1₂ hs₂=>wpAny_pure ?_)
  have hTO₂:IsPair h₂ TO a b:=hs₂.extBut _ _ D.TOi1 (hs₁.extBut _ _ D.TOz hTO)
  refine wpAny_bind (wpAny_seqItems hTO₂ rfl ?_)
  refine wpAny_bind (wpAny_updateSeq_pair hTO₂ fun h₃ hTO₃ hs₃=>?_)
  refine wpAny_bind (wpAny_letGo (wpAny_pure ?_))
  refine wpAny_bind (wpAny_bind (wpAny_onRaise ?_))
  show wpAny _ _ (Builtin.SmallTypes.nextOf (.ref i2) >>= _) _ _ _
  refine wpAny_bind (vp hh (h2.at fun o e=>hs₃.extBut _ _ D.TOi2.symm (hs₂.extBut _ _ D.i12.symm (hs₁.extBut _ _ D.i2z e))) (hl2.at fun o e=>hs₃.extBut _ _ n2.2.1 (hs₂.extBut _ _ n2.2.2.1 (hs₁.extBut _ _ n2.1 e))) hy fun h₄ e hs₄ he=>?_)
  obtain⟨oe,hoe,hce⟩:=he
  have hz₄:IsZip h₄ z TI TO .ellipsis:=hs₄ _ _ D.i2z.symm (hs₃.extBut _ _ D.TOz.symm (hs₂.extBut _ _ D.i1z.symm hz₁))
  have hez:e≠z:=fun x=>by subst x;rw[hz₄]at hoe;cases hoe;simp at hce
  refine wpAny_setField_rec hz₄ (by simp) fun h₅ _ hs₅=>fin h₅ e (fun c o c1 c2 c3 c4 x=>hs₅.extBut _ _ c1 (hs₄ _ _ c4 (hs₃.extBut _ _ c2 (hs₂.extBut _ _ c3 (hs₁.extBut _ _ c1 x))))) ⟨oe,hs₅.extBut _ _ hez hoe,hce⟩
noncomputable abbrev Wq(tp:Bool)(h:Heap)(l:Addr):Heap:=h.push { cls:=.type (itN tp),data:=.fields #[.ref l,.int 0 0] }
noncomputable abbrev zeg (tp:Bool) (h:Heap) (l1 l2:Addr):Heap:=(Wq tp (Wq tp h l1) l2).push { cls:=.type "tuple",data:=.seq #[.ref h.objs.size,.ref (Wq tp h l1).objs.size] }
noncomputable abbrev zci (tp:Bool) (h:Heap) (l1 l2:Addr):Heap:=(zeg tp h l1 l2).push { cls:=.type "tuple",data:=.seq #[.none,.none] }
noncomputable abbrev yK (tp:Bool) (h:Heap) (l1 l2:Addr):Heap:=(zci tp h l1 l2).push { cls:=.type "zip",data:=.fields #[.none,.bool false,.bool false,.ref (Wq tp (Wq tp h l1) l2).objs.size,.ref (zeg tp h l1 l2).objs.size] }
theorem Yd(l1 l2:Addr)(xs ys:Array Value) :
  Meets (Builtin.«zip.__new__» ⟨[.type "zip",.ref l1,.ref l2],[]⟩) (fun _ R s=>s.heap.IsTuple l1 xs/\s.heap.IsTuple l2 ys /\
   R (.ok (.ret (.ref (zci true s.heap l1 l2).objs.size))) { s with heap:=yK true s.heap l1 l2 }) :=
 .of_wp fun prog w A R s h=>by
  obtain⟨hp,g,d,tk,os⟩:=s;obtain⟨hl1,hl2,h⟩:=h
  have hsub:=PySem.sub_zip
  have hL1:Heap.IsTuple (Shared.heap ⟨hp,g,d,tk,os⟩) l1 xs:=hl1
  have hL2:Heap.IsTuple (Shared.heap ⟨hp.push { cls:=.type "tuple_iterator",data:=.fields #[.ref l1,.int 0 0] },g,d,tk,os⟩) l2 ys:=Heap.IsTuple.push hl2 _
  wp_walk using wpAny_pyIter_tuple hL1,wpAny_pyIter_tuple hL2
  exact⟨_,rfl,h⟩
theorem Yc:∀ (tp:Bool) (l1 l2:Addr) (xs ys:Array Value),
  Meets (Builtin.«zip.__new__» ⟨[.type "zip",.ref l1,.ref l2],[]⟩) (fun _ R s=>SqK tp s.heap l1 xs/\SqK tp s.heap l2 ys /\
   R (.ok (.ret (.ref (zci tp s.heap l1 l2).objs.size))) { s with heap:=yK tp s.heap l1 l2 })
 |true,l1,l2,xs,ys=>Yd l1 l2 xs ys
 |false,l1,l2,xs,ys=>meets_zip_new l1 l2 xs ys
theorem kY{tp:Bool}{l1 l2:Addr}{xs ys:Array Value}{Q:Value->Shared->Prop}(hl1:SqK tp s.heap l1 xs)(hl2:SqK tp s.heap l2 ys)
  (h:∀ h',IsZip h' (s.heap.objs.size+4) (s.heap.objs.size+2) (s.heap.objs.size+3) .none->IsPair h' (s.heap.objs.size+2) (.ref s.heap.objs.size) (.ref (s.heap.objs.size+1)) ->
   IsPair h' (s.heap.objs.size+3) .none .none->ItK tp h' s.heap.objs.size l1 0->ItK tp h' (s.heap.objs.size+1) l2 0->h'.objs.size=s.heap.objs.size+5 ->
   (∀ c o,s.heap.get? c=some o->h'.get? c=some o)->Q (.ref (s.heap.objs.size+4)) { s with heap:=h' }) :
  wpAny (model prog w) A (call (.type "zip") [.ref l1,.ref l2]) Q E s:=by
 refine callType_new F.called_zip (by decide) (F.typeCall_zip_2 _ _) (F.newCall_zip_2 _ _) (fun obj=>F.args_object_init_3 obj _ _) F.entry_zip_new
  (Yc tp l1 l2 xs ys) ⟨hl1,hl2,?_⟩
 have z1:(Wq tp s.heap l1).objs.size=s.heap.objs.size+1:=Heap.size_push ..
 have z2:(Wq tp (Wq tp s.heap l1) l2).objs.size=s.heap.objs.size+2:=by rw[Heap.size_push,z1]
 have z3:(zeg tp s.heap l1 l2).objs.size=s.heap.objs.size+3:=by rw[Heap.size_push,z2]
 have z4:(zci tp s.heap l1 l2).objs.size=s.heap.objs.size+4:=by rw[Heap.size_push,z3]
 have z5:(yK tp s.heap l1 l2).objs.size=s.heap.objs.size+5:=by rw[Heap.size_push,z4]
 have g5:(yK tp s.heap l1 l2).get? (zci tp s.heap l1 l2).objs.size=some _:=Heap.get?_push_size _ rfl
 have g4:(yK tp s.heap l1 l2).get? (zeg tp s.heap l1 l2).objs.size=some _:=Heap.get?_push_of_some _ (Heap.get?_push_size _ rfl)
 have g3:(yK tp s.heap l1 l2).get? (Wq tp (Wq tp s.heap l1) l2).objs.size=some _:=Heap.get?_push_of_some _ (Heap.get?_push_of_some _ (Heap.get?_push_size _ rfl))
 have g2:(yK tp s.heap l1 l2).get? (Wq tp s.heap l1).objs.size=some _:=Heap.get?_push_of_some _ (Heap.get?_push_of_some _ (Heap.get?_push_of_some _ (Heap.get?_push_size _ rfl)))
 have g1:(yK tp s.heap l1 l2).get? s.heap.objs.size=some _:=Heap.get?_push_of_some _ (Heap.get?_push_of_some _ (Heap.get?_push_of_some _ (Heap.get?_push_of_some _ (Heap.get?_push_size _ rfl))))
 show _/\_
 rw[z2,z3,z4]at g5
 rw[z1,z2]at g3
 rw[z3]at g4
 rw[z1]at g2
 rw[z4]
 exact⟨⟨_,g5,rfl⟩,h _ g5 g3 g4 (.of ⟨_,g1,rfl,rfl⟩) (.of ⟨_,g2,rfl,rfl⟩) z5 fun c o x=>
  Heap.get?_push_of_some _ (Heap.get?_push_of_some _ (Heap.get?_push_of_some _ (Heap.get?_push_of_some _ (Heap.get?_push_of_some _ x))))⟩
end
theorem Inv.turnedM{X:Cx}{pins:List (Addr×Obj)}{σ:List (Option V)}{H:Hp}{s:Shared}{h':Heap}{t':Nat}{ch:List Addr}(I:Inv X pins σ H s)(k:∀ b o,b∉ch->s.heap.get? b=some o->h'.get? b=some o)(hf:∀ b∈ch,Qn X pins H b):Inv X pins σ H { s with heap:=h',toks:=t' }:=by
 have nit:∀ b u,H b=some u->b∉ch:=fun b u e z=>by rw[(hf b z).1]at e;cases e
 refine I.step (g':=s.gens) (d':=s.drawn) (ch:=ch) (fun b hb=>?_) (fun b o _ _ hc e _=>k b o hc e) (fun b o _ _ hc e _=>⟨o.slots,k b o hc e⟩) (fun _ _ _ _ n=>n)
  (fun b o hc e=>⟨o,k b o hc e⟩) (fun _ _ e=>e) (fun _ _ _ e=>e) (fun b ps e=>⟨#[],by rw[e];simp⟩) (fun m hm=>?_) (fun b u e=>?_) I.bare
 ·obtain⟨f0,f1,f2,f3,f4,f5⟩:=hf b hb
  exact⟨f3,f1,f4,f5⟩
 ·obtain⟨o,es,ep,ho,r⟩:=hm
  exact⟨o,es,ep,k _ o (fun z=>(hf _ z).2.1 rfl) ho,r⟩
 ·refine (I.hok b u e).stay (fun c v hc q=>k c v ?_ q) (fun _ q=>q) fun _ _ q=>q
  rcases hc with z | z
  ·rw[z];exact nit b u e
  ·exact nit c _ z
noncomputable def SqV(tp:Bool)(H:Hp)(a:Addr)(xs:List V):Prop:=match tp with
 |true=>H a=some (.tup xs)
 |false=>H a=some (.lst xs)
theorem Inv.sqv{X:Cx}{pins:List (Addr×Obj)}{σ:List (Option V)}{H:Hp}{s:Shared}{tp:Bool}{a:Addr}{xs:List V}(I:Inv X pins σ H s)(h:SqV tp H a xs):∃ its,Vals xs its/\SqK tp s.heap a its.toArray:=by
 cases tp with
 |false=>
  obtain⟨its,r,p,_⟩:=I.list (SqL.of h)
  exact⟨its,r,p.isList⟩
 |true=>
  obtain⟨its,r,p,_⟩:=I.tuple (SqT.of h)
  exact⟨its,r,p⟩
theorem SqV.inj{H:Hp}{tp:Bool}{a:Addr}{xs ys:List V}(h:SqV tp H a xs)(h':SqV tp H a ys):xs=ys:=by
 cases tp with
 |false=>have:=Eq.trans (Eq.symm h) h';cases this;rfl
 |true=>have:=Eq.trans (Eq.symm h) h';cases this;rfl
theorem SqV.ne{H:Hp}{tp:Bool}{a c:Addr}{xs:List V}(h:SqV tp H a xs)(e:H c=none):a≠c:=fun z=>by
 subst z
 cases tp with
 |false=>have h:H a=some (.lst xs):=h;rw[e]at h;cases h
 |true=>have h:H a=some (.tup xs):=h;rw[e]at h;cases h
noncomputable def Itz(tp:Bool)(a b:Addr):It :=
  ⟨fun i H=>(∃ xs x,SqV tp H a xs/\xs[i]?=some x)/\∃ ys y,SqV tp H b ys/\ys[i]?=some y,
   fun i H v H'=>∃ p x y,H p=none/\H'=upd H p (.tup [x,y])/\v=.ref p/\(∀ xs,SqV tp H a xs->xs[i]?=some x)/\∀ ys,SqV tp H b ys->ys[i]?=some y,
   fun i H=>∃ xs ys,SqV tp H a xs/\SqV tp H b ys/\(xs.length<=i∨ys.length<=i)⟩
theorem zbU{P:Program}{w:World}{K:PySem.W.Frag}{elts:List Expr}{x1:Nat}{pos:Pos}(tp:Bool)(a b z TI TO i1 i2:Addr)(D:ZAp z TI TO i1 i2):vO P w K (.Tuple elts x1 pos) (Itz tp a b) [z,TI,TO,i1,i2] z
  (fun i h=>IsZip h z TI TO .none/\IsPair h TI (.ref i1) (.ref i2)/\(∃ u v,IsPair h TO u v)/\ItK tp h i1 a i/\ItK tp h i2 b i) where
 mem:=by simp
 obj:=fun i h st c hc=>by
  obtain⟨h1,h2,⟨u,v,h3⟩,h4,h5⟩:=st
  simp only[xu,ug,or_false]at hc
  rcases hc with rfl | rfl | rfl | rfl | rfl
  ·exact⟨_,h1,fun v z=>by cases z⟩
  ·exact⟨_,h2,fun v z=>by cases z⟩
  ·exact⟨_,h3,fun v z=>by cases z⟩
  ·obtain⟨o,e,c,d⟩:=h4.obj
   exact⟨o,e,fun v z=>by rw[d]at z;cases z⟩
  ·obtain⟨o,e,c,d⟩:=h5.obj
   exact⟨o,e,fun v z=>by rw[d]at z;cases z⟩
 keep:=fun i h h' st k=>by
  obtain⟨h1,h2,⟨u,v,h3⟩,h4,h5⟩:=st
  exact⟨k z (by simp) _ h1,k TI (by simp) _ h2,⟨u,v,k TO (by simp) _ h3⟩,h4.at fun o e=>k i1 (by simp) o e,h5.at fun o e=>k i2 (by simp) o e⟩
 item:=by
  intro X hP hw hK hc i pins s σ H E I hf st hg
  subst hP hw hK
  obtain⟨h1,h2,⟨u,v,h3⟩,h4,h5⟩:=st
  obtain⟨⟨xs,x,hq1,hx⟩,ys,y,hq2,hy⟩:=hg
  obtain⟨its1,rv1,p1⟩:=I.sqv hq1
  obtain⟨its2,rv2,p2⟩:=I.sqv hq2
  obtain⟨u1,hu1,ru1⟩:=rv1.get hx
  obtain⟨u2,hu2,ru2⟩:=rv2.get hy
  have e0:=(hf z (by simp)).1
  have e2:=(hf TO (by simp)).1
  have e3:=(hf i1 (by simp)).1
  have e4:=(hf i2 (by simp)).1
  have hzlt:z<s.heap.objs.size:=Heap.lt_size h1
  refine K1 D ⟨hq1.ne e0,hq1.ne e2,hq1.ne e3,hq1.ne e4⟩ ⟨hq2.ne e0,hq2.ne e2,hq2.ne e3,hq2.ne e4⟩ h1 h2 h3 h4 h5 p1 p2 (x:=u1) (y:=u2) (by simpa using hu1) (by simpa using hu2) fun h' g1 g2 g3 g4 g5 g6 g7=>?_
  refine⟨.ref s.heap.objs.size,rfl,wpAny_letOwnedTupleGo_zip g1 fun h2' hz2 hs2=>?_⟩
  have keep2:∀ c o,c≠z->c≠TO->c≠i1->c≠i2->s.heap.get? c=some o->h2'.get? c=some o:=fun c o c1 c2 c3 c4 q=>hs2.extBut _ _ c1 (g7 c o c1 c2 c3 c4 q)
  have I1:Inv X pins σ H { s with heap:=h2',toks:=s.toks }:=I.turnedM (ch:= [z,TI,TO,i1,i2]) (fun c o hb q=>by
   simp only[xu,ug,or_false,not_or]at hb
   exact keep2 c o hb.1 hb.2.2.1 hb.2.2.2.1 hb.2.2.2.2 q) hf
  have hTn:H s.heap.objs.size=none:=I.hok.fresh (xi _)
  have hT2:h2'.get? s.heap.objs.size=some { cls:=.type "tuple",data:=.seq #[u1,u2] }:=hs2.extBut _ _ (ux hzlt) g5
  have I2:Inv X pins σ (upd H s.heap.objs.size (.tup [x,y])) { s with heap:=h2',toks:=s.toks }:=I1.track I.sz hTn (Ne.symm (xl I.lt)) (fun y c q=>by
    obtain⟨v,ob,hob,_⟩:=I.cell y c q
    exact xl (Heap.lt_size hob)) (fun q hq'=>xl (Heap.lt_size (I.pin q hq').1))
   ⟨by show 2<=sizeLine;decide,[u1,u2],.cons ru1 (.cons ru2 .nil),⟨_,hT2,rfl,_,rfl⟩⟩
  refine⟨.ref s.heap.objs.size,_,I2,rfl,⟨_,x,y,hTn,rfl,rfl,fun ys hy'=>by rw[hy'.inj hq1];exact hx,fun ys hy'=>by rw[hy'.inj hq2];exact hy⟩,
   ⟨hz2,keep2 _ _ D.TIz D.TITO D.TIi1 D.TIi2 h2,⟨_,_,hs2.extBut _ _ D.TOz g2⟩,g3.at fun o e=>hs2.extBut _ _ D.i1z e,g4.at fun o e=>hs2.extBut _ _ D.i2z e⟩,fun c hc'=>?_⟩
  have hlt:c<s.heap.objs.size:=by
   simp only[xu,ug,or_false]at hc'
   rcases hc' with rfl | rfl | rfl | rfl | rfl
   ·exact hzlt
   ·exact Heap.lt_size h2
   ·exact Heap.lt_size h3
   ·obtain⟨_,e,_⟩:=h4.obj;exact Heap.lt_size e
   ·obtain⟨_,e,_⟩:=h5.obj;exact Heap.lt_size e
  rw[zd (xl hlt)]
  exact (hf c hc').1
 done:=by
  intro X hP hw hK hc i pins s σ H E I hf st hg
  subst hP hw hK
  obtain⟨h1,h2,⟨u,v,h3⟩,h4,h5⟩:=st
  obtain⟨xs,ys,hq1,hq2,hl⟩:=hg
  obtain⟨its1,rv1,p1⟩:=I.sqv hq1
  obtain⟨its2,rv2,p2⟩:=I.sqv hq2
  have e0:=(hf z (by simp)).1
  have e2:=(hf TO (by simp)).1
  have e3:=(hf i1 (by simp)).1
  have e4:=(hf i2 (by simp)).1
  have l1:=rv1.length
  have l2:=rv2.length
  refine zch (I.ok.hd hc) D ⟨hq1.ne e0,hq1.ne e2,hq1.ne e3,hq1.ne e4⟩ ⟨hq2.ne e0,hq2.ne e2,hq2.ne e3,hq2.ne e4⟩ h1 h2 h3 h4 h5 p1 p2 (by
   rcases hl with hl | hl
   ·exact .inl (by simp;omega)
   ·exact .inr (by simp;omega)) fun h' g7=>?_
  exact⟨rfl,I.turnedM (t':=s.toks) (ch:= [z,TI,TO,i1,i2]) (fun c o hb q=>by
   simp only[xu,ug,or_false,not_or]at hb
   exact g7 c o hb.1 hb.2.2.1 hb.2.2.2.1 hb.2.2.2.2 q) hf⟩
 self:=fun _ _ _ _ _ st h=>wpAny_pyIter_zip st.1 h
theorem boot_zip:bootBuiltins "zip" =some (.type "zip"):=by decide +kernel
section
variable {X:Cx}
noncomputable def iZip(tp:Bool)(ta:TE)(tb:TE):TI:=fun σ H R=>ta σ H fun x H1=>tb σ H1 fun y H2=>∃ a b xs ys,x=.ref a/\y=.ref b/\SqV tp H2 a xs/\SqV tp H2 b ys/\R (Itz tp a b) H2
theorem zfP {tp:Bool}{elts:List Expr}{x1:Nat}{pt:Pos}{l m:Expr}{p pos:Pos}(hg:Gl X "zip") (hm:X.mg "zip" =none) (h1:starEach [l,m] X.env=(false,eval l X.env)::starEach [m] X.env) (h2:starEach [m] X.env= [(false,eval m X.env)]) :
  PI X (.Tuple elts x1 pt) (.Call (.Name "zip" p) [l,m] [] pos) (iZip tp (wpE X l) (wpE X m)):=by
 intro pins s σ H R I h
 have h':zbP (wpE X l) (zbP (wpE X m) zhG) σ H (fun vs H1=>∃ v v2,vs= [v,v2]/\∃ a b xs ys,v=.ref a/\v2=.ref b/\SqV tp H1 a xs/\SqV tp H1 b ys/\R (Itz tp a b) H1):=wpE.mono h fun v H1 q=>wpE.mono q fun v2 H2 q2=>⟨v,v2,rfl,q2⟩
 refine Call_ (wP I hg hm boot_zip (PyProof.Rows.callWith_type1 (thn ((zq zc (zq zc pa_nil h2) h1) pos pins s σ H _ I h') fun us s1 ⟨vs,H1,I1,r1,q1⟩=>?_) h1 (by rw[h2];rfl)))
 obtain⟨v,v2,rfl,a,b,xs,ys,rfl,rfl,hq1,hq2,q⟩:=q1
 obtain⟨u,u2,rfl,ru,ru2⟩:=kG r1
 cases ru
 cases ru2
 obtain⟨its1,rv1,p1⟩:=I1.sqv hq1
 obtain⟨its2,rv2,p2⟩:=I1.sqv hq2
 refine kY p1 p2 fun h1 hz hTI hTO hi1 hi2 hsz hk=>?_
 refine wpAny_pyIter_zip hz ?_
 have I2:Inv X pins σ H1 { s1 with heap:=h1 }:=I1.kept (t':=s1.toks) hk
 have D:ZAp (s1.heap.objs.size+4) (s1.heap.objs.size+2) (s1.heap.objs.size+3) s1.heap.objs.size (s1.heap.objs.size+1):=by
  constructor<;>exact fun e=>absurd (show (_:Nat)=_ from e) (by omega)
 refine⟨s1.heap.objs.size+4,[s1.heap.objs.size+4,s1.heap.objs.size+2,s1.heap.objs.size+3,s1.heap.objs.size,s1.heap.objs.size+1],_,_,H1,rfl,I2,zbU tp a b _ _ _ _ _ D,⟨hz,hTI,⟨_,_,hTO⟩,hi1,hi2⟩,fun c hc=>?_,q⟩
 have hle:s1.heap.objs.size<=c:=by
  simp only[xu,ug,or_false]at hc
  rcases hc with e | e | e | e | e<;>(rw[e];first | exact xi _ | exact Nat.le_add_right _ _)
 exact I1.fpOk hle (I1.hok.fresh hle)
end
noncomputable def v5 (w:World) (l:List (Str×Nat×Addr)) (ep:Nat):Obj:={ cls:=.type "dict",data:=.dict (l.map fun p=>(⟨PySem.PyData.keyHash w.params p.1,.str p.1 p.2.1,.ref p.2.2⟩:DictEntry)).toArray ep }
inductive GRows(mg:Str->Option Value):List (Str×Nat×Addr)->List (Str×Str)->Prop
 |nil:GRows mg [] []
 |cons {k f:Str} {t:Nat} {a:Addr} {l kf}:mg f=some (.ref a)->GRows mg l kf->GRows mg ((k,t,a)::l) ((k,f)::kf)
structure GD(w:World)(K:PySem.W.Frag)(mg:Str->Option Value)(x:Str)(kf:List (Str×Str)):Prop where
 ex:∃ (D:Addr) (ep:Nat) (l:List (Str×Nat×Addr)),mg x=some (.ref D)/\(D==sysModules)=false/\K.lookup D=some (v5 w l ep)/\GRows mg l kf/\(kf.map (·.1)).Nodup
theorem GRows.keys{mg:Str->Option Value}{l:List (Str×Nat×Addr)}{kf:List (Str×Str)}(h:GRows mg l kf):l.map (·.1)=kf.map (·.1):=by
 induction h with
 |nil=>rfl
 |cons _ _ ih=>simp[ih]
theorem GRows.find{mg:Str->Option Value}{l:List (Str×Nat×Addr)}{kf:List (Str×Str)}(h:GRows mg l kf)(k:Str):match kf.lookup k with
  |some f=>∃ a,mg f=some (.ref a)/\valueAt (l.map fun p=>(p.1,Value.ref p.2.2)) k=some (.ref a)
  |none=>valueAt (l.map fun p=>(p.1,Value.ref p.2.2)) k=none:=by
 induction h with
 |nil=>rfl
 | @cons k' f t a l kf hm hr ih=>
  rw[xr]
  by_cases e:k=k'
  ·subst e
   simp only[beq_self_eq_true]
   exact⟨a,hm,by simp[valueAt]⟩
  ·have e1:(k==k')=false:=by simpa using e
   rw[e1]
   have e2:valueAt (((k',t,a)::l).map fun p=>(p.1,Value.ref p.2.2)) k=valueAt (l.map fun p=>(p.1,Value.ref p.2.2)) k:=by
    unfold valueAt
    rw[xm,List.find?_cons_of_neg (by simpa using Ne.symm e)]
   rw[e2];exact ih
theorem yb{P:Program}{w:World}:∀ (l:List (Str×Nat×Addr)),Pairs (PySem.strKind P w) (l.map fun p=>(⟨PySem.PyData.keyHash w.params p.1,.str p.1 p.2.1,.ref p.2.2⟩:DictEntry)) (l.map fun p=>(p.1,Value.ref p.2.2))
 |[]=>.nil
 |p::r=>.cons (by simp[PySem.strKind,Value.isStrOf]) rfl (yb r)
theorem YH{P:Program}{w:World}{h:Heap}{D:Addr}{ep:Nat}{l:List (Str×Nat×Addr)}(hd:h.get? D=some (v5 w l ep))(nd:(l.map (·.1)).Nodup):h.DictOf (PySem.strKind P w) D (l.map fun p=>(p.1,Value.ref p.2.2)):=by
 refine⟨_,_,ep,hd,⟨rfl,rfl,rfl⟩,rfl,?_,by simpa using yb l,?_⟩
 ·intro e he
  simp only[List.mem_toArray,xI]at he
  obtain⟨p,hp,rfl⟩:=he
  exact⟨p.1,by simp[PySem.strKind,Value.isStrOf],rfl⟩
 ·rw[xX];exact nd
section
variable {X:Cx}
theorem vt{x:Str}{kf:List (Str×Str)}{D:Addr}(g:GD X.w X.K X.mg x kf)(hD:X.mg x=some (.ref D)):OpR X (compareOp .NotIn) (fun v u H Q=>∃ a:Str,v=.str a/\u=.ref D/\Q (.bl (kf.lookup a).isNone) H):=by
 intro pins s σ H v u v' u' Q I rv ru h
 obtain⟨a,rfl,rfl,q⟩:=h
 obtain⟨t,rfl⟩:=rv
 cases ru
 obtain⟨D',ep,l,h1,h2,h3,h4,h5⟩:=g.ex
 rw[hD]at h1;cases h1
 have hd:=YH (P:=X.prog) (I.kIn D _ h3) (by rw[h4.keys];exact h5)
 refine wpAny_notIn_of (knd:=PySem.strKind X.prog X.w) (k:=a) (by simp[PySem.strKind,Value.isStrOf]) h2 hd.mapOf ?_
 have hf:=h4.find a
 have e:(!(valueAt (l.map fun p=>(p.1,Value.ref p.2.2)) a).isSome)=(kf.lookup a).isNone:=by
  cases q:kf.lookup a with
  |none=>rw[q]at hf;rw[hf];rfl
  |some f=>rw[q]at hf;obtain⟨b,_,e⟩:=hf;rw[e];rfl
 rw[e]
 exact⟨.bl _,H,I.tok _,rfl,q⟩
theorem zdV {x r:Str}{kf:List (Str×Str)}{i:Nat}{e:Expr}{p1 p2 q1 q2:Pos}(g:GD X.w X.K X.mg x kf) (hg:Gl X x) (hdb:(x==("__debug__" :Str))=false) (hs:∀ ov iv,subscripted e false ov iv=operate [ov,iv] (getItem ov iv)) (hN:X.N.Nodup) (hi:X.N[i]?=some r) (hx:Loc X.env.scope r)
  (hsw:swapsWith (.Subscript (.Name x p1) e q1) (some (.Name r p2)) q2.line X.env=pure false) (hf:X.fn r=true∨X.env.scope.names.lookup r=some .local) :
  PS X (.Assign [.Name r p2] (.Subscript (.Name x p1) e q1) q2) (fun D σ H=>wpE X e σ H fun v H1=>∃ (a f:Str) (b:Addr),v=.str a/\kf.lookup a=some f/\(X.mg f=some (.ref b)->D.nx (σ.set i (some (.ref b))) H1)/\X.mg f=some (.ref b)):=by
 have hpe:PE X (.Subscript (.Name x p1) e q1) (fun σ H Q=>wpE X e σ H fun v H1=>∃ (a f:Str) (b:Addr),v=.str a/\kf.lookup a=some f/\X.mg f=some (.ref b)/\Q (.ref b) H1):=by
  intro pins s σ H Q I h
  obtain⟨D,ep,l,h1,h2,h3,h4,h5⟩:=g.ex
  refine Subscript_ (j4 I hg h1 (thn (h pins s I) fun iv s2 ⟨y,H2,I2,ry,a,f,b,ey,ef,eb,q⟩=>?_) hdb)
  subst ey
  obtain⟨t,rfl⟩:=ry
  have hd:=YH (P:=X.prog) (I2.kIn D _ h3) (by rw[h4.keys];exact h5)
  have hfd:=h4.find a
  rw[ef]at hfd
  obtain⟨b',eb',ev⟩:=hfd
  rw[eb]at eb';cases eb'
  refine tail_any (ops:= [.ref D,.str a t]) hd.typeIs PySem.F.slot_dict_getitem.lookup ?_ (hs _ _)
  exact wpAny_getItem_of (knd:=PySem.strKind X.prog X.w) (k:=a) (by simp[PySem.strKind,Value.isStrOf]) hd.mapOf ev ⟨.ref b,H2,I2.tok _,rfl,q⟩
 intro pins s σ H D I h
 exact JQ hN hi hx hpe hsw hf pins s σ H D I (h.mono fun v H1 ⟨a,f,b,e1,e2,q,e3⟩=>⟨a,f,b,e1,e2,e3,q e3⟩)
end
noncomputable def vy(K:PySem.W.Frag):List (Str×Nat×Addr)->List (Str×Str)->Bool
 |[],[]=>true
 | (k,_,a)::l,(k',f)::kf=>decide (k=k')&&(match PySem.W.nsIn K mainGlobals f with
  |some (some (.ref b))=>decide (b=a)
  |_=>false)&&vy K l kf
 |_,_=>false
theorem GRows.of{K:PySem.W.Frag}{h:Heap}{mg:Str->Option Value}(X:K.In h)(G:h.Ns mainGlobals mg):∀ {l:List (Str×Nat×Addr)}{kf:List (Str×Str)},vy K l kf=true->GRows mg l kf
 |[],[],_=>.nil
 |[],_::_,h=>by simp[vy]at h
 |_::_,[],h=>by simp[vy]at h
 | (k,t,a)::l,(k',f)::kf,h=>by
  simp only[vy,xa,decide_eq_true_eq]at h
  obtain⟨⟨h1,h2⟩,h3⟩:=h
  subst h1
  split at h2
  ·rename_i b e
   have:b=a:=by simpa using h2
   subst this
   exact .cons (PySem.W.mg_of X G e) (GRows.of X G h3)
  ·cases h2
theorem GD.of{w:World}{K:PySem.W.Frag}{h:Heap}{mg:Str->Option Value}{x:Str}{kf:List (Str×Str)}{D:Addr}{ep:Nat}{l:List (Str×Nat×Addr)}(X:K.In h)(G:h.Ns mainGlobals mg)(hd:PySem.W.nsIn K mainGlobals x=some (some (.ref D)))(hs:(D==sysModules)=false)
  (ho:K.lookup D=some (v5 w l ep)) (hr:vy K l kf=true) (hn:(kf.map (·.1)).Nodup):GD w K mg x kf:=⟨⟨D,ep,l,PySem.W.mg_of X G hd,hs,ho,GRows.of X G hr,hn⟩⟩
end L2
namespace L3
open PySem PySem.Spec PyProof.Rows L2
variable [Cs]
section
variable {X:Cx} {XP:XPT} {mp io:List Nat} {a b c e:Expr} {es:List Expr} {pos p p2:Pos} {fa fb fc:EM FV}
noncomputable def vg(fa fb:EM FV):EM FV:=fun Γ=>(fa Γ).bind fun (u,Γ1)=>match derf Γ1 u with
 |some (.str x)=>(fb Γ1).bind fun (w,Γ2)=>match derf Γ2 w with
  |some (.str y)=>.ok (.dat (.bool (Txt.endswith x y)),Γ2)
  |_=>.bad
 |_=>.bad
theorem zdw {name:Str}(en:name= "endswith") (ha:SE X XP mp a fa) (hb:SE X XP mp b fb) (hbase:attributeBase a name X.env (eval a X.env)=eval a X.env) (hst:starEach [b] X.env= [(false,eval b X.env)]) (hline:(p2.endLine==pos.line)=true) :
  SE X XP mp (.Call (.Attribute a name p2) [b] [] pos) (vg fa fb):=fun M0 F Γ ν σ H Q rs hs hp=>by
 subst en
 refine (YY PySem.F.plainAttrs_str PySem.F.slot_str_endswith PySem.F.type_str_endswith zc0 zc (zq zc pa_nil hst) hbase (by rw[hst];rfl) hline hst rfl).wp (ha.run rs hs hp fun F1 Γ1 H1 u v rs1 s1 o1 h1=>?_)
 dsimp only at h1
 split at h1
 ·rename_i x ex
  have r1:=o1.weak rs1 ex
  cases r1
  refine⟨rfl,?_⟩
  refine hb.run rs1 hs h1 fun F2 Γ2 H2 w v2 rs2 s2 o2 h2=>?_
  dsimp only at h2
  split at h2
  ·rename_i y ey
   have r2:=o2.weak rs2 ey
   cases r2
   exact⟨_,_,rfl,rfl,h2 F2 H2 rs2 (.refl _ _) _ (Rep.bool _)⟩
  ·exact h2.elim
 ·exact h1.elim
noncomputable def qj(fa fb:EM FV):EM (List PyData):=fun Γ=>(fa Γ).bind fun (u,Γ1)=>match derf Γ1 u with
 |some (.str x)=>(fb Γ1).bind fun (w,Γ2)=>match derf Γ2 w with
  |some (.str y)=>if (y.length==0)=false/\x.length<=900000 then .ok ((Txt.split x y).map .str,Γ2) else .bad
  |_=>.bad
 |_=>.bad
theorem yg{M:Addr->Prop}{H:Hp}:∀ (xs:List Str),RepL M H (xs.map V.str) (xs.map PyData.str)
 |[]=>.nil
 |x::r=>.cons (.str x) (yg r)
theorem zbF {name:Str}(en:name= "split") (ha:SE X XP mp a fa) (hb:SE X XP mp b fb) (hbase:attributeBase a name X.env (eval a X.env)=eval a X.env) (hst:starEach [b] X.env= [(false,eval b X.env)]) (hline:(p2.endLine==pos.line)=true) :
  SN X XP mp (.Call (.Attribute a name p2) [b] [] pos) (qj fa fb):=fun M0 F Γ ν σ H Q rs hs hp=>by
 subst en
 refine (YY PySem.F.plainAttrs_str PySem.F.slot_str_split PySem.F.type_str_split zaN zc (zq zc pa_nil hst) hbase (by rw[hst];rfl) hline hst rfl).wp (ha.run rs hs hp fun F1 Γ1 H1 u v rs1 s1 o1 h1=>?_)
 dsimp only at h1
 split at h1
 ·rename_i x ex
  have r1:=o1.weak rs1 ex
  cases r1
  refine⟨rfl,?_⟩
  refine hb.run rs1 hs h1 fun F2 Γ2 H2 w v2 rs2 s2 o2 h2=>?_
  dsimp only at h2
  split at h2
  ·rename_i y ey
   split at h2
   ·rename_i hz
    have r2:=o2.weak rs2 ey
    cases r2
    exact⟨_,_,rfl,rfl,hz.1,by have:=sizeLine_eq;omega,fun p n=>h2 F2 H2 rs2 (.refl _ _) _ p (yg _) n⟩
   ·exact h2.elim
  ·exact h2.elim
 ·exact h1.elim
noncomputable def Qw:PyData->Option PyData
 |.str x=>if x.length<=640 then (PySem.intText? x).map .int else none
 |_=>none
theorem zcD:Qk X (.type "int") Qw:=fun x z e=>by
 unfold Qw at e
 split at e
 ·split at e
  ·rename_i x h
   cases q:PySem.intText? x with
   |none=>rw[q]at e;cases e
   |some n=>
    rw[q]at e
    cases e
    exact⟨rfl,_,vU,fun H v Q r k=>by cases r;exact⟨_,n,rfl,q,h,k _ (.int _)⟩⟩
  ·cases e
 ·cases e
noncomputable def Z1(fa:EM FV)(fl fh:EM (Option Int)):EM FV:=fun Γ=>(fa Γ).bind fun (u,Γ1)=>(fl Γ1).bind fun (lo,Γ2)=>(fh Γ2).bind fun (hi,Γ3)=>match derf Γ3 u with
 |some (.str x)=>if x.length<=1000000 then .ok (.dat (.str (Txt.slice x lo hi)),Γ3) else .bad
 |_=>.bad
theorem zdv{lo hi:Option Expr}{fl fh:EM (Option Int)}(ha:SE X XP mp a fa)(hl:SOp X XP mp lo fl)(hh:SOp X XP mp hi fh):SE X XP mp (.Subscript a (.Slice lo hi none p2) pos) (Z1 fa fl fh):=fun M0 F Γ ν σ H Q rs hs hp=>by
 obtain⟨tl,pl,kl⟩:=hl
 obtain⟨th,ph,kh⟩:=hh
 refine (QH zgk zc pl ph).wp (ha.run rs hs hp fun F1 Γ1 H1 u v rs1 s1 o1 h1=>?_)
 refine kl M0 F1 Γ1 ν σ H1 _ rs1 hs (h1.seq.mono fun F2 Γ2 H2 lo rs2 s2 h2=>?_)
 refine kh M0 F2 Γ2 ν σ H2 _ rs2 hs (h2.seq.mono fun F3 Γ3 H3 hi rs3 s3 h3=>?_)
 dsimp only at h3
 split at h3
 ·rename_i x e
  split at h3
  ·rename_i hz
   have r3:=((o1.stp s2 rs1.al0).stp s3 rs2.al0).weak rs3 e
   cases r3
   exact⟨_,rfl,sz6 hz,h3 F3 H3 rs3 (.refl _ _) _ (Rep.str _)⟩
  ·exact h3.elim
 ·exact h3.elim
noncomputable def qH(x:Str):List PyData:=x.cps.toList.map fun c=>.str ⟨#[c]⟩
theorem zaA{M0:Addr->Prop}{F:Fp}{H1:Hp}(x:Str):JI M0 F (Itc x) (qH x) H1:=fun i F' H' s h0=>by
 refine⟨fun d hd=>?_,fun hi=>?_⟩
 ·unfold qH at hd
  rw[xA]at hd
  cases q:x.cps.toList[i]? with
  |none=>rw[q]at hd;cases hd
  |some c=>
   rw[q]at hd
   cases hd
   have q':x.cps[i]?=some c:=by simpa using q
   refine⟨(xY.mp q').1,fun z H2 ⟨e2,c',ec,ez⟩=>?_⟩
   subst e2 ez
   rw[q']at ec;cases ec
   exact⟨.refl _,.str _⟩
 ·have:(qH x).length=x.length:=by simp[qH,Str.length]
  rw[this]at hi;exact hi
noncomputable def zQ(fa:EM FV):EM (List PyData):=fun Γ=>(fa Γ).bind fun (u,Γ1)=>match derf Γ1 u with
 |some (.str x)=>if x.cps.all (·<128) then .ok (qH x,Γ1) else .bad
 |_=>.bad
theorem zbC{tg:Expr}(ha:SE X XP mp a fa):SI X XP mp tg a (zQ fa):=fun M0 F Γ ν σ H R rs hs hp=>
 (za7 zc).wp (ha.run rs hs hp fun F1 Γ1 H1 u v rs1 s1 o1 h1=>by
  dsimp only at h1
  split at h1
  ·rename_i x ex
   split at h1
   ·rename_i hz
    have r1:=o1.weak rs1 ex
    cases r1
    exact⟨_,rfl,hz,h1 F1 H1 rs1 (.refl _ _) _ (zaA x)⟩
   ·exact h1.elim
  ·exact h1.elim)
noncomputable def WP(ds es:List PyData):List PyData:=(ds.zip es).map fun p=>.tuple [p.1,p.2]
theorem ko{M0:Addr->Prop}{tp:Bool}{F F':Fp}{H H':Hp}{l:Addr}{vs:List V}(s:Stp F H F' H')(n:tp=false->∀ j,l∉F j)(h:SqV tp H l vs):SqV tp H' l vs:=by
 cases tp with
 |false=>exact (s.keep l _ h fun j hj=>n rfl j hj).1
 |true=>exact s.tups l _ h
theorem zaD{M0:Addr->Prop}{tp:Bool}{F:Fp}{H1:Hp}{l m:Addr}{ds es:List PyData}{vs us:List V}(e1:SqV tp H1 l vs)(n1:tp=false->∀ j,l∉F j)(r1:RepL (MM M0 F) H1 vs ds)(e2:SqV tp H1 m us)(n2:tp=false->∀ j,m∉F j)(r2:RepL (MM M0 F) H1 us es):JI M0 F (Itz tp l m) (WP ds es) H1:=fun i F' H' s h0=>by
 have e1':=ko (M0:=M0) s n1 e1
 have e2':=ko (M0:=M0) s n2 e2
 refine⟨fun d hd=>?_,fun hl=>?_⟩
 ·unfold WP at hd
  rw[xA]at hd
  cases q:(ds.zip es)[i]? with
  |none=>rw[q]at hd;cases hd
  |some pq=>
   obtain⟨d1,d2⟩:=pq
   rw[q]at hd
   cases hd
   obtain⟨q1,q2⟩:=List.getElem?_zip_eq_some.mp q
   obtain⟨v1,hv1,rv1⟩:=r1.get' q1
   obtain⟨v2,hv2,rv2⟩:=r2.get' q2
   refine⟨⟨⟨vs,v1,e1',hv1⟩,us,v2,e2',hv2⟩,fun z H2 ⟨p,x,y,np,eH,ez,hx,hy⟩=>?_⟩
   subst eH ez
   have hx:=hx vs e1'
   have hy:=hy us e2'
   rw[hv1]at hx;cases hx
   rw[hv2]at hy;cases hy
   exact⟨zv np,.tuple zf (.cons ((zr s h0 rv1).grow (zv np).grow) (.cons ((zr s h0 rv2).grow (zv np).grow) .nil))⟩
 ·refine⟨vs,us,e1',e2',?_⟩
  have:(WP ds es).length=min ds.length es.length:=by simp[WP]
  rw[this]at hl
  rw[r1.length,r2.length]
  omega
noncomputable def zcJ(tp:Bool)(fa fb:EM FV):EM (List PyData):=fun Γ=>(fa Γ).bind fun (u,Γ1)=>(fb Γ1).bind fun (w,Γ2)=>match tp,derS Γ2 u,derS Γ2 w with
 |true,some (.tuple ds),some (.tuple es)=>.ok (WP ds es,Γ2)
 |false,some (.list ds),some (.list es)=>.ok (WP ds es,Γ2)
 |_,_,_=>.bad
theorem zgf {tp:Bool}{x:Str}{elts:List Expr}{x1:Nat}{pt:Pos}(B:BiK X x (.type "zip")) (ex:x= "zip") (ha:SE X XP mp a fa) (hb:SE X XP mp b fb) (hst1:starEach [a,b] X.env=(false,eval a X.env)::starEach [b] X.env) (hst2:starEach [b] X.env= [(false,eval b X.env)]) :
  SI X XP mp (.Tuple elts x1 pt) (.Call (.Name x p) [a,b] [] pos) (zcJ tp fa fb):=fun M0 F Γ ν σ H R rs hs hp=>by
 subst ex
 exact (zfP (tp:=tp) B.gl B.mg hst1 hst2).wp (ha.run rs hs hp fun F1 Γ1 H1 u v rs1 s1 o1 h1=>hb.run rs1 hs h1 fun F2 Γ2 H2 w v2 rs2 s2 o2 h2=>by
  dsimp only at h2
  split at h2
  ·rename_i ds es eu ew
   obtain⟨l,vs,rfl,e,r⟩:=((o1.stp s2 rs1.al0).strong rs2 eu).tup_inv
   obtain⟨m,us,rfl,e',r'⟩:=(o2.strong rs2 ew).tup_inv
   exact⟨l,m,vs,us,rfl,rfl,e,e',h2 F2 H2 rs2 (.refl _ _) _ (zaD (tp:=true) e (fun z=>nomatch z) r e' (fun z=>nomatch z) r')⟩
  ·rename_i ds es eu ew
   obtain⟨l,vs,rfl,e,n,r⟩:=((o1.stp s2 rs1.al0).strong rs2 eu).lst_inv
   obtain⟨m,us,rfl,e',n',r'⟩:=(o2.strong rs2 ew).lst_inv
   exact⟨l,m,vs,us,rfl,rfl,e,e',h2 F2 H2 rs2 (.refl _ _) _ (zaD (tp:=false) e (fun _ j hj=>n (.inr ⟨j,hj⟩)) r e' (fun _ j hj=>n' (.inr ⟨j,hj⟩)) r')⟩
  ·exact h2.elim)
noncomputable def J2(kf:List (Str×Str))(fa:EM FV):EM Bool:=fun Γ=>(fa Γ).bind fun (u,Γ1)=>match derf Γ1 u with
 |some (.str x)=>.ok ((kf.lookup x).isNone,Γ1)
 |_=>.bad
theorem zdU {x:Str}{kf:List (Str×Str)}(g:GD X.w X.K X.mg x kf) (hg:Gl X x) (hdb:(x==("__debug__" :Str))=false) (ha:SE X XP mp a fa):ST X XP mp (.Compare a [.NotIn] [.Name x p] pos) (J2 kf fa):=fun M0 F Γ ν σ H Q rs hs hp=>by
 obtain⟨D,ep,l,h1,_⟩:=g.ex
 refine (Y6 (vt g h1) zc (wt (v:=.ref D) hg h1 rfl hdb) rfl).wp (ha.run rs hs hp fun F1 Γ1 H1 u v rs1 s1 o1 h1=>?_)
 dsimp only at h1
 split at h1
 ·rename_i y ey
  have r1:=o1.weak rs1 ey
  cases r1
  exact⟨_,rfl,rfl,_,rfl,h1 F1 H1 rs1 (.refl _ _)⟩
 ·exact h1.elim
theorem zdz {x:Str}{kf:List (Str×Str)}(g:GD X.w X.K X.mg x kf) (hg:Gl X x) (hdb:(x==("__debug__" :Str))=false) (ha:SE X XP mp a fa):SE X XP mp (.Compare a [.NotIn] [.Name x p] pos) (fB (J2 kf fa)):=fun M0 F Γ ν σ H Q rs hs hp=>by
 obtain⟨D,ep,l,h1,_⟩:=g.ex
 unfold fB J2 at hp
 rw[R.bind_assoc]at hp
 refine (YZ (vt g h1) zc (wt (v:=.ref D) hg h1 rfl hdb) rfl).wp (ha.run rs hs hp fun F1 Γ1 H1 u v rs1 s1 o1 h1=>?_)
 dsimp only at h1
 split at h1
 ·rename_i y ey
  have r1:=o1.weak rs1 ey
  cases r1
  exact⟨_,rfl,rfl,h1 F1 H1 rs1 (.refl _ _) _ (Rep.bool _)⟩
 ·exact h1.elim
theorem RS.unset{M0:Addr->Prop}{F:Fp}{Γ:Gv}{ν:Nu}{H:Hp}{i:Nat}(r:RS M0 F Γ ν H)(h:∀ o,Γ[i]?≠some (some o)):RS M0 F Γ (ν.set i none) H :=
 ⟨r.al0,r.dis0,r.nd,r.dis,fun j o e=>by
  obtain⟨w,e1,z⟩:=r.at' j o e
  refine⟨w,?_,z⟩
  rw[xg (fun q=>h o (by rw[q];exact e))]
  exact e1,r.emp,by rw[xL];exact r.len⟩
theorem Sees.unset{ν:Nu}{σ:St}{s i:Nat}{v:V}(h:Sees mp ν σ)(hn:mp.Nodup)(hm:mp[s]?=some i):Sees mp (ν.set i none) (σ.set s (some v)):=fun t j w e1 e2=>by
 by_cases hj:j=i
 ·subst hj
  have hs:t=s:=(List.getElem?_inj (xb.mp e1).1 hn).mp (e1.trans hm.symm)
  subst hs
  rw[List.getElem?_set_self']at e2
  cases q:ν[j]? with
  |none=>rw[q]at e2;cases e2
  |some z=>rw[q]at e2;cases e2
 ·rw[xg (Ne.symm hj)]at e2
  have hts:s≠t:=fun z=>by subst z;rw[hm]at e1;cases e1;exact hj rfl
  rw[xg hts]
  exact h t j w e1 e2
noncomputable def Y9(io:List Nat)(kf:List (Str×Str))(run:Str->List OV->RF)(i:Nat)(fe:EM FV)(fl:EM (List AV)):SM:=fun Γ=>(fe Γ).bind fun (u,Γ1)=>match derf Γ1 u with
 |some (.str k)=>match kf.lookup k with
  |some f=>if i∈io∨(Γ1[i]?.join).isSome=true then .bad else (fCall (run f) fl Γ1).bind fun (o,Γ2)=>.ok (.ret o,Γ2)
  |none=>.bad
 |_=>.bad
theorem zds {s i k n:Nat}{r x:Str}{kf:List (Str×Str)}{run:Str->List OV->RF}{fl:EM (List AV)}{p1 p3 q1 q2 q3 q4:Pos}(g:GD X.w X.K X.mg x kf) (hg:Gl X x) (hdb:(x==("__debug__" :Str))=false)
  (px:PxOk X XP) (kn:∀ key f,kf.lookup key=some f->Kn X.prog X.w X.K X.mg X.base (CX1 X.prog X.w) f k (spX X.mg n (run f))/\∀ args,run f args≠ .bad->args.length=n) (hr:Room k X.A)
  (he:SE X XP mp e fa) (hps:PS X (.Assign [.Name r p2] (.Subscript (.Name x p1) e q1) q2) (fun D σ H=>wpE X e σ H fun v H1=>∃ (a f:Str) (b:Addr),v=.str a/\kf.lookup a=some f/\(X.mg f=some (.ref b)->D.nx (σ.set s (some (.ref b))) H1)/\X.mg f=some (.ref b)))
  (hN:X.N[s]?=some r) (hv:Vis X.env.scope r) (hd:(r==("__debug__" :Str))=false) (hcd:(r==("__classdict__" :Str))=false) (hn:mp.Nodup) (hm:mp[s]?=some i)
  (hl:SA X XP mp (a::es) fl) (hst:starEach (a::es) X.env=(false,eval a X.env)::starEach es X.env) (hpl:(backTo q3 (starEach es X.env)).any (·.1)=false) :
  SB X XP mp io [.Assign [.Name r p2] (.Subscript (.Name x p1) e q1) q2,.Return (some (.Call (.Name r p3) (a::es) [] q3)) q4] (Y9 io kf run i fa fl):=fun M0 F Γ ν σ H D rs hs hl0 hp=>by
 refine (Zo hps (QR (Yf zc))).wp ?_
 refine he M0 F Γ ν σ H _ rs hs ((SPost.seq hs hl0 hp).mono fun F1 Γ1 H1 u rs1 s1 h1 v hv1=>?_)
 dsimp only at h1
 split at h1
 ·rename_i key ek
  have r1:=hv1.weak rs1 ek
  cases r1
  split at h1
  ·rename_i f ef
   split at h1
   ·exact h1.elim
   ·rename_i hh
    obtain⟨kn1,hrun⟩:=kn key f ef
    obtain⟨b,fd,ps,_,hb,_⟩:=kn1.ex
    have hio:i∉io:=fun z=>hh (.inl z)
    have hΓ:∀ o,Γ1[i]?≠some (some o):=fun o z=>hh (.inr (by rw[z];rfl))
    have rs2:=rs1.unset hΓ
    have hs2:Sees mp (ν.set i none) (σ.set s (some (.ref b))):=hs.unset hn hm
    have hlen:(σ.set s (some (.ref b)):St).length=X.N.length:=by rw[xL];exact hl0
    refine⟨key,f,b,rfl,ef,fun _=>?_,hb⟩
    refine KZ (E:=EX X XP (σ.set s (some (.ref b)))) kn1 hb hr hN hv hd hcd ?_ (fun pins H1 s1 e s' I hx=>px.call _ pins H1 s1 e s' _ (fun c H' q=>q) I hx) (hl M0 F1 Γ1 (ν.set i none) (σ.set s (some (.ref b))) H1 _ rs2 hs2 (JD rs2 hrun ?_)) hst hpl
    ·have:s<σ.length:=by rw[hl0];exact (xb.mp hN).1
     rw[xh this]
    ·have h1':SPost M0 F1 (ν.set i none) H1 XP mp X.N.length io D ((fCall (run f) fl Γ1).bind fun (o,Γ2)=>.ok (.ret o,Γ2)):=h1.step (.refl _ _) fun j hj=>by
      rw[xg (fun z=>hio (by rw[z];exact hj))]
     exact (SPost.seqO hs2 hlen h1').mono fun F3 Γ3 H3 o v rs3 s3 h3=>h3 F3 _ v H3 rs3 (.refl _ _) fun _ _=>rfl
  ·exact h1.elim
 ·exact h1.elim
end
section
variable {M0:Addr->Prop} {F F':Fp} {Γ Γ':Gv} {ν ν':Nu} {H H':Hp}
end
section
variable {X:Cx} {XP:XPT} {mp io:List Nat} {a b c e:Expr} {es:List Expr} {pos p p2 pos' p3:Pos} {fa fb fc:EM FV} {fo:EM OV} {kx:Nat}
end
end L3
namespace L2
open PySem PySem.Spec PyProof.Rows
section
variable {β:Type}
noncomputable def WL(ds:List (Str×β))(x:Str)(y:β):List (Str×β):=if (ds.any fun p=>decide (p.1=x))=true then ds.map (fun p=>if p.1=x then (p.1,y) else p) else ds++ [(x,y)]
theorem V2(ds:List (Str×β))(x:Str)(y:β):(WL ds x y).length<=ds.length+1:=by
 unfold WL
 split
 ·rw[xt];omega
 ·rw[xF,xk,List.length_nil];omega
end
theorem inr_eq{x y:Str}:((Sum.inr x:Key)=Sum.inr y)↔x=y:=⟨fun h=>by injection h,fun h=>by rw[h]⟩
theorem zab(x:Str):∀ (ks:List (Str×V)),((ks.map kK).any fun p=>decide (p.1=(.inr x:Key)))=ks.any fun p=>decide (p.1=x)
 |[]=>rfl
 |p::r=>by
  rw[xm,xP,xP,zab x r]
  congr 1
  exact decide_eq_decide.mpr inr_eq
theorem zdg(ks:List (Str×V))(x:Str)(v:V):Yg (ks.map kK) (.inr x) v=(WL ks x v).map kK:=by
 unfold Yg WL
 rw[zab]
 split
 ·rw[xX,xX]
  refine List.map_congr_left fun p _=>?_
  show (if (kK p).1=Sum.inr x then _ else _)=kK (if p.1=x then _ else _)
  by_cases h:p.1=x
  ·rw[if_pos (show (kK p).1=Sum.inr x from inr_eq.mpr h),if_pos h];rfl
  ·rw[if_neg (show ¬ (kK p).1=Sum.inr x from fun z=>h (inr_eq.mp z)),if_neg h]
 ·rw[List.map_append];rfl
variable [Cs]
inductive KR(M:Addr->Prop)(H:Hp):List (Str×V)->List (Str×PyData)->Prop
 |nil:KR M H [] []
 |cons {x:Str} {v:V} {d:PyData} {ks:List (Str×V)} {ds:List (Str×PyData)}:Rep M H v d->KR M H ks ds->KR M H ((x,v)::ks) ((x,d)::ds)
section
variable {M M':Addr->Prop} {H H':Hp}
theorem KR.keys:∀ {ks:List (Str×V)}{ds:List (Str×PyData)},KR M H ks ds->ks.map (·.1)=ds.map (·.1)
 |_,_,.nil=>rfl
 |_,_,.cons _ t=>by rw[xm,xm,t.keys]
theorem KR.vals:∀ {ks:List (Str×V)}{ds:List (Str×PyData)},KR M H ks ds->RepL M H (ks.map (·.2)) (ds.map (·.2))
 |_,_,.nil=>.nil
 |_,_,.cons r t=>.cons r t.vals
theorem KR.length{ks:List (Str×V)}{ds:List (Str×PyData)}(h:KR M H ks ds):ks.length=ds.length:=by have:=congrArg List.length h.keys;simpa using this
theorem KR.map(hr:∀ v d,Rep M H v d->Rep M' H' v d):∀ {ks:List (Str×V)}{ds:List (Str×PyData)},KR M H ks ds->KR M' H' ks ds
 |_,_,.nil=>.nil
 |_,_,.cons r t=>.cons (hr _ _ r) (t.map hr)
theorem KR.any(x:Str):∀ {ks:List (Str×V)}{ds:List (Str×PyData)},KR M H ks ds->(ks.any fun p=>decide (p.1=x))=ds.any fun p=>decide (p.1=x)
 |_,_,.nil=>rfl
 |_,_,.cons _ t=>by rw[xP,xP,t.any x]
theorem KR.repl{x:Str}{v:V}{d:PyData}(r:Rep M H v d):∀ {ks:List (Str×V)}{ds:List (Str×PyData)},KR M H ks ds->KR M H (ks.map fun p=>if p.1=x then (p.1,v) else p) (ds.map fun p=>if p.1=x then (p.1,d) else p)
 |_,_,.nil=>.nil
 |_,_,.cons (x:=y) q t=>by
  rw[xm,xm]
  by_cases h:y=x
  ·rw[if_pos h,if_pos h];exact .cons r (t.repl r)
  ·rw[if_neg h,if_neg h];exact .cons q (t.repl r)
theorem KR.append:∀ {ks ks':List (Str×V)}{ds ds':List (Str×PyData)},KR M H ks ds->KR M H ks' ds'->KR M H (ks++ks') (ds++ds')
 |_,_,_,_,.nil,s=>s
 |_,_,_,_,.cons r t,s=>.cons r (t.append s)
theorem KR.put{ks:List (Str×V)}{ds:List (Str×PyData)}(x:Str){v:V}{d:PyData}(h:KR M H ks ds)(r:Rep M H v d):KR M H (WL ks x v) (WL ds x d):=by
 unfold WL
 rw[h.any x]
 split
 ·exact h.repl r
 ·exact h.append (.cons r .nil)
end
noncomputable def unD:List (PyData×PyData)->Option (List (Str×PyData))
 |[]=>some []
 | (.str x,d)::r=>(unD r).map ((x,d)::·)
 |_=>none
theorem zd3(ds:List (Str×PyData)):unD (ds.map dK)=some ds:=by
 induction ds with
 |nil=>rfl
 |cons p r ih=>simp[unD,dK,ih]
section
variable {X:Cx} {pins:List (Addr×Obj)} {σ:St} {H:Hp} {s:Shared} {a b:Addr} {kvs more:List (Key×V)} {A:Around} {E:Value->Shared->Prop}
end
section
variable {X:Cx} {o e:Expr} {apos cpos:Pos} {td te:TE}
end
section
variable {X:Cx}
end
section
variable {prog:Program} {w:World} {A:Around} {E:Value->Shared->Prop} {s:Shared}
end
section
variable {X:Cx}
end
section
variable {X:Cx} {pins:List (Addr×Obj)} {σ:St} {H:Hp} {s:Shared} {a:Addr} {kvs:List (Key×V)}
theorem Inv.ghost{o o':HO}(I:Inv X pins σ H s)(e:H a=some o)(hn:∀ xs,o≠ .tup xs)(hno:∀ b,o≠ .own b)(hnt:∀ ps,o≠ .tbl ps)(hf:∀ ob u,X.H₀ a≠some (.frz ob u))(new:ObjOk X.prog X.w (upd H a o') s.heap a o'):Inv X pins σ (upd H a o') s where
 ok:=I.ok
 os:=I.os
 bare:=I.bare
 base:={
  keep:=I.base.keep
  slot:=I.base.slot
  free:=fun b ob e' n hx=>by
   have:=I.base.free b ob e' n hx
   rw[zd (fun z=>by subst z;rw[e]at this;cases this)];exact this
  there:=I.base.there
  tups:=fun b xs e'=>by
   have:=I.base.tups b xs e'
   rw[zd (fun z=>by subst z;rw[e]at this;exact hn xs (Option.some.inj this))];exact this
  frzs:=fun b ob u e'=>by
   rw[zd (fun z=>by subst z;exact hf ob u e')];exact I.base.frzs b ob u e'
  tbls:=fun b ps e'=>by
   obtain⟨mo,this⟩:=I.base.tbls b ps e'
   exact⟨mo,by rw[zd (fun z=>by subst z;rw[e]at this;exact hnt _ (Option.some.inj this))];exact this⟩ }
 loc:=I.loc
 cell:=I.cell
 free:=by rw[zd (fun z=>by have:=I.free;rw[z,e]at this;cases this)];exact I.free
 freeC:=fun x c e'=>by
  have:=I.freeC x c e'
  rw[zd (fun z=>by rw[z,e]at this;cases this)];exact this
 pin:=fun p h=>by
  obtain⟨e1,n,r⟩:=I.pin p h
  exact⟨e1,by rw[zd (fun z=>by rw[z,e]at n;cases n)];exact n,r⟩
 hok:=fun b u q=>by
  by_cases hb:b=a
  ·subst hb;rw[zf]at q;cases q;exact new
  ·rw[zd hb]at q
   exact (I.hok b u q).stay (fun c v _ r=>r) (fun c r=>by rw[zd (fun z=>by subst z;rw[e]at r;exact hno _ (Option.some.inj r))];exact r) fun c xs r=>by rw[zd (fun z=>by subst z;rw[e]at r;exact hn _ (Option.some.inj r))];exact r
 len:=I.len
noncomputable def Fz(X:Cx)(H Hf:Hp)(a:Addr)(o:Obj)(kvs:List (Key×V)):Prop:=Hf a=some (.frz o (.dK kvs))/\(Hf=H∨(H a=some (.dK kvs)/\Hf=upd H a (.frz o (.dK kvs))/\∀ ob u,X.H₀ a≠some (.frz ob u)))
theorem Inv.thaw{o:Obj}{H':Hp}(I:Inv X pins σ H s)(e:H a=some (.frz o (.dK kvs)))(hf:∀ ob u,X.H₀ a≠some (.frz ob u)):Inv X pins σ (upd H a (.dK kvs)) s:=by
 obtain⟨_,z,hd,vs,rel,dd⟩:=(show ObjOk X.prog X.w H s.heap a (.frz o (.dK kvs)) from I.hok a _ e)
 exact I.ghost e (fun _ z=>nomatch z) (fun _ z=>nomatch z) (fun _ z=>nomatch z) hf ⟨z,hd,vs,rel,dd⟩
theorem zcd{e:Expr}{Q:VK}(h:wpE X e σ H fun v H'=>Q v H'∨∃ a kvs o,H' a=some (.frz o (.dK kvs))/\(∀ ob u,X.H₀ a≠some (.frz ob u))/\Q v (upd H' a (.dK kvs))):wpE X e σ H Q:=fun pins s I=>
 thn (h pins s I) fun u s' ⟨v,H',I',r,q⟩=>by
  rcases q with q | ⟨a,kvs,o,e,hf,q⟩
  ·exact⟨v,H',I',r,q⟩
  ·exact⟨v,_,I'.thaw (H':=H') e hf,r,q⟩
end
section
variable {X:Cx} {tg:Expr}
end
section
variable {X:Cx} {tg o:Expr} {apos cpos:Pos}
end
end L2
namespace L3
open PySem PySem.Spec PyProof.Rows L2
variable [Cs]
noncomputable def Eqv(H H':Hp):Prop:=∀ b o,H b=some o->H' b=some o∨∃ kvs,(o=.dK kvs∨∃ ob,o=.frz ob (.dK kvs))/\Rd H' b (.dK kvs)
section
variable {M0 M:Addr->Prop} {F F':Fp} {Γ Γ':Gv} {ν:Nu} {H H' Hf:Hp} {X:Cx} {a:Addr} {o:Obj} {kvs:List (Key×V)}
theorem Eqv.refl(H:Hp):Eqv H H:=fun _ _ e=>.inl e
theorem Eqv.rd(h:Eqv H H'){b:Addr}{kvs:List (Key×V)}(r:Rd H b (.dK kvs)):Rd H' b (.dK kvs):=by
 rcases r with e | ⟨ob,e⟩
 ·rcases h b _ e with z | ⟨k,z | ⟨ob,z⟩,r⟩
  ·exact .inl z
  ·cases z;exact r
  ·cases z
 ·rcases h b _ e with z | ⟨k,z | ⟨ob',z⟩,r⟩
  ·exact .inr ⟨_,z⟩
  ·cases z
  ·cases z;exact r
theorem Eqv.of(h:Eqv H H'){b:Addr}{o:HO}(e:H b=some o)(h1:∀ kvs,o≠ .dK kvs)(h2:∀ ob kvs,o≠ .frz ob (.dK kvs)):H' b=some o:=by
 rcases h b _ e with z | ⟨k,z | ⟨ob,z⟩,r⟩
 ·exact z
 ·exact absurd z (h1 k)
 ·exact absurd z (h2 ob k)
theorem Eqv.stay(h:Eqv H H'){b:Addr}(n:H b≠none):H' b≠none:=by
 cases q:H b with
 |none=>exact absurd q n
 |some o=>
  rcases h b _ q with z | ⟨k,_,z | ⟨ob,z⟩⟩<;>rw[z]<;>exact fun w=>nomatch w
mutual
theorem Rep.eqv(h:Eqv H H'):∀ {v:V}{d:PyData},Rep M H v d->Rep M H' v d
 |_,_,.none=>.none
 |_,_,.bool b=>.bool b
 |_,_,.int i=>.int i
 |_,_,.str x=>.str x
 |_,_,.list e n r=>.list (h.of e (fun _ z=>nomatch z) (fun _ _ z=>nomatch z)) n (RepL.eqv h r)
 |_,_,.tuple e r=>.tuple (h.of e (fun _ z=>nomatch z) (fun _ _ z=>nomatch z)) (RepL.eqv h r)
 |_,_,.dict e n k r=>.dict (h.rd e) n k (RepL.eqv h r)
 |_,_,.inst e n k r=>.inst (h.of e (fun _ z=>nomatch z) (fun _ _ z=>nomatch z)) n k (RepL.eqv h r)
theorem RepL.eqv(h:Eqv H H'):∀ {vs:List V}{ds:List PyData},RepL M H vs ds->RepL M H' vs ds
 |_,_,.nil=>.nil
 |_,_,.cons r t=>.cons (Rep.eqv h r) (RepL.eqv h t)
end
theorem RS.eqv(r:RS M0 F Γ ν H)(h:Eqv H H')(hF:∀ i,∀ a∈F i,H' a=H a):RS M0 F Γ ν H' :=
 ⟨fun a ha=>h.stay (r.al0 a ha),r.dis0,r.nd,r.dis,fun i o e=>let ⟨v,e1,q⟩:=r.at' i o e;⟨v,e1,q.go (fun _ _ x=>Rep.eqv h x) (fun b xs e=>h.of e (fun _ z=>nomatch z) (fun _ _ z=>nomatch z)) (hF i)⟩,r.emp,r.len⟩
theorem zfb(z:Fz X H Hf a o kvs):Eqv H Hf:=by
 obtain⟨e,rfl | ⟨e1,rfl,_⟩⟩:=z
 ·exact .refl _
 ·intro b u eb
  by_cases hb:b=a
  ·subst hb
   rw[e1]at eb;cases eb
   exact .inr ⟨kvs,.inl rfl,.inr ⟨o,zf⟩⟩
  ·exact .inl (by rw[zd hb];exact eb)
theorem yv(e:H a=some (.frz o (.dK kvs))):Eqv H (upd H a (.dK kvs)):=fun b u eb=>by
 by_cases hb:b=a
 ·subst hb
  rw[e]at eb;cases eb
  exact .inr ⟨kvs,.inr ⟨o,rfl⟩,.inl zf⟩
 ·exact .inl (by rw[zd hb];exact eb)
theorem zbR{H'f:Hp}(e:H a=some (.dK kvs))(s:Stp F (upd H a (.frz o (.dK kvs))) F' H'f)(hn:∀ i,a∉F i):Stp F H F' (upd H'f a (.dK kvs)):=by
 have ka:=s.keep a _ zf hn
 refine⟨fun b u eb nb=>?_,fun b xs eb=>?_,fun b hb=>?_⟩
 ·by_cases hb:b=a
  ·subst hb
   rw[e]at eb;cases eb
   exact⟨zf,ka.2⟩
  ·rw[zd hb]
   exact s.keep b u (by rw[zd hb];exact eb) nb
 ·have hb:b≠a:=fun z=>by subst z;rw[e]at eb;cases eb
  rw[zd hb]
  exact s.tups b xs (by rw[zd hb];exact eb)
 ·by_cases z:b=a
  ·subst z;rw[zf];exact fun w=>nomatch w
  ·rw[zd z]
   exact s.stay b (by rw[zd z];exact hb)
end
noncomputable def Qx(M0:Addr->Prop)(F:Fp)(i:Nat):Addr->Prop:=fun a=>M0 a∨a∈F i
section
variable {M0:Addr->Prop} {F F':Fp} {Γ Γ':Gv} {ν:Nu} {H H':Hp} {i:Nat}
theorem QD{F3:Fp}(h:F3 i= []):MM (Qx M0 F i) F3=MM M0 (zH F3 i (F i)):=by
 funext a
 apply propext
 constructor
 ·rintro ((h1 | h1) | ⟨j,h1⟩)
  ·exact .inl h1
  ·exact .inr ⟨i,by rw[ze];exact h1⟩
  ·refine .inr ⟨j,?_⟩
   rw[zi (fun z=>by subst z;rw[h]at h1;cases h1)];exact h1
 ·rintro (h1 | ⟨j,h1⟩)
  ·exact .inl (.inl h1)
  ·by_cases z:j=i
   ·subst z;rw[ze]at h1;exact .inl (.inr h1)
   ·rw[zi z]at h1;exact .inr ⟨j,h1⟩
theorem Va:zH (zH F i []) i (F i)=F:=by
 funext j
 by_cases z:j=i
 ·subst z;rw[ze]
 ·rw[zi z,zi z]
theorem RS.hide(r:RS M0 F Γ ν H):RS (Qx M0 F i) (zH F i []) (Γ.set i none) ν H:=by
 have hm:MM (Qx M0 F i) (zH F i [])=MM M0 F:=by rw[QD ze,Va]
 have sub:∀ j a,a∈zH F i [] j->j≠i/\a∈F j:=fun j a h=>by
  by_cases z:j=i
  ·subst z;rw[ze]at h;cases h
  ·rw[zi z]at h;exact⟨z,h⟩
 refine⟨fun a h=>?_,fun j a h=>?_,fun j=>?_,fun j k a h1 h2=>r.dis _ _ a (sub _ _ h1).2 (sub _ _ h2).2,fun j o e=>?_,fun j h=>?_,by rw[xL];exact r.len⟩
 ·rcases h with h | h
  ·exact r.al0 a h
  ·exact r.al a (.inr ⟨i,h⟩)
 ·obtain⟨h1,h2⟩:=sub j a h
  rintro (z | z)
  ·exact r.dis0 j a h2 z
  ·exact h1 (r.dis _ _ a h2 z)
 ·by_cases z:j=i
  ·subst z;rw[ze];exact .nil
  ·rw[zi z];exact r.nd j
 ·by_cases z:j=i
  ·subst z
   by_cases hl:j<Γ.length
   ·rw[xh hl]at e;cases e
   ·rw[xz (by simpa using hl)]at e;cases e
  ·rw[xg (Ne.symm z)]at e
   rw[hm,zi z]
   exact r.at' j o e
 ·by_cases z:j=i
  ·subst z;exact ze
  ·rw[zi z]
   refine r.emp j fun o e=>h o ?_
   rw[xg (Ne.symm z)];exact e
theorem RS.unhide{o:OV}(r:RS M0 F Γ ν H)(e:Γ[i]?=some (some o))(r':RS (Qx M0 F i) F' Γ' ν H')(e':Γ'[i]?=some none)(s:Stp (zH F i []) H F' H'):RS M0 (zH F' i (F i)) (Γ'.set i (some o)) ν H'/\Stp F H (zH F' i (F i)) H':=by
 have hi':i<Γ'.length:=(xb.mp e').1
 have hFi:F' i= []:=r'.emp i fun o z=>by rw[e']at z;cases z
 have hm:MM (Qx M0 F i) F'=MM M0 (zH F' i (F i)):=QD hFi
 have kp:∀ a∈F i,H' a=H a/\∀ j,a∉F' j:=fun a ha=>by
  obtain⟨u,eu⟩:=r.laidF ha
  obtain⟨k1,k2⟩:=s.keep a u eu fun j hj=>by
   by_cases z:j=i
   ·subst z;rw[ze]at hj;cases hj
   ·rw[zi z]at hj;exact z (r.dis _ _ a hj ha)
  exact⟨by rw[k1,eu],k2⟩
 have cls:∀ j a,a∈zH F' i (F i) j->(j=i/\a∈F i)∨(j≠i/\a∈F' j):=fun j a h=>by
  by_cases z:j=i
  ·subst z;rw[ze]at h;exact .inl ⟨rfl,h⟩
  ·rw[zi z]at h;exact .inr ⟨z,h⟩
 have s0:MM (Qx M0 F i) (zH F i [])=MM M0 F:=by rw[QD ze,Va]
 refine⟨⟨fun a h=>r'.al0 a (.inl h),fun j a h=>?_,fun j=>?_,fun j k a h1 h2=>?_,fun j p ep=>?_,fun j h=>?_,by rw[xL];exact r'.len⟩,⟨fun b u eb nb=>?_,s.tups,s.stay⟩⟩
 ·rcases cls j a h with ⟨_,h⟩ | ⟨_,h⟩
  ·exact r.dis0 i a h
  ·exact fun z=>r'.dis0 j a h (.inl z)
 ·by_cases z:j=i
  ·subst z;rw[ze];exact r.nd _
  ·rw[zi z];exact r'.nd j
 ·rcases cls j a h1 with ⟨z1,h1⟩ | ⟨z1,h1⟩<;>rcases cls k a h2 with ⟨z2,h2⟩ | ⟨z2,h2⟩
  ·rw[z1,z2]
  ·exact absurd h2 ((kp a h1).2 k)
  ·exact absurd h1 ((kp a h2).2 j)
  ·exact r'.dis _ _ a h1 h2
 ·by_cases z:j=i
  ·subst z
   rw[xh hi']at ep
   cases ep
   obtain⟨v,ev,q⟩:=r.at' j _ e
   refine⟨v,ev,?_⟩
   rw[ze,<- hm]
   exact q.go (fun w d x=>zr s (fun a h=>(r.hide (i:=j)).al0 a h) (by rw[s0];exact x)) s.tups fun a ha=>(kp a ha).1
  ·rw[xg (Ne.symm z)]at ep
   rw[<- hm,zi z]
   exact r'.at' j p ep
 ·by_cases z:j=i
  ·subst z
   rw[xh hi']at h
   exact absurd rfl (h o)
  ·rw[zi z]
   refine r'.emp j fun p ep=>h p ?_
   rw[xg (Ne.symm z)];exact ep
 ·obtain⟨k1,k2⟩:=s.keep b u eb fun j hj=>by
   by_cases z:j=i
   ·subst z;rw[ze]at hj;cases hj
   ·rw[zi z]at hj;exact nb j hj
  refine⟨k1,fun j hj=>?_⟩
  rcases cls j b hj with ⟨_,h⟩ | ⟨_,h⟩
  ·exact nb i h
  ·exact k2 j h
end
noncomputable def noX{γ:Type}:R γ->R γ
 |.exc _ _=>.bad
 |r=>r
noncomputable def hid{γ:Type}(z:Option (Option Nat))(f:EM γ):EM γ:=fun Γ=>match z with
 |none=>f Γ
 |some none=>noX (f Γ)
 |some (some i)=>match Γ[i]? with
  |some (some o)=>match f (Γ.set i none) with
   |.ok (y,Γ2)=>match Γ2[i]? with
    |some none=>.ok (y,Γ2.set i (some o))
    |_=>.bad
   |.exc x Γ2=>match Γ2[i]? with
    |some none=>.exc x (Γ2.set i (some o))
    |_=>.bad
   |.bad=>.bad
  |_=>.bad
noncomputable def Wk(X:Cx)(F:Fp)(H Hf:Hp):Prop:=Hf=H∨∃ a o kvs,Fz X H Hf a o kvs/\∀ i,a∉F i
noncomputable def JIw(X:Cx)(M0:Addr->Prop)(F:Fp)(J:It)(z:List PyData×Option (Option Nat))(H Hf:Hp):Prop:=match z.2 with
 |none=>Hf=H/\JI M0 F J z.1 H
 |some none=>Wk X F H Hf/\JI M0 F J z.1 Hf
 |some (some i)=>Hf=H/\JI (Qx M0 F i) (zH F i []) J z.1 H
noncomputable def SIw(X:Cx)(XP:XPT)(mp:List Nat)(tg iter:Expr)(f:EM (List PyData×Option (Option Nat))):Prop:=∀ (M0:Addr->Prop) (F:Fp) (Γ:Gv) (ν:Nu) (σ:St) (H:Hp) (R:It->Hp->Prop),RS M0 F Γ ν H->Sees mp ν σ ->
 EPost M0 F ν σ H XP (fun F' Γ' H' z=>∀ J Hf,JIw X M0 F' J z H' Hf->R J Hf) (f Γ)->wpI X tg iter σ H R
section
variable {X:Cx} {XP:XPT} {mp:List Nat} {a b c e tg iter elt:Expr} {es ifs:List Expr} {pos p p2:Pos} {fa fb fc:EM FV} {ta tb:EM Bool} {na nb:EM (List PyData)}
noncomputable def zcI(f:EM (List PyData)):EM (List PyData×Option (Option Nat)):=fun Γ=>(f Γ).bind fun (ds,Γ1)=>.ok ((ds,none),Γ1)
theorem zdK(h:SI X XP mp tg iter na):SIw X XP mp tg iter (zcI na):=fun M0 F Γ ν σ H R rs hs hp=>
 h M0 F Γ ν σ H R rs hs (hp.seq.mono fun F1 Γ1 H1 ds rs1 s1 h1 J hJ=>h1 F1 H1 rs1 (.refl _ _) J H1 ⟨rfl,hJ⟩)
noncomputable def qw{β γ:Type}(k:Nat)(t:IT)(cond:EM Bool)(it:EM β)(add:γ->β->γ):List PyData->γ->Gv->R (γ×Gv)
 |[],ys,Γ=>.ok (ys,Γ)
 |d::ds,ys,Γ=>match tgF t d (Γ++List.replicate k none) with
  |none=>.bad
  |some Γ2=>match cond Γ2 with
   |.ok (true,Γ3)=>match it Γ3 with
    |.ok (y,Γ4)=>qw k t cond it add ds (add ys y) (Γ4.take Γ.length)
    |.exc x Γ4=>.exc x (Γ4.take Γ.length)
    |.bad=>.bad
   |.ok (false,Γ3)=>qw k t cond it add ds ys (Γ3.take Γ.length)
   |.exc x Γ3=>.exc x (Γ3.take Γ.length)
   |.bad=>.bad
structure K2{α β γ δ:Type}(ac:Acc α β)(ad:γ->δ->γ)(RA:(Addr->Prop)->Fp->Hp->α->γ->Prop)(RB:(Addr->Prop)->Fp->Hp->β->δ->Prop)(ln:γ->Nat):Prop where
 stp:∀ {M0:Addr->Prop} {F F':Fp} {H H':Hp} {x:α} {y:γ},RA M0 F H x y->Stp F H F' H'->(∀ a,M0 a->H a≠none)->RA M0 F' H' x y
 add:∀ {M0:Addr->Prop} {F:Fp} {H:Hp} {x:α} {y:γ} {u:β} {d:δ},RA M0 F H x y->RB M0 F H u d->RA M0 F H (ac.add x u) (ad y d)
 bst:∀ {M0:Addr->Prop} {F F':Fp} {H H':Hp} {u:β} {d:δ},RB M0 F H u d->Stp F H F' H'->(∀ a,M0 a->H a≠none)->RB M0 F' H' u d
 len:∀ {M0:Addr->Prop} {F:Fp} {H:Hp} {x:α} {y:γ},RA M0 F H x y->ac.len x=ln y
 lin:∀ (y:γ) (d:δ),ln (ad y d)<=ln y+1
 eqv:∀ {M0:Addr->Prop} {F:Fp} {H H':Hp} {x:α} {y:γ},RA M0 F H x y->Eqv H H'->RA M0 F H' x y
 mm:∀ {M0 M0':Addr->Prop} {F F':Fp} {H:Hp} {x:α} {y:γ},MM M0 F=MM M0' F'->RA M0 F H x y->RA M0' F' H x y
theorem qf{XQ:XPT}{α β γ δ:Type}{ac:Acc α β}{add:γ->δ->γ}{RA:(Addr->Prop)->Fp->Hp->α->γ->Prop}{RB:(Addr->Prop)->Fp->Hp->β->δ->Prop}{len:γ->Nat}(AR:K2 ac add RA RB len){N':List Str}{scope:Scope}{n k:Nat}{ix:List Nat}{t:IT}{cond:EM Bool}{it:EM δ}{te:St->Hp->(β->Hp->Prop)->Prop}{M0:Addr->Prop}{F1:Fp}{ν:Nu}{σ:St}{H1:Hp}{J:It}{ds:List PyData}{P:Fp->Gv->Hp->γ->Prop}{Γ1:Gv}{Q:α->Hp->Prop}{c0:γ}
  (hm:∀ j i:Nat,ix[j]?=some i->∃ m,mp[i]?=some m/\m<n) (hN':N'.length=k+ix.length) (h0:RA M0 F1 H1 ac.a0 c0) (hl0:len c0=0)
  (hg:∀ cl C s2 H2 fp,Cat X σ C s2 H2 fp->SG (X.comp N' scope cl C s2 H2 fp) (mpC mp n k ix) (·<n) tg t) (hc:∀ cl C s2 H2 fp,Cat X σ C s2 H2 fp->SF (X.comp N' scope cl C s2 H2 fp) (XPc XP σ) (mpC mp n k ix) ifs cond)
  (he:∀ (M0:Addr->Prop) (F:Fp) (Γ:Gv) (ν:Nu) (σ1:St) (H:Hp) (Q:β->Hp->Prop),RS M0 F Γ ν H->Sees (mpC mp n k ix) ν σ1->EPost M0 F ν σ1 H (XPc XP σ) (fun F' Γ' H' d=>∀ y,RB M0 F' H' y d->Q y H') (it Γ)->te σ1 H Q)
  (hq:∀ x Γ F ν H,XQ x Γ F ν σ H->XPc XP σ x Γ F ν σ H) (rs1:RS M0 F1 Γ1 ν H1) (hs:Sees mp ν σ) (hJ:JI M0 F1 J ds H1) (hd:ds.length<=1000000) (hn:Γ1.length=n) (hp:EPost M0 F1 ν σ H1 XQ P (qw k t cond it add ds c0 Γ1))
  (fin:∀ F' Γ' H' ys vs,RS M0 F' Γ' ν H'->RA M0 F' H' vs ys->P F' Γ' H' ys->Stp F1 H1 F' H'->Q vs H') :
  vT ac k ix (gU X N' scope tg σ) (fU X N' scope ifs σ) te σ J H1 Q:=by
 have hνn:ν.length=n:=by rw[rs1.len,hn]
 refine⟨fun i m vs H=>m=ds.length-i/\i<=ds.length/\∃ F' Γ' ys,RS M0 F' Γ' ν H/\Stp F1 H1 F' H/\RA M0 F' H vs ys/\Γ'.length=n/\len ys<=i/\EPost M0 F' ν σ H XQ P (qw k t cond it add (ds.drop i) ys Γ'),⟨ds.length,by simp,xV _,F1,Γ1,c0,rs1,.refl _ _,h0,hn,by rw[hl0];exact xi _,hp⟩,?_⟩
 rintro i m vs H ⟨rfl,hil,F',Γ',ys,rs,st,rv,hln,hyl,hp⟩
 have hsz:=sizeLine_eq
 refine⟨by rw[AR.len rv];omega,?_⟩
 by_cases hlt:i<ds.length
 ·rw[uq hlt,qw]at hp
  obtain⟨jgo,jst⟩:=hJ i F' H st rs1.al0
  obtain⟨go,yl⟩:=jgo ds[i] (by simp[hlt])
  refine .inr ⟨go,fun vs' H'=>∃ F'' Γ'' ys',RS M0 F'' Γ'' ν H'/\Stp F1 H1 F'' H'/\RA M0 F'' H' vs' ys'/\Γ''.length=n/\len ys'<=i+1/\EPost M0 F'' ν σ H' XQ P (qw k t cond it add (ds.drop (i+1)) ys' Γ''),fun vs' H' h=>⟨ds.length-(i+1),by omega,rfl,hlt,h⟩,fun x H2 hy=>?_⟩
  obtain⟨s2,rx⟩:=yl x H2 hy
  have rs2:=(rs.same s2).ext k
  have hcl:(cS k ix σ).length=N'.length:=by unfold cS;simp[hN']
  have hsee:Sees (mpC mp n k ix) (ν++List.replicate k none) (cS k ix σ):=fun s j v e1 e2=>by
   by_cases hsk:s<k
   ·rw[zft hsk]at e1
    cases e1
    rw[xf (by omega),xK]at e2
    split at e2<;>cases e2
   ·obtain⟨j',rfl⟩:∃ j',s=k+j':=⟨s-k,by omega⟩
    rw[zaM]at e1
    cases q:ix[j']? with
    |none=>rw[q]at e1;cases e1
    |some i0=>
     rw[q]at e1
     obtain⟨m,hm1,hm2⟩:=hm j' i0 q
     have:mp.getD i0 0=m:=by rw[ul,hm1];rfl
     have ej:m=j:=by
      have e3:some (mp.getD i0 0)=some j:=e1
      rw[this]at e3;exact Option.some.inj e3
     subst ej
     rw[xc (by omega)]at e2
     exact zeW q (hs i0 m v hm1 e2)
  cases et:tgF t ds[i] (Γ'++List.replicate k none) with
  |none=>rw[et]at hp;exact hp.elim
  |some Γ2=>
   rw[et]at hp
   intro cl C s2' H2' fp cat
   refine hg cl C s2' H2' fp cat M0 F' _ Γ2 _ (cS k ix σ) H2 x ds[i] _ rs2 hsee hcl rx et fun F3 ν3 σ3 rs3 s3 hs3 hl3 n3 m3=>⟨?_,fun cl C s2' H2' fp cat=>?_⟩
   ·apply ue
    intro j
    rw[List.getElem?_drop,List.getElem?_drop]
    by_cases hj:j<ix.length
    ·obtain⟨m,hm1,hm2⟩:=hm j ix[j] (by simp[hj])
     refine m3 (k+j) m ?_ hm2
     rw[zaM,xD hj]
     show some (mp.getD ix[j] 0)=some m
     rw[ul,hm1];rfl
    ·have hl3':σ3.length=N'.length:=hl3
     rw[xz (by omega),xz (by omega)]
   ·have stA:Stp F1 H1 F3 H2:=(st.trans (.same s2)).trans s3
    have back:∀ {F4:Fp} {Γ4:Gv} {H4:Hp},RS M0 F4 Γ4 ν3 H4->RS M0 (wG F4 n) (Γ4.take n) ν H4/\Stp F4 H4 (wG F4 n) H4:=fun {F4 Γ4 H4} r4=>by
     obtain⟨r5,s5⟩:=r4.cut n
     have:ν3.take n=ν:=by
      apply ue
      intro j
      by_cases hj:j<n
      ·rw[xM hj,n3 j hj,xc (by omega)]
      ·rw[xz (by rw[xJ];omega),xz (by omega)]
     rw[this]at r5
     exact⟨r5,s5⟩
    have lenOf:∀ {F4:Fp} {Γ4:Gv} {H4:Hp},RS M0 F4 Γ4 ν3 H4->(Γ4.take n).length=n:=fun {F4 Γ4 H4} r4=>by
     have h1:=r4.len
     have h2:=rs3.len
     have h3:Γ2.length=n+k:=by rw[Yq _ _ _ _ et,xF,uk,hln]
     rw[xJ];omega
    refine hc cl C s2' H2' fp cat M0 F3 Γ2 ν3 σ3 H2 _ rs3 hs3 ?_
    dsimp only at hp
    cases ec:cond Γ2 with
    |bad=>rw[ec]at hp;exact hp.elim
    |exc xx yy=>
     rw[ec]at hp
     intro F4 H4 rs4 s4
     obtain⟨r5,s5⟩:=back rs4
     exact hq _ _ _ _ _ (hp _ H4 (by rw[hln];exact r5) ((((Stp.same s2).trans s3).trans s4).trans s5))
    |ok z=>
     obtain⟨bb,Γ3⟩:=z
     rw[ec]at hp
     intro F4 H4 rs4 s4
     have rvA:RA M0 F4 H4 vs ys:=AR.stp (AR.stp (AR.stp rv (.same s2) rs.al0) s3 (rs.same s2).al0) s4 rs3.al0
     cases bb with
     |false=>
      refine VX ?_
      obtain⟨r5,s5⟩:=back rs4
      have stB:=(stA.trans s4).trans s5
      rw[hln]at hp
      exact⟨_,_,ys,r5,stB,AR.stp rvA s5 rs4.al0,lenOf rs4,by omega,hp.step ((((Stp.same s2).trans s3).trans s4).trans s5)⟩
     |true=>
      refine VY (he M0 F4 Γ3 ν3 σ3 H4 _ rs4 hs3 ?_)
      dsimp only at hp
      cases ee:it Γ3 with
      |bad=>rw[ee]at hp;exact hp.elim
      |exc xx yy=>
       rw[ee]at hp
       intro F5 H5 rs5 s5
       obtain⟨r6,s6⟩:=back rs5
       exact hq _ _ _ _ _ (hp _ H5 (by rw[hln];exact r6) (((((Stp.same s2).trans s3).trans s4).trans s5).trans s6))
      |ok z=>
       obtain⟨u,Γ4⟩:=z
       rw[ee]at hp
       intro F5 H5 rs5 s5 v hv
       dsimp only at hp
       obtain⟨r6,s6⟩:=back rs5
       have stB:=((stA.trans s4).trans s5).trans s6
       rw[hln]at hp
       exact⟨_,_,add ys u,r6,stB,AR.add (AR.stp (AR.stp rvA s5 rs4.al0) s6 rs5.al0) (AR.bst hv s6 rs5.al0),lenOf rs5,by have:=AR.lin ys u;omega,hp.step (((((Stp.same s2).trans s3).trans s4).trans s5).trans s6)⟩
 ·have e:i=ds.length:=by omega
  subst e
  rw[uC,qw]at hp
  obtain⟨jgo,jst⟩:=hJ _ F' H st rs1.al0
  exact .inl ⟨jst (xi _),fin F' Γ' H ys vs rs rv (hp F' H rs (.refl _ _)) st⟩
theorem zb8{H:Hp}{a b:Addr}{o u:HO}(h:a≠b):upd (upd H a o) b u=upd (upd H b u) a o:=by
 funext c
 unfold upd
 by_cases h1:c=b
 ·rw[if_pos h1,if_neg (fun z=>h (z.symm.trans h1)),if_pos h1]
 ·rw[if_neg h1]
  by_cases h2:c=a
  ·rw[if_pos h2,if_pos h2]
  ·rw[if_neg h2,if_neg h2,if_neg h1]
theorem EPost.noX{α:Type}{M0:Addr->Prop}{F:Fp}{ν:Nu}{σ:St}{H:Hp}{P:Fp->Gv->Hp->α->Prop}{r:R (α×Gv)}(h:EPost M0 F ν σ H XP P (noX r)):EPost M0 F ν σ H XP P r:=by
 cases r with
 |exc x Γ=>exact h.elim
 |ok a=>exact h
 |bad=>exact h
theorem zgU{α β γ δ:Type}{ac:Acc α β}{ad:γ->δ->γ}{RA:(Addr->Prop)->Fp->Hp->α->γ->Prop}{RB:(Addr->Prop)->Fp->Hp->β->δ->Prop}{ln:γ->Nat}(AR:K2 ac ad RA RB ln){N':List Str}{scope:Scope}{n k:Nat}{ix:List Nat}{t:IT}{cond:EM Bool}{it:EM δ}{te:St->Hp->(β->Hp->Prop)->Prop}{M0:Addr->Prop}{F1:Fp}{ν:Nu}{σ:St}{H1 Hf:Hp}{J:It}{ds:List PyData}{Γ1:Gv}{Q:VK}{c0:γ}
  (hm:∀ j i:Nat,ix[j]?=some i->∃ m,mp[i]?=some m/\m<n) (hN':N'.length=k+ix.length) (h0:∀ M0 F H,RA M0 F H ac.a0 c0) (hl0:ln c0=0)
  (hg:∀ cl C s2 H2 fp,Cat X σ C s2 H2 fp->SG (X.comp N' scope cl C s2 H2 fp) (mpC mp n k ix) (·<n) tg t) (hc:∀ cl C s2 H2 fp,Cat X σ C s2 H2 fp->SF (X.comp N' scope cl C s2 H2 fp) (XPc XP σ) (mpC mp n k ix) ifs cond)
  (he:∀ (M0:Addr->Prop) (F:Fp) (Γ:Gv) (ν:Nu) (σ1:St) (H:Hp) (Q:β->Hp->Prop),RS M0 F Γ ν H->Sees (mpC mp n k ix) ν σ1->EPost M0 F ν σ1 H (XPc XP σ) (fun F' Γ' H' d=>∀ y,RB M0 F' H' y d->Q y H') (it Γ)->te σ1 H Q)
  (rs1:RS M0 F1 Γ1 ν H1) (hs:Sees mp ν σ) (wk:Wk X F1 H1 Hf) (hJ:JI M0 F1 J ds Hf) (hd:ds.length<=1000000) (hn:Γ1.length=n)
  (hp:EPost M0 F1 ν σ H1 XP (fun F' Γ' H' ys=>∀ vs p,RA M0 F' H' vs ys->H' p=none->Q (.ref p) (upd H' p (ac.ho vs))) (noX (qw k t cond it ad ds c0 Γ1))) :
  vT ac k ix (gU X N' scope tg σ) (fU X N' scope ifs σ) te σ J Hf fun ys H2=>∀ p,H2 p=none->(Q (.ref p) (upd H2 p (ac.ho ys))∨∃ a kvs o,upd H2 p (ac.ho ys) a=some (.frz o (.dK kvs))/\(∀ ob u,X.H₀ a≠some (.frz ob u))/\Q (.ref p) (upd (upd H2 p (ac.ho ys)) a (.dK kvs))):=by
 have plain:Hf=H1->vT ac k ix (gU X N' scope tg σ) (fU X N' scope ifs σ) te σ J Hf fun ys H2=>∀ p,H2 p=none->(Q (.ref p) (upd H2 p (ac.ho ys))∨∃ a kvs o,upd H2 p (ac.ho ys) a=some (.frz o (.dK kvs))/\(∀ ob u,X.H₀ a≠some (.frz ob u))/\Q (.ref p) (upd (upd H2 p (ac.ho ys)) a (.dK kvs))):=fun e=>by
  subst e
  exact qf AR hm hN' (h0 _ _ _) hl0 hg hc he (fun _ _ _ _ _ h=>⟨_,_,_,h⟩) rs1 hs hJ hd hn hp.noX fun F' Γ' H' ys vs rs' rv hP st p hp'=>.inl (hP vs p rv hp')
 rcases wk with e | ⟨a,o,kvs,⟨ef,e | ⟨ea,e,hH⟩⟩,hna⟩
 ·exact plain e
 ·exact plain e
 ·subst e
  have hp2:EPost M0 F1 ν σ (upd H1 a (.frz o (.dK kvs))) XP (fun F' Γ' H' ys=>∀ vs p,RA M0 F' (upd H' a (.dK kvs)) vs ys->upd H' a (.dK kvs) p=none->Q (.ref p) (upd (upd H' a (.dK kvs)) p (ac.ho vs))) (qw k t cond it ad ds c0 Γ1):=by
   cases er:qw k t cond it ad ds c0 Γ1 with
   |bad=>rw[er]at hp;exact hp
   |exc x y=>rw[er]at hp;exact hp.elim
   |ok z=>
    rw[er]at hp
    intro F' H' rs' s'
    have ka:=(s'.keep a _ zf hna).1
    exact hp F' _ (rs'.eqv (yv ka) fun i b hb=>zd fun z=>(s'.keep a _ zf hna).2 i (by rw[<- z];exact hb)) (zbR ea s' hna)
  refine qf AR hm hN' (h0 _ _ _) hl0 hg hc he (fun _ _ _ _ _ h=>⟨_,_,_,h⟩) (rs1.eqv (zfb ⟨zf,.inr ⟨ea,rfl,hH⟩⟩) fun i b hb=>zd fun z=>hna i (by rw[<- z];exact hb)) hs hJ hd hn hp2 fun F' Γ' H' ys vs rs' rv hP st p hp'=>.inr ⟨a,kvs,o,?_,hH,?_⟩
  ·have ka:=(st.keep a _ zf hna).1
   rw[zd (fun z=>by subst z;rw[ka]at hp';cases hp')];exact ka
  ·have ka:=(st.keep a _ zf hna).1
   have hpa:p≠a:=fun z=>by subst z;rw[ka]at hp';cases hp'
   rw[zb8 hpa]
   exact hP vs p (AR.eqv rv (yv ka)) (by rw[zd hpa];exact hp')
theorem zgV{α β γ δ:Type}{ac:Acc α β}{ad:γ->δ->γ}{RA:(Addr->Prop)->Fp->Hp->α->γ->Prop}{RB:(Addr->Prop)->Fp->Hp->β->δ->Prop}{ln:γ->Nat}(AR:K2 ac ad RA RB ln){N':List Str}{scope:Scope}{n k:Nat}{ix:List Nat}{t:IT}{cond:EM Bool}{it:EM δ}{te:St->Hp->(β->Hp->Prop)->Prop}{M0:Addr->Prop}{F1:Fp}{ν:Nu}{σ:St}{H1 Hf:Hp}{J:It}{z:List PyData×Option (Option Nat)}{Γ1:Gv}{Q:VK}{c0:γ}
  (hm:∀ j i:Nat,ix[j]?=some i->∃ m,mp[i]?=some m/\m<n) (hN':N'.length=k+ix.length) (h0:∀ M0 F H,RA M0 F H ac.a0 c0) (hl0:ln c0=0)
  (hg:∀ cl C s2 H2 fp,Cat X σ C s2 H2 fp->SG (X.comp N' scope cl C s2 H2 fp) (mpC mp n k ix) (·<n) tg t) (hc:∀ cl C s2 H2 fp,Cat X σ C s2 H2 fp->SF (X.comp N' scope cl C s2 H2 fp) (XPc XP σ) (mpC mp n k ix) ifs cond)
  (he:∀ (M0:Addr->Prop) (F:Fp) (Γ:Gv) (ν:Nu) (σ1:St) (H:Hp) (Q:β->Hp->Prop),RS M0 F Γ ν H->Sees (mpC mp n k ix) ν σ1->EPost M0 F ν σ1 H (XPc XP σ) (fun F' Γ' H' d=>∀ y,RB M0 F' H' y d->Q y H') (it Γ)->te σ1 H Q)
  (rs1:RS M0 F1 Γ1 ν H1) (hs:Sees mp ν σ) (hJ:JIw X M0 F1 J z H1 Hf) (hd:z.1.length<=1000000) (hn:Γ1.length=n)
  (hp:EPost M0 F1 ν σ H1 XP (fun F' Γ' H' ys=>∀ vs p,RA M0 F' H' vs ys->H' p=none->Q (.ref p) (upd H' p (ac.ho vs))) (hid z.2 (qw k t cond it ad z.1 c0) Γ1)) :
  vT ac k ix (gU X N' scope tg σ) (fU X N' scope ifs σ) te σ J Hf fun ys H2=>∀ p,H2 p=none->(Q (.ref p) (upd H2 p (ac.ho ys))∨∃ a kvs o,upd H2 p (ac.ho ys) a=some (.frz o (.dK kvs))/\(∀ ob u,X.H₀ a≠some (.frz ob u))/\Q (.ref p) (upd (upd H2 p (ac.ho ys)) a (.dK kvs))):=by
 obtain⟨ds,z⟩:=z
 cases z with
 |none=>
  obtain⟨rfl,hJ⟩:=hJ
  exact qf AR hm hN' (h0 _ _ _) hl0 hg hc he (fun _ _ _ _ _ h=>⟨_,_,_,h⟩) rs1 hs hJ hd hn hp fun F' Γ' H' ys vs rs' rv hP st p hp'=>.inl (hP vs p rv hp')
 |some z=>cases z with
  |none=>exact zgU AR hm hN' h0 hl0 hg hc he rs1 hs hJ.1 hJ.2 hd hn hp
  |some i=>
   obtain⟨rfl,hJ⟩:=hJ
   dsimp only [hid]at hp
   split at hp
   ·rename_i o eo
    refine qf AR hm hN' (h0 _ _ _) hl0 hg hc he (fun _ _ _ _ _ h=>h) (rs1.hide (i:=i)) hs hJ hd (by rw[xL];exact hn) (P:=fun F' Γ' H' ys=>∀ vs p,RA (Qx M0 F1 i) F' H' vs ys->H' p=none->Q (.ref p) (upd H' p (ac.ho vs))) (XQ:=XPc XP σ) ?_ fun F' Γ' H' ys vs rs' rv hP st p hp'=>.inl (hP vs p rv hp')
    generalize qw k t cond it ad ds c0 (Γ1.set i none)=r at hp
    cases r with
    |bad=>exact hp
    |exc x Γ2=>
     dsimp only at hp
     split at hp
     ·rename_i e2
      intro F' H' rs' s'
      obtain⟨rs3,s3⟩:=rs1.unhide eo rs' e2 s'
      exact⟨_,_,_,hp _ H' rs3 s3⟩
     ·exact hp.elim
    |ok w=>
     obtain⟨ys,Γ2⟩:=w
     dsimp only at hp
     split at hp
     ·rename_i e2
      intro F' H' rs' s' vs p ra hp'
      obtain⟨rs3,s3⟩:=rs1.unhide eo rs' e2 s'
      exact hp _ H' rs3 s3 vs p (AR.mm (QD (rs'.emp i fun o z=>by rw[e2]at z;cases z)) ra) hp'
     ·exact hp.elim
   ·exact hp.elim
noncomputable def itL(elt:EM FV):EM PyData:=fun Γ=>(elt Γ).bind fun (u,Γ1)=>match derS Γ1 u with
 |some y=>.ok (y,Γ1)
 |none=>.bad
theorem kO:K2 zcp (fun (ys:List PyData) y=>ys++ [y]) (fun M0 F H vs ys=>RepL (MM M0 F) H vs ys) (fun M0 F H v y=>Rep (MM M0 F) H v y) List.length where
 stp r s h0:=qP s h0 r
 add r q:=RepL.append r (.cons q .nil)
 bst r s h0:=zr s h0 r
 len r:=r.length
 lin y d:=by simp
 eqv r h:=RepL.eqv h r
 mm e r:=by rw[<- e];exact r
noncomputable def zF(k:Nat)(t:IT)(cond:EM Bool)(elt:EM FV):List PyData->List PyData->Gv->R (List PyData×Gv):=qw k t cond (itL elt) fun ys y=>ys++ [y]
noncomputable def fComp(n k:Nat)(t:IT)(src:EM (List PyData))(cond:EM Bool)(elt:EM FV):EM (List PyData):=fun Γ=>(src Γ).bind fun (ds,Γ1)=>if ds.length<=1000000/\Γ1.length=n then zF k t cond elt ds [] Γ1 else .bad
theorem zfh{mp':List Nat}{Y:Cx}{el:EM FV}{XP:XPT}(he:SE Y XP mp' elt el){M0:Addr->Prop}{F:Fp}{Γ:Gv}{ν:Nu}{σ:St}{H:Hp}{Q:VK}(rs:RS M0 F Γ ν H)(hs:Sees mp' ν σ)(hp:EPost M0 F ν σ H XP (fun F' Γ' H' d=>∀ y,Rep (MM M0 F') H' y d->Q y H') (itL el Γ)):wpE Y elt σ H Q :=
 he.run rs hs hp fun F1 Γ1 H1 u v rs1 s1 o1 h1=>by
  dsimp only at h1
  split at h1
  ·rename_i y ey
   exact h1 F1 H1 rs1 (.refl _ _) v (o1.strong rs1 ey)
  ·exact h1.elim
theorem yj{N':List Str}{scope:Scope}{n k:Nat}{ix:List Nat}{t:IT}{src:EM (List PyData)}{cond:EM Bool}{el:EM FV}(S:CSc X.env.scope X.N scope N' k ix)(hm:∀ j i:Nat,ix[j]?=some i->∃ m,mp[i]?=some m/\m<n)
  (hi:SI X XP mp tg iter src) (hg:∀ σ cl C s2 H2 fp,Cat X σ C s2 H2 fp->SG (X.comp N' scope cl C s2 H2 fp) (mpC mp n k ix) (·<n) tg t) (hc:∀ σ cl C s2 H2 fp,Cat X σ C s2 H2 fp->SF (X.comp N' scope cl C s2 H2 fp) (XPc XP σ) (mpC mp n k ix) ifs cond) (he:∀ σ cl C s2 H2 fp,Cat X σ C s2 H2 fp->SE (X.comp N' scope cl C s2 H2 fp) (XPc XP σ) (mpC mp n k ix) elt el) :
  SNt XP mp (vB k ix (wpI X tg iter) (gU X N' scope tg) (fU X N' scope ifs) (eU X N' scope elt)) (fComp n k t src cond el):=fun M0 F Γ ν σ H Q rs hs hp=>by
 refine hi M0 F Γ ν σ H _ rs hs (hp.seq.mono fun F1 Γ1 H1 ds rs1 s1 h1 J hJ=>?_)
 dsimp only at h1
 split at h1
 ·rename_i hh
  exact qf kO hm S.len .nil rfl (hg σ) (hc σ) (fun M0 F Γ ν σ1 H Q rs hs hp cl C s2 H2 fp c=>zfh (he σ cl C s2 H2 fp c) rs hs hp) (fun _ _ _ _ _ h=>⟨_,_,_,h⟩) rs1 hs hJ hh.1 hh.2 h1 fun F' Γ' H' ys vs rs' rv hP _ p hp'=>hP vs p rv hp'
 ·exact h1.elim
theorem zdM{N':List Str}{scope:Scope}{n k:Nat}{ix:List Nat}{t:IT}{src:EM (List PyData)}{cond:EM Bool}{el:EM FV}(hcalm:X.calm=true)(S:CSc X.env.scope X.N scope N' k ix)(hm:∀ j i:Nat,ix[j]?=some i->∃ m,mp[i]?=some m/\m<n)
  (hi:SI X XP mp tg iter src) (hg:∀ σ cl C s2 H2 fp,Cat X σ C s2 H2 fp->SG (X.comp N' scope cl C s2 H2 fp) (mpC mp n k ix) (·<n) tg t) (hc:∀ σ cl C s2 H2 fp,Cat X σ C s2 H2 fp->SF (X.comp N' scope cl C s2 H2 fp) (XPc XP σ) (mpC mp n k ix) ifs cond) (he:∀ σ cl C s2 H2 fp,Cat X σ C s2 H2 fp->SE (X.comp N' scope cl C s2 H2 fp) (XPc XP σ) (mpC mp n k ix) elt el)
  (hf:∀ x,foldedSetIterable iter X.env x=pure x):SN X XP mp (.ListComp elt [⟨tg,iter,ifs,0⟩] scope pos) (fComp n k t src cond el):=fun M0 F Γ ν σ H Q rs hs hp=>
 (za0 hcalm S hf).wp (yj S hm hi hg hc he M0 F Γ ν σ H Q rs hs hp)
noncomputable def SD(X:Cx)(XP:XPT)(mp:List Nat)(e:Expr)(f:EM (List (Str×PyData))):Prop:=∀ (M0:Addr->Prop) (F:Fp) (Γ:Gv) (ν:Nu) (σ:St) (H:Hp) (Q:VK),RS M0 F Γ ν H->Sees mp ν σ ->
 EPost M0 F ν σ H XP (fun F' Γ' H' ds=>∀ ks p,KR (MM M0 F') H' ks ds->H' p=none->Q (.ref p) (upd H' p (.dK (ks.map kK)))) (f Γ)->wpE X e σ H Q
noncomputable def SDt(XP:XPT)(mp:List Nat)(t:TE)(f:EM (List (Str×PyData))):Prop:=∀ (M0:Addr->Prop) (F:Fp) (Γ:Gv) (ν:Nu) (σ:St) (H:Hp) (Q:VK),RS M0 F Γ ν H->Sees mp ν σ ->
 EPost M0 F ν σ H XP (fun F' Γ' H' ds=>∀ ks p,KR (MM M0 F') H' ks ds->H' p=none->Q (.ref p) (upd H' p (.dK (ks.map kK)))) (f Γ)->t σ H Q
theorem KR.stp{M0:Addr->Prop}{F F':Fp}{H H':Hp}{ks:List (Str×V)}{ds:List (Str×PyData)}(h:KR (MM M0 F) H ks ds)(s:Stp F H F' H')(h0:∀ a,M0 a->H a≠none):KR (MM M0 F') H' ks ds:=h.map fun _ _ x=>zr s h0 x
noncomputable def itD(ek ev:EM FV):EM (Str×PyData):=fun Γ=>(ek Γ).bind fun (u,Γ1)=>match derf Γ1 u with
 |some (.str x)=>(ev Γ1).bind fun (w,Γ2)=>match derS Γ2 w with
  |some y=>.ok ((x,y),Γ2)
  |none=>.bad
 |_=>.bad
theorem WU:K2 zco (fun (ys:List (Str×PyData)) (y:Str×PyData)=>WL ys y.1 y.2) (fun M0 F H kvs ys=>∃ ks,kvs=ks.map kK/\KR (MM M0 F) H ks ys) (fun M0 F H (u:Key×V) (y:Str×PyData)=>u.1=.inr y.1/\Rep (MM M0 F) H u.2 y.2) List.length where
 stp:=fun ⟨ks,e,r⟩ s h0=>⟨ks,e,KR.stp r s h0⟩
 add:=fun {M0 F H x y u d} ⟨ks,e,r⟩ ⟨q1,q2⟩=>⟨WL ks d.1 u.2,by rw[e,<- zdg,<- q1],r.put d.1 q2⟩
 bst:=fun ⟨q1,q2⟩ s h0=>⟨q1,zr s h0 q2⟩
 len:=fun ⟨ks,e,r⟩=>by rw[e];show (ks.map kK).length=_;rw[xt,r.length]
 lin y d:=V2 y d.1 d.2
 eqv:=fun ⟨ks,e,r⟩ h=>⟨ks,e,r.map fun _ _ x=>Rep.eqv h x⟩
 mm:=fun e ⟨ks,e',r⟩=>⟨ks,e',by rw[<- e];exact r⟩
noncomputable def eD(X:Cx)(N':List Str)(scope:Scope)(kx vx:Expr)(σ0:St):St->Hp->(Key×V->Hp->Prop)->Prop:=yu (eU X N' scope kx σ0) (eU X N' scope vx σ0)
noncomputable def v7(n k:Nat)(t:IT)(src:EM (List PyData×Option (Option Nat)))(cond:EM Bool)(ek ev:EM FV):EM (List (Str×PyData)):=fun Γ=>(src Γ).bind fun (z,Γ1)=>if z.1.length<=1000000/\Γ1.length=n then hid z.2 (qw k t cond (itD ek ev) (fun ys y=>WL ys y.1 y.2) z.1 []) Γ1 else .bad
theorem Kp{kx vx:Expr}{N':List Str}{scope:Scope}{k:Nat}{ix:List Nat}(hcalm:X.calm=true)(S:CSc X.env.scope X.N scope N' k ix)(hf:∀ x,foldedSetIterable iter X.env x=pure x) :
  PE X (.DictComp kx vx [⟨tg,iter,ifs,0⟩] scope pos) (JU k ix (wpI X tg iter) (gU X N' scope tg) (fU X N' scope ifs) (eD X N' scope kx vx)) :=
 zaZ hcalm S QK (fun _ cl C s2 H2 fp c pins s σ H v u Q I r h=>h cl C s2 H2 fp c pins s u I r) (fun _ cl C s2 H2 fp c pins s σ H Q I h=>h cl C s2 H2 fp c pins s I)
  (fun _ cl C s2 H2 fp c pins s σ H Q I h=>h cl C s2 H2 fp c pins s I) (fun _ cl C s2 H2 fp c pins s σ H Q I h=>h cl C s2 H2 fp c pins s I) hf
theorem zel{N':List Str}{scope:Scope}{mp':List Nat}{kx vx:Expr}{ek ev:EM FV}{σ0:St}(hk:∀ cl C s2 H2 fp,Cat X σ0 C s2 H2 fp->SE (X.comp N' scope cl C s2 H2 fp) (XPc XP σ0) mp' kx ek)(hv:∀ cl C s2 H2 fp,Cat X σ0 C s2 H2 fp->SE (X.comp N' scope cl C s2 H2 fp) (XPc XP σ0) mp' vx ev){M0:Addr->Prop}{F:Fp}{Γ:Gv}{ν:Nu}{σ:St}{H:Hp}{Q:Key×V->Hp->Prop}(rs:RS M0 F Γ ν H)(hs:Sees mp' ν σ)
  (hp:EPost M0 F ν σ H (XPc XP σ0) (fun F' Γ' H' d=>∀ y:Key×V,(y.1=.inr d.1/\Rep (MM M0 F') H' y.2 d.2)->Q y H') (itD ek ev Γ)):eD X N' scope kx vx σ0 σ H Q:=fun cl C s2 H2 fp c=>
 (hk cl C s2 H2 fp c).run rs hs hp fun F1 Γ1 H1 u v rs1 s1 o1 h1=>by
  dsimp only at h1
  split at h1
  ·rename_i x ex
   cases o1.weak rs1 ex
   intro cl C s2 H2 fp c
   refine (hv cl C s2 H2 fp c).run rs1 hs h1 fun F2 Γ2 H2 w v2 rs2 s2 o2 h2=>?_
   dsimp only at h2
   split at h2
   ·rename_i y ey
    exact⟨.inr x,rfl,h2 F2 H2 rs2 (.refl _ _) (.inr x,v2) ⟨rfl,o2.strong rs2 ey⟩⟩
   ·exact h2.elim
  ·exact h1.elim
theorem zdt{kx vx:Expr}{N':List Str}{scope:Scope}{n k:Nat}{ix:List Nat}{t:IT}{src:EM (List PyData×Option (Option Nat))}{cond:EM Bool}{ek ev:EM FV}(hcalm:X.calm=true)(S:CSc X.env.scope X.N scope N' k ix)(hm:∀ j i:Nat,ix[j]?=some i->∃ m,mp[i]?=some m/\m<n)
  (hi:SIw X XP mp tg iter src) (hg:∀ σ cl C s2 H2 fp,Cat X σ C s2 H2 fp->SG (X.comp N' scope cl C s2 H2 fp) (mpC mp n k ix) (·<n) tg t) (hc:∀ σ cl C s2 H2 fp,Cat X σ C s2 H2 fp->SF (X.comp N' scope cl C s2 H2 fp) (XPc XP σ) (mpC mp n k ix) ifs cond) (hk:∀ σ cl C s2 H2 fp,Cat X σ C s2 H2 fp->SE (X.comp N' scope cl C s2 H2 fp) (XPc XP σ) (mpC mp n k ix) kx ek) (hv:∀ σ cl C s2 H2 fp,Cat X σ C s2 H2 fp->SE (X.comp N' scope cl C s2 H2 fp) (XPc XP σ) (mpC mp n k ix) vx ev)
  (hf:∀ x,foldedSetIterable iter X.env x=pure x):SD X XP mp (.DictComp kx vx [⟨tg,iter,ifs,0⟩] scope pos) (v7 n k t src cond ek ev):=fun M0 F Γ ν σ H Q rs hs hp=>
 zcd ((Kp hcalm S hf).wp (hi M0 F Γ ν σ H _ rs hs (hp.seq.mono fun F1 Γ1 H1 z rs1 s1 h1 J Hf hJ=>by
  dsimp only at h1
  split at h1
  ·rename_i hh
   exact zgV WU hm S.len (fun _ _ _=>⟨[],rfl,.nil⟩) rfl (hg σ) (hc σ) (fun M0 F Γ ν σ1 H Q rs hs hp=>zel (hk σ) (hv σ) rs hs hp) rs1 hs hJ hh.1 hh.2 (h1.mono fun F' Γ' H' ys rs' s' hP vs p ⟨ks,e,r⟩ hp'=>by rw[e];exact hP ks p r hp')
  ·exact h1.elim)))
theorem zbr{kx vx:Expr}{N':List Str}{scope:Scope}{n k:Nat}{ix:List Nat}{t:IT}{src:EM (List PyData)}{cond:EM Bool}{ek ev:EM FV}(S:CSc X.env.scope X.N scope N' k ix)(hm:∀ j i:Nat,ix[j]?=some i->∃ m,mp[i]?=some m/\m<n)
  (hi:SI X XP mp tg iter src) (hg:∀ σ cl C s2 H2 fp,Cat X σ C s2 H2 fp->SG (X.comp N' scope cl C s2 H2 fp) (mpC mp n k ix) (·<n) tg t) (hc:∀ σ cl C s2 H2 fp,Cat X σ C s2 H2 fp->SF (X.comp N' scope cl C s2 H2 fp) (XPc XP σ) (mpC mp n k ix) ifs cond) (hk:∀ σ cl C s2 H2 fp,Cat X σ C s2 H2 fp->SE (X.comp N' scope cl C s2 H2 fp) (XPc XP σ) (mpC mp n k ix) kx ek) (hv:∀ σ cl C s2 H2 fp,Cat X σ C s2 H2 fp->SE (X.comp N' scope cl C s2 H2 fp) (XPc XP σ) (mpC mp n k ix) vx ev) :
  SDt XP mp (JU k ix (wpI X tg iter) (gU X N' scope tg) (fU X N' scope ifs) (eD X N' scope kx vx)) (v7 n k t (zcI src) cond ek ev):=fun M0 F Γ ν σ H Q rs hs hp=>by
 unfold v7 zcI at hp
 rw[R.bind_assoc]at hp
 refine hi M0 F Γ ν σ H _ rs hs (hp.seq.mono fun F1 Γ1 H1 ds rs1 s1 h1 J hJ=>?_)
 simp only[R.bind,hid]at h1
 split at h1
 ·rename_i hh
  exact qf WU hm S.len ⟨[],rfl,.nil⟩ rfl (hg σ) (hc σ) (fun M0 F Γ ν σ1 H Q rs hs hp=>zel (hk σ) (hv σ) rs hs hp) (fun _ _ _ _ _ h=>⟨_,_,_,h⟩) rs1 hs hJ hh.1 hh.2 h1 fun F' Γ' H' ys vs rs' ⟨ks,e,r⟩ hP _ p hp'=>by
   rw[e];exact hP ks p r hp'
 ·exact h1.elim
theorem zbb{kx vx:Expr}{N':List Str}{scope:Scope}{k:Nat}{ix:List Nat}{i:Nat}{x:Str}{pos' spos:Pos}(hN:X.N.Nodup)(hi':X.N[i]?=some x)(hx:Loc X.env.scope x)(hcalm:X.calm=true)(S:CSc X.env.scope X.N scope N' k ix)
  (hsw:swapsWith (.DictComp kx vx [⟨tg,iter,ifs,0⟩] scope pos) (some (.Name x pos')) spos.line X.env=pure true) (hs:∀ x,foldedSetIterable iter X.env x=pure x) (hf:X.fn x=true∨X.env.scope.names.lookup x=some .local) :
  PS X (.Assign [.Name x pos'] (.DictComp kx vx [⟨tg,iter,ifs,0⟩] scope pos) spos) (yt (JU k ix (wpI X tg iter) (gU X N' scope tg) (fU X N' scope ifs) (eD X N' scope kx vx)) (wI i)) :=
 zba hN hi' hx hcalm S QK (fun _ cl C s2 H2 fp c pins s σ H v u Q I r h=>h cl C s2 H2 fp c pins s u I r) (fun _ cl C s2 H2 fp c pins s σ H Q I h=>h cl C s2 H2 fp c pins s I)
  (fun _ cl C s2 H2 fp c pins s σ H Q I h=>h cl C s2 H2 fp c pins s I) (fun _ cl C s2 H2 fp c pins s σ H Q I h=>h cl C s2 H2 fp c pins s I) hsw hs hf
end
end L3
namespace L2
open PySem PySem.Spec PyProof.Rows
variable [Cs]
noncomputable def zgw(tk tv:TE):TE:=fun σ H Q=>tk σ H fun x H1=>tv σ H1 fun y H2=>∃ k:Key,x=kV k/\∀ p,H2 p=none->Q (.ref p) (upd H2 p (.dK [(k,y)]))
theorem za1{X:Cx}{pos:Pos}{k v:Expr}{tk tv:TE}(hk:PE X k tk)(hv:PE X v tv):PE X (.Dict [some k] [v] pos) (zgw tk tv):=by
 intro pins s σ H Q I q
 have hn:=I.hok.fresh (xi s.heap.objs.size)
 have e0:(s.heap.push { cls:=.type "dict",data:=.dict #[] }).get? s.heap.objs.size=some { cls:=.type "dict",data:=.dict #[] }:=Heap.get?_push_size _ rfl
 have I0:Inv X pins σ H { s with heap:=s.heap.push { cls:=.type "dict",data:=.dict #[] } }:=I.kept (t':=s.toks) fun b o e=>Heap.get?_push_of_some _ e
 have I1:=I0.pinned (fp:= [s.heap.objs.size]) (fun b hb=>by
  have e:b=s.heap.objs.size:=by simpa using hb
  subst e
  exact I.fpOk (xi _) hn) (fun b hb=>by
  have e:b=s.heap.objs.size:=by simpa using hb
  subst e
  exact⟨_,e0,fun v z=>by cases z⟩)
 refine wpAny_Dict_walk (knd:=qG X.prog X.w) rfl rfl (by simp) (by simp) (pairTrees_cons_walk (thn (hk _ _ σ _ _ I1 q) fun kv s2 ⟨x,H1,I2,rx,q1⟩=>thn (hv _ _ σ _ _ I2 q1) fun vv s3 ⟨y,H2,I3,ry,kk,ek,q2⟩=>pairTrees_nil_walk ?_))
 have hm:=jf (fp:= [s.heap.objs.size]) (by simp) e0
 obtain⟨p1,p2,_⟩:=I3.pin _ (xv _ (xv _ hm))
 have I4:Inv X pins σ H2 s3:=I3.unpinned
 subst ek
 refine⟨[(kk,vv)],⟨zes rx,rfl,True.intro⟩,⟨_,#[],0,p1,⟨rfl,rfl,rfl⟩,rfl,fun _ he=>by simp at he,Pairs.nil,List.nodup_nil⟩,fun h' dd hs=>⟨.ref s.heap.objs.size,_,?_,rfl,q2 _ p2⟩⟩
 have em:merged [] [(kk,vv)]= [(kk,vv)]:=rfl
 rw[em]at dd
 have I5:Inv X pins σ H2 { s3 with heap:=h',toks:=s3.toks+ [(kv,vv)].length }:=I4.turned (it:=s.heap.objs.size) (fun b o hb e=>(hs.2 b hb).trans e) p2 (Ne.symm (xl I.lt)) (.inr I.sz)
  (fun x c e=>by
   obtain⟨v,ob,hob,_⟩:=I.cell x c e
   exact xl (Heap.lt_size hob)) (fun p hp=>xl (Heap.lt_size (I.pin p hp).1))
 exact I5.track I.sz p2 (Ne.symm (xl I.lt)) (fun x c e=>by
   obtain⟨v,ob,hob,_⟩:=I.cell x c e
   exact xl (Heap.lt_size hob)) (fun p hp=>xl (Heap.lt_size (I.pin p hp).1)) (ze7 (by show 1<=sizeLine;decide) (beq_eq_false_iff_ne.mpr (Ne.symm (xl I.big))) (.cons ⟨rfl,ry⟩ .nil) dd)
end L2
namespace L3
open PySem PySem.Spec PyProof.Rows L2
variable [Cs]
section
variable {M0:Addr->Prop} {F F':Fp} {Γ Γ':Gv} {ν ν':Nu} {H H':Hp} {c:Str} {ns:List Str} {xs:List OV}
theorem zfu{i:Nat}{v:V}(h:ν[i]?=some (some v)):ν.set i (some v)=ν:=by
 apply ue
 intro k
 by_cases hk:i=k
 ·subst hk;rw[xh (xb.mp h).1,h]
 ·rw[xg hk]
end
structure FldK(X:Cx)(c f:Str):Prop where
 cl:Cls X.K (Cs.adr c)
 no:Z7 X.K (Cs.adr c) f
section
variable {X:Cx} {XP:XPT} {mp io:List Nat} {a b e:Expr} {es:List Expr} {pos p p2 pos' p3:Pos} {fa fb fc:EM FV} {fo:EM OV} {kx:Nat} {c f x:Str} {s i:Nat} {M0:Addr->Prop} {F:Fp} {Γ:Gv} {ν:Nu} {σ:St} {H:Hp}
end
section
variable {X:Cx} {XP:XPT} {mp io:List Nat} {a b e:Expr} {es:List Expr} {pos p p2 pos' p3:Pos} {fa fb fc:EM FV} {fo:EM OV} {kx:Nat} {c f x:Str} {s i:Nat} {M0:Addr->Prop} {F:Fp} {Γ:Gv} {ν:Nu} {σ:St} {H H':Hp}
end
section
variable {X:Cx} {XP:XPT} {mp io:List Nat} {a b c e tg iter elt:Expr} {es ifs:List Expr} {pos p p2 pos' p3:Pos} {fa fb fc:EM FV} {fo:EM OV} {na:EM (List PyData)} {ma:EM (List (Str×PyData))} {kx:Nat} {cl f x:Str} {s i:Nat} {M0:Addr->Prop} {F:Fp} {Γ:Gv} {ν:Nu} {σ:St} {H H':Hp} {u:FV} {v:V}
theorem RS.newM{p:Addr}{ks:List (Str×V)}{ds:List (Str×PyData)}(r:RS M0 F Γ ν H)(n:H p=none)(q:KR (MM M0 F) H ks ds) :
  RS M0 (zH F Γ.length [p]) (Γ++ [some (.m ds)]) (ν++ [some (.ref p)]) (upd H p (.dK (ks.map kK)))/\Stp F H (zH F Γ.length [p]) (upd H p (.dK (ks.map kK))):=by
 have hp:∀ i,p∉F i:=fun i h=>by
  obtain⟨vs,e⟩:=r.laidF h
  rw[n]at e;cases e
 have s:Stp F H (zH F Γ.length [p]) (upd H p (.dK (ks.map kK))):=⟨fun b o e nb=>⟨zv n b o e,fun j h=>by
  by_cases hj:j=Γ.length
  ·subst hj;rw[ze]at h
   have e':b=p:=by simpa using h
   subst e';rw[n]at e;cases e
  ·rw[zi hj]at h;exact nb j h⟩,fun b xs e=>zv n b _ e,fun b h=>by
   by_cases e:b=p
   ·subst e;exact absurd n h
   ·rw[zd e];exact h⟩
 have q':=KR.stp q s r.al0
 have r1:=(r.ext 1).put (i:=Γ.length) (o:=.m ds) (v:=.ref p) (A:= [p]) (H':=upd H p (.dK (ks.map kK))) s (fun j _ a ha=>zd (fun e=>hp j (by rw[<- e];exact ha)))
  (fun a h=>s.stay a (r.al0 a h)) (fun a ha h=>by
   have e:a=p:=by simpa using ha
   subst e;exact r.al0 a h n) (xG.mpr ⟨(fun z=>nomatch z),.nil⟩) (fun j _ a ha=>by
   have e:a=p:=by simpa using ha
   subst e;exact hp j) (by simp) (.m zf q'.keys q'.vals)
 rw[jO]at r1
 have e2:(ν++List.replicate 1 none).set Γ.length (some (V.ref p))=ν++ [some (V.ref p)]:=by rw[<- r.len,jO]
 rw[e2]at r1
 exact⟨r1,s⟩
noncomputable def VS(n:EM (List (Str×PyData))):EM OV:=fun Γ=>(n Γ).bind fun (ds,Γ1)=>.ok (.m ds,Γ1)
theorem SD.so(h:SD X XP mp a ma):SO X XP mp a (VS ma):=fun M0 F Γ ν σ H Q rs hs hp=>
 h M0 F Γ ν σ H Q rs hs (hp.seq.mono fun F1 Γ1 H1 ds rs1 s1 h1 ks p r n=>by
  obtain⟨r2,s2⟩:=rs1.newM n r
  exact h1 _ _ _ r2 s2)
noncomputable def VR(n:EM (List (Str×PyData))):EM FV:=fOD (VS n)
theorem SD.se(h:SD X XP mp a ma):SE X XP mp a (VR ma):=h.so.se
theorem SDt.so{t:TE}(h:SDt XP mp t ma):SOt XP mp t (VS ma):=fun M0 F Γ ν σ H Q rs hs hp=>
 h M0 F Γ ν σ H Q rs hs (hp.seq.mono fun F1 Γ1 H1 ds rs1 s1 h1 ks p r n=>by
  obtain⟨r2,s2⟩:=rs1.newM n r
  exact h1 _ _ _ r2 s2)
theorem SDt.sd{t:TE}(h:SDt XP mp t ma):SOt XP mp t (fD (VR ma)):=fun M0 F Γ ν σ H Q rs hs hp=>
 h M0 F Γ ν σ H Q rs hs (by
  have hp':OPost M0 F ν σ H XP (fun F' Γ' H' o v=>Q v H') ((ma Γ).bind fun (ds,Γ1)=>.ok (.d (.dict (ds.map dK)),Γ1)):=by
   have e:fD (VR ma) Γ=(ma Γ).bind fun (ds,Γ1)=>.ok (.d (.dict (ds.map dK)),Γ1):=by
    unfold fD VR fOD VS
    cases ma Γ<;>rfl
   rw[<- e];exact hp
  exact hp'.seq.mono fun F1 Γ1 H1 ds rs1 s1 h1 ks p r n=>by
   obtain⟨r2,s2⟩:=rs1.newM n r
   obtain⟨F3,r3,s3,q3⟩:=r2.dropD
   exact h1 F3 _ _ (r3.newD q3) (s2.trans s3))
noncomputable def zem:EM (List (Str×PyData)):=fun Γ=>.ok ([],Γ)
theorem zf0:SD X XP mp (.Dict [] [] pos) zem:=fun M0 F Γ ν σ H Q rs hs hp=>pe_dnewK.wp fun p n=>hp F H rs (.refl _ _) [] p .nil n
noncomputable def zen(fa fb:EM FV):EM (List (Str×PyData)):=fun Γ=>(fa Γ).bind fun (u,Γ1)=>match derf Γ1 u with
 |some (.str z)=>(fb Γ1).bind fun (w,Γ2)=>match derS Γ2 w with
  |some y=>.ok ([(z,y)],Γ2)
  |none=>.bad
 |_=>.bad
theorem zf1(ha:SE X XP mp a fa)(hb:SE X XP mp b fb):SD X XP mp (.Dict [some a] [b] pos) (zen fa fb):=fun M0 F Γ ν σ H Q rs hs hp=>
 (za1 zc zc).wp (ha.run rs hs hp fun F1 Γ1 H1 u v rs1 s1 o1 h1=>by
  dsimp only at h1
  split at h1
  ·rename_i z ez
   cases o1.weak rs1 ez
   refine hb.run rs1 hs h1 fun F2 Γ2 H2 w v2 rs2 s2 o2 h2=>?_
   dsimp only at h2
   split at h2
   ·rename_i y ey
    exact⟨.inr z,rfl,fun p n=>h2 F2 H2 rs2 (.refl _ _) [(z,v2)] p (.cons (o2.strong rs2 ey) .nil) n⟩
   ·exact h2.elim
  ·exact h1.elim)
end
section
variable {X:Cx} {XP:XPT} {mp io:List Nat} {a b e tg iter elt:Expr} {es ifs:List Expr} {pos p p2 pos' p3 apos cpos:Pos} {fa fb fc:EM FV} {fo:EM OV} {na:EM (List PyData)} {ma:EM (List (Str×PyData))} {kx:Nat} {c f x:Str} {s i:Nat} {M0:Addr->Prop} {F:Fp} {Γ:Gv} {ν:Nu} {σ:St} {H H':Hp} {u:FV} {v:V}
end
end L3
namespace L2
open PySem PySem.Spec PyProof.Rows
variable [Cs]
section
variable {X:Cx} {σ:St} {H:Hp} {CX:CXT} {E:XK} {sp:Sp} {Q:VK} {C f:Addr} {fd:FuncData} {ps:List Str} {k:Nat} {m x:Str} {o e:Expr} {es:List Expr} {p pos apos:Pos}
end
structure KnM(P:Program)(w:World)(K:PySem.W.Frag)(mg:Str->Option Value)(base:Heap)(CX:CXT)(C:Addr)(m:Str)(k:Nat)(sp:Sp):Prop where
 ex:∃ (f:Addr) (fd:FuncData) (ps:List Str),FnOk P w K mg base CX k f fd ps sp/\Cls K C/\zeH K C m f/\Binds K fd ps []
structure KnI(P:Program)(w:World)(K:PySem.W.Frag)(mg:Str->Option Value)(base:Heap)(CX:CXT)(C:Addr)(k:Nat)(sp:Sp):Prop where
 ex:∃ (f:Addr) (fd:FuncData) (ps:List Str),FnOk P w K mg base CX k f fd ps sp/\Mk K C f/\Binds K fd ps []
end L2
namespace L3
open PySem PySem.Spec PyProof.Rows L2
variable [Cs]
section
variable {X:Cx} {XP:XPT} {mp io:List Nat} {a b e:Expr} {es:List Expr} {pos p p2 pos' p3 apos:Pos} {fa fb fc:EM FV} {fl:EM (List AV)} {kx:Nat} {c f m x:Str} {s i k n:Nat} {M0:Addr->Prop} {F F':Fp} {Γ:Gv} {ν:Nu} {σ:St} {H H':Hp} {u:FV} {v:V} {run:List OV->RF}
end
end L3
namespace Tab
open PySem PySem.Spec PyProof.Rows
section
variable {prog:Program} {w:World} {A:Around} {R:Result->Shared->Prop} {I:Addr} {fp wr:List Addr} {G:Array GenState->Array GenState->Prop} {n:Nat} {P:Nat->Value->Prop} {St:Nat->Shared->Prop}
end
section
variable {prog:Program} {w:World} {A:Around} {E:Value->Shared->Prop} {s:Shared}
end
end Tab
namespace L2
open PySem PySem.Spec PyProof.Rows
variable [Cs]
section
variable {X:Cx}
end
end L2
namespace L3
open PySem PySem.Spec PyProof.Rows L2
variable [Cs]
section
variable {X:Cx} {XP:XPT} {mp:List Nat} {a b:Expr} {p1 p2 q1 q2:Pos} {fa fb:EM FV}
end
section
variable {M0:Addr->Prop} {F F':Fp} {Γ Γ':Gv} {ν ν':Nu} {H H':Hp}
end
section
variable {X:Cx} {XP:XPT} {mp io:List Nat} {a b c e:Expr} {es:List Expr} {pos p p2 pos' p3:Pos} {fo fo2:EM OV} {kx:Nat}
end
mutual
inductive IE where
 |var (s i:Nat)
 |frz (s i:Nat)
 |cint (i:Int)
 |cstr (x:Str)
 |cbool (b:Bool)
 |cnone
 |gint (x:Str) (i:Int)
 |gstr (x:Str) (z:Str)
 |tup (a:IL)
 |new (n:IN)
 |bin (op:Operator) (a b:IE)
 |cmp (op:CmpOp) (a b:IE)
 |chain (op op':CmpOp) (a b c:IE)
 |not (a:IE)
 |neg (a:IE)
 |and (a b:IE)
 |or (a b:IE)
 |ite (c a b:IE)
 |ix (a b:IE)
 |len (a:IE)
 |all (a:IE)
 |any (a:IE)
 |tuple (a:IE)
 |isi (T:String) (a:IE)
 |max (a b:IE)
 |call (o:IO)
 |sadd (a b:IE)
 |sin (a b:IE)
 |slen (a:IE)
 |str (a:IE)
 |join (z:Str) (a:IE)
 |six (a b:IE)
 |fstr (a:IJ)
 |ends (a b:IE)
 |sint (a:IE)
 |cutS (a:IE) (lo hi:IP)
 |gnin (x:Str) (kf:List (Str×Str)) (a:IE)
 |newD (m:IM)
inductive IL where
 |nil
 |cons (e:IE) (a:IL)
inductive IA where
 |nil
 |cons (e:IE) (a:IA)
 |io (s i:Nat) (a:IA)
 |tmp (n:IN)
inductive IN where
 |lst (a:IL)
 |cut (e:IE) (lo hi:IP)
 |list (e:IE)
 |comp (n k:Nat) (ix:List Nat) (N':List Str) (t:IT) (src:II) (c:IC) (el:IE)
 |split (a b:IE)
inductive IP where
 |non
 |one (e:IE)
inductive II where
 |list (e:IE)
 |tup (e:IE)
 |range (e:IE)
 |chars (e:IE)
 |zip (tp:Bool) (a b:IE)
inductive IC where
 |yes
 |one (e:IE)
inductive IO where
 |dat (e:IE)
 |own (n:IN)
 |call (f:Str) (n:Nat) (a:IA)
 |move (s i:Nat)
 |ownD (m:IM)
inductive IJ where
 |nil
 |con (z:Str) (r:IJ)
 |val (e:IE) (r:IJ)
inductive IM where
 |nil
 |one (a b:IE)
 |comp (n k:Nat) (ix:List Nat) (N':List Str) (t:IT) (src:IG) (c:IC) (ek ev:IE)
inductive IG where
 |std (src:II)
end
noncomputable def IN.plain:IN->Bool
 |_=>true
noncomputable def IM.plain:IM->Bool
 |.comp _ _ _ _ _ (.std _) _ _ _=>true
 |_=>true
noncomputable abbrev CF:=Str->List OV->RF
noncomputable def fNo:EM Bool:=fun _=>.bad
mutual
noncomputable def IE.ev(cf:CF):IE->EM FV×EM Bool
 |.var _ i=>(fVar i,fTru (fVar i))
 |.frz _ i=>(fFrz i,fTru (fFrz i))
 |.cint i=>(fC (.int i),fTru (fC (.int i)))
 |.cstr x=>(fC (.str x),fTru (fC (.str x)))
 |.cbool b=>(fC (.bool b),fTru (fC (.bool b)))
 |.cnone=>(fC .none,fTru (fC .none))
 |.gint _ i=>(fC (.int i),fTru (fC (.int i)))
 |.gstr _ z=>(fC (.str z),fTru (fC (.str z)))
 |.tup a=>(fTup (a.ev cf),fTru (fTup (a.ev cf)))
 |.new n=>(fNew (n.ev cf),fTru (fNew (n.ev cf)))
 |.bin op a b=>(fBin (binD op) (a.ev cf).1 (b.ev cf).1,fTru (fBin (binD op) (a.ev cf).1 (b.ev cf).1))
 |.cmp op a b=>(fB (fCmp (cmpD op) (a.ev cf).1 (b.ev cf).1),fCmp (cmpD op) (a.ev cf).1 (b.ev cf).1)
 |.chain op op' a b c=>(fB (fChain (cmpD op) (cmpD op') (a.ev cf).1 (b.ev cf).1 (c.ev cf).1),fChain (cmpD op) (cmpD op') (a.ev cf).1 (b.ev cf).1 (c.ev cf).1)
 |.not a=>(fB (fNotT (fTru (a.ev cf).1)),fNotT (a.ev cf).2)
 |.neg a=>(f1 gNeg (a.ev cf).1,fTru (f1 gNeg (a.ev cf).1))
 |.and a b=>(fAndV (a.ev cf).1 (b.ev cf).1,fAndT (a.ev cf).2 (b.ev cf).2)
 |.or a b=>(fOrV (a.ev cf).1 (b.ev cf).1,fOrT (a.ev cf).2 (b.ev cf).2)
 |.ite c a b=>(fIf (c.ev cf).2 (a.ev cf).1 (b.ev cf).1,fNo)
 |.ix a b=>(fIx (a.ev cf).1 (b.ev cf).1,fTru (fIx (a.ev cf).1 (b.ev cf).1))
 |.len a=>(f1 gLen (a.ev cf).1,fTru (f1 gLen (a.ev cf).1))
 |.all a=>(f1 gAll (a.ev cf).1,fTru (f1 gAll (a.ev cf).1))
 |.any a=>(f1 gAny (a.ev cf).1,fTru (f1 gAny (a.ev cf).1))
 |.tuple a=>(fTupC (a.ev cf).1,fTru (fTupC (a.ev cf).1))
 |.isi T a=>(fIsi T (a.ev cf).1,fTru (fIsi T (a.ev cf).1))
 |.max a b=>(f2 gMax (a.ev cf).1 (b.ev cf).1,fTru (f2 gMax (a.ev cf).1 (b.ev cf).1))
 |.call o=>(fOD (o.ev cf),fTru (fOD (o.ev cf)))
 |.sadd a b=>(fBin qv (a.ev cf).1 (b.ev cf).1,fTru (fBin qv (a.ev cf).1 (b.ev cf).1))
 |.sin a b=>(fB (fCmp Vb (a.ev cf).1 (b.ev cf).1),fCmp Vb (a.ev cf).1 (b.ev cf).1)
 |.slen a=>(f1 zC (a.ev cf).1,fTru (f1 zC (a.ev cf).1))
 |.str a=>(f1 y6 (a.ev cf).1,fTru (f1 y6 (a.ev cf).1))
 |.join z a=>(f1 (Z3 z) (a.ev cf).1,fTru (f1 (Z3 z) (a.ev cf).1))
 |.six a b=>(v8 (a.ev cf).1 (b.ev cf).1,fTru (v8 (a.ev cf).1 (b.ev cf).1))
 |.fstr a=>(J1 (a.ev cf),fTru (J1 (a.ev cf)))
 |.ends a b=>(vg (a.ev cf).1 (b.ev cf).1,fTru (vg (a.ev cf).1 (b.ev cf).1))
 |.sint a=>(f1 Qw (a.ev cf).1,fTru (f1 Qw (a.ev cf).1))
 |.cutS a lo hi=>(Z1 (a.ev cf).1 (lo.ev cf) (hi.ev cf),fTru (Z1 (a.ev cf).1 (lo.ev cf) (hi.ev cf)))
 |.gnin _ kf a=>(fB (J2 kf (a.ev cf).1),J2 kf (a.ev cf).1)
 |.newD m=>(VR (m.ev cf),fNo)
noncomputable def IL.ev(cf:CF):IL->EM (List FV)
 |.nil=>fNil
 |.cons e a=>fCons (e.ev cf).1 (a.ev cf)
noncomputable def IA.ev(cf:CF):IA->EM (List AV)
 |.nil=>aNil
 |.cons e a=>aCons (e.ev cf).1 (a.ev cf)
 |.io _ i a=>aIo i (a.ev cf)
 |.tmp n=>zgR (n.ev cf)
noncomputable def IN.ev(cf:CF):IN->EM (List PyData)
 |.lst a=>fLst (a.ev cf)
 |.cut e lo hi=>Zj (e.ev cf).1 (lo.ev cf) (hi.ev cf)
 |.list e=>fListC (e.ev cf).1
 |.comp n k _ _ t src c el=>fComp n k t (src.ev cf) (c.ev cf) (el.ev cf).1
 |.split a b=>qj (a.ev cf).1 (b.ev cf).1
noncomputable def IP.ev(cf:CF):IP->EM (Option Int)
 |.non=>qX
 |.one e=>qW (e.ev cf).1
noncomputable def II.ev(cf:CF):II->EM (List PyData)
 |.list e=>fSeqL (e.ev cf).1
 |.tup e=>fSeqT (e.ev cf).1
 |.range e=>fRange (e.ev cf).1
 |.chars e=>zQ (e.ev cf).1
 |.zip tp a b=>zcJ tp (a.ev cf).1 (b.ev cf).1
noncomputable def IC.ev(cf:CF):IC->EM Bool
 |.yes=>fYes
 |.one e=>(e.ev cf).2
noncomputable def IO.ev(cf:CF):IO->EM OV
 |.dat e=>fD (e.ev cf).1
 |.own n=>fOwn (n.ev cf)
 |.call f _ a=>fCall (cf f) (a.ev cf)
 |.move _ i=>fMove i
 |.ownD m=>VS (m.ev cf)
noncomputable def IJ.ev(cf:CF):IJ->EM (List Str)
 |.nil=>JL
 |.con z r=>Z2 (fC (.str z)) (r.ev cf)
 |.val e r=>Z2 (e.ev cf).1 (r.ev cf)
noncomputable def IM.ev(cf:CF):IM->EM (List (Str×PyData))
 |.nil=>zem
 |.one a b=>zen (a.ev cf).1 (b.ev cf).1
 |.comp n k _ _ t src c ek ev=>v7 n k t (src.ev cf) (c.ev cf) (ek.ev cf).1 (ev.ev cf).1
noncomputable def IG.ev(cf:CF):IG->EM (List PyData×Option (Option Nat))
 |.std src=>zcI (src.ev cf)
end
structure Wd where
 bi:List Str
 gi:List (Str×Int)
 gs:List (Str×Str)
 fl:List (Str×Nat)
 ex:List Str
 gd:List (Str×List (Str×Str))
 fk:List (Str×Str):= []
 mc:List (Str×Str×Nat):= []
 ml:List (Str×Str×Str×Nat):= []
noncomputable def zn:Expr->Bool
 |.Starred .. =>false
 |_=>true
noncomputable def JP:Expr->Bool
 |.UnaryOp .Not _ _=>false
 |.BoolOp .. =>false
 |.IfExp .. =>false
 |.Compare .. =>false
 |_=>true
noncomputable def qk:Expr->Bool
 |.Slice .. =>false
 |_=>true
noncomputable def jg:Expr->Bool
 |.Set .. =>false
 |_=>true
noncomputable def zer:Expr->Bool
 |.Tuple .. =>true
 |_=>false
noncomputable def zcc(sc:Scope)(x:Str):Bool:=decide (sc.names.lookup x=some .local)||decide (sc.names.lookup x=some .cell)||decide (sc.names.lookup x=some .free)
noncomputable def wK(sc:Scope)(x:Str):Bool:=decide (sc.names.lookup x=some .globalImplicit)
noncomputable def nmB (sc:Scope) (N:List Str) (mp:List Nat) (s i:Nat) (x:Str):Bool:=decide (N[s]?=some x)&&zcc sc x&&decide (mp[s]?=some i)&& !(x==("__debug__" :Str))&& !(x==("__classdict__" :Str))
noncomputable def biB(W:Wd)(sc:Scope)(x y:Str):Bool:=decide (x=y)&&wK sc x&&W.bi.contains x
noncomputable def okO{α:Type}(o:Option α)(f:α->Bool):Bool:=match o with
 |some a=>f a
 |none=>false
theorem zb{α:Type}{o:Option α}{f:α->Bool}(h:okO o f=true):∃ a,o=some a/\f a=true:=by
 cases o with
 |none=>cases h
 |some a=>exact⟨a,rfl,h⟩
noncomputable def zD:Expr->Option (Str×Pos)
 |.Name x p=>some (x,p)
 |_=>none
noncomputable def Zu:Expr->Option (Const×Nat×Pos)
 |.Constant c j p=>some (c,j,p)
 |_=>none
noncomputable def zeR:Const->Option Int
 |.int i=>some i
 |_=>none
noncomputable def VF:Const->Option Str
 |.str i=>some i
 |_=>none
noncomputable def YD:Const->Option Bool
 |.bool i=>some i
 |_=>none
noncomputable def zej:Const->Bool
 |.none=>true
 |_=>false
noncomputable def kD:Expr->Option (List Expr×Nat×Pos)
 |.Tuple es n p=>some (es,n,p)
 |_=>none
noncomputable def zb5:Expr->Option (List Expr×Pos)
 |.List es p=>some (es,p)
 |_=>none
noncomputable def ku:Expr->Option (Expr×Operator×Expr×Pos)
 |.BinOp x op y p=>some (x,op,y,p)
 |_=>none
noncomputable def vE:Expr->Option (Expr×List CmpOp×List Expr×Pos)
 |.Compare x ops ys p=>some (x,ops,ys,p)
 |_=>none
noncomputable def zd7:Expr->Option (UnaryOp×Expr×Pos)
 |.UnaryOp op x p=>some (op,x,p)
 |_=>none
noncomputable def zd2:Expr->Option (BoolOp×List Expr×Pos)
 |.BoolOp op vs p=>some (op,vs,p)
 |_=>none
noncomputable def zb1:Expr->Option (Expr×Expr×Expr×Pos)
 |.IfExp z x y p=>some (z,x,y,p)
 |_=>none
noncomputable def J6:Expr->Option (Expr×Expr×Pos)
 |.Subscript x y p=>some (x,y,p)
 |_=>none
noncomputable def kC:Expr->Option (Option Expr×Option Expr×Option Expr×Pos)
 |.Slice l h s p=>some (l,h,s,p)
 |_=>none
noncomputable def Z6:Expr->Option (Expr×List Expr×List Keyword×Pos)
 |.Call f xs ks q=>some (f,xs,ks,q)
 |_=>none
noncomputable def J5:Expr->Option (Expr×Str×Pos)
 |.Attribute x f p=>some (x,f,p)
 |_=>none
noncomputable def kB:Expr->Option (Expr×List Comprehension×Scope×Pos)
 |.ListComp elt gens scope p=>some (elt,gens,scope,p)
 |_=>none
theorem zo{e:Expr}{x:Str}{p:Pos}(h:zD e=some (x,p)):e=.Name x p:=by
 unfold zD at h
 split at h
 ·cases h;rfl
 ·cases h
theorem qh{e:Expr}{c:Const}{j:Nat}{p:Pos}(h:Zu e=some (c,j,p)):e=.Constant c j p:=by
 unfold Zu at h
 split at h
 ·cases h;rfl
 ·cases h
theorem zah{c:Const}{i:Int}(h:zeR c=some i):c=.int i:=by
 unfold zeR at h
 split at h
 ·cases h;rfl
 ·cases h
theorem Zh{c:Const}{i:Str}(h:VF c=some i):c=.str i:=by
 unfold VF at h
 split at h
 ·cases h;rfl
 ·cases h
theorem W4{c:Const}{i:Bool}(h:YD c=some i):c=.bool i:=by
 unfold YD at h
 split at h
 ·cases h;rfl
 ·cases h
theorem kT{c:Const}(h:zej c=true):c=.none:=by cases c<;>first | rfl | cases h
theorem vG{e:Expr}{es:List Expr}{n:Nat}{p:Pos}(h:kD e=some (es,n,p)):e=.Tuple es n p:=by
 unfold kD at h
 split at h
 ·cases h;rfl
 ·cases h
theorem KO{e:Expr}{es:List Expr}{p:Pos}(h:zb5 e=some (es,p)):e=.List es p:=by
 unfold zb5 at h
 split at h
 ·cases h;rfl
 ·cases h
theorem vD{e x y:Expr}{op:Operator}{p:Pos}(h:ku e=some (x,op,y,p)):e=.BinOp x op y p:=by
 unfold ku at h
 split at h
 ·cases h;rfl
 ·cases h
theorem ZX{e x:Expr}{ops:List CmpOp}{ys:List Expr}{p:Pos}(h:vE e=some (x,ops,ys,p)):e=.Compare x ops ys p:=by
 unfold vE at h
 split at h
 ·cases h;rfl
 ·cases h
theorem yD{e x:Expr}{op:UnaryOp}{p:Pos}(h:zd7 e=some (op,x,p)):e=.UnaryOp op x p:=by
 unfold zd7 at h
 split at h
 ·cases h;rfl
 ·cases h
theorem zbX{e:Expr}{op:BoolOp}{vs:List Expr}{p:Pos}(h:zd2 e=some (op,vs,p)):e=.BoolOp op vs p:=by
 unfold zd2 at h
 split at h
 ·cases h;rfl
 ·cases h
theorem KM{e z x y:Expr}{p:Pos}(h:zb1 e=some (z,x,y,p)):e=.IfExp z x y p:=by
 unfold zb1 at h
 split at h
 ·cases h;rfl
 ·cases h
theorem jT{e x y:Expr}{p:Pos}(h:J6 e=some (x,y,p)):e=.Subscript x y p:=by
 unfold J6 at h
 split at h
 ·cases h;rfl
 ·cases h
theorem KP{e:Expr}{l u s:Option Expr}{p:Pos}(h:kC e=some (l,u,s,p)):e=.Slice l u s p:=by
 unfold kC at h
 split at h
 ·cases h;rfl
 ·cases h
theorem ZW{e f:Expr}{xs:List Expr}{ks:List Keyword}{p:Pos}(h:Z6 e=some (f,xs,ks,p)):e=.Call f xs ks p:=by
 unfold Z6 at h
 split at h
 ·cases h;rfl
 ·cases h
theorem JV{e x:Expr}{f:Str}{p:Pos}(h:J5 e=some (x,f,p)):e=.Attribute x f p:=by
 unfold J5 at h
 split at h
 ·cases h;rfl
 ·cases h
theorem KN{e elt:Expr}{gens:List Comprehension}{scope:Scope}{p:Pos}(h:kB e=some (elt,gens,scope,p)):e=.ListComp elt gens scope p:=by
 unfold kB at h
 split at h
 ·cases h;rfl
 ·cases h
noncomputable def unN(e:Expr):Option (Str×Pos×List Expr×Pos):=(Z6 e).bind fun (f,xs,ks,q)=>match ks with
 |[]=>(zD f).map fun (x,p)=>(x,p,xs,q)
 |_::_=>none
theorem wv{e:Expr}{f:Str}{p:Pos}{xs:List Expr}{q:Pos}(h:unN e=some (f,p,xs,q)):e=.Call (.Name f p) xs [] q:=by
 unfold unN at h
 cases e1:Z6 e with
 |none=>rw[e1]at h;cases h
 |some z=>
  obtain⟨g,ys,ks,q'⟩:=z
  rw[e1]at h
  cases ks with
  |cons _ _=>cases h
  |nil=>
   cases e2:zD g with
   |none=>simp[e2]at h
   |some z=>
    obtain⟨x,p'⟩:=z
    simp[e2]at h
    obtain⟨rfl,rfl,rfl,rfl⟩:=h
    rw[ZW e1,zo e2]
noncomputable def jv{α:Type}:List α->Option α
 |[x]=>some x
 |_=>none
theorem zG{α:Type}{l:List α}{x:α}(h:jv l=some x):l= [x]:=by
 match l,h with
 |[_],h=>cases h;rfl
noncomputable def yA{α:Type}:List α->Option (α×α)
 |[x,y]=>some (x,y)
 |_=>none
theorem jR{α:Type}{l:List α}{x y:α}(h:yA l=some (x,y)):l= [x,y]:=by
 match l,h with
 |[_,_],h=>cases h;rfl
noncomputable def un1(e:Expr):Option (Str×Pos×Expr×Pos):=(unN e).bind fun (f,p,xs,q)=>(jv xs).map fun x=>(f,p,x,q)
theorem qI{e:Expr}{f:Str}{p:Pos}{x:Expr}{q:Pos}(h:un1 e=some (f,p,x,q)):e=.Call (.Name f p) [x] [] q:=by
 unfold un1 at h
 cases e1:unN e with
 |none=>rw[e1]at h;cases h
 |some z=>
  obtain⟨g,p',xs,q'⟩:=z
  cases e2:jv xs with
  |none=>simp[e1,e2]at h
  |some y=>
   simp[e1,e2]at h
   obtain⟨rfl,rfl,rfl,rfl⟩:=h
   rw[wv e1,zG e2]
noncomputable def un2(e:Expr):Option (Str×Pos×Expr×Expr×Pos):=(unN e).bind fun (f,p,xs,q)=>(yA xs).map fun (x,y)=>(f,p,x,y,q)
theorem Vx{e:Expr}{f:Str}{p:Pos}{x y:Expr}{q:Pos}(h:un2 e=some (f,p,x,y,q)):e=.Call (.Name f p) [x,y] [] q:=by
 unfold un2 at h
 cases e1:unN e with
 |none=>rw[e1]at h;cases h
 |some z=>
  obtain⟨g,p',xs,q'⟩:=z
  cases e2:yA xs with
  |none=>simp[e1,e2]at h
  |some y=>
   obtain⟨y1,y2⟩:=y
   simp[e1,e2]at h
   obtain⟨rfl,rfl,rfl,rfl,rfl⟩:=h
   rw[wv e1,jR e2]
noncomputable def zd5(e:Expr):Option (Str×Pos×Str×Pos×List Expr×Pos):=(Z6 e).bind fun (f,xs,ks,q)=>match ks with
 |[]=>(J5 f).bind fun (x,m,p2)=>(zD x).map fun (y,p)=>(y,p,m,p2,xs,q)
 |_::_=>none
theorem zb6{e:Expr}{x f:Str}{p p2:Pos}{xs:List Expr}{q:Pos}(h:zd5 e=some (x,p,f,p2,xs,q)):e=.Call (.Attribute (.Name x p) f p2) xs [] q:=by
 unfold zd5 at h
 cases e1:Z6 e with
 |none=>rw[e1]at h;cases h
 |some z=>
  obtain⟨g,ys,ks,q'⟩:=z
  rw[e1]at h
  cases ks with
  |cons _ _=>cases h
  |nil=>
   cases e2:J5 g with
   |none=>simp[e2]at h
   |some z=>
    obtain⟨y,m,p3⟩:=z
    cases e3:zD y with
    |none=>simp[e2,e3]at h
    |some z=>
     obtain⟨y',p'⟩:=z
     simp[e2,e3]at h
     obtain⟨rfl,rfl,rfl,rfl,rfl,rfl⟩:=h
     rw[ZW e1,JV e2,zo e3]
noncomputable def ky(e:Expr):Option (Expr×Option Expr×Option Expr×Pos×Pos):=(J6 e).bind fun (x,y,q)=>(kC y).bind fun (l,h,s,p)=>match s with
 |none=>some (x,l,h,p,q)
 |some _=>none
theorem vF{e x:Expr}{l h:Option Expr}{p q:Pos}(hh:ky e=some (x,l,h,p,q)):e=.Subscript x (.Slice l h none p) q:=by
 unfold ky at hh
 cases e1:J6 e with
 |none=>rw[e1]at hh;cases hh
 |some z=>
  obtain⟨x',y,q'⟩:=z
  cases e2:kC y with
  |none=>simp[e1,e2]at hh
  |some z=>
   obtain⟨l',h',s,p'⟩:=z
   cases s with
   |some _=>simp[e1,e2]at hh
   |none=>
    simp[e1,e2]at hh
    obtain⟨rfl,rfl,rfl,rfl,rfl⟩:=hh
    rw[jT e1,KP e2]
noncomputable def zgG(e:Expr):Option (Expr×Expr×Expr×List Expr×Scope×Pos):=(kB e).bind fun (elt,gens,scope,p)=>(jv gens).bind fun g=>if g.is_async=0 then some (elt,g.target,g.iter,g.ifs,scope,p) else none
theorem zb4{e elt tg iter:Expr}{ifs:List Expr}{scope:Scope}{p:Pos}(h:zgG e=some (elt,tg,iter,ifs,scope,p)):e=.ListComp elt [⟨tg,iter,ifs,0⟩] scope p:=by
 unfold zgG at h
 cases e1:kB e with
 |none=>rw[e1]at h;cases h
 |some z=>
  obtain⟨a1,a2,a3,a4⟩:=z
  cases e2:jv a2 with
  |none=>simp[e1,e2]at h
  |some g=>
   obtain⟨g1,g2,g3,g4⟩:=g
   by_cases hz:g4=0
   ·subst hz
    simp[e1,e2]at h
    obtain⟨rfl,rfl,rfl,rfl,rfl,rfl⟩:=h
    rw[KN e1,zG e2]
   ·simp[e1,e2,hz]at h
noncomputable def kt(op:BoolOp)(e:Expr):Option (Expr×Expr):=(zd2 e).bind fun (o,vs,p)=>if o=op then (match vs with
 |x::y:: []=>some (x,y)
 |x::y::z::r=>some (x,.BoolOp op (y::z::r) p)
 |_=>none) else none
theorem vC{op:BoolOp}{e x z:Expr}(h:kt op e=some (x,z)):(∃ p,e=.BoolOp op [x,z] p)∨∃ y w r p,e=.BoolOp op (x::y::w::r) p/\z=.BoolOp op (y::w::r) p:=by
 unfold kt at h
 cases e1:zd2 e with
 |none=>rw[e1]at h;cases h
 |some q=>
  obtain⟨o,vs,p⟩:=q
  rw[zbX e1]
  by_cases ho:o=op
  ·subst ho
   match vs with
   |[]=>simp[e1]at h
   |[_]=>simp[e1]at h
   |[a,b]=>
    simp[e1]at h
    obtain⟨rfl,rfl⟩:=h
    exact .inl ⟨p,rfl⟩
   |a::b::c::r=>
    simp[e1]at h
    obtain⟨rfl,rfl⟩:=h
    exact .inr ⟨b,c,r,p,rfl,rfl⟩
  ·simp[e1,ho]at h
mutual
noncomputable def vW(sc:Scope)(N:List Str)(mp:List Nat)(lo:Nat):IT->Expr->Bool
 |.nm s i,.Name x _=>decide (N[s]?=some x)&&decide (mp[s]?=some i)&&decide (lo<=i)&&(decide (sc.names.lookup x=some .local)||decide (sc.names.lookup x=some .cell))
 |.tp ts,.Tuple es _ _=>vb sc N mp lo ts es
 |_,_=>false
noncomputable def vb(sc:Scope)(N:List Str)(mp:List Nat)(lo:Nat):ITs->List Expr->Bool
 |.nil,[]=>true
 |.cons t ts,e::es=>zn e&&vW sc N mp lo t e&&vb sc N mp lo ts es
 |_,_=>false
end
noncomputable def zgF:Expr->Option (List Expr×Pos)
 |.JoinedStr vs p=>some (vs,p)
 |_=>none
theorem zb3{e:Expr}{vs:List Expr}{p:Pos}(h:zgF e=some (vs,p)):e=.JoinedStr vs p:=by
 unfold zgF at h
 split at h
 ·cases h;rfl
 ·cases h
noncomputable def zgC:Expr->Option (Expr×Pos)
 |.FormattedValue v c none p=>if c= -1 then some (v,p) else none
 |_=>none
theorem zbZ{e v:Expr}{p:Pos}(h:zgC e=some (v,p)):e=.FormattedValue v (-1) none p:=by
 cases e<;>try (cases h;done)
 rename_i v' c sp p'
 cases sp with
 |some _=>cases h
 |none=>
  simp only[zgC]at h
  split at h
  ·rename_i hc;subst hc;cases h;rfl
  ·cases h
noncomputable def zgE(e:Expr):Option (Str×Nat×Pos×Str×Pos×Expr×Pos):=(Z6 e).bind fun (f,xs,ks,q)=>match ks with
 |[]=>(J5 f).bind fun (x,m,p2)=>(Zu x).bind fun (c,j,p1)=>(VF c).bind fun z=>(jv xs).map fun a=>(z,j,p1,m,p2,a,q)
 |_::_=>none
theorem zb2{e a:Expr}{z m:Str}{j:Nat}{p1 p2 q:Pos}(h:zgE e=some (z,j,p1,m,p2,a,q)):e=.Call (.Attribute (.Constant (.str z) j p1) m p2) [a] [] q:=by
 unfold zgE at h
 cases e1:Z6 e with
 |none=>rw[e1]at h;cases h
 |some w=>
  obtain⟨f,xs,ks,q'⟩:=w
  rw[e1]at h
  cases ks with
  |cons _ _=>cases h
  |nil=>
   cases e2:J5 f with
   |none=>simp[e2]at h
   |some w=>
    obtain⟨x,m',p2'⟩:=w
    cases e3:Zu x with
    |none=>simp[e2,e3]at h
    |some w=>
     obtain⟨c,j',p1'⟩:=w
     cases e4:VF c with
     |none=>simp[e2,e3,e4]at h
     |some z'=>
      cases e5:jv xs with
      |none=>simp[e2,e3,e4,e5]at h
      |some a'=>
       simp[e2,e3,e4,e5]at h
       obtain⟨rfl,rfl,rfl,rfl,rfl,rfl,rfl⟩:=h
       rw[ZW e1,JV e2,qh e3,Zh e4,zG e5]
noncomputable def wZ:Expr->Bool
 |.Name .. =>true
 |.Subscript .. =>true
 |.Attribute .. =>true
 |.Call (.Attribute ..) .. =>true
 |_=>false
theorem Qr{o:Expr}{nm:Str}{env:Env}(h:wZ o=true):attributeBase o nm env (eval o env)=eval o env:=by
 cases o<;>first | rfl | (simp[wZ]at h;done) | skip
 rename_i f xs ks q
 cases f<;>first | rfl | (simp[wZ]at h)
noncomputable def zd6(e:Expr):Option (Expr×Str×Pos×Expr×Pos):=(Z6 e).bind fun (f,xs,ks,q)=>match ks with
 |[]=>(J5 f).bind fun (x,m,p2)=>(jv xs).map fun a=>(x,m,p2,a,q)
 |_::_=>none
theorem yC{e o a:Expr}{m:Str}{p2 q:Pos}(h:zd6 e=some (o,m,p2,a,q)):e=.Call (.Attribute o m p2) [a] [] q:=by
 unfold zd6 at h
 cases e1:Z6 e with
 |none=>rw[e1]at h;cases h
 |some w=>
  obtain⟨f,xs,ks,q'⟩:=w
  rw[e1]at h
  cases ks with
  |cons _ _=>cases h
  |nil=>
   cases e2:J5 f with
   |none=>simp[e2]at h
   |some w=>
    obtain⟨x,m',p2'⟩:=w
    cases e5:jv xs with
    |none=>simp[e2,e5]at h
    |some a'=>
     simp[e2,e5]at h
     obtain⟨rfl,rfl,rfl,rfl,rfl⟩:=h
     rw[ZW e1,JV e2,zG e5]
noncomputable def zd4:Expr->Option (List (Option Expr)×List Expr×Pos)
 |.Dict ks vs p=>some (ks,vs,p)
 |_=>none
theorem yB{e:Expr}{ks:List (Option Expr)}{vs:List Expr}{p:Pos}(h:zd4 e=some (ks,vs,p)):e=.Dict ks vs p:=by
 unfold zd4 at h
 split at h
 ·cases h;rfl
 ·cases h
noncomputable def kA:Expr->Option (Expr×Expr×List Comprehension×Scope×Pos)
 |.DictComp k v gens scope p=>some (k,v,gens,scope,p)
 |_=>none
theorem KL{e k v:Expr}{gens:List Comprehension}{scope:Scope}{p:Pos}(h:kA e=some (k,v,gens,scope,p)):e=.DictComp k v gens scope p:=by
 unfold kA at h
 split at h
 ·cases h;rfl
 ·cases h
noncomputable def zgB(e:Expr):Option (Expr×Expr×Expr×Expr×List Expr×Scope×Pos):=(kA e).bind fun (k,v,gens,scope,p)=>(jv gens).bind fun g=>if g.is_async=0 then some (k,v,g.target,g.iter,g.ifs,scope,p) else none
theorem zbY{e k v tg iter:Expr}{ifs:List Expr}{scope:Scope}{p:Pos}(h:zgB e=some (k,v,tg,iter,ifs,scope,p)):e=.DictComp k v [⟨tg,iter,ifs,0⟩] scope p:=by
 unfold zgB at h
 cases e1:kA e with
 |none=>rw[e1]at h;cases h
 |some z=>
  obtain⟨a0,a1,a2,a3,a4⟩:=z
  cases e2:jv a2 with
  |none=>simp[e1,e2]at h
  |some g=>
   obtain⟨g1,g2,g3,g4⟩:=g
   by_cases hz:g4=0
   ·subst hz
    simp[e1,e2]at h
    obtain⟨rfl,rfl,rfl,rfl,rfl,rfl,rfl⟩:=h
    rw[KL e1,zG e2]
   ·simp[e1,e2,hz]at h
mutual
noncomputable def IE.chk(W:Wd)(sc:Scope)(N:List Str)(mp:List Nat)(m:Nat):IE->Expr->Bool
 |.var s i,e=>okO (zD e) fun x=>nmB sc N mp s i x.1
 |.frz s i,e=>okO (zD e) fun x=>nmB sc N mp s i x.1
 |.cint i,e=>okO (Zu e) fun c=>okO (zeR c.1) fun j=>decide (i=j)
 |.cstr x,e=>okO (Zu e) fun c=>okO (VF c.1) fun y=>decide (x=y)
 |.cbool b,e=>okO (Zu e) fun c=>okO (YD c.1) fun y=>decide (b=y)
 |.cnone,e=>okO (Zu e) fun c=>zej c.1
 |.gint x i,e=>okO (zD e) fun y=>decide (x=y.1)&&wK sc x&&W.gi.contains (x,i)&& !(x==("__debug__" :Str))
 |.gstr x i,e=>okO (zD e) fun y=>decide (x=y.1)&&wK sc x&&W.gs.contains (x,i)&& !(x==("__debug__" :Str))
 |.tup a,e=>okO (kD e) fun es=>a.chk W sc N mp m es.1
 |.new n,e=>JP e&&n.chk W sc N mp m e
 |.bin op a b,e=>okO (ku e) fun z=>decide (op=z.2.1)&&a.chk W sc N mp m z.1&&b.chk W sc N mp m z.2.2.1
 |.cmp op a b,e=>okO (vE e) fun z=>okO (jv z.2.1) fun op'=>okO (jv z.2.2.1) fun y=>decide (op=op')&&jg y&&a.chk W sc N mp m z.1&&b.chk W sc N mp m y
 |.chain op1 op2 a b c,e=>okO (vE e) fun z=>okO (yA z.2.1) fun o=>okO (yA z.2.2.1) fun y=>decide (op1=o.1)&&decide (op2=o.2)&&jg y.2&&a.chk W sc N mp m z.1&&b.chk W sc N mp m y.1&&c.chk W sc N mp m y.2
 |.not a,e=>okO (zd7 e) fun z=>decide (z.1=.Not)&&a.chk W sc N mp m z.2.1
 |.neg a,e=>okO (zd7 e) fun z=>decide (z.1=.USub)&&a.chk W sc N mp m z.2.1
 |.and a b,e=>okO (kt .And e) fun z=>a.chk W sc N mp m z.1&&b.chk W sc N mp m z.2
 |.or a b,e=>okO (kt .Or e) fun z=>a.chk W sc N mp m z.1&&b.chk W sc N mp m z.2
 |.ite c a b,e=>okO (zb1 e) fun z=>c.chk W sc N mp m z.1&&a.chk W sc N mp m z.2.1&&b.chk W sc N mp m z.2.2.1
 |.ix a b,e=>okO (J6 e) fun z=>qk z.2.1&&a.chk W sc N mp m z.1&&b.chk W sc N mp m z.2.1
 |.len a,e=>match un1 e with
  |some (f,_,x,_)=>biB W sc f "len" &&zn x&&a.chk W sc N mp m x
  |none=>false
 |.all a,e=>match un1 e with
  |some (f,_,x,_)=>biB W sc f "all" &&zn x&&a.chk W sc N mp m x
  |none=>false
 |.any a,e=>match un1 e with
  |some (f,_,x,_)=>biB W sc f "any" &&zn x&&a.chk W sc N mp m x
  |none=>false
 |.tuple a,e=>match un1 e with
  |some (f,_,x,_)=>biB W sc f "tuple" &&zn x&&a.chk W sc N mp m x
  |none=>false
 |.isi T a,e=>match un2 e with
  |some (f,_,x,y,_)=>biB W sc f "isinstance" &&zn x&&(T== "int" ||T== "bool" ||T== "list" ||T== "tuple" ||T== "str")&&okO (zD y) (fun z=>biB W sc z.1 (Str.ofString T))&&a.chk W sc N mp m x
  |none=>false
 |.max a b,e=>match un2 e with
  |some (f,_,x,y,_)=>biB W sc f "max" &&zn x&&zn y&&a.chk W sc N mp m x&&b.chk W sc N mp m y
  |none=>false
 |.call o,e=>JP e&&o.chk W sc N mp m e
 |.sadd a b,e=>okO (ku e) fun z=>decide (z.2.1=.Add)&&a.chk W sc N mp m z.1&&b.chk W sc N mp m z.2.2.1
 |.sin a b,e=>okO (vE e) fun z=>okO (jv z.2.1) fun op=>okO (jv z.2.2.1) fun y=>decide (op=.In)&&jg y&&a.chk W sc N mp m z.1&&b.chk W sc N mp m y
 |.slen a,e=>match un1 e with
  |some (f,_,x,_)=>biB W sc f "len" &&zn x&&a.chk W sc N mp m x
  |none=>false
 |.str a,e=>match un1 e with
  |some (f,_,x,_)=>biB W sc f "str" &&zn x&&a.chk W sc N mp m x
  |none=>false
 |.join z a,e=>okO (zgE e) fun y=>decide (z=y.1)&&decide (y.2.2.2.1= "join")&&zn y.2.2.2.2.2.1&&(y.2.2.2.2.1.endLine==y.2.2.2.2.2.2.line)&&a.chk W sc N mp m y.2.2.2.2.2.1
 |.six a b,e=>okO (J6 e) fun z=>qk z.2.1&&a.chk W sc N mp m z.1&&b.chk W sc N mp m z.2.1
 |.ends a b,e=>okO (zd6 e) fun z=>wZ z.1&&decide (z.2.1= "endswith")&&zn z.2.2.2.1&&(z.2.2.1.endLine==z.2.2.2.2.line)&&a.chk W sc N mp m z.1&&b.chk W sc N mp m z.2.2.2.1
 |.sint a,e=>match un1 e with
  |some (f,_,x,_)=>biB W sc f "int" &&zn x&&a.chk W sc N mp m x
  |none=>false
 |.cutS a lo hi,e=>match ky e with
  |some (x,l,h,_,_)=>a.chk W sc N mp m x&&lo.chk W sc N mp m l&&hi.chk W sc N mp m h
  |none=>false
 |.gnin x kf a,e=>okO (vE e) fun z=>okO (jv z.2.1) fun op=>okO (jv z.2.2.1) fun y=>okO (zD y) fun w=>decide (op=.NotIn)&&decide (x=w.1)&&wK sc x&&W.gd.contains (x,kf)&& !(x==("__debug__" :Str))&&a.chk W sc N mp m z.1
 |.fstr a,e=>okO (zgF e) fun z=>decide (2<=z.1.length/\z.1.length<=100)&&a.chk W sc N mp m z.1
 |.newD n,e=>n.chk W sc N mp m e
noncomputable def IL.chk(W:Wd)(sc:Scope)(N:List Str)(mp:List Nat)(m:Nat):IL->List Expr->Bool
 |.nil,[]=>true
 |.cons e a,x::xs=>zn x&&e.chk W sc N mp m x&&a.chk W sc N mp m xs
 |_,_=>false
noncomputable def IA.chk(W:Wd)(sc:Scope)(N:List Str)(mp:List Nat)(m:Nat):IA->List Expr->Bool
 |.nil,[]=>true
 |.cons e a,x::xs=>zn x&&e.chk W sc N mp m x&&a.chk W sc N mp m xs
 |.io s i a,x::xs=>okO (zD x) (fun z=>nmB sc N mp s i z.1)&&a.chk W sc N mp m xs
 |.tmp n,[x]=>zn x&&n.chk W sc N mp m x
 |_,_=>false
noncomputable def IN.chk(W:Wd)(sc:Scope)(N:List Str)(mp:List Nat)(m:Nat):IN->Expr->Bool
 |.lst a,e=>okO (zb5 e) fun z=>a.chk W sc N mp m z.1
 |.cut e lo hi,z=>okO (ky z) fun z=>e.chk W sc N mp m z.1&&lo.chk W sc N mp m z.2.1&&hi.chk W sc N mp m z.2.2.1
 |.list e,y=>match un1 y with
  |some (f,_,x,_)=>biB W sc f "list" &&zn x&&e.chk W sc N mp m x
  |none=>false
 |.comp n k ix N' t src c el,e=>match zgG e with
  |some (elt,tg,iter,ifs,scope,_)=>decide (n=m)&&YF sc N scope N' k ix&&decide (mpC mp n k ix).Nodup&&ix.all (fun i=>match mp[i]? with
   |some j=>decide (j<n)
   |none=>false)&&jg iter&&src.chk W sc N mp m iter tg&&vW scope N' (mpC mp n k ix) n t tg&&c.chk W scope N' (mpC mp n k ix) (n+k) ifs&&el.chk W scope N' (mpC mp n k ix) (n+k) elt
  |none=>false
 |.split a b,e=>okO (zd6 e) fun z=>wZ z.1&&decide (z.2.1= "split")&&zn z.2.2.2.1&&(z.2.2.1.endLine==z.2.2.2.2.line)&&a.chk W sc N mp m z.1&&b.chk W sc N mp m z.2.2.2.1
noncomputable def IP.chk(W:Wd)(sc:Scope)(N:List Str)(mp:List Nat)(m:Nat):IP->Option Expr->Bool
 |.non,none=>true
 |.one e,some x=>e.chk W sc N mp m x
 |_,_=>false
noncomputable def II.chk(W:Wd)(sc:Scope)(N:List Str)(mp:List Nat)(m:Nat):II->Expr->Expr->Bool
 |.list e,x,_=>e.chk W sc N mp m x
 |.tup e,x,_=>e.chk W sc N mp m x
 |.range e,y,_=>match un1 y with
  |some (f,_,x,_)=>biB W sc f "range" &&zn x&&e.chk W sc N mp m x
  |none=>false
 |.chars e,x,_=>e.chk W sc N mp m x
 |.zip _ a b,y,tg=>match un2 y with
  |some (f,_,x1,x2,_)=>zer tg&&biB W sc f "zip" &&zn x1&&zn x2&&a.chk W sc N mp m x1&&b.chk W sc N mp m x2
  |none=>false
noncomputable def IC.chk(W:Wd)(sc:Scope)(N:List Str)(mp:List Nat)(m:Nat):IC->List Expr->Bool
 |.yes,[]=>true
 |.one e,[x]=>e.chk W sc N mp m x
 |_,_=>false
noncomputable def IO.chk(W:Wd)(sc:Scope)(N:List Str)(mp:List Nat)(m:Nat):IO->Expr->Bool
 |.dat e,x=>e.chk W sc N mp m x
 |.own n,x=>n.chk W sc N mp m x
 |.call f n a,e=>match unN e with
  |some (g,_,xs,_)=>decide (f=g)&&wK sc f&&W.fl.contains (f,n)&& !(f==("__debug__" :Str))&&xs.all zn&&a.chk W sc N mp m xs
  |none=>false
 |.move s i,e=>okO (zD e) fun x=>nmB sc N mp s i x.1
 |.ownD n,e=>n.chk W sc N mp m e
noncomputable def IJ.chk(W:Wd)(sc:Scope)(N:List Str)(mp:List Nat)(m:Nat):IJ->List Expr->Bool
 |.nil,[]=>true
 |.con z r,x::xs=>okO (Zu x) (fun c=>okO (VF c.1) fun y=>decide (z=y))&&decide (z.length<=10000)&&r.chk W sc N mp m xs
 |.val e r,x::xs=>okO (zgC x) (fun v=>e.chk W sc N mp m v.1)&&r.chk W sc N mp m xs
 |_,_=>false
noncomputable def IM.chk(W:Wd)(sc:Scope)(N:List Str)(mp:List Nat)(m:Nat):IM->Expr->Bool
 |.nil,e=>okO (zd4 e) fun z=>z.1.isEmpty&&z.2.1.isEmpty
 |.one a b,e=>okO (zd4 e) fun z=>okO (jv z.1) fun k=>okO k fun x=>okO (jv z.2.1) fun y=>a.chk W sc N mp m x&&b.chk W sc N mp m y
 |.comp n k ix N' t src c ek ev,e=>match zgB e with
  |some (kx,vx,tg,iter,ifs,scope,_)=>decide (n=m)&&YF sc N scope N' k ix&&decide (mpC mp n k ix).Nodup&&ix.all (fun i=>match mp[i]? with
   |some j=>decide (j<n)
   |none=>false)&&jg iter&&src.chk W sc N mp m iter tg&&vW scope N' (mpC mp n k ix) n t tg&&c.chk W scope N' (mpC mp n k ix) (n+k) ifs&&ek.chk W scope N' (mpC mp n k ix) (n+k) kx&&ev.chk W scope N' (mpC mp n k ix) (n+k) vx
  |none=>false
noncomputable def IG.chk(W:Wd)(sc:Scope)(N:List Str)(mp:List Nat)(m:Nat):IG->Expr->Expr->Bool
 |.std src,x,tg=>src.chk W sc N mp m x tg
end
structure XSc(X:Cx)(sc:Scope)(N:List Str):Prop where
 hN:X.N=N
 vis:∀ x,zcc sc x=true->Vis X.env.scope x
 loc:∀ x,sc.names.lookup x=some .local->X.env.scope.names.lookup x=some .local
 cel:∀ x,sc.names.lookup x=some .cell->X.env.scope.names.lookup x=some .cell/\X.fn x=true
 fre:∀ x,sc.names.lookup x=some .free->X.env.scope.names.lookup x=some .cell∨X.env.scope.names.lookup x=some .free
 glo:∀ x,wK sc x=true->Gl X x
structure XW(X:Cx)(XP:XPT)(cf:CF)(W:Wd)(k:Nat):Prop where
 bi:∀ x,W.bi.contains x=true->X.mg x=none
 gi:∀ x i,W.gi.contains (x,i)=true->∃ t,X.mg x=some (.int i t)
 gs:∀ x i,W.gs.contains (x,i)=true->∃ t,X.mg x=some (.str i t)
 fn:∀ x n,W.fl.contains (x,n)=true->Kn X.prog X.w X.K X.mg X.base (CX1 X.prog X.w) x k (spX X.mg n (cf x))/\∀ args,cf x args≠ .bad->args.length=n
 rm:Room k X.A
 hk:1<=k
 calm:X.calm=true
 ex:∀ x,W.ex.contains x=true->∃ C,X.mg x=some (.ref C)/\PySem.W.excIn X.K C bmV "ValueError.__new__" =true
 mr:∀ x C y C2,W.ex.contains x=true->X.mg x=some (.ref C)->W.ex.contains y=true->X.mg y=some (.ref C2)->(mroIn X.K C).contains (.ref C2)=decide (x=y)
 gd:∀ x kf,W.gd.contains (x,kf)=true->GD X.w X.K X.mg x kf
 fk:∀ c f,W.fk.contains (c,f)=true->FldK X c f
 mc:∀ c q n,W.mc.contains (c,q,n)=true->X.mg c=some (.ref (Cs.adr c))/\(∃ j,j+1<=k/\KnI X.prog X.w X.K X.mg X.base (CX1 X.prog X.w) (Cs.adr c) j (spX X.mg n (cf q)))/\∀ args,cf q args≠ .bad->args.length=n
 ml:∀ c m q n,W.ml.contains (c,m,q,n)=true->KnM X.prog X.w X.K X.mg X.base (CX1 X.prog X.w) (Cs.adr c) m k (spX X.mg n (cf q))/\∀ args,cf q args≠ .bad->args.length=n
 px:PxOk X XP
 sk:Sk X
theorem zp{e:Expr}{es:List Expr}{env:Env}(h:zn e=true):starEach (e::es) env=(false,eval e env)::starEach es env:=by
 cases e<;>first | rfl | (simp[zn]at h)
theorem yn{es:List Expr}{env:Env}:es.all zn=true->(starEach es env).any (·.1)=false:=by
 induction es with
 |nil=>intro;rfl
 |cons e es ih=>
  intro h
  rw[uj,xa]at h
  rw[zp h.1,xP,ih h.2];rfl
theorem Z9{pos:Pos}:∀ {l:List (Bool×Sem Value)},l.any (·.1)=false->(backTo pos l).any (·.1)=false
 |[],_=>rfl
 | (b,t)::r,h=>by
  rw[xP,Bool.or_eq_false_iff]at h
  show ((b,_)::backTo pos r).any (·.1)=false
  rw[xP,Z9 h.2]
  have hb:b=false:=h.1
  rw[hb];rfl
theorem wY{e:Expr}(h:qk e=true):wj e:=fun o i=>by
 cases e<;>first | rfl | (simp[qk]at h)
theorem jJ{e:Expr}{env:Env}(h:jg e=true)(x:Value):foldedSetIterable e env x=pure x:=by
 cases e<;>first | rfl | (simp[jg]at h)
theorem Zl{e:Expr}(op:CmpOp)(h:jg e=true):behindInMarks op e=false:=by
 cases e<;>first | rfl | (simp[jg]at h)
theorem vn{e b:Expr}(op op':CmpOp)(h:jg e=true):lastMarks [op,op'] [b,e]=false:=Zl op' h
theorem jQ{x y:Str}(h:(!(x==y))=true):(x==y)=false:=by simpa using h
section
variable {X:Cx} {XP:XPT} {cf:CF} {W:Wd} {k:Nat} {sc:Scope} {N:List Str} {mp:List Nat} {m:Nat}
theorem vq{s i:Nat}{x:Str}(S:XSc X sc N)(h:nmB sc N mp s i x=true):NmK X mp s i x:=by
 unfold nmB at h
 simp only[xa,decide_eq_true_eq]at h
 obtain⟨⟨⟨⟨h1,h2⟩,h3⟩,h4⟩,h5⟩:=h
 exact⟨by rw[S.hN];exact h1,S.vis x h2,h3,jQ h4,jQ h5⟩
theorem qJ {x y:Str}{v:Value}(S:XSc X sc N) (T:XW X XP cf W k) (h:biB W sc x y=true) (hb:bootBuiltins y=some v) (hn:y≠ "__name__") (hd:(y==("__debug__" :Str))=false):BiK X x v:=by
 unfold biB at h
 simp only[xa,decide_eq_true_eq]at h
 obtain⟨⟨h1,h2⟩,h3⟩:=h
 subst h1
 exact⟨S.glo x h2,T.bi x h3,hb,hn,hd⟩
theorem J3{f:Str->NameKind->NameKind}:∀ {names:List (Str×NameKind)}{x:Str},(names.map fun (n,k)=>(n,f n k)).lookup x=(names.lookup x).map (f x)
 |[],_=>rfl
 | (n,k)::r,x=>by
  rw[xm]
  cases hx:x==n with
  |true=>rw[xr,xr,hx];rw[eq_of_beq hx];rfl
  |false=>rw[xr,xr,hx];exact J3
theorem qr{scope:Scope}{env:Env}{x:Str}:(relabel scope env).names.lookup x=(scope.names.lookup x).map fun k=>if (k==.free&&env.scope.kind==ScopeKind.function&&env.kindOf x==some NameKind.cell) then .cell else k:=by
 unfold relabel
 have e:(scope.names.map fun (n,k)=>if (k==NameKind.free&&env.scope.kind==ScopeKind.function&&env.kindOf n==some NameKind.cell) then (n,NameKind.cell) else (n,k)) =
   scope.names.map fun (n,k)=>(n,(fun n k=>if (k==NameKind.free&&env.scope.kind==ScopeKind.function&&env.kindOf n==some NameKind.cell) then NameKind.cell else k) n k):=by
  apply List.map_congr_left
  rintro⟨n,k⟩ _
  dsimp only
  split<;>rfl
 rw[e]
 exact J3 (f:=fun n k=>if (k==NameKind.free&&env.scope.kind==ScopeKind.function&&env.kindOf n==some NameKind.cell) then NameKind.cell else k)
theorem XSc.comp{scope:Scope}{N':List Str}{k:Nat}{ix:List Nat}{psc:Scope}(S:CSc psc N scope N' k ix)(cl:List (Str×Addr))(C:Addr)(s2:Shared)(H2:Hp)(fp:List Addr):XSc (X.comp N' scope cl C s2 H2 fp) scope N' where
 hN:=rfl
 vis x h:=by
  unfold zcc at h
  simp only[xH,decide_eq_true_eq]at h
  show Vis (relabel scope X.env) x
  unfold Vis
  rw[qr]
  rcases h with (h | h) | h
  ·rw[h];exact .inl rfl
  ·rw[h];exact .inr (.inl rfl)
  ·rw[h]
   simp only[Option.map_some]
   split
   ·exact .inr (.inl rfl)
   ·exact .inr (.inr rfl)
 loc x h:=by
  show (relabel scope X.env).names.lookup x=_
  rw[qr,h];rfl
 cel x h:=by
  refine⟨?_,decide_eq_true h⟩
  show (relabel scope X.env).names.lookup x=_
  rw[qr,h];rfl
 fre x h:=by
  show (relabel scope X.env).names.lookup x=_∨(relabel scope X.env).names.lookup x=_
  rw[qr,h]
  simp only[Option.map_some]
  split
  ·exact .inl rfl
  ·exact .inr rfl
 glo x h:=by
  unfold wK at h
  simp only[decide_eq_true_eq]at h
  show (relabel scope X.env).names.lookup x=_
  rw[qr,h];rfl
theorem XW.comp(T:XW X XP cf W k){N':List Str}{scope:Scope}{σ:St}{cl:List (Str×Addr)}{C:Addr}{s2:Shared}{H2:Hp}{fp:List Addr}(c:Cat X σ C s2 H2 fp):XW (X.comp N' scope cl C s2 H2 fp) (XPc XP σ) cf W k:=⟨T.bi,T.gi,T.gs,T.fn,T.rm,T.hk,T.calm,T.ex,T.mr,T.gd,fun c f h=>⟨(T.fk c f h).cl,(T.fk c f h).no⟩,T.mc,T.ml,zdi T.px T.sk c,T.sk⟩
theorem zal{scope:Scope}{N':List Str}{k:Nat}{ix:List Nat}(S:XSc X sc N)(h:CSc sc N scope N' k ix):CSc X.env.scope X.N scope N' k ix :=
 ⟨h.kind,h.cel,h.loc,fun y hy e=>by
  rcases h.fre y hy e with z | z
  ·exact .inl (S.cel _ z).1
  ·exact S.fre _ z,h.len,h.nd,fun j i e=>by
  rw[S.hN];exact h.cap j i e⟩
theorem Room.at1(T:XW X XP cf W k):Room 1 X.A:=T.rm.mono T.hk
theorem Room.atk(T:XW X XP cf W k):Room k X.A:=T.rm
theorem yQ{es:List Expr}{env:Env}:(assignEach es env).length=es.length:=by
 induction es with
 |nil=>rfl
 |cons e es ih=>cases e<;>simp[assignEach,ih]
theorem JZ{e:Expr}{es:List Expr}{env:Env}(h:zn e=true):assignEach (e::es) env=(false,assign e env)::assignEach es env:=by
 cases e<;>first | rfl | (simp[zn]at h)
mutual
theorem wu{kp:Nat->Prop}{lo:Nat}(S:XSc X sc N)(hN:N.Nodup)(hn:mp.Nodup)(hc:X.calm=true)(hk:∀ i,lo<=i->¬ kp i):∀ (t:IT) (e:Expr),vW sc N mp lo t e=true->SG X mp kp e t
  |.nm s i,e,h=>by
   cases e with
   |Name x p=>
    simp only[vW,xa,xH,decide_eq_true_eq]at h
    obtain⟨⟨⟨h1,h2⟩,h3⟩,h4⟩:=h
    refine zdF (by rw[S.hN];exact hN) hn (by rw[S.hN];exact h1) h2 (hk i h3) ?_ ?_
    · rcases h4 with h4 | h4
      · exact .inl (S.loc x h4)
      · exact .inr (S.cel x h4).1
    · rcases h4 with h4 | h4
      · exact .inr (S.loc x h4)
      · exact .inl (S.cel x h4).2
   |_=>simp[vW]at h
  |.tp ts,e,h=>by
   cases e with
   |Tuple es n p=>
    simp only[vW]at h
    obtain⟨h1,h2,h3⟩:=yk S hN hn hc hk ts es h
    exact zgd hc h1 (by rw[yQ];exact h2) h3
   |_=>simp[vW]at h
theorem yk{kp:Nat->Prop}{lo:Nat}(S:XSc X sc N)(hN:N.Nodup)(hn:mp.Nodup)(hc:X.calm=true)(hk:∀ i,lo<=i->¬ kp i):∀ (ts:ITs) (es:List Expr),vb sc N mp lo ts es=true->SGs X mp kp es ts/\ts.len=es.length/\(assignEach es X.env).findIdx? (·.1)=none
  |.nil,[],h=>⟨zdG,rfl,rfl⟩
  |.cons t ts,e::es,h=>by
    simp only[vb,xa]at h
    obtain⟨⟨h1,h2⟩,h3⟩:=h
    have ih1:=wu S hN hn hc hk t e h2
    obtain⟨i1,i2,i3⟩:=yk S hN hn hc hk ts es h3
    refine⟨zbA ih1 i1 (by rw[JZ h1];rfl),by rw[ITs.len,i2];rfl,?_⟩
    rw[JZ h1,List.findIdx?_cons]
    simp[i3]
  |.nil,_::_,h=>by simp[vb]at h
  |.cons ..,[],h=>by simp[vb]at h
end
noncomputable def K3(X:Cx)(XP:XPT)(mp:List Nat)(e:Expr)(f:EM (List PyData)):Prop:=∀ elt gens scope pos,e=.ListComp elt gens scope pos->∃ tg iter ifs N' k ix,gens= [⟨tg,iter,ifs,0⟩]/\CSc X.env.scope X.N scope N' k ix/\(∀ x,foldedSetIterable iter X.env x=pure x) /\
 SNt XP mp (vB k ix (wpI X tg iter) (gU X N' scope tg) (fU X N' scope ifs) (eU X N' scope elt)) f
theorem Vh{X:Cx}{XP:XPT}{mp:List Nat}{e:Expr}{f:EM (List PyData)}(h:∀ elt gens scope pos,e≠ .ListComp elt gens scope pos):K3 X XP mp e f:=fun a b c d q=>absurd q (h a b c d)
theorem Ks{e:Expr}{env:Env}(h:JP e=true)(whole:Sem Value):isTrue e env whole=(do let v<-whole;standAt e.pos;holding [v] (truthy v)):=by
 cases e<;>first | rfl | (simp[JP]at h;done) | skip
 rename_i op x p
 cases op<;>first | rfl | (simp[JP]at h)
theorem zU{X:Cx}{XP:XPT}{mp:List Nat}{e:Expr}{fa:EM FV}(h:SE X XP mp e fa)(hp:JP e=true):SE X XP mp e fa/\ST X XP mp e (fTru fa):=⟨h,zbM h (Ks hp)⟩
theorem yq{X:Cx}{XP:XPT}{mp:List Nat}{op:BoolOp}{vs:List Expr}{p:Pos}{t:EM Bool}(h:ST X XP mp (.BoolOp op vs p) t):SW X XP mp (.BoolOp op vs p) t:=fun M0 F Γ ν σ H Q rs hs hp whole pins s I=>h M0 F Γ ν σ H Q rs hs hp pins s I
theorem VE:bootBuiltins "range" =some (.type "range"):=by decide +kernel
theorem W1:bootBuiltins "len" =some (.builtin "len"):=by decide +kernel
theorem kS:bootBuiltins "max" =some (.builtin "max"):=by decide +kernel
theorem W2:bootBuiltins "str" =some (.type "str"):=by decide +kernel
theorem kR:bootBuiltins "isinstance" =some (.builtin "isinstance"):=by decide +kernel
noncomputable abbrev QE(cf:CF)(W:Wd)(a:IE):Prop:=∀ (X:Cx) (XP:XPT) (k:Nat) (sc:Scope) (N:List Str) (mp:List Nat) (m:Nat),XSc X sc N->XW X XP cf W k->∀ (e:Expr),a.chk W sc N mp m e=true->SE X XP mp e (a.ev cf).1/\ST X XP mp e (a.ev cf).2
noncomputable abbrev QL(cf:CF)(W:Wd)(a:IL):Prop:=∀ (X:Cx) (XP:XPT) (k:Nat) (sc:Scope) (N:List Str) (mp:List Nat) (m:Nat),XSc X sc N->XW X XP cf W k->∀ (e:List Expr),a.chk W sc N mp m e=true->SL X XP mp e (a.ev cf)
noncomputable abbrev QA(cf:CF)(W:Wd)(a:IA):Prop:=∀ (X:Cx) (XP:XPT) (k:Nat) (sc:Scope) (N:List Str) (mp:List Nat) (m:Nat),XSc X sc N->XW X XP cf W k->∀ (e:List Expr),a.chk W sc N mp m e=true->SA X XP mp e (a.ev cf)
noncomputable abbrev QN(cf:CF)(W:Wd)(a:IN):Prop:=∀ (X:Cx) (XP:XPT) (k:Nat) (sc:Scope) (N:List Str) (mp:List Nat) (m:Nat),XSc X sc N->XW X XP cf W k->∀ (e:Expr),a.chk W sc N mp m e=true->SN X XP mp e (a.ev cf)/\(a.plain=true->K3 X XP mp e (a.ev cf))
noncomputable abbrev QP(cf:CF)(W:Wd)(a:IP):Prop:=∀ (X:Cx) (XP:XPT) (k:Nat) (sc:Scope) (N:List Str) (mp:List Nat) (m:Nat),XSc X sc N->XW X XP cf W k->∀ (e:Option Expr),a.chk W sc N mp m e=true->SOp X XP mp e (a.ev cf)
noncomputable abbrev QI(cf:CF)(W:Wd)(a:II):Prop:=∀ (X:Cx) (XP:XPT) (k:Nat) (sc:Scope) (N:List Str) (mp:List Nat) (m:Nat),XSc X sc N->XW X XP cf W k->∀ (tg e:Expr),a.chk W sc N mp m e tg=true->SI X XP mp tg e (a.ev cf)
noncomputable abbrev QC(cf:CF)(W:Wd)(a:IC):Prop:=∀ (X:Cx) (XP:XPT) (k:Nat) (sc:Scope) (N:List Str) (mp:List Nat) (m:Nat),XSc X sc N->XW X XP cf W k->∀ (e:List Expr),a.chk W sc N mp m e=true->SF X XP mp e (a.ev cf)
noncomputable abbrev QO(cf:CF)(W:Wd)(a:IO):Prop:=∀ (X:Cx) (XP:XPT) (k:Nat) (sc:Scope) (N:List Str) (mp:List Nat) (m:Nat),XSc X sc N->XW X XP cf W k->∀ (e:Expr),a.chk W sc N mp m e=true->SO X XP mp e (a.ev cf)
noncomputable abbrev QJ(cf:CF)(W:Wd)(a:IJ):Prop:=∀ (X:Cx) (XP:XPT) (k:Nat) (sc:Scope) (N:List Str) (mp:List Nat) (m:Nat),XSc X sc N->XW X XP cf W k->∀ (e:List Expr),a.chk W sc N mp m e=true->SJ X XP mp e (a.ev cf)
noncomputable def zcj(X:Cx)(XP:XPT)(mp:List Nat)(e:Expr)(f:EM (List (Str×PyData))):Prop:=∀ kx vx gens scope pos,e=.DictComp kx vx gens scope pos->∃ tg iter ifs N' k ix,gens= [⟨tg,iter,ifs,0⟩]/\CSc X.env.scope X.N scope N' k ix/\(∀ x,foldedSetIterable iter X.env x=pure x) /\
 SDt XP mp (JU k ix (wpI X tg iter) (gU X N' scope tg) (fU X N' scope ifs) (eD X N' scope kx vx)) f
noncomputable abbrev QM(cf:CF)(W:Wd)(a:IM):Prop:=∀ (X:Cx) (XP:XPT) (k:Nat) (sc:Scope) (N:List Str) (mp:List Nat) (m:Nat),XSc X sc N->XW X XP cf W k->∀ (e:Expr),a.chk W sc N mp m e=true->SD X XP mp e (a.ev cf)/\(a.plain=true->zcj X XP mp e (a.ev cf))
noncomputable abbrev QG(cf:CF)(W:Wd)(a:IG):Prop:=∀ (X:Cx) (XP:XPT) (k:Nat) (sc:Scope) (N:List Str) (mp:List Nat) (m:Nat),XSc X sc N->XW X XP cf W k->∀ (tg e:Expr),a.chk W sc N mp m e tg=true->SIw X XP mp tg e (a.ev cf)/\∀ b,a=.std b->SI X XP mp tg e (b.ev cf)
theorem Jm{cf:CF}{W:Wd}(s i:Nat):QE cf W (.var s i):=by
 intro X XP k sc N mp m S T e g0
 obtain⟨⟨x,p⟩,eu,h⟩:=zb g0
 clear g0
 cases zo eu
 have n:=vq S h
 exact zU (zf9 n.hN n.hv n.hm n.hd n.hcd) rfl
theorem Ja{cf:CF}{W:Wd}(s i:Nat):QE cf W (.frz s i):=by
 intro X XP k sc N mp m S T e g0
 obtain⟨⟨x,p⟩,eu,h⟩:=zb g0
 clear g0
 cases zo eu
 have n:=vq S h
 exact zU (zf2 n.hN n.hv n.hm n.hd n.hcd) rfl
theorem Zx{cf:CF}{W:Wd}(i:Int):QE cf W (.cint i):=by
 intro X XP k sc N mp m S T e g0
 obtain⟨⟨c,j,p⟩,eu,h⟩:=zb g0
 clear g0
 cases qh eu
 obtain⟨z,ez,h⟩:=zb h
 cases zah ez
 cases of_decide_eq_true h
 exact zU zf3 rfl
theorem Zy{cf:CF}{W:Wd}(i:Str):QE cf W (.cstr i):=by
 intro X XP k sc N mp m S T e g0
 obtain⟨⟨c,j,p⟩,eu,h⟩:=zb g0
 clear g0
 cases qh eu
 obtain⟨z,ez,h⟩:=zb h
 cases Zh ez
 cases of_decide_eq_true h
 exact zU zf7 rfl
theorem jB{cf:CF}{W:Wd}(i:Bool):QE cf W (.cbool i):=by
 intro X XP k sc N mp m S T e g0
 obtain⟨⟨c,j,p⟩,eu,h⟩:=zb g0
 clear g0
 cases qh eu
 obtain⟨z,ez,h⟩:=zb h
 cases W4 ez
 cases of_decide_eq_true h
 exact zU zdu rfl
theorem jD{cf:CF}{W:Wd}  :QE cf W (.cnone):=by
 intro X XP k sc N mp m S T e g0
 obtain⟨⟨c,j,p⟩,eu,h⟩:=zb g0
 clear g0
 cases qh eu
 cases kT h
 exact zU zdD rfl
theorem ZC{cf:CF}{W:Wd}(x:Str)(i:Int):QE cf W (.gint x i):=by
 intro X XP k sc N mp m S T e g0
 obtain⟨⟨y,p⟩,eu,h⟩:=zb g0
 clear g0
 cases zo eu
 simp only[xa,decide_eq_true_eq]at h
 obtain⟨⟨⟨h1,h2⟩,h3⟩,h4⟩:=h
 subst h1
 exact zU (zdy (S.glo x h2) (T.gi x i h3) (jQ h4)) rfl
theorem ZE{cf:CF}{W:Wd}(x:Str)(i:Str):QE cf W (.gstr x i):=by
 intro X XP k sc N mp m S T e g0
 obtain⟨⟨y,p⟩,eu,h⟩:=zb g0
 clear g0
 cases zo eu
 simp only[xa,decide_eq_true_eq]at h
 obtain⟨⟨⟨h1,h2⟩,h3⟩,h4⟩:=h
 subst h1
 exact zU (zdA (S.glo x h2) (T.gs x i h3) (jQ h4)) rfl
theorem Jl{cf:CF}{W:Wd}(a:IL)(ih_a:QL cf W a):QE cf W (.tup a):=by
 intro X XP k sc N mp m S T e g0
 obtain⟨⟨es,j,p⟩,eu,h⟩:=zb g0
 clear g0
 cases vG eu
 exact zU (zf8 (ih_a _ _ _ _ _ _ _ S T es h)) rfl
theorem Jg{cf:CF}{W:Wd}(n:IN)(ih_n:QN cf W n):QE cf W (.new n):=by
 intro X XP k sc N mp m S T e h
 replace h:=xy.mp h
 try simp only[xa]at h
 exact zU (SN.se (ih_n _ _ _ _ _ _ _ S T e h.2).1) h.1
theorem Q8{cf:CF}{W:Wd}(op:Operator)(a b:IE)(ih_a:QE cf W a)(ih_b:QE cf W b):QE cf W (.bin op a b):=by
 intro X XP k sc N mp m S T e g0
 obtain⟨⟨x,op',y,p⟩,eu,h⟩:=zb g0
 clear g0
 cases vD eu
 simp only[xa,decide_eq_true_eq]at h
 obtain⟨⟨h1,h2⟩,h3⟩:=h
 subst h1
 exact zU (zbt (zeO op) (ih_a _ _ _ _ _ _ _ S T x h2).1 (ih_b _ _ _ _ _ _ _ S T y h3).1) rfl
theorem Q9{cf:CF}{W:Wd}(op:CmpOp)(a b:IE)(ih_a:QE cf W a)(ih_b:QE cf W b):QE cf W (.cmp op a b):=by
 intro X XP k sc N mp m S T e g0
 obtain⟨⟨x,ops,ys,p⟩,eu,g1⟩:=zb g0
 clear g0
 cases ZX eu
 obtain⟨op',eo,h⟩:=zb g1
 clear g1
 cases zG eo
 obtain⟨y,ey,h⟩:=zb h
 cases zG ey
 simp only[xa,decide_eq_true_eq]at h
 obtain⟨⟨⟨h1,h2⟩,h3⟩,h4⟩:=h
 subst h1
 have ha:=(ih_a _ XP _ _ _ _ _ S T x h3).1
 have hb:=(ih_b _ XP _ _ _ _ _ S T y h4).1
 exact⟨zbv (JE (Room.at1 T) op) ha hb (Zl op h2),zbL (JE (Room.at1 T) op) ha hb (Zl op h2)⟩
theorem jC{cf:CF}{W:Wd}(op1 op2:CmpOp)(a b c:IE)(ih_a:QE cf W a)(ih_b:QE cf W b)(ih_c:QE cf W c):QE cf W (.chain op1 op2 a b c):=by
 intro X XP k sc N mp m S T e g0
 obtain⟨⟨x,ops,ys,p⟩,eu,g1⟩:=zb g0
 clear g0
 cases ZX eu
 obtain⟨⟨o1,o2⟩,eo,h⟩:=zb g1
 clear g1
 cases jR eo
 obtain⟨⟨y,z⟩,ey,h⟩:=zb h
 cases jR ey
 simp only[xa,decide_eq_true_eq]at h
 obtain⟨⟨⟨⟨⟨h1,h2⟩,h3⟩,h4⟩,h5⟩,h6⟩:=h
 subst h1 h2
 have ha:=(ih_a _ XP _ _ _ _ _ S T x h4).1
 have hb:=(ih_b _ XP _ _ _ _ _ S T y h5).1
 have hc:=(ih_c _ XP _ _ _ _ _ S T z h6).1
 exact⟨zbu (JE (Room.at1 T) op1) (JE (Room.at1 T) op2) ha hb hc (vn op1 op2 h3),zbK (JE (Room.at1 T) op1) (JE (Room.at1 T) op2) ha hb hc (vn op1 op2 h3)⟩
theorem Jh{cf:CF}{W:Wd}(a:IE)(ih_a:QE cf W a):QE cf W (.not a):=by
 intro X XP k sc N mp m S T e g0
 obtain⟨⟨op,x,p⟩,eu,h⟩:=zb g0
 clear g0
 cases yD eu
 simp only[xa,decide_eq_true_eq]at h
 cases h.1
 have hh:=ih_a _ XP _ _ _ _ _ S T x h.2
 exact⟨zf5 hh.1,zgu hh.2⟩
theorem Jf{cf:CF}{W:Wd}(a:IE)(ih_a:QE cf W a):QE cf W (.neg a):=by
 intro X XP k sc N mp m S T e g0
 obtain⟨⟨op,x,p⟩,eu,h⟩:=zb g0
 clear g0
 cases yD eu
 simp only[xa,decide_eq_true_eq]at h
 cases h.1
 exact zU (zf4 (ih_a _ _ _ _ _ _ _ S T x h.2).1) rfl
theorem Q6{cf:CF}{W:Wd}(a b:IE)(ih_a:QE cf W a)(ih_b:QE cf W b):QE cf W (.and a b):=by
 intro X XP k sc N mp m S T e g0
 obtain⟨⟨x,z⟩,eu,h⟩:=zb g0
 clear g0
 rw[xa]at h
 have ha:=ih_a _ XP _ _ _ _ _ S T x h.1
 have hb:=ih_b _ XP _ _ _ _ _ S T z h.2
 rcases vC eu with ⟨p,rfl⟩ | ⟨y,w,r,p,rfl,rfl⟩
 ·exact⟨zbs ha.1 (zbw hb.1),(zbO ha.2 (zdW hb.2)).st⟩
 ·exact⟨zbs ha.1 hb.1,(zbO ha.2 (yq hb.2)).st⟩
theorem W6{cf:CF}{W:Wd}(a b:IE)(ih_a:QE cf W a)(ih_b:QE cf W b):QE cf W (.or a b):=by
 intro X XP k sc N mp m S T e g0
 obtain⟨⟨x,z⟩,eu,h⟩:=zb g0
 clear g0
 rw[xa]at h
 have ha:=ih_a _ XP _ _ _ _ _ S T x h.1
 have hb:=ih_b _ XP _ _ _ _ _ S T z h.2
 rcases vC eu with ⟨p,rfl⟩ | ⟨y,w,r,p,rfl,rfl⟩
 ·exact⟨zev ha.1 (zbw hb.1),(zeB ha.2 (zdX hb.2)).st⟩
 ·exact⟨zev ha.1 hb.1,(zeB ha.2 (yq hb.2)).st⟩
theorem Jc{cf:CF}{W:Wd}(c a b:IE)(ih_c:QE cf W c)(ih_a:QE cf W a)(ih_b:QE cf W b):QE cf W (.ite c a b):=by
 intro X XP k sc N mp m S T e g0
 obtain⟨⟨z,x,y,p⟩,eu,h⟩:=zb g0
 clear g0
 cases KM eu
 simp only[xa]at h
 obtain⟨⟨h1,h2⟩,h3⟩:=h
 exact⟨zht (ih_c _ _ _ _ _ _ _ S T z h1).2 (ih_a _ _ _ _ _ _ _ S T x h2).1 (ih_b _ _ _ _ _ _ _ S T y h3).1,fun M0 F Γ ν σ H Q rs hs hp=>hp.elim⟩
theorem W5{cf:CF}{W:Wd}(a b:IE)(ih_a:QE cf W a)(ih_b:QE cf W b):QE cf W (.ix a b):=by
 intro X XP k sc N mp m S T e g0
 obtain⟨⟨x,y,p⟩,eu,h⟩:=zb g0
 clear g0
 cases jT eu
 simp only[xa]at h
 obtain⟨⟨h1,h2⟩,h3⟩:=h
 exact zU (zhu (ih_a _ _ _ _ _ _ _ S T x h2).1 (ih_b _ _ _ _ _ _ _ S T y h3).1 (wY h1)) rfl
theorem Jd{cf:CF}{W:Wd}(a:IE)(ih_a:QE cf W a):QE cf W (.len a):=by
 intro X XP k sc N mp m S T e h
 conv at h=>lhs;whnf
 split at h
 ·rename_i f p x q eu
  cases qI eu
  simp only[xa]at h
  obtain⟨⟨h1,h2⟩,h3⟩:=h
  exact zU (ke ze4 (qJ S T h1 W1 (by decide) (by decide)) (ih_a _ _ _ _ _ _ _ S T x h3).1 (zp h2)) rfl
 ·cases h
theorem Q5{cf:CF}{W:Wd}(a:IE)(ih_a:QE cf W a):QE cf W (.all a):=by
 intro X XP k sc N mp m S T e h
 conv at h=>lhs;whnf
 split at h
 ·rename_i f p x q eu
  cases qI eu
  simp only[xa]at h
  obtain⟨⟨h1,h2⟩,h3⟩:=h
  exact zU (ke (ze2 T.calm) (qJ S T h1 kP (by decide) (by decide)) (ih_a _ _ _ _ _ _ _ S T x h3).1 (zp h2)) rfl
 ·cases h
theorem Q7{cf:CF}{W:Wd}(a:IE)(ih_a:QE cf W a):QE cf W (.any a):=by
 intro X XP k sc N mp m S T e h
 conv at h=>lhs;whnf
 split at h
 ·rename_i f p x q eu
  cases qI eu
  simp only[xa]at h
  obtain⟨⟨h1,h2⟩,h3⟩:=h
  exact zU (ke (ze3 T.calm) (qJ S T h1 kQ (by decide) (by decide)) (ih_a _ _ _ _ _ _ _ S T x h3).1 (zp h2)) rfl
 ·cases h
theorem jE{cf:CF}{W:Wd}(a:IE)(ih_a:QE cf W a):QE cf W (.tuple a):=by
 intro X XP k sc N mp m S T e h
 conv at h=>lhs;whnf
 split at h
 ·rename_i f p x q eu
  cases qI eu
  simp only[xa]at h
  obtain⟨⟨h1,h2⟩,h3⟩:=h
  exact zU (zbx (qJ S T h1 J0 (by decide) (by decide)) (ih_a _ _ _ _ _ _ _ S T x h3).1 (zp h2)) rfl
 ·cases h
theorem Jb{cf:CF}{W:Wd}(TT:String)(a:IE)(ih_a:QE cf W a):QE cf W (.isi TT a):=by
 intro X XP k sc N mp m S T e h
 conv at h=>lhs;whnf
 split at h
 ·rename_i f p x y q eu
  cases Vx eu
  simp only[xa,xH,beq_iff_eq]at h
  obtain⟨⟨⟨⟨h1,h2⟩,h3⟩,h4⟩,h5⟩:=h
  obtain⟨⟨y,p2⟩,ey,h4⟩:=zb h4
  cases zo ey
  have B:=qJ S T h1 kR (by decide) (by decide)
  have ha:=(ih_a _ XP _ _ _ _ _ S T x h5).1
  rcases h3 with (((rfl | rfl) | rfl) | rfl) | rfl
  ·exact zU (We B (qJ S T h4 W0 (by decide) (by decide)) ha (zp h2)) rfl
  ·exact zU (We B (qJ S T h4 yU (by decide) (by decide)) ha (zp h2)) rfl
  ·exact zU (We B (qJ S T h4 Qb (by decide) (by decide)) ha (zp h2)) rfl
  ·exact zU (We B (qJ S T h4 J0 (by decide) (by decide)) ha (zp h2)) rfl
  ·exact zU (We B (qJ S T h4 W2 (by decide) (by decide)) ha (zp h2)) rfl
 ·cases h
theorem Je{cf:CF}{W:Wd}(a b:IE)(ih_a:QE cf W a)(ih_b:QE cf W b):QE cf W (.max a b):=by
 intro X XP k sc N mp m S T e h
 conv at h=>lhs;whnf
 split at h
 ·rename_i f p x y q eu
  cases Vx eu
  simp only[xa]at h
  obtain⟨⟨⟨⟨h1,h2⟩,h3⟩,h4⟩,h5⟩:=h
  exact zU (zdC T.calm (qJ S T h1 kS (by decide) (by decide)) (ih_a _ _ _ _ _ _ _ S T x h4).1 (ih_b _ _ _ _ _ _ _ S T y h5).1 (zp h2) (zp h3)) rfl
 ·cases h
theorem Zw{cf:CF}{W:Wd}(o:IO)(ih_o:QO cf W o):QE cf W (.call o):=by
 intro X XP k sc N mp m S T e h
 replace h:=xy.mp h
 try simp only[xa]at h
 exact zU (ih_o _ _ _ _ _ _ _ S T e h.2).se h.1
theorem Jy{cf:CF}{W:Wd}(a:IL)(ih_a:QL cf W a):QN cf W (.lst a):=by
 intro X XP k sc N mp m S T e g0
 obtain⟨⟨es,p⟩,eu,h⟩:=zb g0
 clear g0
 cases KO eu
 exact⟨zgm (ih_a _ _ _ _ _ _ _ S T es h),fun _=>Vh (fun _ _ _ _ q=>nomatch q)⟩
theorem Jx{cf:CF}{W:Wd}(x:IE)(lo hi:IP)(ih_x:QE cf W x)(ih_lo:QP cf W lo)(ih_hi:QP cf W hi):QN cf W (.cut x lo hi):=by
 intro X XP k sc N mp m S T e g0
 obtain⟨⟨y,l,u,p,q⟩,eu,h⟩:=zb g0
 clear g0
 cases vF eu
 simp only[xa]at h
 obtain⟨⟨h1,h2⟩,h3⟩:=h
 exact⟨zgl (ih_x _ _ _ _ _ _ _ S T y h1).1 (ih_lo _ _ _ _ _ _ _ S T l h2) (ih_hi _ _ _ _ _ _ _ S T u h3),fun _=>Vh (fun _ _ _ _ q=>nomatch q)⟩
theorem ZO{cf:CF}{W:Wd}(a:IE)(ih_a:QE cf W a):QN cf W (.list a):=by
 intro X XP k sc N mp m S T e h
 conv at h=>lhs;whnf
 split at h
 ·rename_i f p x q eu
  cases qI eu
  simp only[xa]at h
  obtain⟨⟨h1,h2⟩,h3⟩:=h
  exact⟨zdN (qJ S T h1 Qb (by decide) (by decide)) (ih_a _ _ _ _ _ _ _ S T x h3).1 (zp h2),fun _=>Vh (fun _ _ _ _ q=>nomatch q)⟩
 ·cases h
theorem ZN{cf:CF}{W:Wd}(n kk:Nat)(ix:List Nat)(N':List Str)(t:IT)(src:II)(c:IC)(el:IE)(ih_src:QI cf W src)(ih_c:QC cf W c)(ih_el:QE cf W el):QN cf W (.comp n kk ix N' t src c el):=by
 intro X XP k sc N mp m S T e h
 conv at h=>lhs;whnf
 split at h
 ·rename_i elt tg iter ifs scope p eu
  cases zb4 eu
  simp only[xa,decide_eq_true_eq]at h
  obtain⟨⟨⟨⟨⟨⟨⟨⟨h1,h3⟩,h4⟩,h5⟩,h6⟩,h7⟩,h8⟩,h9⟩,h10⟩:=h
  subst h1
  have C0:CSc sc N scope N' kk ix:=CSc.of h3
  have C1:=zal S C0
  have hm:∀ j i:Nat,ix[j]?=some i->∃ m,mp[i]?=some m/\m<n:=fun j i e=>by
   have:=xB.mp h5 i (ub e)
   split at this
   ·rename_i q eq;exact⟨q,eq,by simpa using this⟩
   ·cases this
  have hi:=ih_src _ XP _ _ _ _ _ S T tg iter h7
  have hg:∀ σ cl C s2 H2 fp,Cat X σ C s2 H2 fp->SG (X.comp N' scope cl C s2 H2 fp) (mpC mp n kk ix) (·<n) tg t:=fun σ cl C s2 H2 fp cat=>wu (XSc.comp C0 cl C s2 H2 fp) C0.nd h4 T.calm (fun i h=>by omega) t tg h8
  have hc:∀ σ cl C s2 H2 fp,Cat X σ C s2 H2 fp->SF (X.comp N' scope cl C s2 H2 fp) (XPc XP σ) (mpC mp n kk ix) ifs (c.ev cf):=fun σ cl C s2 H2 fp cat=>ih_c _ _ _ _ _ _ _ (XSc.comp C0 cl C s2 H2 fp) (T.comp cat) ifs h9
  have he:∀ σ cl C s2 H2 fp,Cat X σ C s2 H2 fp->SE (X.comp N' scope cl C s2 H2 fp) (XPc XP σ) (mpC mp n kk ix) elt (el.ev cf).1:=fun σ cl C s2 H2 fp cat=>(ih_el _ _ _ _ _ _ _ (XSc.comp C0 cl C s2 H2 fp) (T.comp cat) elt h10).1
  refine⟨zdM T.calm C1 hm hi hg hc he (jJ h6),fun _ a b c' d q=>?_⟩
  cases q
  exact⟨tg,iter,ifs,N',kk,ix,rfl,C1,jJ h6,yj C1 hm hi hg hc he⟩
 ·cases h
theorem ZK{cf:CF}{W:Wd}(a:IE)(ih_a:QE cf W a):QI cf W (.list a):=by
 intro X XP k sc N mp m S T tg e h
 exact zdI (ih_a _ _ _ _ _ _ _ S T e h).1
theorem Jp{cf:CF}{W:Wd}(a:IE)(ih_a:QE cf W a):QI cf W (.tup a):=by
 intro X XP k sc N mp m S T tg e h
 exact zge (ih_a _ _ _ _ _ _ _ S T e h).1
theorem jG{cf:CF}{W:Wd}(a:IE)(ih_a:QE cf W a):QI cf W (.range a):=by
 intro X XP k sc N mp m S T tg e h
 conv at h=>lhs;whnf
 split at h
 ·rename_i f p x q eu
  cases qI eu
  simp only[xa]at h
  obtain⟨⟨h1,h2⟩,h3⟩:=h
  have ef:f= "range" :=by
   unfold biB at h1
   simp only[xa,decide_eq_true_eq]at h1
   exact h1.1.1
  exact zbD (qJ S T h1 VE (by decide) (by decide)) ef (ih_a _ _ _ _ _ _ _ S T x h3).1 (zp h2)
 ·cases h
theorem Jz{cf:CF}{W:Wd}(a:IE)(ih_a:QE cf W a):QO cf W (.dat a):=by
 intro X XP k sc N mp m S T e h
 exact (ih_a _ _ _ _ _ _ _ S T e h).1.so
theorem JA{cf:CF}{W:Wd}(n:IN)(ih_n:QN cf W n):QO cf W (.own n):=by
 intro X XP k sc N mp m S T e h
 exact (ih_n _ _ _ _ _ _ _ S T e h).1.so
theorem ZP{cf:CF}{W:Wd}(g:Str)(n:Nat)(a:IA)(ih_a:QA cf W a):QO cf W (.call g n a):=by
 intro X XP k sc N mp m S T e h
 conv at h=>lhs;whnf
 split at h
 ·rename_i f p xs q eu
  cases wv eu
  simp only[xa,decide_eq_true_eq]at h
  obtain⟨⟨⟨⟨⟨h1,h2⟩,h3⟩,h4⟩,h5⟩,h6⟩:=h
  subst h1
  obtain⟨kn,hrun⟩:=T.fn _ _ h3
  cases xs with
  |nil=>
   cases a with
   |nil=>exact zbG T.px kn (Room.atk T) (S.glo _ h2) hrun (jQ h4)
   |cons _ _=>cases h6
   |io _ _ _=>cases h6
   |tmp _=>cases h6
  |cons x xs=>
   rw[uj,xa]at h5
   exact zdO T.px kn (Room.atk T) (S.glo _ h2) hrun (ih_a _ _ _ _ _ _ _ S T (x::xs) h6) (jQ h4) (zp h5.1) (Z9 (yn h5.2))
 ·cases h
theorem ZQ{cf:CF}{W:Wd}(s i:Nat):QO cf W (.move s i):=by
 intro X XP k sc N mp m S T e g0
 obtain⟨⟨x,p⟩,eu,h⟩:=zb g0
 clear g0
 cases zo eu
 have n:=vq S h
 exact zdP n.hN n.hv n.hm n.hd n.hcd
theorem Ju{cf:CF}{W:Wd}:QL cf W .nil:=by
 intro X XP k sc N mp m S T es h
 cases es with
 |nil=>exact zgj
 |cons _ _=>cases h
theorem ZL{cf:CF}{W:Wd}(e:IE)(a:IL)(ih_e:QE cf W e)(ih_a:QL cf W a):QL cf W (.cons e a):=by
 intro X XP k sc N mp m S T es h
 cases es with
 |nil=>cases h
 |cons x xs=>
  replace h:=xy.mp h
  try simp only[xa]at h
  obtain⟨⟨h1,h2⟩,h3⟩:=h
  exact zdL (ih_e _ _ _ _ _ _ _ S T x h2).1 (ih_a _ _ _ _ _ _ _ S T xs h3) (zp h1)
theorem QZ{cf:CF}{W:Wd}:QA cf W .nil:=by
 intro X XP k sc N mp m S T es h
 cases es with
 |nil=>exact zfY
 |cons _ _=>cases h
theorem Zv{cf:CF}{W:Wd}(e:IE)(a:IA)(ih_e:QE cf W e)(ih_a:QA cf W a):QA cf W (.cons e a):=by
 intro X XP k sc N mp m S T es h
 cases es with
 |nil=>cases h
 |cons x xs=>
  replace h:=xy.mp h
  try simp only[xa]at h
  obtain⟨⟨h1,h2⟩,h3⟩:=h
  exact zdq (ih_e _ _ _ _ _ _ _ S T x h2).1 (ih_a _ _ _ _ _ _ _ S T xs h3) (zp h1)
theorem W3{cf:CF}{W:Wd}(s i:Nat)(a:IA)(ih_a:QA cf W a):QA cf W (.io s i a):=by
 intro X XP k sc N mp m S T es h
 cases es with
 |nil=>cases h
 |cons e xs=>
  replace h:=xy.mp h
  try simp only[xa]at h
  obtain⟨⟨x,p⟩,eu,h1⟩:=zb h.1
  cases zo eu
  have n:=vq S h1
  exact zhs n.hN n.hv n.hm n.hd n.hcd (ih_a _ _ _ _ _ _ _ S T xs h.2) rfl
theorem Q0{cf:CF}{W:Wd}(n:IN)(ih_n:QN cf W n):QA cf W (.tmp n):=by
 intro X XP k sc N mp m S T es h
 match es,h with
 |[],h=>nomatch h
 |[x],h=>
  replace h:=xy.mp h
  try simp only[xa]at h
  exact zfZ (ih_n _ _ _ _ _ _ _ S T x h.2).1 (zp h.1)
 |_::_::_,h=>nomatch h
theorem JB{cf:CF}{W:Wd}:QP cf W .non:=by
 intro X XP k sc N mp m S T e h
 cases e with
 |none=>exact zdQ
 |some _=>cases h
theorem JC{cf:CF}{W:Wd}(a:IE)(ih_a:QE cf W a):QP cf W (.one a):=by
 intro X XP k sc N mp m S T e h
 cases e with
 |none=>cases h
 |some x=>exact zdR (ih_a _ _ _ _ _ _ _ S T x h).1
theorem Q4{cf:CF}{W:Wd}:QC cf W .yes:=by
 intro X XP k sc N mp m S T es h
 cases es with
 |nil=>exact zgb
 |cons _ _=>cases h
theorem Q3{cf:CF}{W:Wd}(a:IE)(ih_a:QE cf W a):QC cf W (.one a):=by
 intro X XP k sc N mp m S T es h
 match es,h with
 |[],h=>nomatch h
 |[x],h=>exact zgc (ih_a _ _ _ _ _ _ _ S T x h).2
 |_::_::_,h=>nomatch h
theorem ZH{cf:CF}{W:Wd}(a b:IE)(ih_a:QE cf W a)(ih_b:QE cf W b):QE cf W (.sadd a b):=by
 intro X XP k sc N mp m S T e g0
 obtain⟨⟨x,op,y,p⟩,eu,h⟩:=zb g0
 clear g0
 cases vD eu
 simp only[xa,decide_eq_true_eq]at h
 obtain⟨⟨h1,h2⟩,h3⟩:=h
 subst h1
 exact zU (zbt zdr (ih_a _ _ _ _ _ _ _ S T x h2).1 (ih_b _ _ _ _ _ _ _ S T y h3).1) rfl
theorem Ji{cf:CF}{W:Wd}(a b:IE)(ih_a:QE cf W a)(ih_b:QE cf W b):QE cf W (.sin a b):=by
 intro X XP k sc N mp m S T e g0
 obtain⟨⟨x,ops,ys,p⟩,eu,g1⟩:=zb g0
 clear g0
 cases ZX eu
 obtain⟨op',eo,h⟩:=zb g1
 clear g1
 cases zG eo
 obtain⟨y,ey,h⟩:=zb h
 cases zG ey
 simp only[xa,decide_eq_true_eq]at h
 obtain⟨⟨⟨h1,h2⟩,h3⟩,h4⟩:=h
 subst h1
 have ha:=(ih_a _ XP _ _ _ _ _ S T x h3).1
 have hb:=(ih_b _ XP _ _ _ _ _ S T y h4).1
 exact⟨zbv zbE ha hb (Zl .In h2),zbL zbE ha hb (Zl .In h2)⟩
theorem ZJ{cf:CF}{W:Wd}(a:IE)(ih_a:QE cf W a):QE cf W (.slen a):=by
 intro X XP k sc N mp m S T e h
 conv at h=>lhs;whnf
 split at h
 ·rename_i f p x q eu
  cases qI eu
  simp only[xa]at h
  obtain⟨⟨h1,h2⟩,h3⟩:=h
  exact zU (ke zcE (qJ S T h1 W1 (by decide) (by decide)) (ih_a _ _ _ _ _ _ _ S T x h3).1 (zp h2)) rfl
 ·cases h
theorem Jk{cf:CF}{W:Wd}(a:IE)(ih_a:QE cf W a):QE cf W (.str a):=by
 intro X XP k sc N mp m S T e h
 conv at h=>lhs;whnf
 split at h
 ·rename_i f p x q eu
  cases qI eu
  simp only[xa]at h
  obtain⟨⟨h1,h2⟩,h3⟩:=h
  exact zU (zew ze5 (qJ S T h1 W2 (by decide) (by decide)) (ih_a _ _ _ _ _ _ _ S T x h3).1 (zp h2)) rfl
 ·cases h
theorem ZF{cf:CF}{W:Wd}(z:Str)(a:IE)(ih_a:QE cf W a):QE cf W (.join z a):=by
 intro X XP k sc N mp m S T e g0
 obtain⟨⟨z',j,p1,nm,p2,x,q⟩,eu,h⟩:=zb g0
 clear g0
 cases zb2 eu
 simp only[xa,decide_eq_true_eq]at h
 obtain⟨⟨⟨⟨h1,h2⟩,h3⟩,h4⟩,h5⟩:=h
 subst h1
 exact zU (zdB h2 (ih_a _ _ _ _ _ _ _ S T x h5).1 (zp h3) h4) rfl
theorem Jj{cf:CF}{W:Wd}(a b:IE)(ih_a:QE cf W a)(ih_b:QE cf W b):QE cf W (.six a b):=by
 intro X XP k sc N mp m S T e g0
 obtain⟨⟨x,y,p⟩,eu,h⟩:=zb g0
 clear g0
 cases jT eu
 simp only[xa]at h
 obtain⟨⟨h1,h2⟩,h3⟩:=h
 exact zU (zf6 (ih_a _ _ _ _ _ _ _ S T x h2).1 (ih_b _ _ _ _ _ _ _ S T y h3).1 (wY h1)) rfl
theorem ZB{cf:CF}{W:Wd}(a:IJ)(ih_a:QJ cf W a):QE cf W (.fstr a):=by
 intro X XP k sc N mp m S T e g0
 obtain⟨⟨vs,p⟩,eu,h⟩:=zb g0
 clear g0
 cases zb3 eu
 simp only[xa,decide_eq_true_eq]at h
 obtain⟨⟨h1,h2⟩,h3⟩:=h
 match vs,h1,h2,h3 with
 |v1::v2::r,h1,h2,h3=>exact zU (zdx (ih_a _ XP _ _ _ _ _ S T _ h3) h2) rfl
theorem Js{cf:CF}{W:Wd}:QJ cf W .nil:=by
 intro X XP k sc N mp m S T e h
 cases e with
 |nil=>exact zgh
 |cons _ _=>exact Bool.noConfusion (show false=true from h)
theorem Jr{cf:CF}{W:Wd}(z:Str)(r:IJ)(ih_r:QJ cf W r):QJ cf W (.con z r):=by
 intro X XP k sc N mp m S T e h
 cases e with
 |nil=>exact Bool.noConfusion (show false=true from h)
 |cons x xs=>
  replace h:=xy.mp h
  try simp only[xa,decide_eq_true_eq]at h
  obtain⟨⟨g0,h2⟩,h3⟩:=h
  obtain⟨⟨c,j,p⟩,eu,h⟩:=zb g0
  clear g0
  cases qh eu
  obtain⟨y,ey,h⟩:=zb h
  cases Zh ey
  cases of_decide_eq_true h
  exact zgg h2 (ih_r _ XP _ _ _ _ _ S T xs h3)
theorem Jt{cf:CF}{W:Wd}(a:IE)(r:IJ)(ih_a:QE cf W a)(ih_r:QJ cf W r):QJ cf W (.val a r):=by
 intro X XP k sc N mp m S T e h
 cases e with
 |nil=>exact Bool.noConfusion (show false=true from h)
 |cons x xs=>
  replace h:=xy.mp h
  try simp only[xa]at h
  obtain⟨g0,h3⟩:=h
  obtain⟨⟨v,p⟩,eu,h⟩:=zb g0
  clear g0
  cases zbZ eu
  exact zgi (ih_a _ XP _ _ _ _ _ S T v h).1 (ih_r _ XP _ _ _ _ _ S T xs h3)
theorem ZA{cf:CF}{W:Wd}(a b:IE)(ih_a:QE cf W a)(ih_b:QE cf W b):QE cf W (.ends a b):=by
 intro X XP k sc N mp m S T e g0
 obtain⟨⟨o,nm,p2,x,q⟩,eu,h⟩:=zb g0
 clear g0
 cases yC eu
 simp only[xa,decide_eq_true_eq]at h
 obtain⟨⟨⟨⟨⟨h1,h2⟩,h3⟩,h4⟩,h5⟩,h6⟩:=h
 exact zU (zdw h2 (ih_a _ _ _ _ _ _ _ S T o h5).1 (ih_b _ _ _ _ _ _ _ S T x h6).1 (Qr h1) (zp h3) h4) rfl
theorem ZI{cf:CF}{W:Wd}(a:IE)(ih_a:QE cf W a):QE cf W (.sint a):=by
 intro X XP k sc N mp m S T e h
 conv at h=>lhs;whnf
 split at h
 ·rename_i f p x q eu
  cases qI eu
  simp only[xa]at h
  obtain⟨⟨h1,h2⟩,h3⟩:=h
  exact zU (zew zcD (qJ S T h1 W0 (by decide) (by decide)) (ih_a _ _ _ _ _ _ _ S T x h3).1 (zp h2)) rfl
 ·cases h
theorem Zz{cf:CF}{W:Wd}(a:IE)(lo hi:IP)(ih_a:QE cf W a)(ih_lo:QP cf W lo)(ih_hi:QP cf W hi):QE cf W (.cutS a lo hi):=by
 intro X XP k sc N mp m S T e h
 conv at h=>lhs;whnf
 split at h
 ·rename_i x l u p2 q eu
  cases vF eu
  simp only[xa]at h
  obtain⟨⟨h1,h2⟩,h3⟩:=h
  exact zU (zdv (ih_a _ _ _ _ _ _ _ S T x h1).1 (ih_lo _ _ _ _ _ _ _ S T l h2) (ih_hi _ _ _ _ _ _ _ S T u h3)) rfl
 ·cases h
theorem ZD{cf:CF}{W:Wd}(x:Str)(kf:List (Str×Str))(a:IE)(ih_a:QE cf W a):QE cf W (.gnin x kf a):=by
 intro X XP k sc N mp m S T e g0
 obtain⟨⟨y,ops,ys,p⟩,eu,g1⟩:=zb g0
 clear g0
 cases ZX eu
 obtain⟨op',eo,h⟩:=zb g1
 clear g1
 cases zG eo
 obtain⟨z,ez,h⟩:=zb h
 cases zG ez
 obtain⟨⟨w,pw⟩,ew,h⟩:=zb h
 cases zo ew
 simp only[xa,decide_eq_true_eq]at h
 obtain⟨⟨⟨⟨⟨h1,h2⟩,h3⟩,h4⟩,h5⟩,h6⟩:=h
 subst h1 h2
 have ha:=(ih_a _ XP _ _ _ _ _ S T y h6).1
 exact⟨zdz (T.gd x kf h4) (S.glo _ h3) (jQ h5) ha,zdU (T.gd x kf h4) (S.glo _ h3) (jQ h5) ha⟩
theorem jH{cf:CF}{W:Wd}(a b:IE)(ih_a:QE cf W a)(ih_b:QE cf W b):QN cf W (.split a b):=by
 intro X XP k sc N mp m S T e g0
 obtain⟨⟨o,nm,p2,x,q⟩,eu,h⟩:=zb g0
 clear g0
 cases yC eu
 simp only[xa,decide_eq_true_eq]at h
 obtain⟨⟨⟨⟨⟨h1,h2⟩,h3⟩,h4⟩,h5⟩,h6⟩:=h
 exact⟨zbF h2 (ih_a _ _ _ _ _ _ _ S T o h5).1 (ih_b _ _ _ _ _ _ _ S T x h6).1 (Qr h1) (zp h3) h4,fun _=>Vh (fun _ _ _ _ q=>nomatch q)⟩
theorem jF{cf:CF}{W:Wd}(a:IE)(ih_a:QE cf W a):QI cf W (.chars a):=by
 intro X XP k sc N mp m S T tg e h
 exact zbC (ih_a _ _ _ _ _ _ _ S T e h).1
theorem Jq{cf:CF}{W:Wd}(tp:Bool)(a b:IE)(ih_a:QE cf W a)(ih_b:QE cf W b):QI cf W (.zip tp a b):=by
 intro X XP k sc N mp m S T tg e h
 conv at h=>lhs;whnf
 split at h
 ·rename_i f p x y q eu
  cases Vx eu
  simp only[xa]at h
  obtain⟨⟨⟨⟨⟨h0,h1⟩,h2⟩,h3⟩,h4⟩,h5⟩:=h
  have ef:f= "zip" :=by
   unfold biB at h1
   simp only[xa,decide_eq_true_eq]at h1
   exact h1.1.1
  cases tg with
  |Tuple es x1 pt=>exact zgf (qJ S T h1 L2.boot_zip (by decide) (by decide)) ef (ih_a _ _ _ _ _ _ _ S T x h4).1 (ih_b _ _ _ _ _ _ _ S T y h5).1 (zp h2) (zp h3)
  |_=>simp[zer]at h0
 ·cases h
theorem zhB{X:Cx}{XP:XPT}{mp:List Nat}{e:Expr}:ST X XP mp e fNo:=fun M0 F Γ ν σ H Q rs hs hp=>hp.elim
theorem ZG{cf:CF}{W:Wd}(n:IM)(ih_n:QM cf W n):QE cf W (.newD n):=by
 intro X XP k sc N mp m S T e h
 exact⟨(ih_n _ _ _ _ _ _ _ S T e h).1.se,zhB⟩
theorem Jv{cf:CF}{W:Wd}:QM cf W .nil:=by
 intro X XP k sc N mp m S T e g0
 obtain⟨⟨ks,vs,p⟩,eu,h⟩:=zb g0
 clear g0
 cases yB eu
 simp only[xa,List.isEmpty_iff]at h
 obtain⟨rfl,rfl⟩:=h
 exact⟨zf0,fun _ _ _ _ _ _ q=>nomatch q⟩
theorem Jw{cf:CF}{W:Wd}(a b:IE)(ih_a:QE cf W a)(ih_b:QE cf W b):QM cf W (.one a b):=by
 intro X XP k sc N mp m S T e g0
 obtain⟨⟨ks,vs,p⟩,eu,g1⟩:=zb g0
 clear g0
 cases yB eu
 obtain⟨kx,ek,g2⟩:=zb g1
 clear g1
 cases zG ek
 obtain⟨x,ex,g3⟩:=zb g2
 clear g2
 cases ex
 obtain⟨y,ey,h⟩:=zb g3
 clear g3
 cases zG ey
 rw[xa]at h
 exact⟨zf1 (ih_a _ XP _ _ _ _ _ S T x h.1).1 (ih_b _ XP _ _ _ _ _ S T y h.2).1,fun _ _ _ _ _ _ q=>nomatch q⟩
theorem ZM{cf:CF}{W:Wd}(n kk:Nat)(ix:List Nat)(N':List Str)(t:IT)(src:IG)(c:IC)(ek ev:IE)(ih_src:QG cf W src)(ih_c:QC cf W c)(ih_ek:QE cf W ek)(ih_ev:QE cf W ev):QM cf W (.comp n kk ix N' t src c ek ev):=by
 intro X XP k sc N mp m S T e h
 conv at h=>lhs;whnf
 split at h
 ·rename_i kx vx tg iter ifs scope p eu
  cases zbY eu
  simp only[xa,decide_eq_true_eq]at h
  obtain⟨⟨⟨⟨⟨⟨⟨⟨⟨h1,h3⟩,h4⟩,h5⟩,h6⟩,h7⟩,h8⟩,h9⟩,h10⟩,h11⟩:=h
  subst h1
  have C0:CSc sc N scope N' kk ix:=CSc.of h3
  have C1:=zal S C0
  have hm:∀ j i:Nat,ix[j]?=some i->∃ m,mp[i]?=some m/\m<n:=fun j i e=>by
   have:=xB.mp h5 i (ub e)
   split at this
   ·rename_i q eq;exact⟨q,eq,by simpa using this⟩
   ·cases this
  have hi:=ih_src _ XP _ _ _ _ _ S T tg iter h7
  have hg:∀ σ cl C s2 H2 fp,Cat X σ C s2 H2 fp->SG (X.comp N' scope cl C s2 H2 fp) (mpC mp n kk ix) (·<n) tg t:=fun σ cl C s2 H2 fp cat=>wu (XSc.comp C0 cl C s2 H2 fp) C0.nd h4 T.calm (fun i h=>by omega) t tg h8
  have hc:∀ σ cl C s2 H2 fp,Cat X σ C s2 H2 fp->SF (X.comp N' scope cl C s2 H2 fp) (XPc XP σ) (mpC mp n kk ix) ifs (c.ev cf):=fun σ cl C s2 H2 fp cat=>ih_c _ _ _ _ _ _ _ (XSc.comp C0 cl C s2 H2 fp) (T.comp cat) ifs h9
  have hk:∀ σ cl C s2 H2 fp,Cat X σ C s2 H2 fp->SE (X.comp N' scope cl C s2 H2 fp) (XPc XP σ) (mpC mp n kk ix) kx (ek.ev cf).1:=fun σ cl C s2 H2 fp cat=>(ih_ek _ _ _ _ _ _ _ (XSc.comp C0 cl C s2 H2 fp) (T.comp cat) kx h10).1
  have hv:∀ σ cl C s2 H2 fp,Cat X σ C s2 H2 fp->SE (X.comp N' scope cl C s2 H2 fp) (XPc XP σ) (mpC mp n kk ix) vx (ev.ev cf).1:=fun σ cl C s2 H2 fp cat=>(ih_ev _ _ _ _ _ _ _ (XSc.comp C0 cl C s2 H2 fp) (T.comp cat) vx h11).1
  refine⟨zdt T.calm C1 hm hi.1 hg hc hk hv (jJ h6),fun hp a b c' d e' q=>?_⟩
  cases q
  cases src with
  |std b=>exact⟨tg,iter,ifs,N',kk,ix,rfl,C1,jJ h6,zbr C1 hm (hi.2 b rfl) hg hc hk hv⟩
 ·cases h
theorem Jo{cf:CF}{W:Wd}(b:II)(ih_b:QI cf W b):QG cf W (.std b):=by
 intro X XP k sc N mp m S T tg e h
 have h':=ih_b _ XP _ _ _ _ _ S T tg e h
 exact⟨zdK h',fun b' q=>by cases q;exact h'⟩
theorem ZR{cf:CF}{W:Wd}(n:IM)(ih_n:QM cf W n):QO cf W (.ownD n):=by
 intro X XP k sc N mp m S T e h
 exact (ih_n _ _ _ _ _ _ _ S T e h).1.so
theorem Z4(cf:CF)(W:Wd)(a:IE):QE cf W a:=IE.rec (motive_1:=QE cf W) (motive_2:=QL cf W) (motive_3:=QA cf W) (motive_4:=QN cf W) (motive_5:=QP cf W) (motive_6:=QI cf W) (motive_7:=QC cf W) (motive_8:=QO cf W) (motive_9:=QJ cf W) (motive_10:=QM cf W) (motive_11:=QG cf W) Jm Ja Zx Zy jB jD ZC ZE Jl Jg Q8 Q9 jC Jh Jf Q6 W6 Jc W5 Jd Q5 Q7 jE Jb Je Zw ZH Ji ZJ Jk ZF Jj ZB ZA ZI Zz ZD ZG Ju ZL QZ Zv W3 Q0 Jy Jx ZO ZN jH JB JC ZK Jp jG jF Jq Q4 Q3 Jz JA ZP ZQ ZR Js Jr Jt Jv Jw ZM Jo a
theorem zhw(cf:CF)(W:Wd)(a:IA):QA cf W a:=IA.rec (motive_1:=QE cf W) (motive_2:=QL cf W) (motive_3:=QA cf W) (motive_4:=QN cf W) (motive_5:=QP cf W) (motive_6:=QI cf W) (motive_7:=QC cf W) (motive_8:=QO cf W) (motive_9:=QJ cf W) (motive_10:=QM cf W) (motive_11:=QG cf W) Jm Ja Zx Zy jB jD ZC ZE Jl Jg Q8 Q9 jC Jh Jf Q6 W6 Jc W5 Jd Q5 Q7 jE Jb Je Zw ZH Ji ZJ Jk ZF Jj ZB ZA ZI Zz ZD ZG Ju ZL QZ Zv W3 Q0 Jy Jx ZO ZN jH JB JC ZK Jp jG jF Jq Q4 Q3 Jz JA ZP ZQ ZR Js Jr Jt Jv Jw ZM Jo a
theorem zhz(cf:CF)(W:Wd)(a:IN):QN cf W a:=IN.rec (motive_1:=QE cf W) (motive_2:=QL cf W) (motive_3:=QA cf W) (motive_4:=QN cf W) (motive_5:=QP cf W) (motive_6:=QI cf W) (motive_7:=QC cf W) (motive_8:=QO cf W) (motive_9:=QJ cf W) (motive_10:=QM cf W) (motive_11:=QG cf W) Jm Ja Zx Zy jB jD ZC ZE Jl Jg Q8 Q9 jC Jh Jf Q6 W6 Jc W5 Jd Q5 Q7 jE Jb Je Zw ZH Ji ZJ Jk ZF Jj ZB ZA ZI Zz ZD ZG Ju ZL QZ Zv W3 Q0 Jy Jx ZO ZN jH JB JC ZK Jp jG jF Jq Q4 Q3 Jz JA ZP ZQ ZR Js Jr Jt Jv Jw ZM Jo a
theorem zhx(cf:CF)(W:Wd)(a:II):QI cf W a:=II.rec (motive_1:=QE cf W) (motive_2:=QL cf W) (motive_3:=QA cf W) (motive_4:=QN cf W) (motive_5:=QP cf W) (motive_6:=QI cf W) (motive_7:=QC cf W) (motive_8:=QO cf W) (motive_9:=QJ cf W) (motive_10:=QM cf W) (motive_11:=QG cf W) Jm Ja Zx Zy jB jD ZC ZE Jl Jg Q8 Q9 jC Jh Jf Q6 W6 Jc W5 Jd Q5 Q7 jE Jb Je Zw ZH Ji ZJ Jk ZF Jj ZB ZA ZI Zz ZD ZG Ju ZL QZ Zv W3 Q0 Jy Jx ZO ZN jH JB JC ZK Jp jG jF Jq Q4 Q3 Jz JA ZP ZQ ZR Js Jr Jt Jv Jw ZM Jo a
theorem zez(cf:CF)(W:Wd)(a:IO):QO cf W a:=IO.rec (motive_1:=QE cf W) (motive_2:=QL cf W) (motive_3:=QA cf W) (motive_4:=QN cf W) (motive_5:=QP cf W) (motive_6:=QI cf W) (motive_7:=QC cf W) (motive_8:=QO cf W) (motive_9:=QJ cf W) (motive_10:=QM cf W) (motive_11:=QG cf W) Jm Ja Zx Zy jB jD ZC ZE Jl Jg Q8 Q9 jC Jh Jf Q6 W6 Jc W5 Jd Q5 Q7 jE Jb Je Zw ZH Ji ZJ Jk ZF Jj ZB ZA ZI Zz ZD ZG Ju ZL QZ Zv W3 Q0 Jy Jx ZO ZN jH JB JC ZK Jp jG jF Jq Q4 Q3 Jz JA ZP ZQ ZR Js Jr Jt Jv Jw ZM Jo a
theorem zhy(cf:CF)(W:Wd)(a:IM):QM cf W a:=IM.rec (motive_1:=QE cf W) (motive_2:=QL cf W) (motive_3:=QA cf W) (motive_4:=QN cf W) (motive_5:=QP cf W) (motive_6:=QI cf W) (motive_7:=QC cf W) (motive_8:=QO cf W) (motive_9:=QJ cf W) (motive_10:=QM cf W) (motive_11:=QG cf W) Jm Ja Zx Zy jB jD ZC ZE Jl Jg Q8 Q9 jC Jh Jf Q6 W6 Jc W5 Jd Q5 Q7 jE Jb Je Zw ZH Ji ZJ Jk ZF Jj ZB ZA ZI Zz ZD ZG Ju ZL QZ Zv W3 Q0 Jy Jx ZO ZN jH JB JC ZK Jp jG jF Jq Q4 Q3 Jz JA ZP ZQ ZR Js Jr Jt Jv Jw ZM Jo a
end
mutual
/-- what may stand in a try -/
inductive IQ where
 |asg (s i:Nat) (o:IO)
 |expr (e:IE)
 |ite (c:IE) (a b:IQs)
inductive IQs where
 |nil
 |cons (q:IQ) (b:IQs)
end
mutual
inductive IS where
 |pass
 |bad
 |asg (s i:Nat) (o:IO)
 |expr (e:IE)
 |ite (c:IE) (a b:IB)
 |loop (t:IT) (src:II) (b:IB)
 |ret (o:IO)
 |set (s i:Nat) (ie ve:IE)
 |ins (s i:Nat) (ie ve:IE)
 |raise (x:Str)
 |tryq (b:IQs) (hs:List (Str×Nat×Nat×HC))
 |star (s i t j:Nat) (e:IE)
inductive IB where
 |nil
 |cons (s:IS) (b:IB)
 |disp (s i:Nat) (x:Str) (kf:List (Str×Str)) (n:Nat) (e:IE) (a:IA)
end
mutual
noncomputable def IQ.ex(cf:CF)(io:List Nat):IQ->SM
 |.asg _ i o=>sAsg io i (o.ev cf)
 |.expr e=>sExpr (e.ev cf).1
 |.ite c a b=>sIf (c.ev cf).2 (a.ex cf io) (b.ex cf io)
noncomputable def IQs.ex(cf:CF)(io:List Nat):IQs->SM
 |.nil=>sNext
 |.cons s .nil=>s.ex cf io
 |.cons s b=>sSeq (s.ex cf io) (b.ex cf io)
end
mutual
noncomputable def IS.ex(cf:CF)(io:List Nat):IS->SM
 |.pass=>sNext
 |.bad=>zhr
 |.asg _ i o=>sAsg io i (o.ev cf)
 |.expr e=>sExpr (e.ev cf).1
 |.ite c a b=>sIf (c.ev cf).2 (a.ex cf io) (b.ex cf io)
 |.loop t src b=>sFor t (src.ev cf) (b.ex cf io)
 |.ret o=>sRet (o.ev cf)
 |.set _ i ie ve=>sSet i (ie.ev cf).1 (ve.ev cf).1
 |.ins _ i ie ve=>zbo i (ie.ev cf).1 (ve.ev cf).1
 |.raise x=>Za x
 |.tryq b hs=>Yj io (b.ex cf io) hs
 |.star _ i _ j e=>yh io i j (e.ev cf).1
noncomputable def IB.ex(cf:CF)(io:List Nat):IB->SM
 |.nil=>sNext
 |.cons s .nil=>s.ex cf io
 |.cons s b=>sSeq (s.ex cf io) (b.ex cf io)
 |.disp _ i _ kf _ e a=>Y9 io kf cf i (e.ev cf).1 (a.ev cf)
end
noncomputable def wl:IO->Option IN
 |.own n=>some n
 |.dat (.new n)=>some n
 |_=>none
noncomputable def Qq:IO->Option IM
 |.ownD n=>some n
 |.dat (.newD n)=>some n
 |_=>none
noncomputable def zac(o:IO):Expr->Bool
 |.ListComp .. =>okO (wl o) IN.plain
 |.SetComp .. =>false
 |.DictComp .. =>okO (Qq o) IM.plain
 |_=>true
noncomputable def Yw:Stmt->Option Pos
 |.Pass p=>some p
 |_=>none
noncomputable def JW:Stmt->Option (Expr×Pos)
 |.Expr x p=>some (x,p)
 |_=>none
noncomputable def zea:Stmt->Option (Expr×List Stmt×List Stmt×Pos)
 |.If x xs ys p=>some (x,xs,ys,p)
 |_=>none
noncomputable def zb9:Stmt->Option (Expr×Expr×List Stmt×List Stmt×Pos)
 |.For tg it b e p=>some (tg,it,b,e,p)
 |_=>none
noncomputable def kF:Stmt->Option (Option Expr×Pos)
 |.Return x p=>some (x,p)
 |_=>none
noncomputable def kE:Stmt->Option (List Expr×Expr×Pos)
 |.Assign ts e p=>some (ts,e,p)
 |_=>none
theorem Yx{e:Stmt}{p:Pos}(h:Yw e=some p):e=.Pass p:=by
 unfold Yw at h
 split at h
 ·cases h;rfl
 ·cases h
theorem Qj{e:Stmt}{x:Expr}{p:Pos}(h:JW e=some (x,p)):e=.Expr x p:=by
 unfold JW at h
 split at h
 ·cases h;rfl
 ·cases h
theorem yE{e:Stmt}{x:Expr}{xs ys:List Stmt}{p:Pos}(h:zea e=some (x,xs,ys,p)):e=.If x xs ys p:=by
 unfold zea at h
 split at h
 ·cases h;rfl
 ·cases h
theorem KU{e:Stmt}{x y:Expr}{xs ys:List Stmt}{p:Pos}(h:zb9 e=some (x,y,xs,ys,p)):e=.For x y xs ys p:=by
 unfold zb9 at h
 split at h
 ·cases h;rfl
 ·cases h
theorem vH{e:Stmt}{x:Option Expr}{p:Pos}(h:kF e=some (x,p)):e=.Return x p:=by
 unfold kF at h
 split at h
 ·cases h;rfl
 ·cases h
theorem KS{e:Stmt}{ts:List Expr}{x:Expr}{p:Pos}(h:kE e=some (ts,x,p)):e=.Assign ts x p:=by
 unfold kE at h
 split at h
 ·cases h;rfl
 ·cases h
noncomputable def zbW(s:Stmt):Option (Str×Pos×Str×Pos×List Expr×Pos×Pos):=(JW s).bind fun (e,q2)=>(zd5 e).map fun (x,p,f,p2,xs,q)=>(x,p,f,p2,xs,q,q2)
theorem KK{st:Stmt}{x f:Str}{p p2 q q2:Pos}{xs:List Expr}(h:zbW st=some (x,p,f,p2,xs,q,q2)):st=.Expr (.Call (.Attribute (.Name x p) f p2) xs [] q) q2:=by
 unfold zbW at h
 cases e1:JW st with
 |none=>rw[e1]at h;cases h
 |some z=>
  obtain⟨e,q3⟩:=z
  cases e2:zd5 e with
  |none=>simp[e1,e2]at h
  |some z=>
   obtain⟨a1,a2,a3,a4,a5,a6⟩:=z
   simp[e1,e2]at h
   obtain⟨rfl,rfl,rfl,rfl,rfl,rfl,rfl⟩:=h
   rw[Qj e1,zb6 e2]
noncomputable def Wm(s:Stmt):Option (Expr×Expr×Pos):=(kE s).bind fun (ts,e,q)=>(jv ts).map fun t=>(t,e,q)
theorem jS{st:Stmt}{t e:Expr}{q:Pos}(h:Wm st=some (t,e,q)):st=.Assign [t] e q:=by
 unfold Wm at h
 cases e1:kE st with
 |none=>rw[e1]at h;cases h
 |some z=>
  obtain⟨ts,e',q'⟩:=z
  cases e2:jv ts with
  |none=>simp[e1,e2]at h
  |some t'=>
   simp[e1,e2]at h
   obtain⟨rfl,rfl,rfl⟩:=h
   rw[KS e1,zG e2]
noncomputable def Vy:Stmt->Option (Option Expr×Option Expr×Pos)
 |.Raise x y p=>some (x,y,p)
 |_=>none
noncomputable def zca:Stmt->Option (List Stmt×List ExceptHandler×List Stmt×List Stmt×Pos)
 |.Try b h e f p=>some (b,h,e,f,p)
 |_=>none
theorem yF{e:Stmt}{x y:Option Expr}{p:Pos}(h:Vy e=some (x,y,p)):e=.Raise x y p:=by
 unfold Vy at h
 split at h
 ·cases h;rfl
 ·cases h
theorem KW{e:Stmt}{b e1 f:List Stmt}{h1:List ExceptHandler}{p:Pos}(h:zca e=some (b,h1,e1,f,p)):e=.Try b h1 e1 f p:=by
 unfold zca at h
 split at h
 ·cases h;rfl
 ·cases h
noncomputable def Kh(sc:Scope)(x:Str):Bool:=decide (sc.names.lookup x=some .local)||decide (sc.names.lookup x=some .cell)
noncomputable def zcH (W:Wd) (sc:Scope) (x:Str):Bool:=wK sc x&&W.ex.contains x&& !(x==("__debug__" :Str))
noncomputable def zgD:ExceptHandler->Option (Expr×Stmt×Pos)
 |.ExceptHandler (some e) none [st] p=>some (e,st,p)
 |_=>none
theorem zb0{hd:ExceptHandler}{e:Expr}{st:Stmt}{p:Pos}(h:zgD hd=some (e,st,p)):hd=.ExceptHandler (some e) none [st] p:=by
 unfold zgD at h
 split at h
 ·cases h;rfl
 ·cases h
noncomputable def hcB:HC->Const->Bool
 |.s z,c=>okO (VF c) fun y=>decide (z=y)
 |.b b,c=>okO (YD c) fun y=>decide (b=y)
theorem zfc{v:HC}{c:Const}(h:hcB v c=true):c=v.C:=by
 cases v with
 |s z=>
  obtain⟨y,e,h⟩:=zb h
  rw[Zh e,of_decide_eq_true h];rfl
 |b z=>
  obtain⟨y,e,h⟩:=zb h
  rw[W4 e,of_decide_eq_true h];rfl
noncomputable def kZ(W:Wd)(sc:Scope)(N:List Str)(mp:List Nat):List (Str×Nat×Nat×HC)->List ExceptHandler->Bool
 |[],[]=>true
 | (x,t,j,v)::r,hd::hs=>okO (zgD hd) (fun z=>okO (zD z.1) fun y=>decide (x=y.1)&&zcH W sc x&&okO (Wm z.2.1) fun s=>okO (zD s.1) fun q=>okO (Zu s.2.1) fun c=>hcB v c.1&&decide (N[t]?=some q.1)&&decide (mp[t]?=some j)&&Kh sc q.1)&&kZ W sc N mp r hs
 |_,_=>false
noncomputable def zb7:Expr->Option (Expr×Pos)
 |.Starred x p=>some (x,p)
 |_=>none
theorem KQ{e x:Expr}{p:Pos}(h:zb7 e=some (x,p)):e=.Starred x p:=by
 unfold zb7 at h
 split at h
 ·cases h;rfl
 ·cases h
noncomputable def Vi:Expr->Bool
 |.ListComp .. =>false
 |.SetComp .. =>false
 |.DictComp .. =>false
 |_=>true
noncomputable def zJ:Expr->Bool
 |.Tuple .. =>false
 |.ListComp .. =>false
 |.SetComp .. =>false
 |.DictComp .. =>false
 |_=>true
noncomputable def zcr(W:Wd)(sc:Scope)(N:List Str)(mp:List Nat)(m:Nat)(s i:Nat)(o:IO)(st:Stmt):Bool:=okO (Wm st) fun z=>okO (zD z.1) fun x=>decide (N[s]?=some x.1)&&decide (mp[s]?=some i)&&(decide (sc.names.lookup x.1=some .local)||decide (sc.names.lookup x.1=some .cell))&&zac o z.2.1&&o.chk W sc N mp m z.2.1
mutual
noncomputable def IQ.chk(W:Wd)(sc:Scope)(N:List Str)(mp:List Nat)(m:Nat):IQ->Stmt->Bool
 |.asg s i o,st=>zcr W sc N mp m s i o st
 |.expr e,st=>okO (JW st) fun z=>zJ z.1&&e.chk W sc N mp m z.1
 |.ite c a b,st=>okO (zea st) fun z=>c.chk W sc N mp m z.1&&a.chk W sc N mp m z.2.1&&b.chk W sc N mp m z.2.2.1
noncomputable def IQs.chk(W:Wd)(sc:Scope)(N:List Str)(mp:List Nat)(m:Nat):IQs->List Stmt->Bool
 |.nil,[]=>true
 |.cons s b,x::xs=>s.chk W sc N mp m x&&b.chk W sc N mp m xs
 |_,_=>false
end
mutual
noncomputable def IS.chk(W:Wd)(sc:Scope)(N:List Str)(mp:List Nat)(m np:Nat):IS->Stmt->Bool
 |.pass,st=>okO (Yw st) fun _=>true
 |.bad,_=>true
 |.asg s i o,st=>zcr W sc N mp m s i o st
 |.expr e,st=>okO (JW st) fun z=>zJ z.1&&e.chk W sc N mp m z.1
 |.ite c a b,st=>okO (zea st) fun z=>c.chk W sc N mp m z.1&&a.chk W sc N mp m np z.2.1&&b.chk W sc N mp m np z.2.2.1
 |.loop t src b,st=>okO (zb9 st) fun z=>z.2.2.2.1.isEmpty&&jg z.2.1&&vW sc N mp np t z.1&&src.chk W sc N mp m z.2.1 z.1&&b.chk W sc N mp m np z.2.2.1
 |.ret o,st=>okO (kF st) fun z=>okO z.1 fun x=>o.chk W sc N mp m x
 |.set s i ie ve,st=>okO (Wm st) fun z=>okO (J6 z.1) fun y=>okO (zD y.1) fun x=>nmB sc N mp s i x.1&&qk y.2.1&&Vi z.2.1&&ie.chk W sc N mp m y.2.1&&ve.chk W sc N mp m z.2.1
 |.ins s i ie ve,st=>okO (zbW st) fun (x,_,f,p2,xs,q,_)=>okO (yA xs) fun y=>nmB sc N mp s i x&&decide (f= "insert")&&zn y.2&&zn y.1&&(p2.endLine==q.line)&&ie.chk W sc N mp m y.1&&ve.chk W sc N mp m y.2
 |.raise x,st=>okO (Vy st) fun z=>z.2.1.isNone&&okO z.1 fun e=>okO (un1 e) fun (f,_,a,_)=>decide (f=x)&&zcH W sc x&&okO (Zu a) fun c=>okO (VF c.1) fun _=>true
 |.tryq b hs,st=>okO (zca st) fun (body,hds,els,fin,_)=>els.isEmpty&&fin.isEmpty&& !hds.isEmpty&&kZ W sc N mp hs hds&&b.chk W sc N mp m body
 |.star s i t j e,st=>okO (Wm st) fun z=>okO (kD z.1) fun w=>okO (yA w.1) fun ab=>okO (zD ab.1) fun x=>okO (zb7 ab.2) fun c=>okO (zD c.1) fun y=>decide (N[s]?=some x.1)&&decide (mp[s]?=some i)&&Kh sc x.1&&decide (N[t]?=some y.1)&&decide (mp[t]?=some j)&&Kh sc y.1&&zJ z.2.1&&e.chk W sc N mp m z.2.1
noncomputable def IB.chk(W:Wd)(sc:Scope)(N:List Str)(mp:List Nat)(m np:Nat):IB->List Stmt->Bool
 |.nil,[]=>true
 |.cons s b,x::xs=>s.chk W sc N mp m np x&&b.chk W sc N mp m np xs
 |.disp s i x kf n e a,xs=>okO (yA xs) fun z=>okO (Wm z.1) fun (t,v,_)=>okO (zD t) fun r=>okO (J6 v) fun (d,w,_)=>okO (zD d) fun y=>okO (kF z.2) fun (o,_)=>okO o fun c=>okO (unN c) fun (g,_,as,_)=>
  decide (N[s]?=some r.1)&&decide (mp[s]?=some i)&&Kh sc r.1&& !(r.1==("__debug__" :Str))&& !(r.1==("__classdict__" :Str))&&decide (x=y.1)&&wK sc x&&W.gd.contains (x,kf)&& !(x==("__debug__" :Str))&&qk w&&decide (g=r.1)&&kf.all (fun p=>W.fl.contains (p.2,n))&& !as.isEmpty&&as.all zn&&e.chk W sc N mp m w&&a.chk W sc N mp m as
 |_,_=>false
end
theorem Qi{e:Expr}{t:Option Expr}{l:Nat}{env:Env}(h:zJ e=true):swapsWith e t l env=pure false:=by
 cases e<;>first | rfl | (simp[zJ]at h)
theorem Yo{t e:Expr}{l:Nat}{env:Env}(h:zJ e=true):swapsWithSole [t] e l env=pure false:=Qi (t:=some t) h
theorem yo{t e:Expr}{env:Env}(h:zJ e=true):swappedStores [t] e env=pure none:=by
 have hm:(match (generalizing:=false) [t],e with
  |[.Tuple ts _ _],.Tuple vs _ _=>some (ts,vs)
  |[.List ts _],.Tuple vs _ _=>some (ts,vs)
  |_,_=>none)=(none:Option (List Expr×List Expr)):=by
  split
  ·simp[zJ]at h
  ·simp[zJ]at h
  ·rfl
 unfold swappedStores
 split
 ·rename_i q
  exact absurd (q.symm.trans hm) (fun z=>nomatch z)
 ·rfl
theorem vA{x y e:Expr}{p:Pos}{l:Nat}{env:Env}(h:Vi e=true):swapsWithSole [.Subscript x y p] e l env=pure false:=by
 show swapsWith e (some (.Subscript x y p)) l env=pure false
 cases e<;>first | rfl | (simp[Vi]at h)
theorem Wf{x y e:Expr}{p:Pos}{env:Env}:swappedStores [.Subscript x y p] e env=pure none:=by
 cases e<;>rfl
theorem KI{o:IO}{e:Expr}{x:Str}{p:Pos}{l:Nat}{env:Env}(h:zac o e=true)(hn:∀ a b c d,e≠ .ListComp a b c d)(hn2:∀ a b c d q,e≠ .DictComp a b c d q):swapsWith e (some (.Name x p)) l env=pure false:=by
 cases e with
 |ListComp a b c d=>exact absurd rfl (hn a b c d)
 |SetComp=>simp[zac]at h
 |DictComp a b c d q=>exact absurd rfl (hn2 a b c d q)
 |_=>rfl
theorem Yn{elt:Expr}{gens:List Comprehension}{scope:Scope}{q:Pos}{x:Str}{p:Pos}{l:Nat}{env:Env}:∃ b:Bool,swapsWith (.ListComp elt gens scope q) (some (.Name x p)) l env=pure b:=⟨_,rfl⟩
theorem yr{ek ev:Expr}{gens:List Comprehension}{scope:Scope}{q:Pos}{x:Str}{p:Pos}{l:Nat}{env:Env}:∃ b:Bool,swapsWith (.DictComp ek ev gens scope q) (some (.Name x p)) l env=pure b:=⟨_,rfl⟩
theorem yR{o b:Expr}{p:Pos}{env:Env}(h:qk b=true)(v:Value):assign (.Subscript o b p) env v=(do
  let ov<-holding [v] (eval o env)
  let iv<-holding [v,ov] (eval b env)
  standAt p
  holding [v,ov,iv] (setItem ov iv v)
  release [v,ov,iv] []):=by
 cases b<;>first | rfl | (simp[qk]at h)
variable [Cs]
structure XB(X:Cx)(XP:XPT)(mp io:List Nat)(np:Nat):Prop where
 po:PassesOwn (model X.prog X.w) X.A X.env X.xe
 nd:X.N.Nodup
 mn:mp.Nodup
 io:∀ i∈io,i<np
 rz:zgP X XP
 sk:X.stack=X.env::X.outer
 fr:X.env.frame=some X.env.locals
noncomputable abbrev QS(cf:CF)(W:Wd)(a:IS):Prop:=∀ (X:Cx) (XP:XPT) (k:Nat) (sc:Scope) (N:List Str) (mp:List Nat) (m np:Nat) (io:List Nat),XSc X sc N->XW X XP cf W k->XB X XP mp io np->∀ (e:Stmt),a.chk W sc N mp m np e=true->SS X XP mp io e (a.ex cf io)
noncomputable abbrev QB(cf:CF)(W:Wd)(a:IB):Prop:=∀ (X:Cx) (XP:XPT) (k:Nat) (sc:Scope) (N:List Str) (mp:List Nat) (m np:Nat) (io:List Nat),XSc X sc N->XW X XP cf W k->XB X XP mp io np->∀ (e:List Stmt),a.chk W sc N mp m np e=true->SB X XP mp io e (a.ex cf io)
section
variable {cf:CF} {W:Wd}
theorem zcz:QS cf W .pass:=by
 intro X XP k sc N mp m np io S T B e g0
 obtain⟨p,eu,_⟩:=zb g0
 clear g0
 cases Yx eu
 exact zdS
theorem zeV:QS cf W .bad:=fun X XP k sc N mp m np io S T B e h=>zgo
theorem VD{o:IO}{n:IN}(h:wl o=some n):o=.own n∨o=.dat (.new n):=by
 unfold wl at h
 split at h<;>first | (cases h;exact .inl rfl) | (cases h;exact .inr rfl) | cases h
theorem vQ{o:IO}{n:IM}(h:Qq o=some n):o=.ownD n∨o=.dat (.newD n):=by
 unfold Qq at h
 split at h<;>first | (cases h;exact .inl rfl) | (cases h;exact .inr rfl) | cases h
theorem zad{X:Cx}{XP:XPT}{k:Nat}{sc:Scope}{N:List Str}{mp io:List Nat}{m:Nat}(s i:Nat)(o:IO)(S:XSc X sc N)(T:XW X XP cf W k)(nd:X.N.Nodup)(mn:mp.Nodup)(st:Stmt)(g0:zcr W sc N mp m s i o st=true):SS X XP mp io st (sAsg io i (o.ev cf)):=by
 unfold zcr at g0
 obtain⟨⟨tx,e,q⟩,eu,g1⟩:=zb g0
 clear g0
 cases jS eu
 obtain⟨⟨x,p⟩,ex,h⟩:=zb g1
 clear g1
 cases zo ex
 simp only[xa,xH,decide_eq_true_eq]at h
 obtain⟨⟨⟨⟨h1,h2⟩,h3⟩,h4⟩,h5⟩:=h
 have hi:X.N[s]?=some x:=by rw[S.hN];exact h1
 have hx:Loc X.env.scope x:=by
  rcases h3 with h3 | h3
  ·exact .inl (S.loc x h3)
  ·exact .inr (S.cel x h3).1
 have hf:X.fn x=true∨X.env.scope.names.lookup x=some .local:=by
  rcases h3 with h3 | h3
  ·exact .inr (S.loc x h3)
  ·exact .inl (S.cel x h3).2
 have plain:swapsWith e (some (.Name x p)) q.line X.env=pure false->SS X XP mp io (.Assign [.Name x p] e q) (sAsg io i (o.ev cf)):=fun hsw=>
  zgn nd hi hx hf mn h2 (zez cf W o _ XP _ _ _ _ _ S T e h5) hsw
 by_cases hl:∃ a b c d,e=.ListComp a b c d
 ·obtain⟨elt,gens,scope,pc,rfl⟩:=hl
  obtain⟨bb,hb⟩:=Yn (elt:=elt) (gens:=gens) (scope:=scope) (q:=pc) (x:=x) (p:=p) (l:=q.line) (env:=X.env)
  cases bb with
  |false=>exact plain hb
  |true=>
   obtain⟨n,en,hp⟩:=zb (show okO (wl o) IN.plain=true from h4)
   have go:n.chk W sc N mp m (.ListComp elt gens scope pc)=true->∀ (fo:EM OV),(∀ t,SNt XP mp t (n.ev cf)->SOt XP mp t fo)->SS X XP mp io (.Assign [.Name x p] (.ListComp elt gens scope pc) q) (sAsg io i fo):=fun hn fo hfo=>by
    obtain⟨tg,iter,ifs,N',kk,ix,rfl,C,hfold,hs⟩:=(zhz cf W n _ XP _ _ _ _ _ S T _ hn).2 hp elt gens scope pc rfl
    exact Vu (zdf nd hi hx T.calm C hb hfold hf) mn h2 (xb.mp hi).1 (hfo _ hs)
   rcases VD en with rfl | rfl
   ·exact go h5 _ fun t ht=>ht.so
   ·exact go (xy.mp (show IE.chk W sc N mp m (.new n) _=true from h5)).2 _ fun t ht=>ht.sd
 ·by_cases hl2:∃ a b c d q,e=.DictComp a b c d q
  ·obtain⟨kx,vx,gens,scope,pc,rfl⟩:=hl2
   obtain⟨bb,hb⟩:=yr (ek:=kx) (ev:=vx) (gens:=gens) (scope:=scope) (q:=pc) (x:=x) (p:=p) (l:=q.line) (env:=X.env)
   cases bb with
   |false=>exact plain hb
   |true=>
    obtain⟨n,en,hp⟩:=zb (show okO (Qq o) IM.plain=true from h4)
    have go:n.chk W sc N mp m (.DictComp kx vx gens scope pc)=true->∀ (fo:EM OV),(∀ t,SDt XP mp t (n.ev cf)->SOt XP mp t fo)->SS X XP mp io (.Assign [.Name x p] (.DictComp kx vx gens scope pc) q) (sAsg io i fo):=fun hn fo hfo=>by
     obtain⟨tg,iter,ifs,N',kk,ix,rfl,C,hfold,hs⟩:=(zhy cf W n _ XP _ _ _ _ _ S T _ hn).2 hp kx vx gens scope pc rfl
     exact Vu (zbb nd hi hx T.calm C hb hfold hf) mn h2 (xb.mp hi).1 (hfo _ hs)
    rcases vQ en with rfl | rfl
    ·exact go h5 _ fun t ht=>ht.so
    ·exact go h5 _ fun t ht=>ht.sd
  ·exact plain (KI h4 (fun a b c d z=>hl ⟨a,b,c,d,z⟩) fun a b c d q z=>hl2 ⟨a,b,c,d,q,z⟩)
theorem zeU(s i:Nat)(o:IO):QS cf W (.asg s i o):=by
 intro X XP k sc N mp m np io S T B st g0
 exact zad s i o S T B.nd B.mn st g0
theorem zcx(a:IE):QS cf W (.expr a):=by
 intro X XP k sc N mp m np io S T B e g0
 obtain⟨⟨x,p⟩,eu,h⟩:=zb g0
 clear g0
 cases Qj eu
 rw[xa]at h
 exact kq (Z4 cf W a _ XP _ _ _ _ _ S T x h.2).1 (Qi h.1)
theorem zeY(c:IE)(a b:IB)(ih_a:QB cf W a)(ih_b:QB cf W b):QS cf W (.ite c a b):=by
 intro X XP k sc N mp m np io S T B e g0
 obtain⟨⟨x,xs,ys,p⟩,eu,h⟩:=zb g0
 clear g0
 cases yE eu
 simp only[xa]at h
 obtain⟨⟨h1,h2⟩,h3⟩:=h
 exact zeA (Z4 cf W c _ XP _ _ _ _ _ S T x h1).2 (ih_a _ XP _ _ _ _ _ _ _ S T B xs h2) (ih_b _ XP _ _ _ _ _ _ _ S T B ys h3)
theorem zcy(t:IT)(src:II)(b:IB)(ih_b:QB cf W b):QS cf W (.loop t src b):=by
 intro X XP k sc N mp m np io S T B e g0
 obtain⟨⟨tg,iter,body,els,p⟩,eu,h⟩:=zb g0
 clear g0
 cases KU eu
 simp only[xa]at h
 obtain⟨⟨⟨⟨h0,h1⟩,h2⟩,h3⟩,h4⟩:=h
 cases els with
 |cons _ _=>cases h0
 |nil=>
  have hg:=wu (kp:=(·∈io)) S (by rw[<- S.hN];exact B.nd) B.mn T.calm (fun i hi hm=>absurd (B.io i hm) (by omega)) t _ h2
  exact zgp B.po T.calm (zhx cf W src _ XP _ _ _ _ _ S T tg iter h3) hg (ih_b _ XP _ _ _ _ _ _ _ S T B body h4) (jJ h1)
theorem zeZ(o:IO):QS cf W (.ret o):=by
 intro X XP k sc N mp m np io S T B e g0
 obtain⟨⟨x,p⟩,eu,g1⟩:=zb g0
 clear g0
 cases vH eu
 obtain⟨y,ey,h⟩:=zb g1
 clear g1
 cases ey
 exact zgr (zez cf W o _ XP _ _ _ _ _ S T y h)
theorem ze0(s i:Nat)(ie ve:IE):QS cf W (.set s i ie ve):=by
 intro X XP k sc N mp m np io S T B st g0
 obtain⟨⟨tx,a,q⟩,eu,g1⟩:=zb g0
 clear g0
 cases jS eu
 obtain⟨⟨tn,b,p2⟩,et,g2⟩:=zb g1
 clear g1
 cases jT et
 obtain⟨⟨x,p⟩,ex,h⟩:=zb g2
 clear g2
 cases zo ex
 simp only[xa]at h
 obtain⟨⟨⟨⟨h1,h2⟩,h3⟩,h4⟩,h5⟩:=h
 exact zgs (vq S h1) (Z4 cf W ie _ XP _ _ _ _ _ S T b h4).1 (Z4 cf W ve _ XP _ _ _ _ _ S T a h5).1 (vA h3) Wf (fun he hg=>za8 he hg (vA h3) Wf) (fun ho hi hs=>zfM ho hi hs (yR h2))
theorem zeX(s i:Nat)(ie ve:IE):QS cf W (.ins s i ie ve):=by
 intro X XP k sc N mp m np io S T B st g0
 obtain⟨⟨x,p,f,p2,xs,q,q2⟩,eu,g1⟩:=zb g0
 clear g0
 cases KK eu
 obtain⟨⟨b,a⟩,ea,h⟩:=zb g1
 clear g1
 cases jR ea
 simp only[xa,decide_eq_true_eq]at h
 obtain⟨⟨⟨⟨⟨⟨h1,h2⟩,h3⟩,h4⟩,h5⟩,h6⟩,h7⟩:=h
 subst h2
 exact zgq (vq S h1) (Z4 cf W ie _ XP _ _ _ _ _ S T b h6).1 (Z4 cf W ve _ XP _ _ _ _ _ S T a h7).1 (zp h4) (zp h3) h5
theorem Vf{X:Cx}{sc:Scope}{N:List Str}{x:Str}(S:XSc X sc N)(h:Kh sc x=true):Loc X.env.scope x/\(X.fn x=true∨X.env.scope.names.lookup x=some .local):=by
 unfold Kh at h
 simp only[xH,decide_eq_true_eq]at h
 rcases h with h | h
 ·exact⟨.inl (S.loc x h),.inr (S.loc x h)⟩
 ·exact⟨.inr (S.cel x h).1,.inl (S.cel x h).2⟩
theorem zat{X:Cx}{XP:XPT}{sc:Scope}{N:List Str}{x:Str}{k:Nat}(S:XSc X sc N)(T:XW X XP cf W k)(h:zcH W sc x=true):∃ C,kL X x C/\W.ex.contains x=true:=by
 unfold zcH at h
 simp only[xa]at h
 obtain⟨⟨h1,h2⟩,h3⟩:=h
 obtain⟨C,e1,e2⟩:=T.ex x h2
 exact⟨C,⟨S.glo x h1,e1,e2,jQ h3⟩,h2⟩
theorem zaj(x:Str):QS cf W (.raise x):=by
 intro X XP k sc N mp m np io S T B st g0
 obtain⟨⟨ee,cz,p⟩,eu,g1⟩:=zb g0
 clear g0
 cases yF eu
 simp only[xa]at g1
 obtain⟨g1,g2⟩:=g1
 obtain⟨e,ee1,g3⟩:=zb g2
 clear g2
 cases ee1
 obtain⟨⟨f,p1,a,p2⟩,ea,g4⟩:=zb g3
 clear g3
 cases qI ea
 simp only[xa,decide_eq_true_eq]at g4
 obtain⟨⟨h1,h2⟩,g5⟩:=g4
 obtain⟨⟨c,j,p3⟩,ec,g6⟩:=zb g5
 clear g5
 cases qh ec
 obtain⟨z,ez,_⟩:=zb g6
 clear g6
 cases Zh ez
 subst h1
 cases cz with
 |some _=>cases g1
 |none=>
  obtain⟨C,k,_⟩:=zat S T h2
  exact zbJ k T.calm B.rz
theorem zeq{X:Cx}{XP:XPT}{sc:Scope}{N:List Str}{mp:List Nat}{k:Nat}(S:XSc X sc N)(T:XW X XP cf W k):∀ (ns:List (Str×Nat×Nat×HC)) (hs:List ExceptHandler),kZ W sc N mp ns hs=true->∃ zs,HdNs X (fun x C=>W.ex.contains x=true/\X.mg x=some (.ref C)) mp hs ns zs
 |[],[],_=>⟨[],.nil⟩
 |[],_::_,h=>by simp[kZ]at h
 |_::_,[],h=>by simp[kZ]at h
 | (x,t,j,v)::ns,hd::hs,h=>by
  simp only[kZ,xa]at h
  obtain⟨h0,h1⟩:=h
  obtain⟨zs,hz⟩:=zeq S T ns hs h1
  obtain⟨⟨e,st,p⟩,eh,g1⟩:=zb h0
  clear h0
  cases zb0 eh
  obtain⟨⟨y,py⟩,ey,g2⟩:=zb g1
  clear g1
  cases zo ey
  simp only[xa,decide_eq_true_eq]at g2
  obtain⟨⟨q1,q2⟩,g3⟩:=g2
  obtain⟨⟨tg,va,pa⟩,es,g4⟩:=zb g3
  clear g3
  cases jS es
  obtain⟨⟨q,pq⟩,eq,g5⟩:=zb g4
  clear g4
  cases zo eq
  obtain⟨⟨c,cj,pc⟩,ec,g7⟩:=zb g5
  clear g5
  cases qh ec
  simp only[xa,decide_eq_true_eq]at g7
  obtain⟨⟨⟨r1,r2⟩,r3⟩,r4⟩:=g7
  cases zfc r1
  subst q1
  obtain⟨C,kx,hxe⟩:=zat S T q2
  obtain⟨l1,l2⟩:=Vf S r4
  exact⟨_,.cons ⟨⟨x,py,q,pq,cj,pc,pa,p,rfl,kx,by rw[S.hN];exact r2,l1,l2⟩,kx,⟨hxe,kx.mg⟩,r3⟩ hz⟩
theorem XW.tried{X:Cx}{XP XP':XPT}{k:Nat}(T:XW X XP cf W k)(pins:List (Addr×Obj))(E:Value->Shared->Prop)(px:PxOk (X.tried pins E) XP'):XW (X.tried pins E) XP' cf W k:=⟨T.bi,T.gi,T.gs,T.fn,T.rm,T.hk,T.calm,T.ex,T.mr,T.gd,fun c f h=>⟨(T.fk c f h).cl,(T.fk c f h).no⟩,T.mc,T.ml,px,T.sk⟩
theorem XSc.tried{X:Cx}{sc:Scope}{N:List Str}(S:XSc X sc N)(pins:List (Addr×Obj))(E:Value->Shared->Prop):XSc (X.tried pins E) sc N:=⟨S.hN,S.vis,S.loc,S.cel,S.fre,S.glo⟩
theorem zbq{X:Cx}{XP:XPT}{mp io:List Nat}{st:Stmt}{f:SM}(h:SS X XP mp io st f):SB X XP mp io [st] f:=fun M0 F Γ ν σ H D rs hs hl hp=>(QR Y5).wp (h M0 F Γ ν σ H D rs hs hl hp)
noncomputable abbrev QQ(cf:CF)(W:Wd)(a:IQ):Prop:=∀ (X:Cx) (XP:XPT) (k:Nat) (sc:Scope) (N:List Str) (mp:List Nat) (m:Nat) (io:List Nat),XSc X sc N->XW X XP cf W k->X.N.Nodup->mp.Nodup->∀ (e:Stmt),a.chk W sc N mp m e=true->SS X XP mp io e (a.ex cf io)
noncomputable abbrev QQs(cf:CF)(W:Wd)(a:IQs):Prop:=∀ (X:Cx) (XP:XPT) (k:Nat) (sc:Scope) (N:List Str) (mp:List Nat) (m:Nat) (io:List Nat),XSc X sc N->XW X XP cf W k->X.N.Nodup->mp.Nodup->∀ (e:List Stmt),a.chk W sc N mp m e=true->SB X XP mp io e (a.ex cf io)
theorem zeS(s i:Nat)(o:IO):QQ cf W (.asg s i o):=fun X XP k sc N mp m io S T nd mn st g0=>zad s i o S T nd mn st g0
theorem zcv(a:IE):QQ cf W (.expr a):=by
 intro X XP k sc N mp m io S T nd mn e g0
 obtain⟨⟨x,p⟩,eu,h⟩:=zb g0
 clear g0
 cases Qj eu
 rw[xa]at h
 exact kq (Z4 cf W a _ XP _ _ _ _ _ S T x h.2).1 (Qi h.1)
theorem zeT(c:IE)(a b:IQs)(ih_a:QQs cf W a)(ih_b:QQs cf W b):QQ cf W (.ite c a b):=by
 intro X XP k sc N mp m io S T nd mn e g0
 obtain⟨⟨x,xs,ys,p⟩,eu,h⟩:=zb g0
 clear g0
 cases yE eu
 simp only[xa]at h
 obtain⟨⟨h1,h2⟩,h3⟩:=h
 exact zeA (Z4 cf W c _ XP _ _ _ _ _ S T x h1).2 (ih_a _ XP _ _ _ _ _ _ S T nd mn xs h2) (ih_b _ XP _ _ _ _ _ _ S T nd mn ys h3)
theorem zcw:QQs cf W .nil:=by
 intro X XP k sc N mp m io S T nd mn e h
 cases e with
 |nil=>exact zbp
 |cons _ _=>exact Bool.noConfusion (show false=true from h)
theorem zai(s:IQ)(b:IQs)(ih_s:QQ cf W s)(ih_b:QQs cf W b):QQs cf W (.cons s b):=by
 intro X XP k sc N mp m io S T nd mn e h
 cases e with
 |nil=>exact Bool.noConfusion (show false=true from h)
 |cons x xs=>
  replace h:=xy.mp h
  try simp only[xa]at h
  have h1:=ih_s _ XP _ _ _ _ _ io S T nd mn x h.1
  cases b with
  |nil=>
   cases xs with
   |nil=>exact zbq h1
   |cons _ _=>exact Bool.noConfusion (show false=true from h.2)
  |cons s2 b2=>exact Vq h1 (ih_b _ XP _ _ _ _ _ io S T nd mn xs h.2)
theorem zhA(a:IQs):QQs cf W a:=IQs.rec (motive_1:=QQ cf W) (motive_2:=QQs cf W) zeS zcv zeT zcw zai a
theorem zcB(b:IQs)(hs:List (Str×Nat×Nat×HC)):QS cf W (.tryq b hs):=by
 intro X XP k sc N mp m np io S T B st g0
 obtain⟨⟨body,hds,els,fn,p⟩,eu,g1⟩:=zb g0
 clear g0
 cases KW eu
 simp only[xa]at g1
 obtain⟨⟨⟨⟨h1,h2⟩,h3⟩,h4⟩,h5⟩:=g1
 cases els with
 |cons _ _=>cases h1
 |nil=>
 cases fn with
 |cons _ _=>cases h2
 |nil=>
 cases hds with
 |nil=>cases h3
 |cons hd hds=>
  obtain⟨zs,hz⟩:=zeq S T hs (hd::hds) h4
  exact zgt B.mn hz (fun x C y C2 hx hy=>T.mr x C y C2 hx.1 hx.2 hy.1 hy.2) (fun x C hx=>by
   obtain⟨C',e1,e2⟩:=T.ex x hx.1
   have:=hx.2
   rw[e1]at this
   cases this
   exact⟨e1,e2⟩) (fun pins D=>zhA b _ _ _ _ _ _ _ _ (S.tried pins _) (T.tried pins _ (zfV B.sk B.fr B.nd hz.ks pins D)) B.nd B.mn body h5)
theorem zcA(s i t j:Nat)(e:IE):QS cf W (.star s i t j e):=by
 intro X XP k sc N mp m np io S T B st g0
 obtain⟨⟨tg,v,p⟩,eu,g1⟩:=zb g0
 clear g0
 cases jS eu
 obtain⟨⟨es,kk,p2⟩,et,g2⟩:=zb g1
 clear g1
 cases vG et
 obtain⟨⟨a,b⟩,eab,g3⟩:=zb g2
 clear g2
 cases jR eab
 obtain⟨⟨x,px⟩,ex,g4⟩:=zb g3
 clear g3
 cases zo ex
 obtain⟨⟨c,pc⟩,ec,g5⟩:=zb g4
 clear g4
 cases KQ ec
 obtain⟨⟨y,py⟩,ey,h⟩:=zb g5
 clear g5
 cases zo ey
 simp only[xa,decide_eq_true_eq]at h
 obtain⟨⟨⟨⟨⟨⟨⟨h1,h2⟩,h3⟩,h4⟩,h5⟩,h6⟩,h7⟩,h8⟩:=h
 obtain⟨l1,l2⟩:=Vf S h3
 obtain⟨l3,l4⟩:=Vf S h6
 exact zdT T.calm B.nd B.mn (by rw[S.hN];exact h1) l1 l2 h2 (by rw[S.hN];exact h4) l3 l4 h5 (Z4 cf W e _ XP _ _ _ _ _ S T v h8).1 (Yo h7) (yo h7)
theorem zeQ:QB cf W .nil:=by
 intro X XP k sc N mp m np io S T B e h
 cases e with
 |nil=>exact zbp
 |cons _ _=>exact Bool.noConfusion (show false=true from h)
theorem zct(s:IS)(b:IB)(ih_s:QS cf W s)(ih_b:QB cf W b):QB cf W (.cons s b):=by
 intro X XP k sc N mp m np io S T B e h
 cases e with
 |nil=>exact Bool.noConfusion (show false=true from h)
 |cons x xs=>
  replace h:=xy.mp h
  try simp only[xa]at h
  have h1:=ih_s _ XP _ _ _ _ _ _ _ S T B x h.1
  have h2:=ih_b _ XP _ _ _ _ _ _ _ S T B xs h.2
  cases b with
  |nil=>
   cases xs with
   |nil=>exact zbq h1
   |cons _ _=>exact Bool.noConfusion (show false=true from h.2)
  |cons s' b'=>exact Vq h1 h2
  |disp _ _ _ _ _ _ _=>exact Vq h1 h2
theorem zS{kf:List (Str×Str)}{k f:Str}(h:kf.lookup k=some f):(k,f)∈kf:=by
 induction kf with
 |nil=>cases h
 |cons p r ih=>
  obtain⟨a,b⟩:=p
  rw[xr]at h
  cases q:(k==a) with
  |true=>
   rw[q]at h
   cases h
   have:=eq_of_beq q
   subst this
   exact xp
  |false=>rw[q]at h;exact xj _ (ih h)
theorem zcu(s i:Nat)(x:Str)(kf:List (Str×Str))(n:Nat)(e:IE)(a:IA):QB cf W (.disp s i x kf n e a):=by
 intro X XP k sc N mp m np io S T B xs g0
 obtain⟨⟨st1,st2⟩,e1,g1⟩:=zb g0
 clear g0
 cases jR e1
 obtain⟨⟨t,v,q2⟩,e2,g2⟩:=zb g1
 clear g1
 cases jS e2
 obtain⟨⟨r,pr⟩,e3,g3⟩:=zb g2
 clear g2
 cases zo e3
 obtain⟨⟨d,w,q1⟩,e4,g4⟩:=zb g3
 clear g3
 cases jT e4
 obtain⟨⟨y,py⟩,e5,g5⟩:=zb g4
 clear g4
 cases zo e5
 obtain⟨⟨o,q4⟩,e6,g6⟩:=zb g5
 clear g5
 cases vH e6
 obtain⟨c,e7,g7⟩:=zb g6
 clear g6
 cases e7
 obtain⟨⟨g,pg,as,q3⟩,e8,h⟩:=zb g7
 clear g7
 cases wv e8
 simp only[xa,decide_eq_true_eq]at h
 obtain⟨⟨⟨⟨⟨⟨⟨⟨⟨⟨⟨⟨⟨⟨⟨h1,h2⟩,h3⟩,h4⟩,h5⟩,h6⟩,h7⟩,h8⟩,h9⟩,h10⟩,h11⟩,h12⟩,h13⟩,h14⟩,h15⟩,h16⟩:=h
 subst h6 h11
 cases as with
 |nil=>cases h13
 |cons a1 as=>
  rw[uj,xa]at h14
  obtain⟨l1,l2⟩:=Vf S h3
  have hv:Vis X.env.scope g:=by
   rcases l1 with z | z
   ·exact .inl z
   ·exact .inr (.inl z)
  have hN:X.N[s]?=some g:=by rw[S.hN];exact h1
  refine zds (T.gd x kf h8) (S.glo _ h7) (jQ h9) T.px (fun key f hf=>T.fn f n (xB.mp h12 _ (zS hf))) T.rm (Z4 cf W e _ XP _ _ _ _ _ S T w h15).1
   (zdV (T.gd x kf h8) (S.glo _ h7) (jQ h9) ?_ B.nd hN l1 rfl l2) hN hv (jQ h4) (jQ h5) B.mn h2 (zhw cf W a _ XP _ _ _ _ _ S T (a1::as) h16) (zp h14.1) (Z9 (yn h14.2))
  intro ov iv
  cases w<;>first | rfl | (simp[qk]at h10)
theorem zey(cf:CF)(W:Wd)(a:IB):QB cf W a :=
 IB.rec (motive_1:=QS cf W) (motive_2:=QB cf W) zcz zeV zeU zcx zeY zcy zeZ ze0 zeX zaj zcB zcA zeQ zct zcu a
end
inductive Kd where
 |fn
 |me (c m:Str)
 |ini (c:Str)
 deriving DecidableEq
structure DefI where
 name:Str
 st:Stmt
 ps:List Str
 N:List Str
 mask:List Bool
 io:List Nat
 body:IB
 kd:Kd:=.fn
noncomputable def outs:List Bool->Gv->List (Option OV)
 |[],_=> []
 |_::bs,[]=>none::outs bs []
 |b::bs,x::Γ=>(if b then x else none)::outs bs Γ
theorem wS:∀ (bs:List Bool) (Γ:Gv),(outs bs Γ).length=bs.length
 |[],_=>rfl
 |_::bs,[]=>by rw[outs,xk,wS,xk]
 |b::bs,x::Γ=>by rw[outs,xk,wS,xk]
theorem wR:∀ {bs:List Bool}{Γ:Gv}{j:Nat}{o:OV},(outs bs Γ)[j]?=some (some o)->bs[j]?=some true/\Γ[j]?=some (some o)
 |[],_,_,_,h=>by simp[outs]at h
 |b::bs,[],0,_,h=>by simp[outs]at h
 |b::bs,[],j+1,o,h=>by
  have:=wR (bs:=bs) (Γ:= []) (j:=j) (o:=o) (by simpa [outs] using h)
  simp at this
 |b::bs,x::Γ,0,o,h=>by
  simp only[outs,List.getElem?_cons_zero,Option.some.injEq]at h
  split at h
  ·rename_i hb;subst h;exact⟨by simp[hb],rfl⟩
  ·cases h
 |b::bs,x::Γ,j+1,o,h=>by
  have:=wR (bs:=bs) (Γ:=Γ) (j:=j) (o:=o) (by simpa [outs] using h)
  simpa using this
noncomputable def fin(mask:List Bool):R (FL×Gv)->RF
 |.ok (.ret o,Γ)=>.ok o (outs mask Γ)
 |.ok (.next,Γ)=>.ok (.d .none) (outs mask Γ)
 |.exc x Γ=>.exc x (outs mask Γ)
 |_=>.bad
noncomputable def DefI.run(d:DefI)(cf:CF)(args:List OV):RF:=if args.length=d.mask.length then fin d.mask (d.body.ex cf d.io (args.map some++List.replicate (d.N.length-d.mask.length) none)) else .bad
theorem DefI.run_lenX{d:DefI}{cf:CF}{args:List OV}(h:d.run cf args≠ .bad):args.length=d.mask.length:=by
 unfold DefI.run at h
 split at h
 ·assumption
 ·exact absurd rfl h
noncomputable def zg(defs:List DefI):Nat->CF
 |0,_,_=>.bad
 |n+1,x,args=>match defs.find? fun d=>decide (d.name=x) with
  |some d=>d.run (zg defs n) args
  |none=>.bad
section
variable {M0:Addr->Prop} {F:Fp} {Γ:Gv} {ν:Nu} {H:Hp}
theorem RS.outs{o:OV}{v:V}{mask:List Bool}{us:List V}(r:RS M0 F (Γ++ [some o]) (ν++ [some v]) H)(hu:us.length=mask.length)(hν:∀ j:Nat,mask[j]?=some true->ν[j]?=(us[j]?).map some) :
  ∃ F',RS M0 F' (outs mask Γ++ [some o]) (us.map some++ [some v]) H/\Stp F H F' H:=by
 have hνl:ν.length=Γ.length:=by have:=r.len;simpa using this
 have hjl:∀ j:Nat,mask[j]?=some true->j<Γ.length:=fun j hj=>by
  have h1:j<us.length:=by rw[hu];exact (xb.mp hj).1
  have h2:=hν j hj
  rw[xD h1]at h2
  have:=(xb.mp h2).1
  omega
 let n:=mask.length
 let F':Fp:=fun j=>if j<n then (if mask[j]?=some true then F j else []) else if j=n then F Γ.length else []
 have g1:∀ j,j<n->mask[j]?=some true->F' j=F j:=fun j h1 h2=>by show (if j<n then _ else _)=_;rw[if_pos h1,if_pos h2]
 have g2:∀ j,j<n->mask[j]?≠some true->F' j= []:=fun j h1 h2=>by show (if j<n then _ else _)=_;rw[if_pos h1,if_neg h2]
 have g3:F' n=F Γ.length:=by show (if n<n then _ else _)=_;rw[if_neg (xO _),if_pos rfl]
 have g4:∀ j,n<j->F' j= []:=fun j h=>by show (if j<n then _ else _)=_;rw[if_neg (by omega),if_neg (by omega)]
 have cls:∀ j a,a∈F' j->(j<n/\mask[j]?=some true/\a∈F j)∨(j=n/\a∈F Γ.length):=fun j a h=>by
  by_cases h1:j<n
  ·by_cases h2:mask[j]?=some true
   ·rw[g1 j h1 h2]at h;exact .inl ⟨h1,h2,h⟩
   ·rw[g2 j h1 h2]at h;cases h
  ·by_cases h2:j=n
   ·subst h2;rw[g3]at h;exact .inr ⟨rfl,h⟩
   ·rw[g4 j (by omega)]at h;cases h
 have st:Stp F H F' H:=ZV fun j a h=>by
  rcases cls j a h with ⟨_,_,h⟩ | ⟨_,h⟩
  ·exact⟨_,h⟩
  ·exact⟨_,h⟩
 have hol:(L3.outs mask Γ).length=n:=wS _ _
 refine⟨F',⟨r.al0,fun j a h=>?_,fun j=>?_,fun j k a h1 h2=>?_,fun j p e=>?_,fun j h=>?_,by simp[hol,hu,n]⟩,st⟩
 ·rcases cls j a h with ⟨_,_,h⟩ | ⟨_,h⟩
  ·exact r.dis0 _ a h
  ·exact r.dis0 _ a h
 ·by_cases h1:j<n
  ·by_cases h2:mask[j]?=some true
   ·rw[g1 j h1 h2];exact r.nd _
   ·rw[g2 j h1 h2];exact .nil
  ·by_cases h2:j=n
   ·subst h2;rw[g3];exact r.nd _
   ·rw[g4 j (by omega)];exact .nil
 ·rcases cls j a h1 with ⟨l1,m1,z1⟩ | ⟨rfl,z1⟩
  ·rcases cls k a h2 with ⟨l2,m2,z2⟩ | ⟨rfl,z2⟩
   ·exact r.dis _ _ a z1 z2
   ·have:=r.dis _ _ a z1 z2;have:=hjl _ m1;omega
  ·rcases cls k a h2 with ⟨l2,m2,z2⟩ | ⟨rfl,z2⟩
   ·have:=r.dis _ _ a z1 z2;have:=hjl _ m2;omega
   ·rfl
 ·by_cases hj:j<n
  ·rw[xc (by omega)]at e
   obtain⟨hm,hg⟩:=wR e
   have hjj:=hjl j hm
   obtain⟨w,ew,q⟩:=r.at' j p (by rw[xc (by omega)];exact hg)
   rw[xc (by omega),hν j hm]at ew
   refine⟨w,?_,?_⟩
   ·rw[xc (by simp[hu];exact hj),xA];exact ew
   ·rw[g1 j hj hm];exact q.go (fun _ _ x=>zr st r.al0 x) st.tups fun _ _=>rfl
  ·have hjn:j=n:=by
    have:=(xb.mp e).1
    simp[hol]at this;omega
   subst hjn
   rw[xf (by omega),hol]at e
   have:o=p:=by simpa using e
   subst this
   obtain⟨w,ew,q⟩:=r.at' Γ.length o (by rw[xf (xi _)];simp)
   rw[xf (by omega),hνl]at ew
   have:v=w:=by simpa using ew
   subst this
   refine⟨v,?_,?_⟩
   ·rw[xf (by simp[hu,n]),xt,hu];simp[n]
   ·rw[g3];exact q.go (fun _ _ x=>zr st r.al0 x) st.tups fun _ _=>rfl
 ·by_cases hj:j<n
  ·by_cases hm:mask[j]?=some true
   ·rw[g1 j hj hm]
    have hjj:=hjl j hm
    refine r.emp j fun p ep=>?_
    rw[xc (by omega)]at ep
    refine h p ?_
    rw[xc (by omega)]
    exact outs_put hm ep
   ·exact g2 j hj hm
  ·by_cases hjn:j=n
   ·subst hjn
    exact absurd (by rw[xf (by omega),hol];simp[n]) (h o)
   ·exact g4 j (by omega)
where
 outs_put:∀ {bs:List Bool} {Γ:Gv} {j:Nat} {o:OV},bs[j]?=some true->Γ[j]?=some (some o)->(L3.outs bs Γ)[j]?=some (some o)
  |[],_,_,_,h,_=>by simp at h
  |b::bs,[],_,_,_,h=>by simp at h
  |b::bs,x::Γ,0,o,h,e=>by
   simp at h e
   subst h e
   simp[L3.outs]
  |b::bs,x::Γ,j+1,o,h,e=>by
   have:=outs_put (bs:=bs) (Γ:=Γ) (j:=j) (o:=o) (by simpa using h) (by simpa using e)
   simpa [L3.outs] using this
end
noncomputable def Wb(N ps:List Str)(sc:Scope):Bool:=decide (sc.kind=.function)&& !sc.isCoroutine&& !sc.isGenerator&&decide N.Nodup&&decide (N.take ps.length=ps)&&ps.all (fun x=>decide (sc.names.lookup x=some .local)||decide (sc.names.lookup x=some .cell))&&sc.names.all (fun y=>decide (y.2≠ .free))
theorem Wc{N ps:List Str}{sc:Scope}(h:Wb N ps sc=true):jk N ps sc:=by
 unfold Wb at h
 simp only[xa,decide_eq_true_eq,xB,xH,Bool.not_eq_true']at h
 obtain⟨⟨⟨⟨⟨⟨h1,h2⟩,h3⟩,h4⟩,h5⟩,h6⟩,h7⟩:=h
 exact⟨h1,h2,h3,h4,h5,h6,h7⟩
noncomputable def DefI.ok(W:Wd)(d:DefI):Bool:=Wb d.N d.ps (defScope d.st)&&decide (d.ps.length=d.mask.length)&&d.io.all (fun i=>decide (d.mask[i]?=some true))&&(List.range d.mask.length).all (fun j=>decide (d.mask[j]?≠some true)||d.io.contains j)
 && d.body.chk W (defScope d.st) d.N (List.range d.N.length) d.N.length d.mask.length (defBody d.st)
structure WK(P:Program)(w:World)(K:PySem.W.Frag)(mg:Str->Option Value)(base:Heap)(cf:CF)(W:Wd)(k:Nat):Prop where
 bi:∀ x,W.bi.contains x=true->mg x=none
 gi:∀ x i,W.gi.contains (x,i)=true->∃ t,mg x=some (.int i t)
 gs:∀ x i,W.gs.contains (x,i)=true->∃ t,mg x=some (.str i t)
 fn:∀ x n,W.fl.contains (x,n)=true->Kn P w K mg base (CX1 P w) x k (spX mg n (cf x))/\∀ args,cf x args≠ .bad->args.length=n
 ex:∀ x,W.ex.contains x=true->∃ C,mg x=some (.ref C)/\PySem.W.excIn K C bmV "ValueError.__new__" =true
 mr:∀ x C y C2,W.ex.contains x=true->mg x=some (.ref C)->W.ex.contains y=true->mg y=some (.ref C2)->(mroIn K C).contains (.ref C2)=decide (x=y)
 gd:∀ x kf,W.gd.contains (x,kf)=true->GD w K mg x kf
 fk:∀ c f,W.fk.contains (c,f)=true->Cls K (Cs.adr c)/\Z7 K (Cs.adr c) f
 mc:∀ c q n,W.mc.contains (c,q,n)=true->mg c=some (.ref (Cs.adr c))/\(∃ j,j+1<=k/\KnI P w K mg base (CX1 P w) (Cs.adr c) j (spX mg n (cf q)))/\∀ args,cf q args≠ .bad->args.length=n
 ml:∀ c m q n,W.ml.contains (c,m,q,n)=true->KnM P w K mg base (CX1 P w) (Cs.adr c) m k (spX mg n (cf q))/\∀ args,cf q args≠ .bad->args.length=n
noncomputable def Lk(K:PySem.W.Frag)(mg:Str->Option Value)(f:Addr)(nm:Str):Kd->Prop
 |.fn=>mg nm=some (.ref f)
 |.me c m=>Cls K (Cs.adr c)/\zeH K (Cs.adr c) m f
 |.ini c=>Mk K (Cs.adr c) f/\mg c=some (.ref (Cs.adr c))
structure Dx(K:PySem.W.Frag)(mg:Str->Option Value)(d:DefI):Prop where
 ex:∃ (x:Str) (f:Addr) (fd:FuncData),Fun K x d.name d.st f fd/\Binds K fd d.ps []/\Lk K mg f d.name d.kd
section
variable {P:Program} {w:World} {K:PySem.W.Frag} {mg:Str->Option Value} {base:Heap} {cf:CF} {W:Wd} {k:Nat}
theorem zgL{N:List Str}{x:Str}{sc:Scope}{f:Addr}{cdv:Value}{A:Around}{outer:List Env}{s:Shared}{H:Hp}{E:XK}:XSc (Qd CX0 P w K mg base N x sc f cdv A outer s H E).nox sc N where
 hN:=rfl
 vis x h:=by
  unfold zcc at h
  simp only[xH,decide_eq_true_eq]at h
  rcases h with (h | h) | h
  ·exact .inl h
  ·exact .inr (.inl h)
  ·exact .inr (.inr h)
 loc x h:=h
 cel x h:=⟨h,rfl⟩
 fre x h:=.inr h
 glo x h:=by
  unfold wK at h
  simp only[decide_eq_true_eq]at h
  exact h
theorem zed{N:List Str}{x:Str}{sc:Scope}{f:Addr}{cdv:Value}{A:Around}{outer:List Env}{s:Shared}{H:Hp}{E:XK}:XSc (Qd (CX1 P w) P w K mg base N x sc f cdv A outer s H E) sc N where
 hN:=rfl
 vis x h:=by
  unfold zcc at h
  simp only[xH,decide_eq_true_eq]at h
  rcases h with (h | h) | h
  ·exact .inl h
  ·exact .inr (.inl h)
  ·exact .inr (.inr h)
 loc x h:=h
 cel x h:=⟨h,rfl⟩
 fre x h:=.inr h
 glo x h:=by
  unfold wK at h
  simp only[decide_eq_true_eq]at h
  exact h
theorem zdE{n:Nat}{ν:Nu}:Sees (List.range n) ν ν:=fun s i v e1 e2=>by
 have hs:s<n:=by
  have:=(xb.mp e1).1
  simpa using this
 rw[ur hs]at e1
 cases e1
 exact e2
theorem zfU{N:List Str}{x:Str}{sc:Scope}{f:Addr}{cdv:Value}{A:Around}{outer:List Env}{s:Shared}{H:Hp}{E:XK} :
  PxOk (Qd (CX1 P w) P w K mg base N x sc f cdv A outer s H E) (fun x _ _ _ _ H'=>∀ C,mg x.cls=some (.ref C)->E (.ref C) none H'):=fun σ pins H1 e s' x Γ F ν C h1 h2 u=>VH u rfl rfl rfl (h2 C h1)
theorem YK{x qual:Str}{st:Stmt}{f:Addr}{fd:FuncData}{N ps:List Str}{sp:Sp}(F:Fun K x qual st f fd)(S:jk N ps (defScope st))(len:∀ vs H Q E,sp vs H Q E->vs.length=ps.length)
  (hbody:∀ (cdv:Value) (A:Around) (outer:List Env) (s:Shared) (H:Hp) (vs:List V) (Q:VK) (E:XK),Room k (A.deeper (envOfC qual (defScope st) s.heap.objs.size f cdv))->sp vs H Q E ->
   wpB (Qd (CX1 P w) P w K mg base N qual (defScope st) f cdv A outer s H E) (defBody st) { nx:=fun _ H'=>Q .non H',rt:=Q } (start N vs) H):FnOk P w K mg base (CX1 P w) (k+1) f fd ps sp:=by
 obtain⟨oc,od,kV,doc,pm,an,cdv,ct,osl,rfl,lk,hcd⟩:=F.ex
 exact zeo lk hcd S len fun A outer s H vs Q E hr hsp=>⟨_,qO,hbody cdv A outer s H vs Q E hr hsp⟩
theorem zg0{d:DefI}{x:Str}{f:Addr}{fd:FuncData}(D:Fun K x d.name d.st f fd)(hok:d.ok W=true)(T:WK P w K mg base cf W k)(hk:1<=k):FnOk P w K mg base (CX1 P w) (k+1) f fd d.ps (spX mg d.mask.length (d.run cf)):=by
 unfold DefI.ok at hok
 simp only[xa,decide_eq_true_eq,xB,xH]at hok
 obtain⟨⟨⟨⟨h1,h2⟩,h3⟩,h4⟩,h5⟩:=hok
 have S:=Wc h1
 have hNl:d.mask.length<=d.N.length:=by
  have:=congrArg List.length S.pre
  rw[xJ]at this;omega
 refine YK D S (fun vs H Q E h=>by rw[h.1,h2]) fun cdv A outer s H vs Q E hr hsp=>?_
 obtain⟨hv,M0,F,args,rs,hm⟩:=hsp
 have hal:args.length=d.mask.length:=by have:=rs.len;simpa [hv] using this.symm
 have rs1:=rs.ext (d.N.length-d.mask.length)
 have hst:L2.start d.N vs=vs.map some++List.replicate (d.N.length-d.mask.length) none:=by unfold L2.start;rw[hv]
 rw[hst]
 have hsl:(vs.map some++List.replicate (d.N.length-d.mask.length) none:L2.St).length=d.N.length:=by simp[hv];omega
 refine zey cf W d.body (Qd (CX1 P w) P w K mg base d.N d.name (defScope d.st) f cdv A outer s H E) (fun x _ _ _ _ H'=>∀ C,mg x.cls=some (.ref C)->E (.ref C) none H') k (defScope d.st) d.N (List.range d.N.length) d.N.length d.mask.length d.io zed
  ⟨T.bi,T.gi,T.gs,T.fn,hr,hk,rfl,T.ex,T.mr,T.gd,fun c f h=>⟨(T.fk c f h).1,(T.fk c f h).2⟩,T.mc,T.ml,zfU,⟨_,_,_,rfl,rfl,rfl⟩⟩ ⟨PassesOwn.leaving,S.nd,List.nodup_range,fun i hi=>?_,(fun x Γ F ν σ H' h C hC pins s1 I h' ea args hm=>V5 I rfl rfl rfl hm (h C hC)),rfl,rfl⟩ (defBody d.st) h5 M0 F _ _ _ H _ rs1 zdE hsl ?_
 ·exact (xb.mp (h3 i hi)).1
 ·have back:∀ {F':Fp} {Γ':Gv} {ν':Nu} {o:OV} {v:V} {H':Hp} {G:Prop},RS M0 F' (Γ'++ [some o]) (ν'++ [some v]) H'->(∀ i∈d.io,ν'[i]?=(vs.map some++List.replicate (d.N.length-d.mask.length) none:Nu)[i]?)->Stp F H F' H' ->
    (∀ F',RS M0 F' (outs d.mask Γ'++ [some o]) (vs.map some++ [some v]) H'->Stp F H F' H'->G)->G:=fun {F' Γ' ν' o v H' G} r' hn s' hq=>by
   obtain⟨F2,r2,s2⟩:=r'.outs hv fun j hj=>by
    have hjl:j<d.mask.length:=(xb.mp hj).1
    have hjm:j∈d.io:=by
     rcases h4 j (List.mem_range.mpr hjl)with z | z
     ·exact absurd hj z
     ·simpa using z
    rw[hn j hjm,xc (by simp[hv];exact hjl),xA]
   exact hq F2 r2 (s'.trans s2)
  unfold DefI.run at hm
  rw[if_pos hal]at hm
  generalize d.body.ex cf d.io (args.map some++List.replicate (d.N.length-d.mask.length) none)=rr at hm
  cases rr with
  |bad=>exact hm.elim
  |exc x Γ'=>exact fun F' ν' σ' H' r' s' _ _ hn C hC=>back (r'.newD .none) hn s' fun F2 r2 s2=>hm C hC F2 H' r2 s2
  |ok z=>
   obtain⟨fl,Γ'⟩:=z
   cases fl with
   |brk=>exact hm.elim
   |cnt=>exact hm.elim
   |next=>
    intro F' ν' σ' H' r' s' hs' hl' hn
    exact back (r'.newD .none) hn s' fun F2 r2 s2=>hm F2 _ H' r2 s2
   |ret o=>
    intro F' ν' v H' r' s' hn
    exact back r' hn s' fun F2 r2 s2=>hm F2 v H' r2 s2
theorem zfa{d:DefI}{x:Str}{f:Addr}{fd:FuncData}(D:Fun K x d.name d.st f fd)(hok:d.ok W=true):FnOk P w K mg base (CX1 P w) 1 f fd d.ps (spX mg d.mask.length fun _=>.bad):=by
 unfold DefI.ok at hok
 simp only[xa,decide_eq_true_eq]at hok
 refine YK (k:=0) D (Wc hok.1.1.1.1) (fun vs H Q E h=>by rw[h.1,hok.1.1.1.2]) fun cdv A outer s H vs Q E hr hsp=>?_
 obtain⟨hv,M0,F,args,rs,hm⟩:=hsp
 exact hm.elim
noncomputable def wOk(defs:List DefI)(W:Wd):Bool:=W.fl.all (fun p=>okO (defs.find? fun d=>decide (d.name=p.1)) fun d=>decide (d.mask.length=p.2)&&decide (d.kd=.fn))
 && W.mc.all (fun p=>okO (defs.find? fun d=>decide (d.name=p.2.1)) fun d=>decide (d.mask.length=p.2.2)&&decide (d.kd=.ini p.1))
 && W.ml.all (fun p=>okO (defs.find? fun d=>decide (d.name=p.2.2.1)) fun d=>decide (d.mask.length=p.2.2.2)&&decide (d.kd=.me p.1 p.2.1))
theorem kI{defs:List DefI}{j:Nat}(hd:∀ d∈defs,Dx K mg d/\d.ok W=true)(hw:wOk defs W=true)(hbi:∀ x,W.bi.contains x=true->mg x=none)
  (hgi:∀ x i,W.gi.contains (x,i)=true->∃ t,mg x=some (.int i t)) (hgs:∀ x i,W.gs.contains (x,i)=true->∃ t,mg x=some (.str i t))
  (hex:∀ x,W.ex.contains x=true->∃ C,mg x=some (.ref C)/\PySem.W.excIn K C bmV "ValueError.__new__" =true) (hmr:∀ x C y C2,W.ex.contains x=true->mg x=some (.ref C)->W.ex.contains y=true->mg y=some (.ref C2)->(mroIn K C).contains (.ref C2)=decide (x=y)) (hgd:∀ x kf,W.gd.contains (x,kf)=true->GD w K mg x kf)
  (hfk:∀ c f,W.fk.contains (c,f)=true->Cls K (Cs.adr c)/\Z7 K (Cs.adr c) f)
  (hF:∀ (d:DefI) (x:Str) (f:Addr) (fd:FuncData),defs.find? (fun e=>decide (e.name=d.name))=some d->Fun K x d.name d.st f fd->d.ok W=true->FnOk P w K mg base (CX1 P w) j f fd d.ps (spX mg d.mask.length (cf d.name))/\∀ args,cf d.name args≠ .bad->args.length=d.mask.length) (hj:j+1<=k):WK P w K mg base cf W k:=by
 unfold wOk at hw
 simp only[xa,xB]at hw
 obtain⟨⟨w1,w2⟩,w3⟩:=hw
 have get:∀ (x:Str) (n:Nat) (kd:Kd),okO (defs.find? fun d=>decide (d.name=x)) (fun d=>decide (d.mask.length=n)&&decide (d.kd=kd))=true->∃ (d:DefI) (y:Str) (f:Addr) (fd:FuncData),d.name=x/\Fun K y d.name d.st f fd/\Binds K fd d.ps []/\Lk K mg f x kd/\FnOk P w K mg base (CX1 P w) j f fd d.ps (spX mg n (cf x))/\∀ args,cf x args≠ .bad->args.length=n:=fun x n kd h=>by
  obtain⟨d,e,h⟩:=zb h
  simp only[xa,decide_eq_true_eq]at h
  obtain⟨rfl,rfl⟩:=h
  have hmem:=List.mem_of_find?_eq_some e
  have hnm:d.name=x:=by simpa using List.find?_some e
  subst hnm
  obtain⟨D,ok⟩:=hd d hmem
  obtain⟨y,f,fd,F,hb,lk⟩:=D.ex
  obtain⟨q1,q2⟩:=hF d y f fd e F ok
  exact⟨d,y,f,fd,rfl,F,hb,lk,q1,q2⟩
 refine⟨hbi,hgi,hgs,fun x n h=>?_,hex,hmr,hgd,hfk,fun c q n h=>?_,fun c m q n h=>?_⟩
 ·obtain⟨d,y,f,fd,e,F,hb,lk,q1,q2⟩:=get x n .fn (w1 (x,n) (xQ.mp h))
  exact⟨⟨f,fd,d.ps,q1.mono (by omega),lk,F.kp,hb⟩,q2⟩
 ·obtain⟨d,y,f,fd,e,F,hb,lk,q1,q2⟩:=get q n (.ini c) (w2 (c,q,n) (xQ.mp h))
  exact⟨lk.2,⟨j,hj,f,fd,d.ps,q1,lk.1,hb⟩,q2⟩
 ·obtain⟨d,y,f,fd,e,F,hb,lk,q1,q2⟩:=get q n (.me c m) (w3 (c,m,q,n) (xQ.mp h))
  exact⟨⟨f,fd,d.ps,q1.mono (by omega),lk.1,lk.2,hb⟩,q2⟩
theorem wk_all{defs:List DefI}(hd:∀ d∈defs,Dx K mg d/\d.ok W=true)(hw:wOk defs W=true)(hbi:∀ x,W.bi.contains x=true->mg x=none)
  (hgi:∀ x i,W.gi.contains (x,i)=true->∃ t,mg x=some (.int i t)) (hgs:∀ x i,W.gs.contains (x,i)=true->∃ t,mg x=some (.str i t))
  (hex:∀ x,W.ex.contains x=true->∃ C,mg x=some (.ref C)/\PySem.W.excIn K C bmV "ValueError.__new__" =true) (hmr:∀ x C y C2,W.ex.contains x=true->mg x=some (.ref C)->W.ex.contains y=true->mg y=some (.ref C2)->(mroIn K C).contains (.ref C2)=decide (x=y)) (hgd:∀ x kf,W.gd.contains (x,kf)=true->GD w K mg x kf)
  (hfk:∀ c f,W.fk.contains (c,f)=true->Cls K (Cs.adr c)/\Z7 K (Cs.adr c) f):∀ n,WK P w K mg base (zg defs n) W (2*n+2)
 |0=>kI (j:=1) hd hw hbi hgi hgs hex hmr hgd hfk (fun d x f fd _ F ok=>⟨zfa F ok,fun args e=>absurd rfl e⟩) (by omega)
 |n+1=>kI (j:=2*n+2+1) hd hw hbi hgi hgs hex hmr hgd hfk (fun d x f fd e F ok=>by
   have ec:zg defs (n+1) d.name=d.run (zg defs n):=by
    funext args
    rw[zg,e]
   rw[ec]
   exact⟨zg0 F ok (wk_all hd hw hbi hgi hgs hex hmr hgd hfk n) (by omega),fun args e=>DefI.run_lenX e⟩) (by omega)
noncomputable def Z0(cells:List Int)(i l t s:Int):OV:=.l [.d (.list (cells.map .int)),.d (.int i),.d (.int l),.d (.int t),.d (.int s)]
theorem law_ok {st:Stmt}{fa:Addr}{fd:FuncData}{N:List Str}{x:Str}{kb:Nat}{body:IB}{rest:List Stmt}{pos' p3 p2 p pos:Pos}(Fn:Fun K "law" "law" st fa fd) (hS:Wb N ["_law_script"] (defScope st)=true) (hkb:Kn P w K mg base CX0 "_law_box" kb (zbH K)) (hkb2:kb<=k) (T:WK P w K mg base cf W k) (hk:1<=k)
  (hb:defBody st=.Assign [.Name x pos'] (.Call (.Name "_law_box" p3) [.Name "_law_script" p2] [] p) pos::rest) (hN0:N[0]?=some ("_law_script" :Str)) (hN1:N[1]?=some x) (hv0:(defScope st).names.lookup ("_law_script" :Str)=some .local) (hx:Loc (defScope st) x) (hg:(defScope st).names.lookup ("_law_box" :Str)=some .globalImplicit)
  (hchk:body.chk W (defScope st) N (List.range N.length) N.length 0 rest=true)
  (hrun:∀ (cells:List Int) (i l t s:Int),0<=i->∃ Γ',body.ex cf [] (none::some (Z0 cells i l t s)::List.replicate (N.length-2) none)=.ok (.ret (.d (.bool true)),Γ')):FnOk P w K mg base CX0 (k+1) fa fd ["_law_script"] (kj K):=by
 have S:=Wc hS
 refine Fn.law S fun cdv A outer s H Q E a ns hr hSq hlen kk=>?_
 have hl2:2<=N.length:=by have:=(xb.mp hN1).1;omega
 rw[hb]
 refine zgI (X:=(Qd CX0 P w K mg base N "law" (defScope st) fa cdv A outer s H E).nox) (N:=N) S.nd hkb (hr.mono hkb2) hSq hlen (fun b σ1 H1 s1 nb hB rs1 l1=>?_) rfl hN0 hN1 (.inl hv0) hx (.inl rfl) hg rfl rfl
 obtain⟨c,cells,i,l,t,sd,B⟩:=hB
 have hσ:σ1[1]?=some (some (.ref b)):=rs1.av 1 (.ref b) (by
  rw[xh]
  simp
  exact hl2)
 have hF:∀ j a,a∈zH (fun _=> []) 1 [b] j->j=1/\a=b:=fun j a h=>by
  by_cases hj:j=1
  ·subst hj;rw[ze]at h;exact⟨rfl,by simpa using h⟩
  ·rw[zi hj]at h;cases h
 have hM:∀ a,MM zw (zH (fun _=> []) 1 [b]) a->a=b:=fun a h=>by
  rcases h with h | ⟨j,h⟩
  ·exact h.elim
  ·exact (hF j a h).2
 have rs:RS zw (zH (fun _=> []) 1 [b]) (none::some (Z0 cells i l t sd)::List.replicate (N.length-2) none) (none::some (.ref b)::List.replicate (N.length-2) none) H1:=by
  refine⟨fun a h=>h.elim,fun j a h z=>z,fun j=>?_,fun j k a h1 h2=>by rw[(hF j a h1).1,(hF k a h2).1],fun j o e=>?_,fun j h=>?_,by simp⟩
  ·by_cases hj:j=1
   ·subst hj;rw[ze];exact xG.mpr ⟨(fun z=>nomatch z),.nil⟩
   ·rw[zi hj];exact .nil
  ·match j,e with
   |0,e=>simp at e
   |1,e=>
    have e':Z0 cells i l t sd=o:=by simpa using e
    subst e'
    refine⟨.ref b,rfl,?_⟩
    rw[ze]
    refine .l B.hb (.cons (A:= []) (.d (B.hc.less fun a ha _=>hM a ha)) (.cons (A:= []) (.d (.int _)) (.cons (A:= []) (.d (.int _)) (.cons (A:= []) (.d (.int _)) (.cons (A:= []) (.d (.int _)) .nil)))))
   |j+2,e=>
    rw[uh,uh,xK]at e
    split at e<;>cases e
  ·by_cases hj:j=1
   ·subst hj;exact absurd rfl (h (Z0 cells i l t sd))
   ·rw[zi hj]
 have sees:Sees (List.range N.length) (none::some (.ref b)::List.replicate (N.length-2) none) σ1:=fun s' j v e1 e2=>by
  have hs:s'<N.length:=by
   have:=(xb.mp e1).1
   simpa using this
  rw[ur hs]at e1
  cases e1
  match s',e2 with
  |0,e2=>simp at e2
  |1,e2=>
   have:V.ref b=v:=by simpa using e2
   subst this;exact hσ
  |j+2,e2=>
   rw[uh,uh,xK]at e2
   split at e2<;>cases e2
 obtain⟨Γ',er⟩:=hrun cells i l t sd B.hi
 refine zey cf W body (Qd CX0 P w K mg base N "law" (defScope st) fa cdv A outer s H E).nox XP0 k (defScope st) N (List.range N.length) N.length 0 [] zgL ⟨T.bi,T.gi,T.gs,T.fn,hr,hk,rfl,T.ex,T.mr,T.gd,fun c f h=>⟨(T.fk c f h).1,(T.fk c f h).2⟩,T.mc,T.ml,zdj,⟨_,_,_,rfl,rfl,rfl⟩⟩ ⟨PassesOwn.never,S.nd,List.nodup_range,(fun i hi=>nomatch hi),(fun _ _ _ _ _ _ h=>h.elim),rfl,rfl⟩ rest hchk zw _ _ _ σ1 H1 _ rs sees l1 ?_
 rw[er]
 intro F' ν' v H' r' s' hn
 obtain⟨w',ew,q⟩:=r'.at' Γ'.length (.d (.bool true)) (by rw[xf (xi _)];simp)
 have hlen:=r'.len
 have hνl:ν'.length=Γ'.length:=by simpa using hlen
 rw[xf (by omega),hνl]at ew
 have:v=w':=by simpa using ew
 subst this
 generalize F' Γ'.length=Az at q
 cases q with
 |d q=>cases q;exact kk H'
end
noncomputable def csOf(mg:Str->Option Value):Cs:=⟨fun x=>match mg x with
 |some (.ref C)=>C
 |_=>0⟩
theorem zcC{mg:Str->Option Value}{c:Str}{C:Addr}(h:mg c=some (.ref C)):(csOf mg).adr c=C:=by
 show (match mg c with
  |some (.ref C)=>C
  |_=>0)=C
 rw[h]
section
variable {K:PySem.W.Frag} {mg:Str->Option Value} {h:Heap} {d:DefI}
theorem zx(hk:d.kd=.fn)(D:Df K mg d.name d.st d.ps): @Dx (csOf mg) K mg d:=by
 obtain⟨f,fd,F,hm,hb⟩:=D.ex
 exact @Dx.mk (csOf mg) _ _ _ ⟨d.name,f,fd,F,hb,by rw[hk];exact hm⟩
structure Vz(K:PySem.W.Frag)(c:Str)(C:Addr):Prop where
 n:PySem.W.nsIn K mainGlobals c=some (some (.ref C))
 cl:Cls K C
theorem zgZ{c f:Str}{C:Addr}(X:K.In h)(G:h.Ns mainGlobals mg)(o:Vz K c C)(n:Z7 K C f):Cls K ((csOf mg).adr c)/\Z7 K ((csOf mg).adr c) f:=by
 rw[zcC (PySem.W.mg_of X G o.n)]
 exact⟨o.cl,n⟩
end
end L3
namespace Wx
open PySem L2 L3
scoped instance noCs:L2.Cs:=⟨fun _=>0⟩
noncomputable def Zf:IB:=(.cons (.asg 2 2 (.dat (.bin .Mod (.bin .Add (.bin .Add (.bin .Mult (.var 0 0) (.cint 48271)) (.bin .Mult (.var 1 1) (.cint 69621))) (.cint 12345)) (.cint 2147483647)))) (.cons (.asg 3 3 (.dat (.bin .Mod (.bin .Add (.bin .Add (.bin .Mult (.var 2 2) (.bin .Add (.bin .Mod (.var 2 2) (.cint 65521)) (.cint 7))) (.bin .Mult (.var 1 1) (.cint 40692))) (.bin .Mod (.var 0 0) (.cint 104729))) (.cint 998244353)))) (.cons (.ret (.dat (.bin .FloorDiv (.var 3 3) (.cint 7)))) .nil)))
noncomputable def qz:IB:=(.cons (.set 0 0 (.cint 3) (.bin .Add (.ix (.var 0 0) (.cint 3)) (.cint 1))) (.cons (.ite (.cmp .Gt (.ix (.var 0 0) (.cint 2)) (.cint 0)) (.cons (.asg 2 2 (.dat (.ix (.var 0 0) (.cint 2)))) (.cons (.set 0 0 (.cint 2) (.bin .FloorDiv (.var 2 2) (.var 1 1))) (.cons (.ret (.dat (.bin .Mod (.var 2 2) (.var 1 1)))) .nil))) .nil) (.cons (.ite (.cmp .GtE (.ix (.var 0 0) (.cint 1)) (.len (.ix (.var 0 0) (.cint 0)))) (.cons (.ret (.dat (.bin .Mod (.call (.call "_law_mixed" 2 (.cons (.ix (.var 0 0) (.cint 4)) (.cons (.ix (.var 0 0) (.cint 3)) .nil)))) (.var 1 1)))) .nil) .nil) (.cons (.asg 3 3 (.dat (.ix (.ix (.var 0 0) (.cint 0)) (.ix (.var 0 0) (.cint 1))))) (.cons (.set 0 0 (.cint 1) (.bin .Add (.ix (.var 0 0) (.cint 1)) (.cint 1))) (.cons (.ite (.cmp .Lt (.var 3 3) (.bin .Pow (.cint 10) (.cint 18))) (.cons (.ret (.dat (.bin .Mod (.call (.call "_law_mixed" 2 (.cons (.var 3 3) (.cons (.ix (.var 0 0) (.cint 3)) .nil)))) (.var 1 1)))) .nil) .nil) (.cons (.set 0 0 (.cint 2) (.bin .FloorDiv (.var 3 3) (.var 1 1))) (.cons (.ret (.dat (.bin .Mod (.var 3 3) (.var 1 1)))) .nil))))))))
noncomputable def zV:IB:=(.cons (.ret (.dat (.cstr "abcdefghijklmnopqrstuvwxyz"))) .nil)
noncomputable def b_law_named_1:IE:=(.six (.call (.call "_law_letters" 0 .nil)) (.call (.call "_law_take" 2 (.io 1 0 (.cons (.cint 26) .nil)))))
noncomputable def Zg:IB:=(.cons (.asg 1 1 (.dat (.bin .Add (.cint 1) (.call (.call "_law_take" 2 (.io 0 0 (.cons (.cint 8) .nil))))))) (.cons (.ret (.dat (.join "" (.new (.comp 2 1 [0] ["_law_k","_law_box_here"] (.nm 0 2) (.range (.var 1 1)) .yes b_law_named_1))))) .nil))
noncomputable def zP:IB:=(.cons (.asg 1 1 (.dat (.call (.call "_law_take" 2 (.io 0 0 (.cons (.cint 5) .nil)))))) (.cons (.ite (.cmp .Eq (.var 1 1) (.cint 0)) (.cons (.ret (.call "_law_take" 2 (.io 0 0 (.cons (.cint 1000000) .nil)))) .nil) .nil) (.cons (.ite (.cmp .Eq (.var 1 1) (.cint 1)) (.cons (.ret (.dat (.ix (.new (.lst (.cons (.cint 0) (.cons (.cint 9) (.cons (.cint 10) (.cons (.cint 99999) (.cons (.cint 100000) (.cons (.cint 999999) .nil)))))))) (.call (.call "_law_take" 2 (.io 0 0 (.cons (.cint 6) .nil))))))) .nil) .nil) (.cons (.ret (.call "_law_take" 2 (.io 0 0 (.cons (.cint 50) .nil)))) .nil))))
noncomputable def b_law_told_deed_1:IE:=(.call (.call "_law_named" 1 (.io 1 0 .nil)))
noncomputable def zL:IE:=(.call (.call "_law_take" 2 (.io 1 0 (.cons (.cint 10) .nil))))
noncomputable def zM:IE:=(.call (.call "_law_numbered" 1 (.io 1 0 .nil)))
noncomputable def qU:IB:=(.cons (.asg 1 1 (.dat (.ix (.new (.lst (.cons (.cstr "hang") (.cons (.cstr "fold") (.cons (.cstr "twin") (.cons (.cstr "wish") (.cons (.cstr "wax") (.cons (.cstr "dip") (.cons (.cstr "boil") (.cons (.cstr "brew") .nil)))))))))) (.call (.call "_law_take" 2 (.io 0 0 (.cons (.cint 8) .nil))))))) (.cons (.asg 2 2 (.dat (.call (.call "_law_named" 1 (.io 0 0 .nil))))) (.cons (.asg 3 3 (.dat (.call (.call "_law_numbered" 1 (.io 0 0 .nil))))) (.cons (.asg 4 4 (.dat (.tuple (.new (.comp 5 1 [0] ["_law_k","_law_box_here"] (.nm 0 5) (.range (.call (.call "_law_take" 2 (.io 0 0 (.cons (.cint 5) .nil))))) .yes b_law_told_deed_1))))) (.cons (.ite (.cmp .Eq (.var 1 1) (.cstr "hang")) (.cons (.ret (.dat (.tup (.cons (.var 1 1) (.cons (.var 2 2) (.cons (.var 3 3) .nil)))))) .nil) .nil) (.cons (.ite (.cmp .Eq (.var 1 1) (.cstr "fold")) (.cons (.ret (.dat (.tup (.cons (.var 1 1) (.cons (.var 2 2) .nil))))) .nil) .nil) (.cons (.ite (.cmp .Eq (.var 1 1) (.cstr "twin")) (.cons (.ret (.dat (.tup (.cons (.var 1 1) (.cons (.var 2 2) (.cons (.call (.call "_law_named" 1 (.io 0 0 .nil))) .nil)))))) .nil) .nil) (.cons (.ite (.cmp .Eq (.var 1 1) (.cstr "wish")) (.cons (.ret (.dat (.tup (.cons (.var 1 1) (.cons (.var 2 2) (.cons (.var 3 3) (.cons (.tuple (.new (.comp 5 1 [0] ["_law_k","_law_box_here"] (.nm 0 5) (.range (.call (.call "_law_take" 2 (.io 0 0 (.cons (.cint 13) .nil))))) .yes zL))) .nil))))))) .nil) .nil) (.cons (.ite (.cmp .Eq (.var 1 1) (.cstr "wax")) (.cons (.ret (.dat (.tup (.cons (.var 1 1) (.cons (.var 2 2) (.cons (.tuple (.new (.comp 5 1 [0] ["_law_k","_law_box_here"] (.nm 0 5) (.range (.call (.call "_law_take" 2 (.io 0 0 (.cons (.cint 9) .nil))))) .yes zM))) .nil)))))) .nil) .nil) (.cons (.ite (.cmp .Eq (.var 1 1) (.cstr "dip")) (.cons (.ret (.dat (.tup (.cons (.var 1 1) (.cons (.var 4 4) (.cons (.var 3 3) .nil)))))) .nil) .nil) (.cons (.ite (.cmp .Eq (.var 1 1) (.cstr "boil")) (.cons (.ret (.dat (.tup (.cons (.var 1 1) (.cons (.var 4 4) .nil))))) .nil) .nil) (.cons (.ret (.dat (.tup (.cons (.var 1 1) (.cons (.var 3 3) .nil))))) .nil))))))))))))
noncomputable def qR:IE:=(.str (.var 0 1))
noncomputable def jr:IB:=(.cons (.ite (.cmp .Eq (.len (.var 0 0)) (.cint 0)) (.cons (.ret (.dat (.cstr "-"))) .nil) .nil) (.cons (.ret (.dat (.join "" (.new (.comp 1 1 [] ["_law_shade"] (.nm 0 1) (.tup (.var 0 0)) .yes qR))))) .nil))
noncomputable def b_law_written_1:IB:=(.cons (.asg 1 1 (.dat (.sadd (.sadd (.var 1 1) (.cstr " ")) (.str (.var 2 2))))) .nil)
noncomputable def b_law_written_2:IB:=(.cons (.asg 1 1 (.dat (.sadd (.sadd (.var 1 1) (.cstr " ")) (.var 3 3)))) .nil)
noncomputable def ju:IB:=(.cons (.ite (.cmp .Eq (.ix (.var 0 0) (.cint 0)) (.cstr "hang")) (.cons (.ret (.dat (.fstr (.con "hang " (.val (.ix (.var 0 0) (.cint 1)) (.con " " (.val (.ix (.var 0 0) (.cint 2)) .nil))))))) .nil) .nil) (.cons (.ite (.cmp .Eq (.ix (.var 0 0) (.cint 0)) (.cstr "fold")) (.cons (.ret (.dat (.sadd (.cstr "fold ") (.ix (.var 0 0) (.cint 1))))) .nil) .nil) (.cons (.ite (.cmp .Eq (.ix (.var 0 0) (.cint 0)) (.cstr "twin")) (.cons (.ret (.dat (.fstr (.con "twin " (.val (.ix (.var 0 0) (.cint 1)) (.con " " (.val (.ix (.var 0 0) (.cint 2)) .nil))))))) .nil) .nil) (.cons (.ite (.cmp .Eq (.ix (.var 0 0) (.cint 0)) (.cstr "wish")) (.cons (.ret (.dat (.fstr (.con "wish " (.val (.ix (.var 0 0) (.cint 1)) (.con " " (.val (.ix (.var 0 0) (.cint 2)) (.con " " (.val (.call (.call "_law_figures" 1 (.cons (.ix (.var 0 0) (.cint 3)) .nil))) .nil))))))))) .nil) .nil) (.cons (.ite (.cmp .Eq (.ix (.var 0 0) (.cint 0)) (.cstr "brew")) (.cons (.ret (.dat (.fstr (.con "brew " (.val (.ix (.var 0 0) (.cint 1)) .nil))))) .nil) .nil) (.cons (.asg 1 1 (.dat (.ix (.var 0 0) (.cint 0)))) (.cons (.ite (.cmp .Eq (.ix (.var 0 0) (.cint 0)) (.cstr "wax")) (.cons (.asg 1 1 (.dat (.sadd (.cstr "wax ") (.ix (.var 0 0) (.cint 1))))) (.cons (.loop (.nm 2 2) (.tup (.ix (.var 0 0) (.cint 2))) b_law_written_1) (.cons (.ret (.dat (.var 1 1))) .nil))) .nil) (.cons (.ite (.cmp .Eq (.ix (.var 0 0) (.cint 0)) (.cstr "dip")) (.cons (.asg 1 1 (.dat (.sadd (.cstr "dip ") (.str (.ix (.var 0 0) (.cint 2)))))) .nil) .nil) (.cons (.loop (.nm 3 3) (.tup (.ix (.var 0 0) (.cint 1))) b_law_written_2) (.cons (.ret (.dat (.var 1 1))) .nil))))))))))
noncomputable def runI(n:Nat)(mask:List Bool)(io:List Nat)(body:IB)(cf:CF)(args:List OV):RF:=if args.length=mask.length then fin mask (body.ex cf io (args.map some++List.replicate (n-mask.length) none)) else .bad
end Wx
local macro_rules
  | `(tactic| simp![$xs,*])=>`(tactic| simp[$xs,*,Wx.runI,L3.fin,L3.outs,L3.IB.ex,L3.IS.ex,L3.IE.ev,L3.IL.ev,L3.IA.ev,L3.IN.ev,L3.IP.ev,L3.II.ev,L3.IC.ev,L3.IO.ev,L3.sSeq,L3.sNext,L3.sAsg,L3.sIf,L3.sRet,L3.sSet,L3.sFor,L3.sExpr,L3.fVar,L3.fFrz,L3.fC,L3.fBin,L3.fCmp,L3.fB,L3.fTru,L3.fNotT,L3.fAndT,L3.fOrT,L3.fAndV,L3.fOrV,L3.fIf,L3.fIx,L3.f1,L3.f2,L3.fChain,L3.fTup,L3.fLst,L3.fCons,L3.fNil,L3.fNew,L3.fOwn,L3.fOD,L3.fD,L3.fMove,L3.fCall,L3.aNil,L3.aCons,L3.aIo,L3.toArg,L3.toArgs,L3.ios,L3.putBack,L3.derf,L3.derS,L3.derSs,L3.derL,L3.leaves,L3.itemF,L3.binD,L3.cmpD,L3.truD,L3.R.bind,L3.isOwn,L3.fSeqL,L3.fSeqT,L3.fRange,L3.fYes,L3.fComp,L3.fListC,L3.fTupC,L3.gLen,L3.lenD,L3.gAll,L3.gAny,L3.gMin,L3.gMax,L3.gNeg,L3.fIsi,L3.isiB,L2.tyD,L3.tgF,L3.tgFs,L2.noL])
namespace Wx
open PySem L2 L3
theorem zaL(cf:CF)(a b:Int):∃ r,runI 4 [false,false] [] Zf cf [.d (.int a),.d (.int b)]=.ok (.d (.int r)) [none,none]:=by
 simp![Zf,OV.view,OV.views,jN,ixN,atI]
 rw[if_pos]
 ·simp[outs]
 ·omega
noncomputable def YC (cf:CF):Prop:=∀ a b:Int,∃ r,cf "_law_mixed" [.d (.int a),.d (.int b)]=.ok (.d (.int r)) [none,none]
noncomputable def zu(b:OV):Prop:=∃ cells i l t s,0<=i/\b=Z0 cells i l t s
noncomputable def K9(b:OV)(n:Int)(x:RF):Prop:=∃ (r:Int) (b':OV),0<=r/\r<n/\zu b'/\x=.ok (.d (.int r)) [some b',none]
theorem zd0(cf:CF)(hm:YC cf){b:OV}(hb:zu b){n:Int}(h1:1<=n)(h2:n<1073741824):K9 b n (runI 4 [true,false] [0] qz cf [b,.d (.int n)]):=by
 obtain⟨cells,i,l,t,s,hi,rfl⟩:=hb
 have h0:0<n:=by omega
 have hp:((10:Int) ^ 18)=1000000000000000000:=by decide
 by_cases hl:0<l
 ·refine⟨l % n,Z0 cells i (l / n) (t+1) s,uD _ (by omega),uw _ h0,⟨_,_,_,_,_,hi,rfl⟩,?_⟩
  simp![qz,Z0,hl,h0,h2,OV.view,OV.views,jN,ixN,atI]
 ·by_cases hc:(cells.length:Int)<=i
  ·obtain⟨r,er⟩:=hm s (t+1)
   refine⟨r % n,Z0 cells i l (t+1) s,uD _ (by omega),uw _ h0,⟨_,_,_,_,_,hi,rfl⟩,?_⟩
   simp![qz,Z0,hl,hc,h0,h2,er,OV.view,OV.views,jN,ixN,atI]
  ·have hix:i.toNat<cells.length:=by omega
   have hlt:i<(cells.length:Int):=by omega
   have hg:cells[i.toNat]?=some cells[i.toNat]:=xD hix
   by_cases hs:cells[i.toNat]<1000000000000000000
   ·obtain⟨r,er⟩:=hm cells[i.toNat] (t+1)
    refine⟨r % n,Z0 cells (i+1) l (t+1) s,uD _ (by omega),uw _ h0,⟨_,_,_,_,_,by omega,rfl⟩,?_⟩
    simp![qz,Z0,hl,hc,h0,h2,hi,hlt,hg,hs,hp,er,OV.view,OV.views,jN,ixN,atI]
   ·refine⟨cells[i.toNat] % n,Z0 cells (i+1) (cells[i.toNat] / n) (t+1) s,uD _ (by omega),uw _ h0,⟨_,_,_,_,_,by omega,rfl⟩,?_⟩
    simp![qz,Z0,hl,hc,h0,h2,hi,hlt,hg,hs,hp,OV.view,OV.views,jN,ixN,atI]
theorem V4{t:IT}{body:SM}(I:List PyData->Gv->Prop){ds:List PyData}{Γ:Gv}(h0:I [] Γ)
  (hs:∀ pre d post,ds=pre++d::post->∀ Γ,I pre Γ->∃ Γ1 Γ2,tgF t d Γ=some Γ1/\body Γ1=.ok (.next,Γ2)/\I (pre++ [d]) Γ2):∃ Γ',qV t body ds Γ=.ok (.next,Γ')/\I ds Γ':=by
 suffices H:∀ post pre Γ,ds=pre++post->I pre Γ->∃ Γ',qV t body post Γ=.ok (.next,Γ')/\I ds Γ' from H ds [] Γ rfl h0
 intro post
 induction post with
 |nil=>intro pre Γ e h;rw[xN]at e;subst e;exact⟨Γ,rfl,h⟩
 |cons d post ih=>
  intro pre Γ e h
  obtain⟨Γ1,Γ2,e1,e2,h2⟩:=hs pre d post e Γ h
  obtain⟨Γ',e3,h3⟩:=ih (pre++ [d]) Γ2 (by rw[e];simp) h2
  exact⟨Γ',by rw[qV,e1];simp only[e2];exact e3,h3⟩
theorem jI{k:Nat}{t:IT}{cond:EM Bool}{elt:EM FV}(I:List PyData->List PyData->Gv->Prop){ds:List PyData}{Γ:Gv}(h0:I [] [] Γ)
  (hs:∀ pre d post,ds=pre++d::post->∀ ys Γ,I pre ys Γ->∃ Γ2 c Γ3,tgF t d (Γ++List.replicate k none)=some Γ2/\cond Γ2=.ok (c,Γ3)/\(c=true->∃ u Γ4 y,elt Γ3=.ok (u,Γ4)/\derS Γ4 u=some y/\I (pre++ [d]) (ys++ [y]) (Γ4.take Γ.length))/\(c=false->I (pre++ [d]) ys (Γ3.take Γ.length))) :
  ∃ ys Γ',zF k t cond elt ds [] Γ=.ok (ys,Γ')/\I ds ys Γ':=by
 suffices H:∀ post pre ys Γ,ds=pre++post->I pre ys Γ->∃ ys' Γ',zF k t cond elt post ys Γ=.ok (ys',Γ')/\I ds ys' Γ' from H ds [] [] Γ rfl h0
 intro post
 induction post with
 |nil=>intro pre ys Γ e h;rw[xN]at e;subst e;exact⟨ys,Γ,rfl,h⟩
 |cons d post ih=>
  intro pre ys Γ e h
  obtain⟨Γ2,c,Γ3,e1,e2,ht,hf⟩:=hs pre d post e ys Γ h
  cases c with
  |true=>
   obtain⟨u,Γ4,y,e3,e4,h5⟩:=ht rfl
   obtain⟨ys',Γ',e6,h6⟩:=ih (pre++ [d]) _ _ (by rw[e];simp) h5
   have hit:itL elt Γ3=.ok (y,Γ4):=by simp only[itL,e3,R.bind,e4]
   exact⟨ys',Γ',by unfold zF;rw[qw,e1];simp only[e2,hit];exact e6,h6⟩
  |false=>
   obtain⟨ys',Γ',e6,h6⟩:=ih (pre++ [d]) _ _ (by rw[e];simp) (hf rfl)
   exact⟨ys',Γ',by unfold zF;rw[qw,e1];simp only[e2];exact e6,h6⟩
theorem k6{k:Nat}{t:IT}{cond:EM Bool}{elt:EM FV}(p:PyData->Bool)(f:PyData->PyData){ds:List PyData}{Γ:Gv}
  (hs:∀ d∈ds,∃ Γ2 Γ3,tgF t d (Γ++List.replicate k none)=some Γ2/\cond Γ2=.ok (p d,Γ3)/\Γ3.take Γ.length=Γ/\(p d=true->∃ u Γ4,elt Γ3=.ok (u,Γ4)/\derS Γ4 u=some (f d)/\Γ4.take Γ.length=Γ)) :
  zF k t cond elt ds [] Γ=.ok ((ds.filter p).map f,Γ):=by
 obtain⟨ys,Γ',e,hy,rfl⟩:=jI (k:=k) (t:=t) (cond:=cond) (elt:=elt) (fun pre ys Γ'=>ys=(pre.filter p).map f/\Γ'=Γ) (ds:=ds) (Γ:=Γ) ⟨rfl,rfl⟩ (by
  rintro pre d post e ys Γ' ⟨rfl,rfl⟩
  obtain⟨Γ2,Γ3,e1,e2,e3,h⟩:=hs d (by rw[e];simp)
  refine⟨Γ2,p d,Γ3,e1,e2,fun hp=>?_,fun hp=>⟨by simp[List.filter_append,hp],e3⟩⟩
  obtain⟨u,Γ4,e4,e5,e6⟩:=h hp
  exact⟨u,Γ4,_,e4,e5,by simp[List.filter_append,hp],e6⟩)
 rw[e,hy]
noncomputable def jU (cf:CF):Prop:=∀ b,zu b->∀ n:Int,1<=n->n<1073741824->K9 b n (cf "_law_take" [b,.d (.int n)])
noncomputable def Zb(xs:List Int):PyData:=.tuple (xs.map .int)
theorem zk(n:Nat)(i:Int):lay n (.int i)=true:=by cases n<;>rfl
theorem je(n:Nat)(i:Bool):lay n (.bool i)=true:=by cases n<;>rfl
theorem YT{n:Nat}{xs:List PyData}(h:∀ x∈xs,lay n x=true):lay (n+1) (.tuple xs)=true:=by rw[lay];exact xB.mpr h
theorem zcG{n:Nat}{d:PyData}(h:lay n d=true):PyData.eqv d d=true:=PySem.SeqAt.eqv_refl d (zR n d h).1
theorem zt(i j:Int):PyData.eqv (.int i) (.int j)=(i==j):=rfl
theorem k8{α:Type}(l:List α):l.filter (fun _=>true)=l:=List.filter_eq_self.mpr fun _ _=>rfl
noncomputable def tS(i:Int):Str:=Str.ofString (toString i)
theorem Ya{i:Int}(h:i.natAbs<1000000000):i.natAbs.log2<1920:=by
 by_cases h0:i.natAbs=0
 ·rw[h0];decide
 ·rw[Nat.log2_lt h0]
  exact Nat.lt_trans h (by decide)
theorem zgy{i:Int}(h:i.natAbs<1000000000):(tS i).length<=1921:=PyProof.Rows.int_text_len_1921 (Ya h)
theorem yp(s:String):PyData.strOk (Str.ofString s)=true:=by
 rw[Str.ofString_eq_toList]
 unfold PyData.strOk
 rw[uz]
 intro i hi
 have key:∀ c:Char,c.toNat<0x110000:=fun c=>by
  have:=c.valid
  rcases this with h | h
  ·have h1:c.toNat<0xd800:=h
   omega
  ·exact h.2
 simp only[decide_eq_true_eq]
 have:∀ x∈(s.toList.map Char.toNat),x<0x110000:=fun x hx=>by
  obtain⟨c,_,rfl⟩:=xI.mp hx
  exact key c
 have hi':i<(s.toList.map Char.toNat).length:=by simpa using hi
 have:=this _ (uo hi')
 simpa using this
theorem YQ(sep:Str)(ys:List Str):Txt.join sep ys=Str.join sep ys:=StrLaws.glued_eq_join sep ys
inductive Deed where
 |hang (n:Str) (k:Int)
 |fold (n:Str)
 |twin (n m:Str)
 |wish (n:Str) (k:Int) (sh:List Int)
 |wax (n:Str) (cs:List Int)
 |dip (ns:List Str) (k:Int)
 |boil (ns:List Str)
 |brew (k:Int)
noncomputable def Z5(ns:List Str):PyData:=.tuple (ns.map .str)
noncomputable def Deed.D:Deed->PyData
 |.hang n k=>.tuple [.str "hang",.str n,.int k]
 |.fold n=>.tuple [.str "fold",.str n]
 |.twin n m=>.tuple [.str "twin",.str n,.str m]
 |.wish n k sh=>.tuple [.str "wish",.str n,.int k,Zb sh]
 |.wax n cs=>.tuple [.str "wax",.str n,Zb cs]
 |.dip ns k=>.tuple [.str "dip",Z5 ns,.int k]
 |.boil ns=>.tuple [.str "boil",Z5 ns]
 |.brew k=>.tuple [.str "brew",.int k]
noncomputable def Nm(x:Str):Prop:=1<=x.length/\x.length<=8/\∀ c∈x.cps.toList,97<=c/\c<=122
noncomputable def Nb(i:Int):Prop:=0<=i/\i<1000000
noncomputable def Deed.Ok:Deed->Prop
 |.hang n k=>Nm n/\Nb k
 |.fold n=>Nm n
 |.twin n m=>Nm n/\Nm m
 |.wish n k sh=>Nm n/\Nb k/\sh.length<=12/\∀ x∈sh,0<=x/\x<=9
 |.wax n cs=>Nm n/\cs.length<=8/\∀ x∈cs,Nb x
 |.dip ns k=>ns.length<=4/\(∀ n∈ns,Nm n)/\Nb k
 |.boil ns=>ns.length<=4/\∀ n∈ns,Nm n
 |.brew k=>Nb k
theorem Nb.abs{i:Int}(h:Nb i):i.natAbs<1000000000:=by have:=h.1;have:=h.2;omega
noncomputable def shS (sh:List Int):Str:=if sh.isEmpty then "-" else Str.join "" (sh.map tS)
noncomputable def Deed.words:Deed->List Str
 |.hang n k=> ["hang",n,tS k]
 |.fold n=> ["fold",n]
 |.twin n m=> ["twin",n,m]
 |.wish n k sh=> ["wish",n,tS k,shS sh]
 |.wax n cs=> "wax" ::n::cs.map tS
 |.dip ns k=> "dip" ::tS k::ns
 |.boil ns=> "boil" ::ns
 |.brew k=> ["brew",tS k]
noncomputable def Deed.row (d:Deed):Str:=Str.join " " d.words
theorem y8 (cf:CF):runI 0 [] [] zV cf []=.ok (.d (.str "abcdefghijklmnopqrstuvwxyz")) []:=by
 simp![zV]
noncomputable def WR (cf:CF):Prop:=cf "_law_letters" []=.ok (.d (.str "abcdefghijklmnopqrstuvwxyz")) []
theorem Kg {i:Int}(h0:0<=i) (h1:i<26):∃ c:Nat,atI ("abcdefghijklmnopqrstuvwxyz" :Str).cps.toList i=some c/\97<=c/\c<=122:=by
 have:∀ n:Nat,n<26->∃ c:Nat,atI ("abcdefghijklmnopqrstuvwxyz" :Str).cps.toList (n:Int)=some c/\97<=c/\c<=122:=by
  intro n hn
  have key:∀ n:Fin 26,("abcdefghijklmnopqrstuvwxyz" :Str).cps.toList[(n:Nat)]?=some (97+(n:Nat)):=by decide +kernel
  exact⟨97+n,zX (key ⟨n,hn⟩),by omega,by omega⟩
 have e:i=((i.toNat:Nat):Int):=by omega
 rw[e]
 exact this i.toNat (by omega)
theorem za(x:PyData):(OV.d x).view=x:=rfl
theorem zaP(cf:CF)(ht:jU cf)(hl:WR cf){b:OV}(hb:zu b):∃ (n:Str) (b':OV),Nm n/\zu b'/\runI 2 [true] [0] Zg cf [b]=.ok (.d (.str n)) [some b']:=by
 obtain⟨r,b1,h1,h1',hb1,e1⟩:=ht b hb 8 (by decide) (by decide)
 obtain⟨ys,Γ',e2,⟨b2,cs,hcl,hcs,hb2,rfl,rfl⟩⟩:=jI (k:=1) (t:=.nm 0 2) (cond:=fYes) (elt:=(b_law_named_1.ev cf).1) (ds:=qp (1+r.toNat)) (Γ:= [some b1,some (.d (.int (1+r)))])
  (fun pre ys Γ=>∃ (b2:OV) (cs:List Nat),cs.length=pre.length/\(∀ c∈cs,97<=c/\c<=122)/\zu b2/\ys=cs.map (fun c=>.str ⟨#[c]⟩)/\Γ= [some b2,some (.d (.int (1+r)))]) ⟨b1,[],rfl,(fun _ h=>nomatch h),hb1,rfl,rfl⟩ (by
   rintro pre d post e ys Γ ⟨b2,cs,hcl,hcs,hb2,rfl,rfl⟩
   obtain⟨j,b3,g1,g2,hb3,e3⟩:=ht b2 hb2 26 (by decide) (by decide)
   obtain⟨c,hc,hc1,hc2⟩:=Kg g1 g2
   refine⟨[some b2,some (.d (.int (1+r))),some (.d d)],true,_,rfl,rfl,fun _=>⟨.dat (.str ⟨#[c]⟩),[some b3,some (.d (.int (1+r))),some (.d d)],.str ⟨#[c]⟩,?_,rfl,b3,cs++ [c],by simp[hcl],?_,hb3,by simp,rfl⟩,fun z=>nomatch z⟩
   ·have hz:("abcdefghijklmnopqrstuvwxyz" :Str).length<=1000000:=by decide
    have hl':cf "_law_letters" []=.ok (.d (.str "abcdefghijklmnopqrstuvwxyz")) []:=hl
    generalize ("abcdefghijklmnopqrstuvwxyz" :Str)=abc at *
    simp![b_law_named_1,hl',e3,v8,hz,hc,za]
   ·intro x hx
    rcases xE.mp hx with hx | hx
    ·exact hcs x hx
    ·have:x=c:=by simpa using hx
     subst this;exact⟨hc1,hc2⟩)
 rw[zh]at hcl
 have hj:Str.join "" (cs.map fun c=>(⟨#[c]⟩:Str))=⟨cs.toArray⟩:=PyProof.Rows.join_ones cs
 have hm:(cs.map fun c=>PyData.str ⟨#[c]⟩)=(cs.map fun c=>(⟨#[c]⟩:Str)).map .str:=by rw[xX];rfl
 have hs:=Wh (cs.map fun c=>(⟨#[c]⟩:Str))
 have hsum:((cs.map fun c=>(⟨#[c]⟩:Str)).map (·.length)).sum=cs.length:=by
  clear hs hm hj e2 hcs hcl
  induction cs with
  |nil=>rfl
  |cons c r ih=>simp only[xm,List.sum_cons,ih,xk];show 1+_=_;omega
 have hlen:(cs.map fun c=>(⟨#[c]⟩:Str)).length=cs.length:=by simp
 have hg:Z3 "" (.list (cs.map fun c=>PyData.str ⟨#[c]⟩))=some (.str ⟨cs.toArray⟩):=by
  unfold Z3
  simp only[hm,hs]
  rw[if_pos ⟨by rw[hsum,hlen];omega,by decide⟩,YQ,hj]
 refine⟨⟨cs.toArray⟩,b2,⟨by show 1<=cs.toArray.size;simp;omega,by show cs.toArray.size<=8;simp;omega,fun c hc=>hcs c (by simpa using hc)⟩,hb2,?_⟩
 have hz: -1000000<=1+r/\1+r<=1000000:=by omega
 have hr:(1+r).toNat=1+r.toNat:=by omega
 have hz2:1+r.toNat<=1000000:=by omega
 generalize (cs.map fun c=>PyData.str ⟨#[c]⟩)=CS at *
 generalize ({ cps:=cs.toArray }:Str)=nm at *
 unfold Zg
 generalize b_law_named_1=body at *
 simp![e1,hz,hz2,hr,e2,zh,hg,za]
noncomputable def vK (cf:CF):Prop:=∀ b,zu b->∃ (n:Str) (b':OV),Nm n/\zu b'/\cf "_law_named" [b]=.ok (.d (.str n)) [some b']
theorem ya(cf:CF)(ht:jU cf){b:OV}(hb:zu b):∃ (k:Int) (b':OV),Nb k/\zu b'/\runI 2 [true] [0] zP cf [b]=.ok (.d (.int k)) [some b']:=by
 obtain⟨r,b1,h1,h1',hb1,e1⟩:=ht b hb 5 (by decide) (by decide)
 by_cases hr0:r=0
 ·subst hr0
  obtain⟨k,b2,g1,g2,hb2,e2⟩:=ht b1 hb1 1000000 (by decide) (by decide)
  exact⟨k,b2,⟨g1,g2⟩,hb2,by simp![zP,e1,e2,zt,zk,za]⟩
 ·have hr0':(r==0)=false:=by rw[beq_eq_false_iff_ne];exact hr0
  by_cases hr1:r=1
  ·subst hr1
   obtain⟨k,b2,g1,g2,hb2,e2⟩:=ht b1 hb1 6 (by decide) (by decide)
   have key:∀ n:Nat,n<6->∃ z:Int,Nb z/\atI [PyData.int 0,.int 9,.int 10,.int 99999,.int 100000,.int 999999] (n:Int)=some (.int z):=by
    intro n hn
    match n,hn with
    |0,_=>exact⟨0,⟨by decide,by decide⟩,rfl⟩
    |1,_=>exact⟨9,⟨by decide,by decide⟩,rfl⟩
    |2,_=>exact⟨10,⟨by decide,by decide⟩,rfl⟩
    |3,_=>exact⟨99999,⟨by decide,by decide⟩,rfl⟩
    |4,_=>exact⟨100000,⟨by decide,by decide⟩,rfl⟩
    |5,_=>exact⟨999999,⟨by decide,by decide⟩,rfl⟩
    |n+6,h=>omega
   have ek:k=((k.toNat:Nat):Int):=by omega
   obtain⟨z,hz,ez⟩:=key k.toNat (by omega)
   rw[<- ek]at ez
   exact⟨z,b2,hz,hb2,by simp![zP,e1,e2,ez,zt,zk,za]⟩
  ·have hr1':(r==1)=false:=by rw[beq_eq_false_iff_ne];exact hr1
   obtain⟨k,b2,g1,g2,hb2,e2⟩:=ht b1 hb1 50 (by decide) (by decide)
   exact⟨k,b2,⟨g1,by omega⟩,hb2,by simp![zP,e1,e2,hr0,hr0',hr1,hr1',zt,zk,za]⟩
noncomputable def wx (cf:CF):Prop:=∀ b,zu b->∃ (k:Int) (b':OV),Nb k/\zu b'/\cf "_law_numbered" [b]=.ok (.d (.int k)) [some b']
theorem zfy{x y:String}(h:Str.ofString x=Str.ofString y):x=y:=by
 rw[Str.ofString_eq_toList,Str.ofString_eq_toList]at h
 have h1:x.toList.map Char.toNat=y.toList.map Char.toNat:=by
  have:=congrArg (fun z:Str=>z.cps.toList) h
  simpa using this
 have key:∀ a b:List Char,a.map Char.toNat=b.map Char.toNat->a=b:=by
  intro a
  induction a with
  |nil=>intro b e;cases b with
   |nil=>rfl
   |cons _ _=>cases e
  |cons c r ih=>
   intro b e
   cases b with
   |nil=>cases e
   |cons d s=>
    rw[xm,xm,List.cons.injEq]at e
    rw[ih s e.2,show c=d from Char.ext (UInt32.toNat_inj.mp e.1)]
 exact String.toList_inj.mp (key _ _ h1)
theorem wq(x y:String):PyData.eqv (.str (Str.ofString x)) (.str (Str.ofString y))=decide (x=y):=by
 show decide (Str.ofString x=Str.ofString y)=_
 by_cases h:x=y
 ·subst h;simp
 ·rw[decide_eq_false h,decide_eq_false (fun e=>h (zfy e))]
theorem zl(s:String)(n:Nat):lay n (.str (Str.ofString s))=true:=by
 have:=yp s
 cases n<;>exact this
theorem zaQ(cf:CF)(hn:vK cf){r:Nat}{o1 o2 o3:Option OV}{b:OV}(hb:zu b):∃ (ns:List Str) (b':OV),ns.length=r/\(∀ n∈ns,Nm n)/\zu b' /\
  zF 1 (.nm 0 5) fYes (b_law_told_deed_1.ev cf).1 (qp r) [] [some b,o1,o2,o3,none]=.ok (ns.map .str,[some b',o1,o2,o3,none]):=by
 obtain⟨ys,Γ',e2,⟨b2,ns,hcl,hcs,hb2,rfl,rfl⟩⟩:=jI (k:=1) (t:=.nm 0 5) (cond:=fYes) (elt:=(b_law_told_deed_1.ev cf).1) (ds:=qp r) (Γ:= [some b,o1,o2,o3,none])
  (fun pre ys Γ=>∃ (b2:OV) (ns:List Str),ns.length=pre.length/\(∀ n∈ns,Nm n)/\zu b2/\ys=ns.map .str/\Γ= [some b2,o1,o2,o3,none]) ⟨b,[],rfl,(fun _ h=>nomatch h),hb,rfl,rfl⟩ (by
   rintro pre d post e ys Γ ⟨b2,ns,hcl,hcs,hb2,rfl,rfl⟩
   obtain⟨n,b3,hn3,hb3,e3⟩:=hn b2 hb2
   refine⟨[some b2,o1,o2,o3,none,some (.d d)],true,_,rfl,rfl,fun _=>⟨.dat (.str n),[some b3,o1,o2,o3,none,some (.d d)],.str n,?_,rfl,b3,ns++ [n],by simp[hcl],?_,hb3,by simp,rfl⟩,fun z=>nomatch z⟩
   ·simp![b_law_told_deed_1,e3,za]
   ·intro x hx
    rcases xE.mp hx with hx | hx
    ·exact hcs x hx
    ·have:x=n:=by simpa using hx
     subst this;exact hn3)
 rw[zh]at hcl
 exact⟨ns,b2,hcl,hcs,hb2,e2⟩
theorem YX(cf:CF){body:IE}{P:Int->Prop}(hP:∀ b,zu b->∀ o1 o2 o3 o4 d,∃ (k:Int) (b':OV),P k/\zu b'/\(body.ev cf).1 [some b,o1,o2,o3,o4,some (.d d)]=.ok (.dat (.int k),[some b',o1,o2,o3,o4,some (.d d)])){r:Nat}{o1 o2 o3 o4:Option OV}{b:OV}(hb:zu b):∃ (ks:List Int) (b':OV),ks.length=r/\(∀ k∈ks,P k)/\zu b' /\
  zF 1 (.nm 0 5) fYes (body.ev cf).1 (qp r) [] [some b,o1,o2,o3,o4]=.ok (ks.map .int,[some b',o1,o2,o3,o4]):=by
 obtain⟨ys,Γ',e2,⟨b2,ns,hcl,hcs,hb2,rfl,rfl⟩⟩:=jI (k:=1) (t:=.nm 0 5) (cond:=fYes) (elt:=(body.ev cf).1) (ds:=qp r) (Γ:= [some b,o1,o2,o3,o4])
  (fun pre ys Γ=>∃ (b2:OV) (ns:List Int),ns.length=pre.length/\(∀ n∈ns,P n)/\zu b2/\ys=ns.map .int/\Γ= [some b2,o1,o2,o3,o4]) ⟨b,[],rfl,(fun _ h=>nomatch h),hb,rfl,rfl⟩ (by
   rintro pre d post e ys Γ ⟨b2,ns,hcl,hcs,hb2,rfl,rfl⟩
   obtain⟨n,b3,hn3,hb3,e3⟩:=hP b2 hb2 o1 o2 o3 o4 d
   refine⟨[some b2,o1,o2,o3,o4,some (.d d)],true,_,rfl,rfl,fun _=>⟨.dat (.int n),[some b3,o1,o2,o3,o4,some (.d d)],.int n,e3,rfl,b3,ns++ [n],by simp[hcl],?_,hb3,by simp,rfl⟩,fun z=>nomatch z⟩
   ·intro x hx
    rcases xE.mp hx with hx | hx
    ·exact hcs x hx
    ·have:x=n:=by simpa using hx
     subst this;exact hn3)
 rw[zh]at hcl
 exact⟨ns,b2,hcl,hcs,hb2,e2⟩
theorem zeb {r:Int}(h0:0<=r) (h1:r<8):∃ w:String,(w= "hang" ∨w= "fold" ∨w= "twin" ∨w= "wish" ∨w= "wax" ∨w= "dip" ∨w= "boil" ∨w= "brew") /\
  atI [PyData.str "hang",.str "fold",.str "twin",.str "wish",.str "wax",.str "dip",.str "boil",.str "brew"] r=some (.str (Str.ofString w)):=by
 have e:r=((r.toNat:Nat):Int):=by omega
 rw[e]
 have hn:r.toNat<8:=by omega
 match r.toNat,hn with
 |0,_=>exact⟨"hang",by simp,rfl⟩
 |1,_=>exact⟨"fold",by simp,rfl⟩
 |2,_=>exact⟨"twin",by simp,rfl⟩
 |3,_=>exact⟨"wish",by simp,rfl⟩
 |4,_=>exact⟨"wax",by simp,rfl⟩
 |5,_=>exact⟨"dip",by simp,rfl⟩
 |6,_=>exact⟨"boil",by simp,rfl⟩
 |7,_=>exact⟨"brew",by simp,rfl⟩
 |n+8,h=>omega
theorem zd1(cf:CF)(ht:jU cf)(hn:vK cf)(hk:wx cf){b:OV}(hb:zu b):∃ (d:Deed) (b':OV),d.Ok/\zu b'/\runI 5 [true] [0] qU cf [b]=.ok (.d d.D) [some b']:=by
 obtain⟨r,b1,h1,h1',hb1,e1⟩:=ht b hb 8 (by decide) (by decide)
 obtain⟨w,hw,ew⟩:=zeb h1 h1'
 obtain⟨n,b2,hn2,hb2,e2⟩:=hn b1 hb1
 obtain⟨k,b3,hk3,hb3,e3⟩:=hk b2 hb2
 obtain⟨m,b4,h4,h4',hb4,e4⟩:=ht b3 hb3 5 (by decide) (by decide)
 obtain⟨ns,b5,hnl,hns,hb5,e5⟩:=zaQ cf hn (r:=m.toNat) (o1:=some (.d (.str (Str.ofString w)))) (o2:=some (.d (.str n))) (o3:=some (.d (.int k))) hb4
 have hz: -1000000<=m/\m<=1000000:=by omega
 have hz2:m.toNat<=1000000:=by omega
 have hz3:(ns.map PyData.str).length<=1000000:=by simp;omega
 have hsq:∀ Γ,jN Γ (.dat (.list (ns.map PyData.str)))=some (ns.map .str):=fun _=>rfl
 obtain⟨m2,b6,hm2,hb6,e6⟩:=hn b5 hb5
 obtain⟨s,b7,h7,h7',hb7,e7⟩:=ht b5 hb5 13 (by decide) (by decide)
 obtain⟨sh,b8,hsl,hsh,hb8,e8⟩:=YX cf (body:=zL) (P:=fun x=>0<=x/\x<=9) (fun b hb o1 o2 o3 o4 d=>by
  obtain⟨x,b',g1,g2,hb',e⟩:=ht b hb 10 (by decide) (by decide)
  exact⟨x,b',⟨g1,by omega⟩,hb',by simp![zL,e,za]⟩) (r:=s.toNat) (o1:=some (.d (.str (Str.ofString w)))) (o2:=some (.d (.str n))) (o3:=some (.d (.int k))) (o4:=some (.d (Z5 ns))) hb7
 obtain⟨q,b9,h9,h9',hb9,e9⟩:=ht b5 hb5 9 (by decide) (by decide)
 obtain⟨cs,b10,hcl,hcs,hb10,e10⟩:=YX cf (body:=zM) (P:=Nb) (fun b hb o1 o2 o3 o4 d=>by
  obtain⟨x,b',g1,hb',e⟩:=hk b hb
  exact⟨x,b',g1,hb',by simp![zM,e,za]⟩) (r:=q.toNat) (o1:=some (.d (.str (Str.ofString w)))) (o2:=some (.d (.str n))) (o3:=some (.d (.int k))) (o4:=some (.d (Z5 ns))) hb9
 have z7: -1000000<=s/\s<=1000000:=by omega
 have z7':s.toNat<=1000000:=by omega
 have z8:(sh.map PyData.int).length<=1000000:=by simp;omega
 have z9: -1000000<=q/\q<=1000000:=by omega
 have z9':q.toNat<=1000000:=by omega
 have z10:(cs.map PyData.int).length<=1000000:=by simp;omega
 have q8:∀ Γ,jN Γ (.dat (.list (sh.map PyData.int)))=some (sh.map .int):=fun _=>rfl
 have q10:∀ Γ,jN Γ (.dat (.list (cs.map PyData.int)))=some (cs.map .int):=fun _=>rfl
 unfold qU
 generalize b_law_told_deed_1=B1 at *
 generalize zL=B2 at *
 generalize zM=B3 at *
 rcases hw with rfl | rfl | rfl | rfl | rfl | rfl | rfl | rfl
 ·exact⟨.hang n k,b5,⟨hn2,hk3⟩,hb5,by simp![e1,ew,e2,e3,e4,hz,hz2,hz3,e5,hsq,zh,wq,zl,Deed.D,za]⟩
 ·exact⟨.fold n,b5,hn2,hb5,by simp![e1,ew,e2,e3,e4,hz,hz2,hz3,e5,hsq,zh,wq,zl,Deed.D,za]⟩
 ·exact⟨.twin n m2,b6,⟨hn2,hm2⟩,hb6,by simp![e1,ew,e2,e3,e4,hz,hz2,hz3,e5,e6,hsq,zh,wq,zl,Deed.D,za]⟩
 ·refine⟨.wish n k sh,b8,⟨hn2,hk3,by omega,hsh⟩,hb8,?_⟩
  simp only[Z5]at e8
  simp![e1,ew,e2,e3,e4,hz,hz2,hz3,e5,e7,z7,z7',z8,e8,q8,hsq,zh,wq,zl,Deed.D,Zb,za]
 ·refine⟨.wax n cs,b10,⟨hn2,by omega,hcs⟩,hb10,?_⟩
  simp only[Z5]at e10
  simp![e1,ew,e2,e3,e4,hz,hz2,hz3,e5,e9,z9,z9',z10,e10,q10,hsq,zh,wq,zl,Deed.D,Zb,za]
 ·exact⟨.dip ns k,b5,⟨by omega,hns,hk3⟩,hb5,by simp![e1,ew,e2,e3,e4,hz,hz2,hz3,e5,hsq,zh,wq,zl,Deed.D,Z5,za]⟩
 ·exact⟨.boil ns,b5,⟨by omega,hns⟩,hb5,by simp![e1,ew,e2,e3,e4,hz,hz2,hz3,e5,hsq,zh,wq,zl,Deed.D,Z5,za]⟩
 ·exact⟨.brew k,b5,hk3,hb5,by simp![e1,ew,e2,e3,e4,hz,hz2,hz3,e5,hsq,zh,wq,zl,Deed.D,za]⟩
noncomputable def zaa (cf:CF):Prop:=∀ b,zu b->∃ (d:Deed) (b':OV),d.Ok/\zu b'/\cf "_law_told_deed" [b]=.ok (.d d.D) [some b']
theorem Wj{ys:List Str}{m:Nat}(h:∀ y∈ys,y.length<=m):(ys.map (·.length)).sum<=m*ys.length:=by
 induction ys with
 |nil=>simp
 |cons y r ih=>
  have h1:=h y (by simp)
  have h2:=ih fun z hz=>h z (xj _ hz)
  simp only[xm,List.sum_cons,xk]
  rw[Nat.mul_succ];omega
theorem YR{sep:Str}{ys:List Str}(hs:sep.length<=16)(h:∀ y∈ys,y.length<=2000)(hl:ys.length<=400):Z3 sep (.list (ys.map .str))=some (.str (Str.join sep ys)):=by
 have h1:=Wh ys
 have h2:=Wj h
 have h3:2000*ys.length<=2000*400:=ut _ hl
 unfold Z3
 simp only[h1]
 rw[if_pos ⟨by omega,hs⟩,YQ]
noncomputable def tD:PyData->PyData
 |.int i=>.str (tS i)
 |.str x=>.str x
 |_=>.none
theorem zdY(xs:List Int):(xs.map PyData.int).map tD=(xs.map tS).map .str:=by rw[xX,xX];rfl
theorem wJ{i:Int}(h:i.natAbs<1000000000):y6 (.int i)=some (.str (tS i)):=by
 unfold y6
 simp only[Ya h,if_true]
 rfl
theorem KB(cf:CF){body:IE}{k:Nat}(hb:body=.str (.var 0 k)){xs:List PyData}{Γ:Gv}(hk:Γ.length=k)(hx:∀ x∈xs,(∃ i:Int,x=.int i/\i.natAbs<1000000000)∨∃ z,x=.str z) :
  zF 1 (.nm 0 k) fYes (body.ev cf).1 xs [] Γ=.ok (xs.map tD,Γ):=by
 have e:=k6 (k:=1) (t:=.nm 0 k) (cond:=fYes) (elt:=(body.ev cf).1) (ds:=xs) (Γ:=Γ) (fun _=>true) tD (by
  intro x hxm
  have hg:y6 x=some (tD x):=by
   rcases hx x hxm with ⟨i,rfl,hi⟩ | ⟨z,rfl⟩
   ·exact wJ hi
   ·rfl
  have hset:(Γ++List.replicate 1 none).set k (some (.d x))=Γ++ [some (.d x)]:=by rw[<- hk];exact jO Γ (OV.d x)
  have hget:(Γ++ [some (OV.d x)])[k]?=some (some (.d x)):=by rw[<- hk,xf (xi _)];simp
  have hlt:k<(Γ++List.replicate 1 (none:Option OV)).length:=by simp;omega
  refine⟨Γ++ [some (.d x)],_,?_,rfl,by simp,fun _=>⟨.dat (tD x),Γ++ [some (.d x)],?_,rfl,by simp⟩⟩
  ·unfold tgF
   first
    | (rw[if_pos hlt,hset])
    | (rw[hset])
    | (simp only[hset])
  ·subst hb
   simp![hget,hg])
 rw[k8]at e
 exact e
theorem KC{sh:List Int}(h:∀ x∈sh,0<=x/\x<=9):∀ y∈sh.map tS,y.length<=2000:=fun y hy=>by
 obtain⟨i,hi,rfl⟩:=xI.mp hy
 have:=h i hi
 have:=zgy (i:=i) (by omega)
 omega
theorem y4(cf:CF){sh:List Int}(hl:sh.length<=12)(h:∀ x∈sh,0<=x/\x<=9):runI 1 [false] [] jr cf [.d (Zb sh)]=.ok (.d (.str (shS sh))) [none]:=by
 have e:=KB cf (body:=qR) (k:=1) rfl (xs:=sh.map .int) (Γ:= [some (.d (Zb sh))]) rfl (fun x hx=>by
  obtain⟨i,hi,rfl⟩:=xI.mp hx
  have:=h i hi
  exact .inl ⟨i,rfl,by omega⟩)
 rw[zdY]at e
 have hj:=YR (sep:= "") (by decide) (KC h) (by simp;omega)
 have hz:(sh.map PyData.int).length<=1000000:=by simp;omega
 unfold jr shS
 generalize qR=B at *
 simp only[Zb]at *
 cases sh with
 |nil=>simp![zt,zk]
 |cons a r=>
  have hne:((((a::r).map PyData.int).length:Int)==0)=false:=by rw[beq_eq_false_iff_ne];simp;omega
  have hne2:((a::r).map PyData.int).length≠0:=by simp
  have hze:((a::r).isEmpty)=false:=rfl
  generalize ((a::r).map tS).map PyData.str=TT at *
  generalize (a::r).map PyData.int=NN at *
  simp![hne,hne2,hze,hz,e,hj,zt,zk]
noncomputable def WQ (cf:CF):Prop:=∀ sh:List Int,sh.length<=12->(∀ x∈sh,0<=x/\x<=9)->cf "_law_figures" [.d (Zb sh)]=.ok (.d (.str (shS sh))) [none]
theorem jP(sep:Str):∀ ys:List Str,(Str.join sep ys).length<=(ys.map (·.length)).sum+sep.length*ys.length
 |[]=>by show Str.empty.length<=_;exact xV _
 |[x]=>by show x.length<=_;simp
 |x::y::r=>by
  have e:Str.join sep (x::y::r)=x++sep++Str.join sep (y::r):=rfl
  have ih:=jP sep (y::r)
  rw[e,qt,qt]
  simp only[xm,List.sum_cons,xk]at *
  have:sep.length*(r.length+1+1)=sep.length*(r.length+1)+sep.length:=Nat.mul_succ _ _
  omega
theorem Vw{i:Int}(h:i.natAbs<1000000000):(tS i).length<=11:=by
 have:=int_text_length_le10 (a:=i) (k:=9) (by decide) (by omega)
 unfold tS
 rw[Str.ofString_eq_toList]
 show (List.toArray _).size<=_
 simp
 exact xC this (by decide)
theorem zdH{sh:List Int}(hl:sh.length<=12)(h:∀ x∈sh,0<=x/\x<=9):(shS sh).length<=200:=by
 unfold shS
 split
 ·decide
 ·have h1:=jP "" (sh.map tS)
  have h2:=Wj (m:=11) (ys:=sh.map tS) (fun y hy=>by
   obtain⟨i,hi,rfl⟩:=xI.mp hy
   have:=h i hi
   exact Vw (by omega))
  have h3:("" :Str).length=0:=by decide
  rw[h3,Nat.zero_mul]at h1
  simp only[xt]at h2
  omega
theorem Nm.len{n:Str}(h:Nm n):n.length<=2000:=by have:=h.2.1;omega
theorem Nb.len{i:Int}(h:Nb i):(tS i).length<=2000:=by have:=Vw h.abs;omega
theorem jL(sep a:Str):∀ {l:List Str},l≠ []->Str.join sep (l++ [a])=Str.join sep l++sep++a
 |[],h=>absurd rfl h
 |[x],_=>rfl
 |x::y::r,_=>by
  have e:Str.join sep (x::y::r++ [a])=x++sep++Str.join sep (y::r++ [a]):=rfl
  have e2:Str.join sep (x::y::r)=x++sep++Str.join sep (y::r):=rfl
  rw[e,e2,jL sep a (l:=y::r) (by simp)]
  simp only[qC]
theorem jK{n:Str}(h:n.length<=2000):Qv (.str n)=some n:=by
 have:n.length<=10000:=by omega
 simp[Qv,this]
theorem wH{i:Int}(h:i.natAbs<1000000000):Qv (.int i)=some (tS i):=by
 have h1:=Ya h
 have h2:(Str.ofString (toString i)).length<=10000:=by have:=Vw h;unfold tS at this;omega
 show (if i.natAbs.log2<1920/\(Str.ofString (toString i)).length<=10000 then some (Str.ofString (toString i)) else none)=_
 rw[if_pos ⟨h1,h2⟩];rfl
theorem jc{x y:Str}(h:x.length+y.length<=1000000):qv (.str x) (.str y)=some (.str (x++y)):=by
 simp[qv,h]
theorem yI(cf:CF){o0 o3:Option OV}:∀ (cs:List Int) (ws:List Str) (o2:Option OV),ws≠ []->(∀ x∈cs,Nb x)->(∀ y∈ws,y.length<=2000)->ws.length+cs.length<=100 ->
  ∃ o2',qV (.nm 2 2) (b_law_written_1.ex cf []) (cs.map .int) [o0,some (.d (.str (Str.join " " ws))),o2,o3]=.ok (.next,[o0,some (.d (.str (Str.join " " (ws++cs.map tS)))),o2',o3])
 |[],ws,o2,_,_,_,_=>⟨o2,by simp[qV]⟩
 |i::cs,ws,o2,hw,hc,hy,hl=>by
  have hi:=hc i (by simp)
  rw[xk]at hl
  obtain⟨o2',e⟩:=yI cf cs (ws++ [tS i]) (some (.d (.int i))) (by simp) (fun x hx=>hc x (by simp[hx])) (fun y hy'=>by
   rcases xE.mp hy' with h | h
   ·exact hy y h
   ·have:y=tS i:=by simpa using h
    subst this;exact hi.len) (by simp;omega)
  refine⟨o2',?_⟩
  have hjl:=jP " " ws
  have hsl:=Wj hy
  have h1:(" " :Str).length=1:=by decide
  have hll:2000*ws.length<=2000*100:=ut _ (by omega)
  rw[h1,Nat.one_mul]at hjl
  have g1:qv (.str (Str.join " " ws)) (.str " ")=some (.str (Str.join " " ws++ " ")):=jc (by rw[h1];omega)
  have g2:qv (.str (Str.join " " ws++ " ")) (.str (tS i))=some (.str (Str.join " " ws++ " " ++tS i)):=jc (by rw[qt,h1];have:=hi.len;omega)
  have g3:=wJ hi.abs
  have hs:=jL " " (tS i) hw
  have step:b_law_written_1.ex cf [] [o0,some (.d (.str (Str.join " " ws))),some (.d (.int i)),o3]=.ok (.next,[o0,some (.d (.str (Str.join " " (ws++ [tS i])))),some (.d (.int i)),o3]):=by
   rw[hs]
   generalize Str.join " " ws=J at *
   generalize tS i=T at *
   simp![b_law_written_1,g1,g2,g3]
  have htg:tgF (.nm 2 2) (PyData.int i) [o0,some (.d (.str (Str.join " " ws))),o2,o3]=some [o0,some (.d (.str (Str.join " " ws))),some (.d (.int i)),o3]:=rfl
  rw[xm,qV,htg]
  simp only[step]
  rw[ud]at e
  exact e
theorem Wp(cf:CF){o0 o2:Option OV}:∀ (ns:List Str) (ws:List Str) (o3:Option OV),ws≠ []->(∀ x∈ns,Nm x)->(∀ y∈ws,y.length<=2000)->ws.length+ns.length<=100 ->
  ∃ o3',qV (.nm 3 3) (b_law_written_2.ex cf []) (ns.map .str) [o0,some (.d (.str (Str.join " " ws))),o2,o3]=.ok (.next,[o0,some (.d (.str (Str.join " " (ws++ns)))),o2,o3'])
 |[],ws,o3,_,_,_,_=>⟨o3,by simp[qV]⟩
 |n::ns,ws,o3,hw,hc,hy,hl=>by
  have hi:=hc n (by simp)
  rw[xk]at hl
  obtain⟨o3',e⟩:=Wp cf ns (ws++ [n]) (some (.d (.str n))) (by simp) (fun x hx=>hc x (by simp[hx])) (fun y hy'=>by
   rcases xE.mp hy' with h | h
   ·exact hy y h
   ·have:y=n:=by simpa using h
    subst this;exact hi.len) (by simp;omega)
  refine⟨o3',?_⟩
  have hjl:=jP " " ws
  have hsl:=Wj hy
  have h1:(" " :Str).length=1:=by decide
  have hll:2000*ws.length<=2000*100:=ut _ (by omega)
  rw[h1,Nat.one_mul]at hjl
  have g1:qv (.str (Str.join " " ws)) (.str " ")=some (.str (Str.join " " ws++ " ")):=jc (by rw[h1];omega)
  have g2:qv (.str (Str.join " " ws++ " ")) (.str n)=some (.str (Str.join " " ws++ " " ++n)):=jc (by rw[qt,h1];have:=hi.len;omega)
  have hs:=jL " " n hw
  have step:b_law_written_2.ex cf [] [o0,some (.d (.str (Str.join " " ws))),o2,some (.d (.str n))]=.ok (.next,[o0,some (.d (.str (Str.join " " (ws++ [n])))),o2,some (.d (.str n))]):=by
   rw[hs]
   generalize Str.join " " ws=J at *
   simp![b_law_written_2,g1,g2]
  have htg:tgF (.nm 3 3) (PyData.str n) [o0,some (.d (.str (Str.join " " ws))),o2,o3]=some [o0,some (.d (.str (Str.join " " ws))),o2,some (.d (.str n))]:=rfl
  rw[xm,qV,htg]
  simp only[step]
  rw[ud]at e
  exact e
theorem Yz(cf:CF)(hf:WQ cf){d:Deed}(h:d.Ok):runI 4 [false] [] ju cf [.d d.D]=.ok (.d (.str d.row)) [none]:=by
 have a0:∀ {x:PyData} {r:List PyData},atI (x::r) 0=some x:=fun {x r}=>zX (j:=0) rfl
 have a1:∀ {x y:PyData} {r:List PyData},atI (x::y::r) 1=some y:=fun {x y r}=>zX (j:=1) rfl
 have a2:∀ {x y z:PyData} {r:List PyData},atI (x::y::z::r) 2=some z:=fun {x y z r}=>zX (j:=2) rfl
 have a3:∀ {x y z u:PyData} {r:List PyData},atI (x::y::z::u::r) 3=some u:=fun {x y z u r}=>zX (j:=3) rfl
 have f1':∀ s:String,s.toList.length<=100->Qv (.str (Str.ofString s))=some (Str.ofString s):=fun s hs=>jK (by
  rw[Str.ofString_eq_toList];show (List.toArray _).size<=_;simp;omega)
 have p1:=f1' "hang " (by decide)
 have p2:=f1' "twin " (by decide)
 have p3:=f1' "wish " (by decide)
 have p4:=f1' "brew " (by decide)
 have p5:=f1' " " (by decide)
 have l1:Str.ofString "hang " =Str.ofString "hang" ++Str.ofString " " :=by decide +kernel
 have l2:Str.ofString "twin " =Str.ofString "twin" ++Str.ofString " " :=by decide +kernel
 have l3:Str.ofString "wish " =Str.ofString "wish" ++Str.ofString " " :=by decide +kernel
 have l4:Str.ofString "brew " =Str.ofString "brew" ++Str.ofString " " :=by decide +kernel
 have l5:Str.ofString "fold " =Str.ofString "fold" ++Str.ofString " " :=by decide +kernel
 have l6:Str.ofString "wax " =Str.ofString "wax" ++Str.ofString " " :=by decide +kernel
 have l7:Str.ofString "dip " =Str.ofString "dip" ++Str.ofString " " :=by decide +kernel
 unfold ju
 cases d with
 |hang n k=>
  have g1:=jK h.1.len
  have g2:=wH h.2.abs
  have hr:(Deed.hang n k).row=Str.ofString "hang " ++(n++(Str.ofString " " ++(tS k++Str.empty))):=by
   rw[jh,l1]
   show "hang" ++ " " ++(n++ " " ++tS k)=_
   simp only[qC]
  rw[hr]
  clear l1 l2 l3 l4 l5 l6 l7 hr
  generalize b_law_written_1=B1 at *
  generalize b_law_written_2=B2 at *
  simp only[Deed.D]
  simp![a0,a1,a2,g1,g2,p1,p5,J1,IJ.ev,Z2,JL,J7,wq,zl]
 |fold n=>
  have h':Nm n:=h
  have z1:=h'.len
  have z2:(Str.ofString "fold ").length=5:=by decide
  have g1:qv (.str (Str.ofString "fold ")) (.str n)=some (.str (Str.ofString "fold " ++n)):=jc (by omega)
  have hr:(Deed.fold n).row=Str.ofString "fold " ++n:=by rw[l5];rfl
  rw[hr]
  clear l1 l2 l3 l4 l5 l6 l7 hr
  generalize b_law_written_1=B1 at *
  generalize b_law_written_2=B2 at *
  simp only[Deed.D]
  simp![a0,a1,a2,g1,wq,zl]
 |twin n m=>
  have g1:=jK h.1.len
  have g2:=jK h.2.len
  have hr:(Deed.twin n m).row=Str.ofString "twin " ++(n++(Str.ofString " " ++(m++Str.empty))):=by
   rw[jh,l2]
   show "twin" ++ " " ++(n++ " " ++m)=_
   simp only[qC]
  rw[hr]
  clear l1 l2 l3 l4 l5 l6 l7 hr
  generalize b_law_written_1=B1 at *
  generalize b_law_written_2=B2 at *
  simp only[Deed.D]
  simp![a0,a1,a2,g1,g2,p2,p5,J1,IJ.ev,Z2,JL,J7,wq,zl]
 |wish n k sh=>
  have g1:=jK h.1.len
  have g2:=wH h.2.1.abs
  have g3:=jK (n:=shS sh) (by have:=zdH h.2.2.1 h.2.2.2;omega)
  have e1:=hf sh h.2.2.1 h.2.2.2
  have hr:(Deed.wish n k sh).row=Str.ofString "wish " ++(n++(Str.ofString " " ++(tS k++(Str.ofString " " ++(shS sh++Str.empty))))):=by
   rw[jh,l3]
   show "wish" ++ " " ++(n++ " " ++(tS k++ " " ++shS sh))=_
   simp only[qC]
  rw[hr]
  clear l1 l2 l3 l4 l5 l6 l7 hr
  generalize b_law_written_1=B1 at *
  generalize b_law_written_2=B2 at *
  simp only[Deed.D]
  generalize shS sh=SH at *
  generalize Zb sh=SD at *
  simp![a0,a1,a2,a3,e1,g1,g2,g3,p3,p5,J1,IJ.ev,Z2,JL,J7,wq,zl,za]
 |brew k=>
  have h':Nb k:=h
  have g2:=wH h'.abs
  have hr:(Deed.brew k).row=Str.ofString "brew " ++(tS k++Str.empty):=by
   rw[jh,l4];rfl
  rw[hr]
  clear l1 l2 l3 l4 l5 l6 l7 hr
  generalize b_law_written_1=B1 at *
  generalize b_law_written_2=B2 at *
  simp only[Deed.D]
  simp![a0,a1,a2,g2,p4,p5,J1,IJ.ev,Z2,JL,J7,wq,zl]
 |wax n cs=>
  obtain⟨h1,h2,h3⟩:=h
  have z1:=h1.len
  have z2:(Str.ofString "wax ").length=4:=by decide
  have g1:qv (.str (Str.ofString "wax ")) (.str n)=some (.str (Str.ofString "wax " ++n)):=jc (by omega)
  obtain⟨o2,e⟩:=yI cf (o0:=some (.d (Deed.wax n cs).D)) (o3:=none) cs ["wax",n] none (by simp) h3 (by simp only[xq];exact⟨by decide,h1.len,by simp⟩) (by simp;omega)
  have hr0:Str.join " " ["wax",n]=Str.ofString "wax " ++n:=by rw[l6];rfl
  have hr:Str.join " " (([Str.ofString "wax",n]:List Str)++cs.map tS)=(Deed.wax n cs).row:=rfl
  rw[hr0,hr]at e
  clear l1 l2 l3 l4 l5 l6 l7 hr hr0
  generalize b_law_written_1=B1 at *
  generalize b_law_written_2=B2 at *
  generalize Deed.row _=RW at *
  simp only[Deed.D,Zb]at *
  generalize cs.map PyData.int=NN at *
  simp![a0,a1,a2,g1,e,wq,zl]
 |dip ns k=>
  obtain⟨h1,h2,h3⟩:=h
  have z1:=h3.len
  have z2:(Str.ofString "dip ").length=4:=by decide
  have g1:qv (.str (Str.ofString "dip ")) (.str (tS k))=some (.str (Str.ofString "dip " ++tS k)):=jc (by omega)
  have g2:=wJ h3.abs
  obtain⟨o3,e⟩:=Wp cf (o0:=some (.d (Deed.dip ns k).D)) (o2:=none) ns ["dip",tS k] none (by simp) h2 (by simp only[xq];exact⟨by decide,h3.len,by simp⟩) (by simp;omega)
  have hr0:Str.join " " ["dip",tS k]=Str.ofString "dip " ++tS k:=by rw[l7];rfl
  have hr:Str.join " " (([Str.ofString "dip",tS k]:List Str)++ns)=(Deed.dip ns k).row:=rfl
  rw[hr0,hr]at e
  clear l1 l2 l3 l4 l5 l6 l7 hr hr0
  generalize b_law_written_1=B1 at *
  generalize b_law_written_2=B2 at *
  generalize Deed.row _=RW at *
  simp only[Deed.D,Z5]at *
  generalize ns.map PyData.str=NN at *
  simp![a0,a1,a2,g1,g2,e,wq,zl]
 |boil ns=>
  obtain⟨h1,h2⟩:=h
  obtain⟨o3,e⟩:=Wp cf (o0:=some (.d (Deed.boil ns).D)) (o2:=none) ns ["boil"] none (by simp) h2 (by simp only[xq];exact⟨by decide,by simp⟩) (by simp;omega)
  have hr0:Str.join " " ["boil"]=Str.ofString "boil" :=rfl
  have hr:Str.join " " (([Str.ofString "boil"]:List Str)++ns)=(Deed.boil ns).row:=rfl
  rw[hr0,hr]at e
  clear l1 l2 l3 l4 l5 l6 l7 hr hr0
  generalize b_law_written_1=B1 at *
  generalize b_law_written_2=B2 at *
  generalize Deed.row _=RW at *
  simp only[Deed.D,Z5]at *
  generalize ns.map PyData.str=NN at *
  simp![a0,a1,a2,e,wq,zl]
noncomputable def WT (cf:CF):Prop:=∀ d:Deed,d.Ok->cf "_law_written" [.d d.D]=.ok (.d (.str d.row)) [none]
noncomputable def jm:IE:=(.sin (.var 0 1) (.gstr "LETTERS" "abcdefghijklmnopqrstuvwxyz"))
noncomputable def JO:IB:=(.cons (.ret (.dat (.and (.chain .LtE .LtE (.cint 1) (.slen (.var 0 0)) (.gint "MOST_LETTERS" (8))) (.all (.new (.comp 1 1 [] ["sign"] (.nm 0 1) (.chars (.var 0 0)) .yes jm)))))) .nil)
noncomputable def qm:IB:=(.cons (.ite (.not (.call (.call "is_plain" 1 (.cons (.var 0 0) .nil)))) (.cons (.ret (.dat .cnone)) .nil) .nil) (.cons (.ret (.dat (.sint (.var 0 0)))) .nil))
noncomputable def qA:IB:=(.cons (.ite (.not (.chain .LtE .LtE (.cint 1) (.slen (.var 0 0)) (.gint "MOST_FIGURES" (6)))) (.cons (.ret (.dat (.cbool false))) .nil) .nil) (.cons (.ite (.cmp .Eq (.six (.var 0 0) (.cint 0)) (.cstr "0")) (.cons (.ret (.dat (.cmp .Eq (.var 0 0) (.cstr "0")))) .nil) .nil) (.cons (.ret (.call "are_figures" 1 (.cons (.var 0 0) .nil))) .nil)))
noncomputable def zy:IE:=(.sint (.var 0 1))
noncomputable def zB:IB:=(.cons (.ite (.cmp .Eq (.var 0 0) (.gstr "NO_SHADES" "-")) (.cons (.ret (.dat (.tup .nil))) .nil) .nil) (.cons (.ite (.or (.not (.chain .LtE .LtE (.cint 1) (.slen (.var 0 0)) (.gint "MOST_POTS" (12)))) (.not (.call (.call "are_figures" 1 (.cons (.var 0 0) .nil))))) (.cons (.ret (.dat .cnone)) .nil) .nil) (.cons (.ret (.dat (.tuple (.new (.comp 1 1 [] ["sign"] (.nm 0 1) (.chars (.var 0 0)) .yes zy))))) .nil)))
noncomputable def qd:IE:=(.sin (.var 0 1) (.gstr "FIGURES" "0123456789"))
noncomputable def jw:IB:=(.cons (.ret (.dat (.all (.new (.comp 1 1 [] ["sign"] (.nm 0 1) (.chars (.var 0 0)) .yes qd))))) .nil)
noncomputable def p_book_read_1:IE:=(.call (.call "read" 1 (.cons (.var 0 1) .nil)))
noncomputable def qL:IB:=(.cons (.ite (.cmp .Eq (.var 0 0) (.cstr "")) (.cons (.ret (.own (.lst .nil))) .nil) .nil) (.cons (.ite (.not (.ends (.var 0 0) (.cstr "\n"))) (.cons (.raise "NoDeed") .nil) .nil) (.cons (.ret (.own (.comp 1 1 [] ["row"] (.nm 0 1) (.list (.new (.split (.cutS (.var 0 0) .non (.one (.neg (.cint 1)))) (.cstr "\n")))) .yes p_book_read_1))) .nil)))
noncomputable def qM:IB:=(.cons (.expr (.call (.call "check_many" 2 (.cons (.var 0 0) (.cons (.cint 2) .nil))))) (.cons (.ret (.dat (.tup (.cons (.cstr "hang") (.cons (.call (.call "read_name" 1 (.cons (.ix (.var 0 0) (.cint 0)) .nil))) (.cons (.call (.call "read_number" 1 (.cons (.ix (.var 0 0) (.cint 1)) .nil))) .nil)))))) .nil))
noncomputable def jo:IB:=(.cons (.expr (.call (.call "check_many" 2 (.cons (.var 0 0) (.cons (.cint 1) .nil))))) (.cons (.ret (.dat (.tup (.cons (.cstr "fold") (.cons (.call (.call "read_name" 1 (.cons (.ix (.var 0 0) (.cint 0)) .nil))) .nil))))) .nil))
noncomputable def qN:IB:=(.cons (.expr (.call (.call "check_many" 2 (.cons (.var 0 0) (.cons (.cint 2) .nil))))) (.cons (.ret (.dat (.tup (.cons (.cstr "twin") (.cons (.call (.call "read_name" 1 (.cons (.ix (.var 0 0) (.cint 0)) .nil))) (.cons (.call (.call "read_name" 1 (.cons (.ix (.var 0 0) (.cint 1)) .nil))) .nil)))))) .nil))
noncomputable def qg:IB:=(.cons (.expr (.call (.call "check_many" 2 (.cons (.var 0 0) (.cons (.cint 3) .nil))))) (.cons (.ret (.dat (.tup (.cons (.cstr "wish") (.cons (.call (.call "read_name" 1 (.cons (.ix (.var 0 0) (.cint 0)) .nil))) (.cons (.call (.call "read_number" 1 (.cons (.ix (.var 0 0) (.cint 1)) .nil))) (.cons (.call (.call "read_shades" 1 (.cons (.ix (.var 0 0) (.cint 2)) .nil))) .nil))))))) .nil))
noncomputable def p_read_wax_1:IE:=(.call (.call "read_number" 1 (.cons (.var 0 1) .nil)))
noncomputable def j9:IB:=(.cons (.expr (.call (.call "check_some" 1 (.cons (.var 0 0) .nil)))) (.cons (.ret (.dat (.tup (.cons (.cstr "wax") (.cons (.call (.call "read_name" 1 (.cons (.ix (.var 0 0) (.cint 0)) .nil))) (.cons (.tuple (.new (.comp 1 1 [] ["word"] (.nm 0 1) (.list (.new (.cut (.var 0 0) (.one (.cint 1)) .non))) .yes p_read_wax_1))) .nil)))))) .nil))
noncomputable def j8:IE:=(.call (.call "read_name" 1 (.cons (.var 0 2) .nil)))
noncomputable def j7:IB:=(.cons (.expr (.call (.call "check_some" 1 (.cons (.var 0 0) .nil)))) (.cons (.asg 1 1 (.dat (.call (.call "read_number" 1 (.cons (.ix (.var 0 0) (.cint 0)) .nil))))) (.cons (.ret (.dat (.tup (.cons (.cstr "dip") (.cons (.tuple (.new (.comp 2 1 [] ["word"] (.nm 0 2) (.list (.new (.cut (.var 0 0) (.one (.cint 1)) .non))) .yes j8))) (.cons (.var 1 1) .nil)))))) .nil)))
noncomputable def jx:IE:=(.call (.call "read_name" 1 (.cons (.var 0 1) .nil)))
noncomputable def Zm:IB:=(.cons (.ret (.dat (.tup (.cons (.cstr "boil") (.cons (.tuple (.new (.comp 1 1 [] ["word"] (.nm 0 1) (.list (.var 0 0)) .yes jx))) .nil))))) .nil)
noncomputable def jn:IB:=(.cons (.expr (.call (.call "check_many" 2 (.cons (.var 0 0) (.cons (.cint 1) .nil))))) (.cons (.ret (.dat (.tup (.cons (.cstr "brew") (.cons (.call (.call "read_number" 1 (.cons (.ix (.var 0 0) (.cint 0)) .nil))) .nil))))) .nil))
noncomputable def Vj:IB:=(.cons (.star 1 1 2 2 (.new (.split (.var 0 0) (.cstr " ")))) (.cons (.ite (.gnin "READERS" [("hang","read_hang"),("fold","read_fold"),("twin","read_twin"),("wish","read_wish"),("wax","read_wax"),("dip","read_dip"),("boil","read_boil"),("brew","read_brew")] (.var 1 1)) (.cons (.raise "NoDeed") .nil) .nil) (.disp 3 3 "READERS" [("hang","read_hang"),("fold","read_fold"),("twin","read_twin"),("wish","read_wish"),("wax","read_wax"),("dip","read_dip"),("boil","read_boil"),("brew","read_brew")] 1 (.var 1 1) (.cons (.var 2 2) .nil))))
noncomputable def qY:IB:=(.cons (.ite (.cmp .NotEq (.len (.var 0 0)) (.var 1 1)) (.cons (.raise "NoDeed") .nil) .nil) .nil)
noncomputable def j6:IB:=(.cons (.ite (.not (.var 0 0)) (.cons (.raise "NoDeed") .nil) .nil) .nil)
noncomputable def Zn:IB:=(.cons (.ite (.not (.call (.call "is_name" 1 (.cons (.var 0 0) .nil)))) (.cons (.raise "NoDeed") .nil) .nil) (.cons (.ret (.dat (.var 0 0))) .nil))
noncomputable def jy:IB:=(.cons (.asg 1 1 (.dat (.call (.call "plain_number" 1 (.cons (.var 0 0) .nil))))) (.cons (.ite (.cmp .Is (.var 1 1) .cnone) (.cons (.raise "NoDeed") .nil) .nil) (.cons (.ret (.dat (.var 1 1))) .nil)))
noncomputable def jz:IB:=(.cons (.asg 1 1 (.dat (.call (.call "plain_shades" 1 (.cons (.var 0 0) .nil))))) (.cons (.ite (.cmp .Is (.var 1 1) .cnone) (.cons (.raise "NoDeed") .nil) .nil) (.cons (.ret (.dat (.var 1 1))) .nil)))
noncomputable def b_law_same_deed_1:IE:=(.isi "bool" (.var 0 4))
noncomputable def b_law_same_deed_2:IB:=(.cons (.ite (.isi "bool" (.var 2 2)) (.cons (.ret (.dat (.cbool false))) .nil) .nil) (.cons (.ite (.or (.cmp .NotEq (.isi "str" (.var 3 3)) (.isi "str" (.var 2 2))) (.cmp .NotEq (.isi "tuple" (.var 3 3)) (.isi "tuple" (.var 2 2)))) (.cons (.ret (.dat (.cbool false))) .nil) .nil) (.cons (.ite (.and (.isi "tuple" (.var 3 3)) (.any (.new (.comp 4 1 [] ["_law_thing"] (.nm 0 4) (.tup (.var 2 2)) .yes b_law_same_deed_1)))) (.cons (.ret (.dat (.cbool false))) .nil) .nil) .nil)))
noncomputable def qT:IB:=(.cons (.ite (.or (.not (.isi "tuple" (.var 0 0))) (.cmp .NotEq (.len (.var 0 0)) (.len (.var 1 1)))) (.cons (.ret (.dat (.cbool false))) .nil) .nil) (.cons (.loop (.tp (.cons (.nm 2 2) (.cons (.nm 3 3) .nil))) (.zip true (.var 0 0) (.var 1 1)) b_law_same_deed_2) (.cons (.ret (.dat (.cmp .Eq (.var 0 0) (.var 1 1)))) .nil)))
noncomputable def b_law_same_deeds_1:IE:=(.call (.call "_law_same_deed" 2 (.cons (.var 0 2) (.cons (.var 1 3) .nil))))
noncomputable def zT:IB:=(.cons (.ite (.or (.not (.isi "list" (.var 0 0))) (.cmp .NotEq (.len (.var 0 0)) (.len (.var 1 1)))) (.cons (.ret (.dat (.cbool false))) .nil) .nil) (.cons (.ret (.dat (.all (.new (.comp 2 2 [] ["_law_one","_law_other"] (.tp (.cons (.nm 0 2) (.cons (.nm 1 3) .nil))) (.zip false (.var 0 0) (.var 1 1)) .yes b_law_same_deeds_1))))) .nil))
noncomputable abbrev ch(c:Nat):Str:=⟨#[c]⟩
theorem zag{α:Type}(xs:List α):(zz (xs.map fun _=>PyData.bool true)).map (fun bs=>PyData.bool (bs.all id))=some (.bool true):=by
 have:zz (xs.map fun _=>PyData.bool true)=some (xs.map fun _=>true):=by
  induction xs with
  |nil=>rfl
  |cons a r ih=>simp[zz,ih]
 rw[this]
 simp
theorem ja{x:Str}(h:∀ c∈x.cps.toList,c<=127):x.cps.all (·<128)=true:=by
 rw[uz]
 intro i hi
 have:=h x.cps[i] (by simp)
 simp only[decide_eq_true_eq];omega
open PySem.Builtin PySem.Builtin.Str
theorem jA(a y:Str):(a++y).cps.toList=a.cps.toList++y.cps.toList:=PySem.W.KT.app_list a y
theorem qZ{a b:Str}(h:a.cps.toList=b.cps.toList):a=b:=by
 cases a;cases b
 rw[Str.mk.injEq]
 exact Array.toList_inj.mp h
theorem kg{c:Nat}:∀ {x y A B:List Nat},c∉x->c∉y->x++c::A=y++c::B->x=y/\A=B
 |[],[],A,B,_,_,e=>by simpa using e
 |[],b::y,A,B,_,h2,e=>by
  rw[xZ,uf,List.cons.injEq]at e
  exact absurd (by rw[e.1];exact xp) h2
 |a::x,[],A,B,h1,_,e=>by
  rw[xZ,uf,List.cons.injEq]at e
  exact absurd (by rw[<- e.1];exact xp) h1
 |a::x,b::y,A,B,h1,h2,e=>by
  rw[uf,uf,List.cons.injEq]at e
  obtain⟨e1,e2⟩:=kg (fun z=>h1 (xj _ z)) (fun z=>h2 (xj _ z)) e.2
  exact⟨by rw[e.1,e1],e2⟩
theorem Zk(c:Nat)(x y:Str)(r:List Str):(Str.join (ch c) (x::y::r)).cps.toList=x.cps.toList++c::(Str.join (ch c) (y::r)).cps.toList:=by
 have e:Str.join (ch c) (x::y::r)=x++ch c++Str.join (ch c) (y::r):=rfl
 rw[e,jA,jA]
 simp
theorem V0{c:Nat}:∀ {l l':List Str},l≠ []->l'≠ []->(∀ p∈l,c∉p.cps.toList)->(∀ p∈l',c∉p.cps.toList)->Str.join (ch c) l=Str.join (ch c) l'->l=l'
 |[],_,h,_,_,_,_=>absurd rfl h
 |_,[],_,h,_,_,_=>absurd rfl h
 |[x],[y],_,_,_,_,e=>by
  have e:x=y:=e
  rw[e]
 |[x],y::z::r,_,_,h1,_,e=>by
  have e':=congrArg (fun s:Str=>s.cps.toList) e
  rw[Zk]at e'
  have e'':x.cps.toList=y.cps.toList++c::(Str.join (ch c) (z::r)).cps.toList:=e'
  exact absurd (by rw[e''];simp) (h1 x (by simp))
 |x::w::r,[y],_,_,_,h2,e=>by
  have e':=congrArg (fun s:Str=>s.cps.toList) e
  rw[Zk]at e'
  have e'':x.cps.toList++c::(Str.join (ch c) (w::r)).cps.toList=y.cps.toList:=e'
  exact absurd (by rw[<- e''];simp) (h2 y (by simp))
 |x::w::r,y::z::t,_,_,h1,h2,e=>by
  have e':=congrArg (fun s:Str=>s.cps.toList) e
  rw[Zk,Zk]at e'
  obtain⟨e1,e2⟩:=kg (h1 x (by simp)) (h2 y (by simp)) e'
  rw[qZ e1,V0 (l:=w::r) (l':=z::t) (by simp) (by simp) (fun p hp=>h1 p (xj _ hp)) (fun p hp=>h2 p (xj _ hp)) (qZ e2)]
theorem zbI{c:Nat}{ws:List Str}(h:ws≠ [])(hf:∀ p∈ws,c∉p.cps.toList):Txt.split (Str.join (ch c) ws) (ch c)=ws:=by
 refine V0 (c:=c) ?_ h (StrLaws.split_free _ c) hf (StrLaws.join_split _ _)
 intro e
 have:=PyProof.Rows.split_pos (Str.join (ch c) ws) (ch c)
 rw[e]at this
 exact absurd this (by decide)
theorem zcF(y:Str)(c:Nat):Txt.endswith (y++ch c) (ch c)=true:=PySem.W.KT.ends_app y (ch c)
theorem ze6(y:Str)(c:Nat):Txt.slice (y++ch c) none (some (-1))=y:=by
 have hl:(y++ch c).length=y.length+1:=qt y (ch c)
 rw[PyProof.Rows.slice_to_neg (by decide)]
 have e:max 0 (((y++ch c).length:Int)+ -1)=(y.length:Int):=by rw[hl];omega
 rw[e]
 have:=beq_iff_eq.mp (PyProof.Rows.slice_closes_toL (x:=y++ch c) (j:=(y.length:Int)) (by omega) (by rw[hl];omega))
 rw[this]
 apply qZ
 rw[jA]
 simp[Str.length]
theorem zhI{m:Nat}:(tS (m:Int)).cps.toList=(Nat.toDigits 10 m).map Char.toNat:=PySem.W.KIN.signs_num m
theorem zap{m:Nat}:∀ c∈(Nat.toDigits 10 m).map Char.toNat,48<=c/\c<=57:=by
 intro c hc
 obtain⟨k,hk,rfl⟩:=xI.mp hc
 exact PyProof.Rows.digit_range (Nat.isDigit_of_mem_toDigits (by decide) (by decide) hk)
theorem zgX(m:Nat):Nat.toDigits 10 m≠ []:=by
 by_cases h:m<10
 ·rw[Nat.toDigits_of_lt_base h];simp
 ·have hm:m % 10<10:=Nat.mod_lt m (by decide)
  have t:Nat.toDigits 10 (m / 10)++Nat.toDigits 10 (m % 10)=Nat.toDigits 10 (10*(m / 10)+m % 10):=Nat.toDigits_append_toDigits (by decide) (by omega) hm
  rw[Nat.div_add_mod]at t
  rw[<- t,Nat.toDigits_of_lt_base hm];simp
theorem zaR{i:Int}(h:Nb i):∃ m:Nat,i=m/\m<1000000:=⟨i.toNat,by have:=h.1;omega,by have:=h.1;have:=h.2;omega⟩
theorem zbQ{i:Int}(h:Nb i):1<=(tS i).length/\(tS i).length<=6:=by
 refine⟨?_,PyProof.Rows.toString_length_le h.1 (k:=6) (by decide) h.2⟩
 obtain⟨m,rfl,hm⟩:=zaR h
 have:=zhI (m:=m)
 have hl:(tS (m:Int)).cps.toList.length=(tS (m:Int)).length:=xS
 rw[this,xt]at hl
 have hne:=zgX m
 have:0<(Nat.toDigits 10 m).length:=List.length_pos_iff.mpr hne
 omega
theorem zgx{i:Int}(h:Nb i):∀ c∈(tS i).cps.toList,48<=c/\c<=57:=by
 obtain⟨m,rfl,hm⟩:=zaR h
 rw[zhI];exact zap
theorem zgz{i:Int}(h0:0<=i)(h9:i<=9):∃ c:Nat,tS i=ch c/\48<=c/\c<=57:=by
 have:∀ k:Fin 10,(tS ((k:Nat):Int)).cps.toList= [48+(k:Nat)]:=by decide +kernel
 have e:=this ⟨i.toNat,by omega⟩
 have ei:((i.toNat:Nat):Int)=i:=by omega
 rw[ei]at e
 exact⟨48+i.toNat,qZ (by rw[e]),by omega,by omega⟩
theorem zbB{sh:List Int}(h:∀ x∈sh,0<=x/\x<=9)(hne:sh≠ []):∃ cs:List Nat,shS sh=⟨cs.toArray⟩/\cs.length=sh.length/\(∀ c∈cs,48<=c/\c<=57)/\cs.map (fun c=>ch c)=sh.map tS:=by
 have key:∀ sh:List Int,(∀ x∈sh,0<=x/\x<=9)->∃ cs:List Nat,cs.length=sh.length/\(∀ c∈cs,48<=c/\c<=57)/\cs.map (fun c=>ch c)=sh.map tS:=by
  intro sh
  induction sh with
  |nil=>exact fun _=>⟨[],rfl,(fun _ z=>nomatch z),rfl⟩
  |cons a r ih=>
   intro h
   obtain⟨cs,h1,h2,h3⟩:=ih fun x hx=>h x (xj _ hx)
   obtain⟨c,e,hc⟩:=zgz (h a (by simp)).1 (h a (by simp)).2
   refine⟨c::cs,by simp[h1],fun x hx=>?_,by rw[xm,xm,h3,e]⟩
   rcases xu.mp hx with rfl | hx
   ·exact hc
   ·exact h2 x hx
 obtain⟨cs,h1,h2,h3⟩:=key sh h
 refine⟨cs,?_,h1,h2,h3⟩
 unfold shS
 have:sh.isEmpty=false:=by cases sh with
  |nil=>exact absurd rfl hne
  |cons _ _=>rfl
 rw[this]
 simp only[xw,if_false]
 rw[<- h3]
 exact PyProof.Rows.join_ones cs
theorem km:(Str.ofString " ")=ch 32:=by decide +kernel
theorem YW:(Str.ofString "\n")=ch 10:=by decide +kernel
theorem Wg{x:Str}(h:∀ c∈x.cps.toList,c<=127):PyData.strOk x=true:=by
 unfold PyData.strOk
 rw[uz]
 intro i hi
 have:=h x.cps[i] (by simp)
 simp only[decide_eq_true_eq];omega
theorem qi{α:Type}{k:Nat}{t:IT}{elt:EM FV}(g f:α->PyData){xs:List α}{Γ:Gv}
  (hs:∀ a∈xs,∃ Γ2 u Γ4,tgF t (g a) (Γ++List.replicate k none)=some Γ2/\elt Γ2=.ok (u,Γ4)/\derS Γ4 u=some (f a)/\Γ4.take Γ.length=Γ) :
  zF k t fYes elt (xs.map g) [] Γ=.ok (xs.map f,Γ):=by
 obtain⟨ys,Γ',e,hy,rfl⟩:=jI (k:=k) (t:=t) (cond:=fYes) (elt:=elt) (fun pre ys Γ'=>ys=(xs.take pre.length).map f/\Γ'=Γ) (ds:=xs.map g) (Γ:=Γ) ⟨rfl,rfl⟩ (by
  rintro pre d post e ys Γ' ⟨rfl,rfl⟩
  have hlen:pre.length<xs.length:=by
   have:=congrArg List.length e
   simp at this;omega
  have hd:d=g xs[pre.length]:=by
   have h1:(xs.map g)[pre.length]?=some d:=by rw[e];simp
   rw[xA,xD hlen]at h1
   exact (Option.some.inj h1).symm
  obtain⟨Γ2,u,Γ4,e1,e2,e3,e4⟩:=hs xs[pre.length] (uo hlen)
  rw[<- hd]at e1
  refine⟨Γ2,true,Γ2,e1,rfl,fun _=>⟨u,Γ4,f xs[pre.length],e2,e3,?_,e4⟩,fun z=>nomatch z⟩
  rw[xF,List.length_singleton,List.take_add_one,List.map_append,xD hlen]
  rfl)
 rw[e]
 rw[hy]
 simp
theorem yX{α:Type}(x:α)(r:List α):Ws (x::r) (some 1) none=r:=by
 unfold Ws
 have h1:HT.sIx (x::r).length 0 (some 1)=1:=by simp[HT.sIx]
 have h2:HT.sIx (x::r).length (x::r).length none=(x::r).length:=by simp[HT.sIx]
 rw[h1,h2]
 simp
section
variable (cf:CF)
theorem a0{x:PyData}{r:List PyData}:atI (x::r) 0=some x:=zX (j:=0) rfl
theorem a1{x y:PyData}{r:List PyData}:atI (x::y::r) 1=some y:=zX (j:=1) rfl
theorem a2{x y z:PyData}{r:List PyData}:atI (x::y::z::r) 2=some z:=zX (j:=2) rfl
end
noncomputable def KF:List (Str×Str):= [("hang","read_hang"),("fold","read_fold"),("twin","read_twin"),("wish","read_wish"),("wax","read_wax"),("dip","read_dip"),("boil","read_boil"),("brew","read_brew")]
theorem Yy{d:Deed}(h:d.Ok):(∀ y∈d.words,y.length<=12)/\d.words.length<=10:=by
 have nm:∀ {n:Str},Nm n->n.length<=12:=fun {n} h=>by have:=h.2.1;omega
 have nb:∀ {i:Int},Nb i->(tS i).length<=12:=fun {i} h=>by have:=(zbQ h).2;omega
 have sl:∀ {sh:List Int},sh.length<=12->(∀ x∈sh,0<=x/\x<=9)->(shS sh).length<=12:=fun {sh} hl h=>by
  by_cases hne:sh= []
  ·subst hne;decide +kernel
  ·obtain⟨cs,e,hcl,_,_⟩:=zbB h hne
   rw[e]
   show cs.toArray.size<=12
   simp;omega
 cases d with
 |hang n k=>exact⟨by simp only[Deed.words,xq];exact⟨by decide,nm h.1,nb h.2,by simp⟩,by simp[Deed.words]⟩
 |fold n=>exact⟨by simp only[Deed.words,xq];exact⟨by decide,nm h,by simp⟩,by simp[Deed.words]⟩
 |twin n m=>exact⟨by simp only[Deed.words,xq];exact⟨by decide,nm h.1,nm h.2,by simp⟩,by simp[Deed.words]⟩
 |wish n k sh=>exact⟨by simp only[Deed.words,xq];exact⟨by decide,nm h.1,nb h.2.1,sl h.2.2.1 h.2.2.2,by simp⟩,by simp[Deed.words]⟩
 |wax n cs=>
  obtain⟨h1,h2,h3⟩:=h
  exact⟨by simp only[Deed.words,xq];exact⟨by decide,nm h1,fun y hy=>by obtain⟨i,hi,rfl⟩:=xI.mp hy;exact nb (h3 i hi)⟩,by simp[Deed.words];omega⟩
 |dip ns k=>
  obtain⟨h1,h2,h3⟩:=h
  exact⟨by simp only[Deed.words,xq];exact⟨by decide,nb h3,fun y hy=>nm (h2 y hy)⟩,by simp[Deed.words];omega⟩
 |boil ns=>
  obtain⟨h1,h2⟩:=h
  exact⟨by simp only[Deed.words,xq];exact⟨by decide,fun y hy=>nm (h2 y hy)⟩,by simp[Deed.words];omega⟩
 |brew k=>exact⟨by simp only[Deed.words,xq];exact⟨by decide,nb h,by simp⟩,by simp[Deed.words]⟩
theorem zdn{d:Deed}(h:d.Ok):d.row.length<=130:=by
 obtain⟨h1,h2⟩:=Yy h
 have h3:=jP " " d.words
 have h4:=Wj h1
 have h5:(Str.ofString " ").length=1:=by decide
 have h6:12*d.words.length<=12*10:=ut _ h2
 unfold Deed.row
 rw[h5,Nat.one_mul]at h3
 omega
noncomputable def zeG:PyData->Prop
 |.str _=>True
 |.int _=>True
 |_=>False
noncomputable def yN:PyData->Prop
 |.str _=>True
 |.int _=>True
 |.tuple ys=>(∀ y∈ys,zeG y)/\ys.length<=500000
 |_=>False
theorem zcV{y:PyData}(h:zeG y):(∃ z,y=.str z)∨∃ i,y=.int i:=by
 cases y with
 |str z=>exact .inl ⟨z,rfl⟩
 |int i=>exact .inr ⟨i,rfl⟩
 |_=>exact h.elim
theorem zaf{α:Type}(xs:List α):(zz (xs.map fun _=>PyData.bool false)).map (fun bs=>PyData.bool (bs.any id))=some (.bool false):=by
 have:zz (xs.map fun _=>PyData.bool false)=some (xs.map fun _=>false):=by
  induction xs with
  |nil=>rfl
  |cons a r ih=>simp[zz,ih]
 rw[this]
 simp
theorem zeL(cf:CF){ys:List PyData}(h:∀ y∈ys,zeG y)(o0 o1 o2 o3:Option OV):zF 1 (.nm 0 4) fYes (b_law_same_deed_1.ev cf).1 ys [] [o0,o1,o2,o3]=.ok (ys.map fun _=>.bool false,[o0,o1,o2,o3]):=by
 have e:=qi (k:=1) (t:=.nm 0 4) (elt:=(b_law_same_deed_1.ev cf).1) (fun y:PyData=>y) (fun _=>PyData.bool false) (xs:=ys) (Γ:= [o0,o1,o2,o3]) fun y hy=>by
  have e:=zcV (h y hy)
  refine⟨[o0,o1,o2,o3,some (.d y)],.dat (.bool false),[o0,o1,o2,o3,some (.d y)],rfl,?_,rfl,rfl⟩
  unfold b_law_same_deed_1
  rcases e with ⟨z,rfl⟩ | ⟨i,rfl⟩<;>simp![za]
 rw[List.map_id']at e
 exact e
theorem yJ{α:Type}(f:α->PyData)(xs:List α):WP (xs.map f) (xs.map f)=xs.map fun a=>.tuple [f a,f a]:=by
 induction xs with
 |nil=>rfl
 |cons a r ih=>
  unfold WP at *
  rw[xm,List.zip_cons_cons,xm,ih];rfl
theorem Vp(cf:CF){xs:List PyData}(hp:∀ x∈xs,yN x)(hy:lay 20 (.tuple xs)=true)(hz:xs.length<=1000):runI 4 [false,false] [] qT cf [.d (.tuple xs),.d (.tuple xs)]=.ok (.d (.bool true)) [none,none]:=by
 obtain⟨Γ',e,⟨o2,o3,rfl⟩⟩:=V4 (t:=.tp (.cons (.nm 2 2) (.cons (.nm 3 3) .nil))) (body:=b_law_same_deed_2.ex cf []) (ds:=xs.map fun x=>PyData.tuple [x,x]) (Γ:= [some (.d (.tuple xs)),some (.d (.tuple xs)),none,none])
  (fun _ Γ=>∃ o2 o3,Γ= [some (.d (.tuple xs)),some (.d (.tuple xs)),o2,o3]) ⟨none,none,rfl⟩ (by
   rintro pre d post ed Γ ⟨o2,o3,rfl⟩
   have hd:d∈xs.map fun x=>PyData.tuple [x,x]:=by rw[ed];simp
   obtain⟨x,hx,rfl⟩:=xI.mp hd
   have hpx:=hp x hx
   refine⟨[some (.d (.tuple xs)),some (.d (.tuple xs)),some (.d x),some (.d x)],[some (.d (.tuple xs)),some (.d (.tuple xs)),some (.d x),some (.d x)],rfl,?_,_,_,rfl⟩
   generalize (OV.d (.tuple xs))=T0 at *
   unfold b_law_same_deed_2
   cases x with
   |str z=>
    generalize b_law_same_deed_1=B at *
    simp![je,za,PyData.eqv]
   |int z=>
    generalize b_law_same_deed_1=B at *
    simp![je,za,PyData.eqv]
   |tuple ys=>
    have e:=zeL cf hpx.1 (some T0) (some T0) (some (.d (.tuple ys))) (some (.d (.tuple ys)))
    have eb:=zaf ys
    have hz:ys.length<=1000000:=by have:=hpx.2;omega
    generalize b_law_same_deed_1=B at *
    generalize (ys.map fun _=>PyData.bool false)=FF at *
    simp![je,za,PyData.eqv,e,eb,hz]
   |none=>exact hpx.elim
   |bool _=>exact hpx.elim
   |list _=>exact hpx.elim
   |dict _=>exact hpx.elim)
 have hq:=zcG hy
 have hzd:WP xs xs=xs.map fun x=>PyData.tuple [x,x]:=by
  have:=yJ (fun x:PyData=>x) xs
  rw[List.map_id']at this;exact this
 unfold qT
 generalize b_law_same_deed_2=B2 at *
 generalize (xs.map fun x=>PyData.tuple [x,x])=ZZ at *
 generalize hT:PyData.tuple xs=T at *
 have hty:tyD T= "tuple" :=by rw[<- hT];rfl
 have hln:lenD T=some xs.length:=by rw[<- hT];rfl
 subst hT
 simp![zcJ,hzd,e,hy,hq,zk,zt,za]
theorem Ve{n:Nat}{x:Str}(h:PyData.strOk x=true):lay n (.str x)=true:=by cases n<;>exact h
noncomputable def Z8:IB:=(.cons (.asg 1 1 (.dat (.cstr " !\"#$&'()*+,-./0123456789:;<=>?@ABCDEFGHIJKLMNOPQRSTUVWXYZ[\\]^_`abcdefghijklmnopqrstuvwxyz{|}~\n"))) (.cons (.ite (.cmp .Eq (.call (.call "_law_take" 2 (.io 0 0 (.cons (.cint 2) .nil)))) (.cint 0)) (.cons (.ret (.dat (.six (.var 1 1) (.call (.call "_law_take" 2 (.io 0 0 (.cons (.slen (.var 1 1)) .nil))))))) .nil) .nil) (.cons (.ret (.dat (.six (.cstr " 0123456789-*.abz\n") (.call (.call "_law_take" 2 (.io 0 0 (.cons (.cint 18) .nil))))))) .nil)))
noncomputable def zY:IE:=(.sin (.var 0 1) (.call (.call "_law_letters" 0 .nil)))
noncomputable def js:IB:=(.cons (.ret (.dat (.and (.chain .Lt .Lt (.cint 0) (.slen (.var 0 0)) (.cint 9)) (.all (.new (.comp 1 1 [] ["_law_sign_here"] (.nm 0 1) (.chars (.var 0 0)) .yes zY)))))) .nil)
noncomputable def zK:IE:=(.sin (.var 0 1) (.cstr "0123456789"))
noncomputable def qS:IB:=(.cons (.ite (.or (.cmp .Eq (.slen (.var 0 0)) (.cint 0)) (.or (.cmp .Gt (.slen (.var 0 0)) (.cint 6)) (.not (.all (.new (.comp 1 1 [] ["_law_sign_here"] (.nm 0 1) (.chars (.var 0 0)) .yes zK)))))) (.cons (.ret (.dat (.cbool false))) .nil) .nil) (.cons (.ret (.dat (.or (.cmp .Eq (.slen (.var 0 0)) (.cint 1)) (.cmp .NotEq (.six (.var 0 0) (.cint 0)) (.cstr "0"))))) .nil))
noncomputable def zI:IE:=(.sin (.var 0 1) (.cstr "0123456789"))
noncomputable def qy:IB:=(.cons (.ret (.dat (.or (.cmp .Eq (.var 0 0) (.cstr "-")) (.and (.chain .Lt .Lt (.cint 0) (.slen (.var 0 0)) (.cint 13)) (.all (.new (.comp 1 1 [] ["_law_sign_here"] (.nm 0 1) (.chars (.var 0 0)) .yes zI))))))) .nil)
noncomputable def zZ:IE:=(.sint (.var 0 1))
noncomputable def qE:IB:=(.cons (.ite (.cmp .Eq (.var 0 0) (.cstr "-")) (.cons (.ret (.dat (.tup .nil))) .nil) .nil) (.cons (.ret (.dat (.tuple (.new (.comp 1 1 [] ["_law_sign_here"] (.nm 0 1) (.chars (.var 0 0)) .yes zZ))))) .nil))
noncomputable def b_law_meant_1:IE:=(.call (.call "_law_is_name" 1 (.cons (.var 0 4) .nil)))
noncomputable def b_law_meant_2:IE:=(.call (.call "_law_is_name" 1 (.cons (.var 0 4) .nil)))
noncomputable def b_law_meant_3:IE:=(.call (.call "_law_is_number" 1 (.cons (.var 0 4) .nil)))
noncomputable def b_law_meant_4:IE:=(.sint (.var 0 4))
noncomputable def zO:IB:=(.cons (.asg 1 1 (.dat (.new (.split (.var 0 0) (.cstr " "))))) (.cons (.asg 2 2 (.dat (.new (.cut (.var 1 1) (.one (.cint 1)) .non)))) (.cons (.asg 3 3 (.dat (.all (.new (.comp 4 1 [] ["_law_word"] (.nm 0 4) (.list (.var 2 2)) .yes b_law_meant_1))))) (.cons (.ite (.and (.cmp .Eq (.ix (.var 1 1) (.cint 0)) (.cstr "boil")) (.var 3 3)) (.cons (.ret (.dat (.tup (.cons (.cstr "boil") (.cons (.tuple (.var 2 2)) .nil))))) .nil) .nil) (.cons (.ite (.and (.cmp .Eq (.ix (.var 1 1) (.cint 0)) (.cstr "fold")) (.and (.var 3 3) (.cmp .Eq (.len (.var 2 2)) (.cint 1)))) (.cons (.ret (.dat (.tup (.cons (.cstr "fold") (.cons (.ix (.var 2 2) (.cint 0)) .nil))))) .nil) .nil) (.cons (.ite (.and (.cmp .Eq (.ix (.var 1 1) (.cint 0)) (.cstr "twin")) (.and (.var 3 3) (.cmp .Eq (.len (.var 2 2)) (.cint 2)))) (.cons (.ret (.dat (.tup (.cons (.cstr "twin") (.cons (.ix (.var 2 2) (.cint 0)) (.cons (.ix (.var 2 2) (.cint 1)) .nil)))))) .nil) .nil) (.cons (.ite (.cmp .Eq (.len (.var 2 2)) (.cint 0)) (.cons (.ret (.dat .cnone)) .nil) .nil) (.cons (.ite (.and (.cmp .Eq (.ix (.var 1 1) (.cint 0)) (.cstr "brew")) (.and (.cmp .Eq (.len (.var 2 2)) (.cint 1)) (.call (.call "_law_is_number" 1 (.cons (.ix (.var 2 2) (.cint 0)) .nil))))) (.cons (.ret (.dat (.tup (.cons (.cstr "brew") (.cons (.sint (.ix (.var 2 2) (.cint 0))) .nil))))) .nil) .nil) (.cons (.ite (.and (.cmp .Eq (.ix (.var 1 1) (.cint 0)) (.cstr "dip")) (.and (.call (.call "_law_is_number" 1 (.cons (.ix (.var 2 2) (.cint 0)) .nil))) (.all (.new (.comp 4 1 [] ["_law_word"] (.nm 0 4) (.list (.new (.cut (.var 2 2) (.one (.cint 1)) .non))) .yes b_law_meant_2))))) (.cons (.ret (.dat (.tup (.cons (.cstr "dip") (.cons (.tuple (.new (.cut (.var 2 2) (.one (.cint 1)) .non))) (.cons (.sint (.ix (.var 2 2) (.cint 0))) .nil)))))) .nil) .nil) (.cons (.ite (.not (.call (.call "_law_is_name" 1 (.cons (.ix (.var 2 2) (.cint 0)) .nil)))) (.cons (.ret (.dat .cnone)) .nil) .nil) (.cons (.ite (.and (.cmp .Eq (.ix (.var 1 1) (.cint 0)) (.cstr "wax")) (.all (.new (.comp 4 1 [] ["_law_word"] (.nm 0 4) (.list (.new (.cut (.var 2 2) (.one (.cint 1)) .non))) .yes b_law_meant_3)))) (.cons (.ret (.dat (.tup (.cons (.cstr "wax") (.cons (.ix (.var 2 2) (.cint 0)) (.cons (.tuple (.new (.comp 4 1 [] ["_law_word"] (.nm 0 4) (.list (.new (.cut (.var 2 2) (.one (.cint 1)) .non))) .yes b_law_meant_4))) .nil)))))) .nil) .nil) (.cons (.ite (.or (.cmp .Lt (.len (.var 2 2)) (.cint 2)) (.not (.call (.call "_law_is_number" 1 (.cons (.ix (.var 2 2) (.cint 1)) .nil))))) (.cons (.ret (.dat .cnone)) .nil) .nil) (.cons (.ite (.and (.cmp .Eq (.ix (.var 1 1) (.cint 0)) (.cstr "hang")) (.cmp .Eq (.len (.var 2 2)) (.cint 2))) (.cons (.ret (.dat (.tup (.cons (.cstr "hang") (.cons (.ix (.var 2 2) (.cint 0)) (.cons (.sint (.ix (.var 2 2) (.cint 1))) .nil)))))) .nil) .nil) (.cons (.ite (.and (.cmp .Eq (.ix (.var 1 1) (.cint 0)) (.cstr "wish")) (.and (.cmp .Eq (.len (.var 2 2)) (.cint 3)) (.call (.call "_law_is_figures" 1 (.cons (.ix (.var 2 2) (.cint 2)) .nil))))) (.cons (.ret (.dat (.tup (.cons (.cstr "wish") (.cons (.ix (.var 2 2) (.cint 0)) (.cons (.sint (.ix (.var 2 2) (.cint 1))) (.cons (.call (.call "_law_picture" 1 (.cons (.ix (.var 2 2) (.cint 2)) .nil))) .nil))))))) .nil) .nil) (.cons (.ret (.dat .cnone)) .nil)))))))))))))))
noncomputable def b_law_spoilt_1:IB:=(.cons (.asg 3 3 (.dat (.call (.call "_law_take" 2 (.io 0 0 (.cons (.bin .Add (.slen (.var 1 1)) (.cint 1)) .nil)))))) (.cons (.asg 4 4 (.dat (.call (.call "_law_take" 2 (.io 0 0 (.cons (.cint 4) .nil)))))) (.cons (.ite (.cmp .Eq (.var 4 4) (.cint 0)) (.cons (.asg 1 1 (.dat (.sadd (.sadd (.cutS (.var 1 1) .non (.one (.var 3 3))) (.call (.call "_law_sign" 1 (.io 0 0 .nil)))) (.cutS (.var 1 1) (.one (.var 3 3)) .non)))) .nil) (.cons (.ite (.cmp .Eq (.var 4 4) (.cint 1)) (.cons (.asg 1 1 (.dat (.sadd (.cutS (.var 1 1) .non (.one (.var 3 3))) (.cutS (.var 1 1) (.one (.bin .Add (.var 3 3) (.cint 1))) .non)))) .nil) (.cons (.ite (.cmp .Eq (.var 4 4) (.cint 2)) (.cons (.asg 1 1 (.dat (.sadd (.sadd (.cutS (.var 1 1) .non (.one (.var 3 3))) (.call (.call "_law_sign" 1 (.io 0 0 .nil)))) (.cutS (.var 1 1) (.one (.bin .Add (.var 3 3) (.cint 1))) .non)))) .nil) (.cons (.asg 1 1 (.dat (.sadd (.cutS (.var 1 1) .non (.one (.var 3 3))) (.cutS (.var 1 1) (.one (.max (.cint 0) (.bin .Sub (.var 3 3) (.cint 2)))) .non)))) .nil)) .nil)) .nil)) .nil)))
noncomputable def jV:IB:=(.cons (.loop (.nm 2 2) (.range (.bin .Add (.cint 1) (.call (.call "_law_take" 2 (.io 0 0 (.cons (.cint 2) .nil)))))) b_law_spoilt_1) (.cons (.ret (.dat (.var 1 1))) .nil))
noncomputable def jt:IB:=(.cons (.asg 1 1 (.dat (.new (.lst (.cons (.cstr "") (.cons (.cstr "boil") (.cons (.cstr "boil ") (.cons (.cstr " boil") (.cons (.cstr "dip") (.cons (.cstr "dip 0") (.cons (.cstr "dip 0 ") (.cons (.cstr "dip 00") (.cons (.cstr "dip -1") (.cons (.cstr "wax") (.cons (.cstr "wax a") (.cons (.cstr "wax a 01") (.cons (.cstr "hang a") (.cons (.cstr "hang a 1000000") (.cons (.cstr "hang abcdefghi 1") (.cons (.cstr "hang a 0") (.cons (.cstr "wish a 0 -") (.cons (.cstr "wish a 0 0-") (.cons (.cstr "wish a 0 0123456789012") (.cons (.cstr "wish a 0 012345678901") (.cons (.cstr "wish a 0") (.cons (.cstr "fold") (.cons (.cstr "fold a b") (.cons (.cstr "twin a") (.cons (.cstr "twin a a") (.cons (.cstr "twin a b c") (.cons (.cstr "brew") (.cons (.cstr "brew 0 0") (.cons (.cstr "brew +1") (.cons (.cstr "BOIL") (.cons (.cstr "boil A") (.cons (.cstr "boil a  b") (.cons (.cstr "brew 1 ") (.cons (.cstr "wax a 1 b") (.cons (.cstr "dip a") (.cons (.cstr "boil a1") (.cons (.cstr "brew 999999") .nil))))))))))))))))))))))))))))))))))))))))) (.cons (.ret (.dat (.ix (.var 1 1) (.call (.call "_law_take" 2 (.io 0 0 (.cons (.len (.var 1 1)) .nil))))))) .nil))
noncomputable def Tx(x:Str):Prop:=(∀ c∈x.cps.toList,c<=127)/\x.length<=450000
noncomputable def isL(c:Nat):Bool:=decide (97<=c)&&decide (c<=122)
noncomputable def isF(c:Nat):Bool:=decide (48<=c)&&decide (c<=57)
theorem zaG (c:Nat) (h:c<=127):Txt.contains (Str.ofString "abcdefghijklmnopqrstuvwxyz") (ch c)=isL c:=by
 have:∀ k:Fin 128,Txt.contains (Str.ofString "abcdefghijklmnopqrstuvwxyz") (ch k)=isL k:=by decide +kernel
 exact this ⟨c,by omega⟩
theorem y3 (c:Nat) (h:c<=127):Txt.contains (Str.ofString "0123456789") (ch c)=isF c:=by
 have:∀ k:Fin 128,Txt.contains (Str.ofString "0123456789") (ch k)=isF k:=by decide +kernel
 exact this ⟨c,by omega⟩
theorem wA(cf:CF){body:IE}{p:Nat->Bool}{x:Str}{D:OV}(h:∀ c∈x.cps.toList,(body.ev cf).1 [some D,some (.d (.str (ch c)))]=.ok (.dat (.bool (p c)),[some D,some (.d (.str (ch c)))])) :
  zF 1 (.nm 0 1) fYes (body.ev cf).1 (qH x) [] [some D]=.ok ((x.cps.toList.map p).map .bool,[some D]):=by
 have:=qi (k:=1) (t:=.nm 0 1) (elt:=(body.ev cf).1) (fun c=>PyData.str (ch c)) (fun c=>PyData.bool (p c)) (xs:=x.cps.toList) (Γ:= [some D]) fun c hc=>⟨[some D,some (.d (.str (ch c)))],.dat (.bool (p c)),_,rfl,h c hc,rfl,rfl⟩
 rw[xX];exact this
theorem qD{x:Str}(h:Tx x):(qH x).length<=1000000:=by
 have e:(qH x).length=x.length:=by unfold qH;simp[Str.length]
 have:=h.2;omega
noncomputable def nmB(x:Str):Bool:=decide (1<=x.length)&&decide (x.length<=8)&&(x.cps.toList.map isL).all id
noncomputable def Qe(x:Str):Bool:=(x.cps.toList.map isF).all id
noncomputable def nbB(x:Str):Bool:=decide (1<=x.length)&&decide (x.length<=6)&&Qe x&&(decide (x.length=1)||x.cps.toList.head? !=some 48)
noncomputable def shB (x:Str):Bool:=decide (x=Str.ofString "-")||(decide (1<=x.length)&&decide (x.length<=12)&&Qe x)
noncomputable def zN(x:Str):PyData:=.int ((NumText.digitsVal x.cps.toList:Nat):Int)
noncomputable def shD (x:Str):List PyData:=if x=Str.ofString "-" then [] else x.cps.toList.map fun c=>.int ((NumText.digitsVal [c]:Nat):Int)
theorem zaz(cf:CF){x:Str}(h:Tx x):runI 1 [false] [] JO cf [.d (.str x)]=.ok (.d (.bool (nmB x))) [none]:=by
 have ha:=ja (x:=x) h.1
 have e:=wA cf (body:=jm) (p:=isL) (x:=x) (D:=.d (.str x)) fun c hc=>by
  have:=zaG c (h.1 c hc)
  unfold jm
  generalize ch c=cc at *
  simp![Vb,this]
 have hcl:=qD h
 have hz:x.length<=1000000:=by have:=h.2;omega
 unfold JO nmB
 generalize jm=B at *
 generalize (x.cps.toList.map isL)=bs at *
 by_cases h1:1<=x.length
 ·have i1:(1:Int)<=(x.length:Int):=by omega
  by_cases h2:x.length<=8
  ·have i2:(x.length:Int)<=8:=by omega
   simp![zC,zQ,ha,hz,hcl,i1,i2,h1,h2,e,zj]
  ·have i2:¬ (x.length:Int)<=8:=by omega
   simp![zC,zQ,ha,hz,hcl,i1,i2,h1,h2,e,zj]
 ·have i1:¬ (1:Int)<=(x.length:Int):=by omega
  simp![zC,zQ,ha,hz,hcl,i1,h1,e,zj]
noncomputable def wg(cf:CF)(f:Str):Prop:=∀ x,Tx x->cf f [.d (.str x)]=.ok (.d (.bool (nmB x))) [none]
theorem vP(cf:CF){x:Str}(h:Tx x):runI 1 [false] [] jw cf [.d (.str x)]=.ok (.d (.bool (Qe x))) [none]:=by
 have ha:=ja (x:=x) h.1
 have e:=wA cf (body:=qd) (p:=isF) (x:=x) (D:=.d (.str x)) fun c hc=>by
  have:=y3 c (h.1 c hc)
  unfold qd
  generalize ch c=cc at *
  simp![Vb,this]
 have hcl:=qD h
 unfold jw Qe
 generalize qd=B at *
 generalize (x.cps.toList.map isF)=bs at *
 simp![zQ,ha,hcl,e,zj]
noncomputable def yL (cf:CF):Prop:=∀ x,Tx x->cf "are_figures" [.d (.str x)]=.ok (.d (.bool (Qe x))) [none]
theorem Tx.ok{x:Str}(h:Tx x)(n:Nat):lay n (.str x)=true:=Ve (Wg h.1)
theorem Tx.len{x:Str}(h:Tx x):x.length<=1000000:=by have:=h.2;omega
theorem qF(x y:Str):PyData.eqv (.str x) (.str y)=decide (x=y):=rfl
theorem zcg:(Str.ofString "0").cps.toList= [48]:=by decide +kernel
theorem zfz{x:Str}{c:Nat}(h:x.cps.toList= [c]):x=ch c:=qZ (by rw[h])
theorem Kb(cf:CF)(hf:yL cf){x:Str}(h:Tx x):runI 1 [false] [] qA cf [.d (.str x)]=.ok (.d (.bool (nbB x))) [none]:=by
 have e:=hf x h
 have hz:=h.len
 have hl:=h.ok 20
 have l0:lay 20 (.str (Str.ofString "0"))=true:=zl "0" 20
 have hcl:x.cps.toList.length=x.length:=xS
 unfold nbB
 by_cases h1:1<=x.length
 ·have i1:(1:Int)<=(x.length:Int):=by omega
  by_cases h2:x.length<=6
  ·have i2:(x.length:Int)<=6:=by omega
   obtain⟨c,r,hc⟩:∃ c r,x.cps.toList=c::r:=by
    cases q:x.cps.toList with
    |nil=>rw[q]at hcl;simp at hcl;omega
    |cons a r=>exact⟨a,r,rfl⟩
   have hat:atI x.cps.toList 0=some c:=by rw[hc];exact zX (j:=0) rfl
   have lc:lay 20 (.str (ch c))=true:=Ve (Wg fun d hd=>by
    have:d=c:=by simpa using hd
    rw[this];exact h.1 c (by rw[hc];simp))
   have q1:PyData.eqv (.str (ch c)) (.str (Str.ofString "0"))=decide (c=48):=by
    rw[qF]
    congr 1
    apply propext
    constructor
    ·intro z
     have:=congrArg (fun s:Str=>s.cps.toList) z
     rw[zcg]at this
     simpa using this
    ·rintro rfl;decide +kernel
   have q2:c=48->PyData.eqv (.str x) (.str (Str.ofString "0"))=(Qe x&&decide (x.length=1)):=fun hc0=>by
    rw[qF,ui]
    simp only[decide_eq_true_eq,xa]
    constructor
    ·rintro rfl;decide +kernel
    ·rintro⟨_,z⟩
     rw[<- hcl,hc]at z
     have hr:r= []:=by simpa using z
     subst hr
     rw[zfz hc,hc0];decide +kernel
   have hh:x.cps.toList.head?=some c:=by rw[hc];rfl
   by_cases hc0:c=48
   ·have q2':=q2 hc0
    have q1':PyData.eqv (.str (ch c)) (.str (Str.ofString "0"))=true:=by rw[q1];simp[hc0]
    have hh2:(x.cps.toList.head? !=some 48)=false:=by rw[hh,hc0];rfl
    simp![qA,zC,v8,hz,i1,i2,h1,h2,hat,hl,lc,l0,q1',q2',hh2]
   ·have q1':PyData.eqv (.str (ch c)) (.str (Str.ofString "0"))=false:=by rw[q1];simp[hc0]
    have hh2:(x.cps.toList.head? !=some 48)=true:=by rw[hh];simp[hc0]
    simp![qA,zC,v8,hz,i1,i2,h1,h2,hat,hl,lc,l0,q1',hh2,e]
  ·have i2:¬ (x.length:Int)<=6:=by omega
   simp![qA,zC,hz,i1,i2,h1,h2]
 ·have i1:¬ (1:Int)<=(x.length:Int):=by omega
  simp![qA,zC,hz,i1,h1]
noncomputable def VA (cf:CF):Prop:=∀ x,Tx x->cf "is_plain" [.d (.str x)]=.ok (.d (.bool (nbB x))) [none]
theorem VT{x:Str}(h:Qe x=true):NumText.AllDigits x.cps.toList:=fun c hc=>by
 unfold Qe at h
 rw[xB]at h
 have:=h (isF c) (List.mem_map_of_mem hc)
 unfold isF at this
 simp at this
 exact this
theorem zcK{x:Str}(h:Qe x=true)(h1:1<=x.length)(h2:x.length<=640):Qw (.str x)=some (zN x):=by
 have hne:x.cps.toList≠ []:=fun z=>by
  have hcl:x.cps.toList.length=x.length:=xS
  rw[z]at hcl;simp at hcl;omega
 have e:=PySem.intText_digits (VT h) hne (by omega)
 simp[Qw,zN,h2,e]
theorem Kk{x:Str}(h:nbB x=true):Qe x=true/\1<=x.length/\x.length<=6:=by
 unfold nbB at h
 simp only[xa,decide_eq_true_eq]at h
 exact⟨h.1.2,h.1.1.1,h.1.1.2⟩
theorem Vg{x:Str}(h:nbB x=true):Qw (.str x)=some (zN x):=by
 obtain⟨a,b,c⟩:=Kk h
 exact zcK a b (by omega)
theorem WI(cf:CF)(hp:VA cf){x:Str}(h:Tx x):runI 1 [false] [] qm cf [.d (.str x)]=.ok (.d (if nbB x then zN x else .none)) [none]:=by
 have e:=hp x h
 cases hb:nbB x with
 |true=>
  have hi:=Vg hb
  rw[hb]at e
  simp![qm,hi,e,za]
 |false=>
  rw[hb]at e
  simp![qm,e,za]
noncomputable def JX (cf:CF):Prop:=∀ x,Tx x->cf "plain_number" [.d (.str x)]=.ok (.d (if nbB x then zN x else .none)) [none]
noncomputable def nod:Exc:=⟨"NoDeed",.none⟩
theorem Yi (cf:CF) (hn:wg cf "is_name"){x:Str}(h:Tx x):runI 1 [false] [] Zn cf [.d (.str x)]=if nmB x then .ok (.d (.str x)) [none] else .exc nod [none]:=by
 have e:=hn x h
 cases hb:nmB x<;>rw[hb]at e<;>simp![Zn,e,nod,Za,za]
noncomputable def JY (cf:CF):Prop:=∀ x,Tx x->cf "read_name" [.d (.str x)]=if nmB x then .ok (.d (.str x)) [none] else .exc nod [none]
theorem Vm(cf:CF)(hn:JX cf){x:Str}(h:Tx x):runI 2 [false] [] jy cf [.d (.str x)]=if nbB x then .ok (.d (zN x)) [none] else .exc nod [none]:=by
 have e:=hn x h
 cases hb:nbB x<;>rw[hb]at e<;>simp![jy,e,nod,Za,isN,zN,za]
noncomputable def wz (cf:CF):Prop:=∀ x,Tx x->cf "read_number" [.d (.str x)]=if nbB x then .ok (.d (zN x)) [none] else .exc nod [none]
theorem zex(cf:CF){body:IE}(hb:body=.sint (.var 0 1)){x:Str}{D:OV}(h:Qe x=true):zF 1 (.nm 0 1) fYes (body.ev cf).1 (qH x) [] [some D]=.ok (x.cps.toList.map fun c=>PyData.int ((NumText.digitsVal [c]:Nat):Int),[some D]) :=
 qi (fun c=>PyData.str (ch c)) _ fun c hc=>by
  have hd:=VT h c hc
  have hi:Qw (.str (ch c))=some (.int ((NumText.digitsVal [c]:Nat):Int)):=by
   have e:=PySem.intText_digits (x:=ch c) (fun d hd'=>(show d=c by simpa using hd') ▸ hd) (by simp) (by simp[Str.length])
   have e1:(ch c).cps.toList= [c]:=rfl
   rw[e1]at e
   have e2:(ch c).length<=640:=by simp[Str.length]
   generalize ch c=cc at *
   simp[Qw,e,e2]
  refine⟨[some D,some (.d (.str (ch c)))],.dat (.int ((NumText.digitsVal [c]:Nat):Int)),[some D,some (.d (.str (ch c)))],rfl,?_,rfl,rfl⟩
  subst hb
  generalize ch c=cc at *
  simp![hi]
theorem WJ(cf:CF)(hf:yL cf){x:Str}(h:Tx x):runI 1 [false] [] zB cf [.d (.str x)]=.ok (.d (if shB x then .tuple (shD x) else .none)) [none]:=by
 have e:=hf x h
 have lm:lay 20 (.str (Str.ofString "-"))=true:=zl "-" 20
 have hl:=h.ok 20
 have hz:=h.len
 have ha:=ja (x:=x) h.1
 have hcl:=qD h
 have q:=qF x (Str.ofString "-")
 unfold shB shD
 by_cases h0:x=Str.ofString "-"
 ·rw[decide_eq_true h0]at q
  simp only[if_pos h0,decide_eq_true h0,Bool.true_or,if_true]
  unfold zB
  generalize zy=B at *
  simp![q,hl,lm]
 ·simp only[h0,decide_false,Bool.false_or,if_false]at q |-
  by_cases h1:1<=x.length
  ·have i1:(1:Int)<=(x.length:Int):=by omega
   by_cases h2:x.length<=12
   ·have i2:(x.length:Int)<=12:=by omega
    cases hb:Qe x with
    |true=>
     rw[hb]at e
     have lp:=zex cf (body:=zy) rfl (D:=.d (.str x)) hb
     have hz2:(x.cps.toList.map fun c=>PyData.int ((NumText.digitsVal [c]:Nat):Int)).length<=1000000:=by simpa [Str.length] using hz
     unfold zB
     generalize zy=B at *
     generalize (x.cps.toList.map fun c=>PyData.int ((NumText.digitsVal [c]:Nat):Int))=NN at *
     have hq:∀ Γ,jN Γ (.dat (.list NN))=some NN:=fun _=>rfl
     simp![q,hl,lm,zC,zQ,ha,hcl,hz,i1,i2,h1,h2,e,lp,hz2,hq,za]
    |false=>
     rw[hb]at e
     unfold zB
     generalize zy=B at *
     simp![q,hl,lm,zC,hz,i1,i2,h1,h2,e,za]
   ·have i2:¬ (x.length:Int)<=12:=by omega
    unfold zB
    generalize zy=B at *
    simp![q,hl,lm,zC,hz,i1,i2,h1,h2,za]
  ·have i1:¬ (1:Int)<=(x.length:Int):=by omega
   unfold zB
   generalize zy=B at *
   simp![q,hl,lm,zC,hz,i1,h1,za]
noncomputable def wy (cf:CF):Prop:=∀ x,Tx x->cf "plain_shades" [.d (.str x)]=.ok (.d (if shB x then .tuple (shD x) else .none)) [none]
theorem zcN(xs:List PyData):isN (.tuple xs)=false:=rfl
theorem Vn(cf:CF)(hn:wy cf){x:Str}(h:Tx x):runI 2 [false] [] jz cf [.d (.str x)]=if shB x then .ok (.d (.tuple (shD x))) [none] else .exc nod [none]:=by
 have e:=hn x h
 cases hb:shB x<;>rw[hb]at e<;>simp![jz,e,nod,Za,isN,zcN,za]
noncomputable def WS (cf:CF):Prop:=∀ x,Tx x->cf "read_shades" [.d (.str x)]=if shB x then .ok (.d (.tuple (shD x))) [none] else .exc nod [none]
theorem zaF (cf:CF):runI 0 [] [] zV cf []=.ok (.d (.str (Str.ofString "abcdefghijklmnopqrstuvwxyz"))) []:=by
 simp![zV]
noncomputable def K6 (cf:CF):Prop:=cf "_law_letters" []=.ok (.d (.str (Str.ofString "abcdefghijklmnopqrstuvwxyz"))) []
theorem zaH(cf:CF)(hl:K6 cf){x:Str}(h:Tx x):runI 1 [false] [] js cf [.d (.str x)]=.ok (.d (.bool (nmB x))) [none]:=by
 have ha:=ja (x:=x) h.1
 have e:=wA cf (body:=zY) (p:=isL) (x:=x) (D:=.d (.str x)) fun c hc=>by
  have:=zaG c (h.1 c hc)
  unfold K6 at hl
  unfold zY
  generalize Str.ofString "abcdefghijklmnopqrstuvwxyz" =LT at *
  generalize ch c=cc at *
  simp![Vb,this,hl,za]
 have hcl:=qD h
 have hz:=h.len
 unfold js nmB
 generalize zY=B at *
 generalize (x.cps.toList.map isL)=bs at *
 by_cases h1:1<=x.length
 ·have i1:(0:Int)<(x.length:Int):=by omega
  have n1:0<x.length:=by omega
  by_cases h2:x.length<=8
  ·have i2:(x.length:Int)<9:=by omega
   have n2:x.length<9:=by omega
   simp![zC,zQ,ha,hz,hcl,i1,i2,n1,n2,h1,h2,e,zj]
  ·have i2:¬ (x.length:Int)<9:=by omega
   have n2:¬ x.length<9:=by omega
   simp![zC,zQ,ha,hz,hcl,i1,i2,n1,n2,h1,h2,e,zj]
 ·have i1:¬ (0:Int)<(x.length:Int):=by omega
  have n1:¬ 0<x.length:=by omega
  simp![zC,zQ,ha,hz,hcl,i1,n1,h1,e,zj]
theorem y9(cf:CF){x:Str}(h:Tx x):runI 1 [false] [] qS cf [.d (.str x)]=.ok (.d (.bool (nbB x))) [none]:=by
 have ha:=ja (x:=x) h.1
 have e:=wA cf (body:=zK) (p:=isF) (x:=x) (D:=.d (.str x)) fun c hc=>by
  have:=y3 c (h.1 c hc)
  unfold zK
  generalize Str.ofString "0123456789" =LT at *
  generalize ch c=cc at *
  simp![Vb,this,za]
 have hcl:=qD h
 have hz:=h.len
 have l0:lay 20 (.str (Str.ofString "0"))=true:=zl "0" 20
 have hc1:x.cps.toList.length=x.length:=xS
 have hat:1<=x.length->∃ c,atI x.cps.toList 0=some c/\lay 20 (.str (ch c))=true/\PyData.eqv (.str (ch c)) (.str (Str.ofString "0"))= !(x.cps.toList.head? !=some 48):=fun h1=>by
  obtain⟨c,r,hc⟩:∃ c r,x.cps.toList=c::r:=by
   cases q:x.cps.toList with
   |nil=>rw[q]at hc1;simp at hc1;omega
   |cons a r=>exact⟨a,r,rfl⟩
  refine⟨c,by rw[hc];exact zX (j:=0) rfl,Ve (Wg fun d hd=>(show d=c by simpa using hd) ▸ h.1 c (by rw[hc];simp)),?_⟩
  rw[qF,hc]
  simp only[List.head?_cons,bne,Bool.not_not]
  rw[ui]
  simp only[decide_eq_true_eq,beq_iff_eq,Option.some.injEq]
  constructor
  ·intro z
   have:=congrArg (fun s:Str=>s.cps.toList) z
   rw[zcg]at this
   simpa using this
  ·rintro rfl;decide +kernel
 unfold qS nbB Qe
 generalize zK=B at *
 generalize (x.cps.toList.map isF)=bs at *
 by_cases h1:1<=x.length
 ·have i1:¬ (x.length:Int)=0:=by omega
  have n1:¬ x.length=0:=by omega
  obtain⟨c,c1,c2,c3⟩:=hat h1
  have le:PyData.eqv (.int (x.length:Int)) (.int 0)=false:=by rw[zt];simpa using i1
  have le1:PyData.eqv (.int (x.length:Int)) (.int 1)=decide (x.length=1):=by
   rw[zt,ui]
   simp only[beq_iff_eq,decide_eq_true_eq]
   omega
  by_cases h2:x.length<=6
  ·have i2:¬ (6:Int)<(x.length:Int):=by omega
   have n2:¬ 6<x.length:=by omega
   generalize (x.cps.toList.head? !=some 48)=hd at *
   generalize decide (x.length=1)=one at *
   cases hb:bs.all id<;>cases one<;>simp![zC,zQ,v8,ha,hz,hcl,i2,n2,h1,h2,e,hb,zj,le,le1,c1,c2,c3,l0,zk]
  ·have i2:(6:Int)<(x.length:Int):=by omega
   have n2:6<x.length:=by omega
   simp![zC,zQ,ha,hz,hcl,i2,n2,h1,h2,e,zj,le,zk]
 ·have le:PyData.eqv (.int (x.length:Int)) (.int 0)=true:=by
   rw[zt]
   have:(x.length:Int)=0:=by omega
   simpa using this
  simp![zC,zQ,ha,hz,hcl,h1,e,zj,le,zk]
theorem V3(cf:CF){x:Str}(h:Tx x):runI 1 [false] [] qy cf [.d (.str x)]=.ok (.d (.bool (shB x))) [none]:=by
 have ha:=ja (x:=x) h.1
 have e:=wA cf (body:=zI) (p:=isF) (x:=x) (D:=.d (.str x)) fun c hc=>by
  have:=y3 c (h.1 c hc)
  unfold zI
  generalize Str.ofString "0123456789" =LT at *
  generalize ch c=cc at *
  simp![Vb,this,za]
 have hcl:=qD h
 have hz:=h.len
 have lm:lay 20 (.str (Str.ofString "-"))=true:=zl "-" 20
 have hl:=h.ok 20
 have q:=qF x (Str.ofString "-")
 unfold qy shB Qe
 generalize zI=B at *
 generalize (x.cps.toList.map isF)=bs at *
 by_cases h0:x=Str.ofString "-"
 ·rw[decide_eq_true h0]at q |-
  simp![q,hl,lm]
 ·rw[decide_eq_false h0]at q |-
  by_cases h1:1<=x.length
  ·have i1:(0:Int)<(x.length:Int):=by omega
   have n1:0<x.length:=by omega
   by_cases h2:x.length<=12
   ·have i2:(x.length:Int)<13:=by omega
    have n2:x.length<13:=by omega
    simp![zC,zQ,ha,hz,hcl,i1,i2,n1,n2,h1,h2,e,zj,q,hl,lm]
   ·have i2:¬ (x.length:Int)<13:=by omega
    have n2:¬ x.length<13:=by omega
    simp![zC,zQ,ha,hz,hcl,i1,i2,n1,n2,h1,h2,e,zj,q,hl,lm]
  ·have i1:¬ (0:Int)<(x.length:Int):=by omega
   have n1:¬ 0<x.length:=by omega
   simp![zC,zQ,ha,hz,hcl,i1,n1,h1,e,zj,q,hl,lm]
theorem zaK(cf:CF){x:Str}(h:Tx x)(hb:shB x=true):runI 1 [false] [] qE cf [.d (.str x)]=.ok (.d (.tuple (shD x))) [none]:=by
 have lm:lay 20 (.str (Str.ofString "-"))=true:=zl "-" 20
 have hl:=h.ok 20
 have hz:=h.len
 have ha:=ja (x:=x) h.1
 have hcl:=qD h
 have q:=qF x (Str.ofString "-")
 unfold shD
 by_cases h0:x=Str.ofString "-"
 ·rw[decide_eq_true h0]at q
  rw[if_pos h0]
  unfold qE
  generalize zZ=B at *
  simp![q,hl,lm]
 ·rw[decide_eq_false h0]at q
  rw[if_neg h0]
  have hf:Qe x=true:=by
   unfold shB at hb
   rw[decide_eq_false h0,Bool.false_or]at hb
   simp only[xa]at hb
   exact hb.2
  have lp:=zex cf (body:=zZ) rfl (D:=.d (.str x)) hf
  have hz2:(x.cps.toList.map fun c=>PyData.int ((NumText.digitsVal [c]:Nat):Int)).length<=1000000:=by simpa [Str.length] using hz
  unfold qE
  generalize zZ=B at *
  generalize (x.cps.toList.map fun c=>PyData.int ((NumText.digitsVal [c]:Nat):Int))=NN at *
  have hq:∀ Γ,jN Γ (.dat (.list NN))=some NN:=fun _=>rfl
  simp![q,hl,lm,zQ,ha,hcl,hz,lp,hz2,hq,za]
noncomputable def K7 (cf:CF):Prop:=∀ x,Tx x->cf "_law_is_number" [.d (.str x)]=.ok (.d (.bool (nbB x))) [none]
noncomputable def K4 (cf:CF):Prop:=∀ x,Tx x->cf "_law_is_figures" [.d (.str x)]=.ok (.d (.bool (shB x))) [none]
noncomputable def K5 (cf:CF):Prop:=∀ x,Tx x->shB x=true->cf "_law_picture" [.d (.str x)]=.ok (.d (.tuple (shD x))) [none]
theorem wB{α:Type}{k:Nat}{t:IT}{elt:EM FV}(g h:α->PyData)(p:α->Bool)(x:Exc){xs:List α}{Γ:Gv}
  (hs:∀ a∈xs,∃ Γ2,tgF t (g a) (Γ++List.replicate k none)=some Γ2/\(p a=true->∃ u Γ4,elt Γ2=.ok (u,Γ4)/\derS Γ4 u=some (h a)/\Γ4.take Γ.length=Γ)/\(p a=false->∃ Γ4,elt Γ2=.exc x Γ4/\Γ4.take Γ.length=Γ)) :
  zF k t fYes elt (xs.map g) [] Γ=if xs.all p then .ok (xs.map h,Γ) else .exc x Γ:=by
 suffices H:∀ ys,zF k t fYes elt (xs.map g) ys Γ=if xs.all p then .ok (ys++xs.map h,Γ) else .exc x Γ from by simpa using H []
 induction xs with
 |nil=>intro ys;simp[zF,qw]
 |cons a r ih=>
  intro ys
  obtain⟨Γ2,e1,h1,h2⟩:=hs a (.head _)
  unfold zF
  rw[xm,qw,e1]
  cases hp:p a with
  |true=>
   obtain⟨u,Γ4,e2,e3,e4⟩:=h1 hp
   have hit:itL elt Γ2=.ok (h a,Γ4):=by simp only[itL,e2,R.bind,e3]
   simp only[fYes,hit,e4]
   have:=ih (fun b hb=>hs b (.tail _ hb)) (ys++ [h a])
   unfold zF at this
   refine this.trans ?_
   simp[hp]
  |false=>
   obtain⟨Γ4,e2,e4⟩:=h2 hp
   have hit:itL elt Γ2=.exc x Γ4:=by simp only[itL,e2,R.bind]
   simp[fYes,hit,e4,hp]
noncomputable def out(o:Option (List PyData)):RF:=match o with
 |some xs=>.ok (.d (.tuple xs)) [none]
 |none=>.exc nod [none]
noncomputable def Zq:List Str->Option (List PyData)
 |[a,b]=>if nmB a&&nbB b then some [.str "hang",.str a,zN b] else none
 |_=>none
noncomputable def QU:List Str->Option (List PyData)
 |[a]=>if nmB a then some [.str "fold",.str a] else none
 |_=>none
noncomputable def Zr:List Str->Option (List PyData)
 |[a,b]=>if nmB a&&nmB b then some [.str "twin",.str a,.str b] else none
 |_=>none
noncomputable def jM:List Str->Option (List PyData)
 |[a,b,c]=>if nmB a&&nbB b&&shB c then some [.str "wish",.str a,zN b,.tuple (shD c)] else none
 |_=>none
noncomputable def ye:List Str->Option (List PyData)
 |[]=>none
 |a::cs=>if nmB a&&cs.all nbB then some [.str "wax",.str a,.tuple (cs.map zN)] else none
noncomputable def yd:List Str->Option (List PyData)
 |[]=>none
 |a::ns=>if nbB a&&ns.all nmB then some [.str "dip",.tuple (ns.map .str),zN a] else none
noncomputable def w9 (ns:List Str):Option (List PyData):=if ns.all nmB then some [.str "boil",.tuple (ns.map .str)] else none
noncomputable def QT:List Str->Option (List PyData)
 |[a]=>if nbB a then some [.str "brew",zN a] else none
 |_=>none
noncomputable def Ql (cf:CF):Prop:=∀ (xs:List PyData) (n:Nat),cf "check_many" [.d (.list xs),.d (.int n)]=if xs.length=n then .ok (.d .none) [none,none] else .exc nod [none,none]
theorem VI(cf:CF)(xs:List PyData)(n:Nat):runI 2 [false,false] [] qY cf [.d (.list xs),.d (.int n)]=if xs.length=n then .ok (.d .none) [none,none] else .exc nod [none,none]:=by
 by_cases h:xs.length=n
 ·simp![qY,zk,zt,h]
 ·have:¬ (xs.length:Int)=n:=by omega
  simp![qY,zk,zt,h,this,Za,nod]
noncomputable def Qm (cf:CF):Prop:=∀ xs:List PyData,cf "check_some" [.d (.list xs)]=if xs.isEmpty then .exc nod [none] else .ok (.d .none) [none]
theorem VJ(cf:CF)(xs:List PyData):runI 1 [false] [] j6 cf [.d (.list xs)]=if xs.isEmpty then .exc nod [none] else .ok (.d .none) [none]:=by
 cases h:xs.isEmpty<;>simp![j6,h,Za,nod]
structure RdOk(cf:CF):Prop where
 many:Ql cf
 some:Qm cf
 name:JY cf
 num:wz cf
 sh:WS cf
section
variable {cf:CF} {r:List Str} {x:Str} {xs:List PyData}
theorem RdOk.m1 (K:RdOk cf) (n:Nat) (h:xs.length=n):cf "check_many" [.d (.list xs),.d (.int n)]=.ok (.d .none) [none,none]:=(K.many xs n).trans (if_pos h)
theorem RdOk.m0 (K:RdOk cf) (n:Nat) (h:xs.length≠n):cf "check_many" [.d (.list xs),.d (.int n)]=.exc nod [none,none]:=(K.many xs n).trans (if_neg h)
theorem RdOk.n1 (K:RdOk cf) (t:Tx x) (h:nmB x=true):cf "read_name" [.d (.str x)]=.ok (.d (.str x)) [none]:=(K.name x t).trans (if_pos h)
theorem RdOk.n0 (K:RdOk cf) (t:Tx x) (h:nmB x=false):cf "read_name" [.d (.str x)]=.exc nod [none]:=(K.name x t).trans (if_neg (by rw[h];exact fun z=>nomatch z))
theorem RdOk.k1 (K:RdOk cf) (t:Tx x) (h:nbB x=true):cf "read_number" [.d (.str x)]=.ok (.d (zN x)) [none]:=(K.num x t).trans (if_pos h)
theorem RdOk.k0 (K:RdOk cf) (t:Tx x) (h:nbB x=false):cf "read_number" [.d (.str x)]=.exc nod [none]:=(K.num x t).trans (if_neg (by rw[h];exact fun z=>nomatch z))
theorem RdOk.s1 (K:RdOk cf) (t:Tx x) (h:shB x=true):cf "read_shades" [.d (.str x)]=.ok (.d (.tuple (shD x))) [none]:=(K.sh x t).trans (if_pos h)
theorem RdOk.s0 (K:RdOk cf) (t:Tx x) (h:shB x=false):cf "read_shades" [.d (.str x)]=.exc nod [none]:=(K.sh x t).trans (if_neg (by rw[h];exact fun z=>nomatch z))
theorem qq (K:RdOk cf){n:Nat}{s:IS}{rest:IB}(h:xs.length≠n):runI 1 [false] [] (.cons (.expr (.call (.call "check_many" 2 (.cons (.var 0 0) (.cons (.cint n) .nil))))) (.cons s rest)) cf [.d (.list xs)]=.exc nod [none]:=by
 have e1:=K.m0 n h
 have hx:∀ u,IB.ex cf [] (.cons u (.cons s rest))=sSeq (IS.ex cf [] u) (IB.ex cf [] (.cons s rest)):=fun u=>rfl
 generalize (IB.cons s rest)=R2 at *
 generalize (n:Int)=m at *
 simp![hx,e1,za]
theorem zbj(K:RdOk cf)(hr:∀ w∈r,Tx w):runI 1 [false] [] qM cf [.d (.list (r.map .str))]=out (Zq r):=by
 match r,hr with
 |[a,b],hr=>
  have ta:=hr a (by simp)
  have tb:=hr b (by simp)
  have e1:cf "check_many" [.d (.list [.str a,.str b]),.d (.int 2)]=_:=K.m1 2 rfl
  cases h1:nmB a with
  |false=>
   have e2:=K.n0 ta h1
   simp![Zq,out,h1,qM,e1,e2,a0,a1,za]
  |true=>
   have e2:=K.n1 ta h1
   cases h2:nbB b with
   |false=>
    have e3:=K.k0 tb h2
    simp![Zq,out,h1,h2,qM,e1,e2,e3,a0,a1,za]
   |true=>
    have e3:=K.k1 tb h2
    simp![Zq,out,h1,h2,qM,e1,e2,e3,a0,a1,za]
 |[],_=>exact qq K (n:=2) (by simp)
 |[_],_=>exact qq K (n:=2) (by simp)
 |_::_::_::_,_=>exact qq K (n:=2) (by simp)
theorem zbi(K:RdOk cf)(hr:∀ w∈r,Tx w):runI 1 [false] [] jo cf [.d (.list (r.map .str))]=out (QU r):=by
 match r,hr with
 |[a],hr=>
  have ta:=hr a (by simp)
  have e1:cf "check_many" [.d (.list [.str a]),.d (.int 1)]=_:=K.m1 1 rfl
  cases h1:nmB a with
  |false=>
   have e2:=K.n0 ta h1
   simp![QU,out,h1,jo,e1,e2,a0,a1,za]
  |true=>
   have e2:=K.n1 ta h1
   simp![QU,out,h1,jo,e1,e2,a0,a1,za]
 |[],_=>exact qq K (n:=1) (by simp)
 |_::_::_,_=>exact qq K (n:=1) (by simp)
theorem zbk(K:RdOk cf)(hr:∀ w∈r,Tx w):runI 1 [false] [] qN cf [.d (.list (r.map .str))]=out (Zr r):=by
 match r,hr with
 |[a,b],hr=>
  have ta:=hr a (by simp)
  have tb:=hr b (by simp)
  have e1:cf "check_many" [.d (.list [.str a,.str b]),.d (.int 2)]=_:=K.m1 2 rfl
  cases h1:nmB a with
  |false=>
   have e2:=K.n0 ta h1
   simp![Zr,out,h1,qN,e1,e2,a0,a1,za]
  |true=>
   have e2:=K.n1 ta h1
   cases h2:nmB b with
   |false=>
    have e3:=K.n0 tb h2
    simp![Zr,out,h1,h2,qN,e1,e2,e3,a0,a1,za]
   |true=>
    have e3:=K.n1 tb h2
    simp![Zr,out,h1,h2,qN,e1,e2,e3,a0,a1,za]
 |[],_=>exact qq K (n:=2) (by simp)
 |[_],_=>exact qq K (n:=2) (by simp)
 |_::_::_::_,_=>exact qq K (n:=2) (by simp)
theorem zbl(K:RdOk cf)(hr:∀ w∈r,Tx w):runI 1 [false] [] qg cf [.d (.list (r.map .str))]=out (jM r):=by
 match r,hr with
 |[a,b,c],hr=>
  have ta:=hr a (by simp)
  have tb:=hr b (by simp)
  have tc:=hr c (by simp)
  have e1:cf "check_many" [.d (.list [.str a,.str b,.str c]),.d (.int 3)]=_:=K.m1 3 rfl
  cases h1:nmB a with
  |false=>
   have e2:=K.n0 ta h1
   simp![jM,out,h1,qg,e1,e2,a0,a1,a2,za]
  |true=>
   have e2:=K.n1 ta h1
   cases h2:nbB b with
   |false=>
    have e3:=K.k0 tb h2
    simp![jM,out,h1,h2,qg,e1,e2,e3,a0,a1,a2,za]
   |true=>
    have e3:=K.k1 tb h2
    cases h3:shB c with
    |false=>
     have e4:=K.s0 tc h3
     simp![jM,out,h1,h2,h3,qg,e1,e2,e3,e4,a0,a1,a2,za]
    |true=>
     have e4:=K.s1 tc h3
     simp![jM,out,h1,h2,h3,qg,e1,e2,e3,e4,a0,a1,a2,za]
 |[],_=>exact qq K (n:=3) (by simp)
 |[_],_=>exact qq K (n:=3) (by simp)
 |[_,_],_=>exact qq K (n:=3) (by simp)
 |_::_::_::_::_,_=>exact qq K (n:=3) (by simp)
theorem zbh(K:RdOk cf)(hr:∀ w∈r,Tx w):runI 1 [false] [] jn cf [.d (.list (r.map .str))]=out (QT r):=by
 match r,hr with
 |[a],hr=>
  have ta:=hr a (by simp)
  have e1:cf "check_many" [.d (.list [.str a]),.d (.int 1)]=_:=K.m1 1 rfl
  cases h1:nbB a with
  |false=>
   have e2:=K.k0 ta h1
   simp![QT,out,h1,jn,e1,e2,a0,a1,za]
  |true=>
   have e2:=K.k1 ta h1
   simp![QT,out,h1,jn,e1,e2,a0,a1,za]
 |[],_=>exact qq K (n:=1) (by simp)
 |_::_::_,_=>exact qq K (n:=1) (by simp)
theorem zaT(K:RdOk cf)(hr:∀ w∈r,Tx w)(D:OV):zF 1 (.nm 0 1) fYes (p_read_wax_1.ev cf).1 (r.map .str) [] [some D]=if r.all nbB then .ok (r.map zN,[some D]) else .exc nod [some D] :=
 wB .str zN nbB nod fun a ha=>⟨[some D,some (.d (.str a))],rfl,fun h=>⟨.dat (zN a),[some D,some (.d (.str a))],by
   have e:=K.k1 (hr a ha) h
   unfold p_read_wax_1
   simp![e,za],rfl,rfl⟩,fun h=>⟨[some D,some (.d (.str a))],by
   have e:=K.k0 (hr a ha) h
   unfold p_read_wax_1
   simp![e,za],rfl⟩⟩
theorem vo (K:RdOk cf) (hr:∀ w∈r,Tx w){body:IE}{k:Nat}(hb:body=.call (.call "read_name" 1 (.cons (.var 0 k) .nil))){Γ:Gv}(hk:Γ.length=k) (hne:0<k):zF 1 (.nm 0 k) fYes (body.ev cf).1 (r.map .str) [] Γ=if r.all nmB then .ok (r.map .str,Γ) else .exc nod Γ :=
 wB .str .str nmB nod fun a ha=>by
  have hset:(Γ++List.replicate 1 none).set k (some (.d (.str a)))=Γ++ [some (.d (.str a))]:=by rw[<- hk];exact jO Γ (OV.d (.str a))
  have hget:(Γ++ [some (OV.d (.str a))])[k]?=some (some (.d (.str a))):=by rw[<- hk,xf (xi _)];simp
  have hlt:k<(Γ++List.replicate 1 (none:Option OV)).length:=by simp;omega
  refine⟨Γ++ [some (.d (.str a))],?_,fun h=>⟨.dat (.str a),Γ++ [some (.d (.str a))],?_,rfl,by simp⟩,fun h=>⟨Γ++ [some (.d (.str a))],?_,by simp⟩⟩
  ·unfold tgF
   first
    | (rw[if_pos hlt,hset])
    | (rw[hset])
    | (simp only[hset])
  ·have e:=K.n1 (hr a ha) h
   subst hb
   clear hset
   generalize Γ++ [some (OV.d (.str a))]=G at *
   simp![hget,e,za]
  ·have e:=K.n0 (hr a ha) h
   subst hb
   clear hset
   generalize Γ++ [some (OV.d (.str a))]=G at *
   simp![hget,e,za]
theorem RdOk.c1 (K:RdOk cf) (h:xs.isEmpty=false):cf "check_some" [.d (.list xs)]=.ok (.d .none) [none]:=(K.some xs).trans (if_neg (by rw[h];exact fun z=>nomatch z))
theorem zdl(K:RdOk cf)(hr:∀ w∈r,Tx w)(hl:r.length<=500000):runI 1 [false] [] j9 cf [.d (.list (r.map .str))]=out (ye r):=by
 match r,hr,hl with
 |[],_,_=>
  have e1:=K.some []
  simp![ye,out,j9,e1,za]
 |a::cs,hr,hl=>
  have ta:=hr a (by simp)
  have e1:cf "check_some" [.d (.list (.str a::cs.map .str))]=_:=K.c1 rfl
  have lp:=zaT K (r:=cs) (fun w h=>hr w (.tail _ h)) (.d (.list (.str a::cs.map .str)))
  have hz:(cs.map PyData.str).length<=1000000:=by simp at hl |-;omega
  have hz2:(cs.map zN).length<=1000000:=by simp at hl |-;omega
  have hq:∀ Γ,jN Γ (.dat (.list (cs.map zN)))=some (cs.map zN):=fun _=>rfl
  unfold j9
  simp only[ye,xm]
  generalize p_read_wax_1=B at *
  generalize cs.map PyData.str=TT at *
  generalize cs.map zN=NN at *
  cases h1:nmB a with
  |false=>
   have e2:=K.n0 ta h1
   simp![out,h1,e1,e2,a0,za]
  |true=>
   have e2:=K.n1 ta h1
   cases h2:cs.all nbB with
   |false=>
    rw[h2,if_neg (by decide)]at lp
    simp![out,h1,e1,e2,a0,Zj,qW,qX,yX,lp,hz,za]
   |true=>
    rw[h2,if_pos rfl]at lp
    simp![out,h1,e1,e2,a0,Zj,qW,qX,yX,lp,hz,hz2,hq,za]
theorem zdk(K:RdOk cf)(hr:∀ w∈r,Tx w)(hl:r.length<=500000):runI 2 [false] [] j7 cf [.d (.list (r.map .str))]=out (yd r):=by
 match r,hr,hl with
 |[],_,_=>
  have e1:=K.some []
  simp![yd,out,j7,e1,za]
 |a::ns,hr,hl=>
  have ta:=hr a (by simp)
  have e1:cf "check_some" [.d (.list (.str a::ns.map .str))]=_:=K.c1 rfl
  have lp:=vo K (r:=ns) (fun w h=>hr w (.tail _ h)) (body:=j8) (k:=2) rfl (Γ:= [some (.d (.list (.str a::ns.map .str))),some (.d (zN a))]) rfl (by decide)
  have hz:(ns.map PyData.str).length<=1000000:=by simp at hl |-;omega
  have hq:∀ Γ,jN Γ (.dat (.list (ns.map .str)))=some (ns.map .str):=fun _=>rfl
  unfold j7
  simp only[yd,xm]
  generalize j8=B at *
  generalize ns.map PyData.str=TT at *
  cases h1:nbB a with
  |false=>
   have e2:=K.k0 ta h1
   simp![out,h1,e1,e2,a0,za]
  |true=>
   have e2:=K.k1 ta h1
   generalize zN a=NA at *
   cases h2:ns.all nmB with
   |false=>
    rw[h2,if_neg (by decide)]at lp
    simp![out,h1,e1,e2,a0,Zj,qW,qX,yX,lp,hz,za]
   |true=>
    rw[h2,if_pos rfl]at lp
    simp![out,h1,e1,e2,a0,Zj,qW,qX,yX,lp,hz,hq,za]
theorem zbg(K:RdOk cf)(hr:∀ w∈r,Tx w)(hl:r.length<=500000):runI 1 [false] [] Zm cf [.d (.list (r.map .str))]=out (w9 r):=by
 have lp:=vo K hr (body:=jx) (k:=1) rfl (Γ:= [some (.d (.list (r.map .str)))]) rfl (by decide)
 have hz:(r.map PyData.str).length<=1000000:=by simp;omega
 have hq:∀ Γ,jN Γ (.dat (.list (r.map .str)))=some (r.map .str):=fun _=>rfl
 unfold Zm w9
 generalize jx=B at *
 generalize r.map PyData.str=TT at *
 cases h2:r.all nmB with
 |false=>
  rw[h2,if_neg (by decide)]at lp
  simp![out,lp,hz,za]
 |true=>
  rw[h2,if_pos rfl]at lp
  simp![out,lp,hz,hq,za]
end
theorem wO(c:Nat)(x:Str):Str.join (ch c) [x]=x:=rfl
theorem jl(x:Str):x.cps.toList.length=x.length:=xS
theorem V1{c:Nat}:∀ {l:List Str}{p:Str},p∈l->(∀ d∈p.cps.toList,d∈(Str.join (ch c) l).cps.toList)/\p.length<=(Str.join (ch c) l).length
 |[],_,h=>nomatch h
 |[x],p,h=>by
  have:p=x:=by simpa using h
  subst this
  rw[wO];exact⟨fun _ h=>h,xi _⟩
 |x::y::r,p,h=>by
  have hl:=congrArg List.length (Zk c x y r)
  rw[jl,xF,xk,jl,jl]at hl
  rw[Zk]
  rcases xu.mp h with h | h
  ·subst h
   exact⟨fun d hd=>xU _ hd,by omega⟩
  ·obtain⟨h1,h2⟩:=V1 (c:=c) h
   exact⟨fun d hd=>xv _ (.tail _ (h1 d hd)),by omega⟩
theorem vk(c:Nat):∀ l:List Str,l.length<=(Str.join (ch c) l).length+1
 |[]=>by simp
 |[x]=>by simp
 |x::y::r=>by
  have hl:=congrArg List.length (Zk c x y r)
  rw[jl,xF,xk,jl,jl]at hl
  have:=vk c (y::r)
  simp only[xk]at this |-
  omega
theorem QX{row:Str}(h:Tx row)(c:Nat):∃ w r,Txt.split row (ch c)=w::r/\(∀ y∈w::r,Tx y)/\r.length<=450000:=by
 have hj:=StrLaws.join_split row (ch c)
 have hp:=PyProof.Rows.split_pos row (ch c)
 cases hs:Txt.split row (ch c) with
 |nil=>rw[hs]at hp;exact absurd hp (by decide)
 |cons w r=>
  rw[hs]at hj
  refine⟨w,r,rfl,fun y hy=>?_,?_⟩
  ·obtain⟨h1,h2⟩:=V1 (c:=c) hy
   rw[hj]at h1 h2
   exact⟨fun d hd=>h.1 d (h1 d hd),xC h2 h.2⟩
  ·have:=vk c (w::r)
   rw[hj]at this
   have:=h.2
   simp only[xk]at *
   omega
noncomputable def Zs(w:Str)(r:List Str):Option (List PyData) :=
 if w= "hang" then Zq r else if w= "fold" then QU r else if w= "twin" then Zr r else if w= "wish" then jM r else if w= "wax" then ye r else if w= "dip" then yd r else if w= "boil" then w9 r else if w= "brew" then QT r else none
noncomputable def Ze (row:Str):Option (List PyData):=match Txt.split row (Str.ofString " ") with
 |[]=>none
 |w::r=>Zs w r
structure K8(cf:CF):Prop where
 hang:∀ r,(∀ w∈r,Tx w)->r.length<=450000->cf "read_hang" [.d (.list (r.map .str))]=out (Zq r)
 fold:∀ r,(∀ w∈r,Tx w)->r.length<=450000->cf "read_fold" [.d (.list (r.map .str))]=out (QU r)
 twin:∀ r,(∀ w∈r,Tx w)->r.length<=450000->cf "read_twin" [.d (.list (r.map .str))]=out (Zr r)
 wish:∀ r,(∀ w∈r,Tx w)->r.length<=450000->cf "read_wish" [.d (.list (r.map .str))]=out (jM r)
 wax:∀ r,(∀ w∈r,Tx w)->r.length<=450000->cf "read_wax" [.d (.list (r.map .str))]=out (ye r)
 dip:∀ r,(∀ w∈r,Tx w)->r.length<=450000->cf "read_dip" [.d (.list (r.map .str))]=out (yd r)
 boil:∀ r,(∀ w∈r,Tx w)->r.length<=450000->cf "read_boil" [.d (.list (r.map .str))]=out (w9 r)
 brew:∀ r,(∀ w∈r,Tx w)->r.length<=450000->cf "read_brew" [.d (.list (r.map .str))]=out (QT r)
theorem zg6:([("hang","read_hang"),("fold","read_fold"),("twin","read_twin"),("wish","read_wish"),("wax","read_wax"),("dip","read_dip"),("boil","read_boil"),("brew","read_brew")]:List (Str×Str))=KF:=rfl
theorem zdm (cf:CF){row w:Str}{r:List Str}{o:Option (List PyData)}(e2:Txt.split row (Str.ofString " ")=w::r) (hz:row.length<=900000) (hk:(KF.lookup w=none/\o=none)∨∃ f,KF.lookup w=some f/\cf f [.d (.list (r.map .str))]=out o) :
  runI 4 [false] [] Vj cf [.d (.str row)]=out o:=by
 have hl:((Str.ofString " ").length==0)=false:=by decide
 unfold Vj
 simp only[zg6]
 generalize Str.ofString " " =SP at *
 rcases hk with ⟨e3,rfl⟩ | ⟨f,e3,e1⟩
 ·generalize KF=kf at *
  simp![out,nod,Za,yh,qj,J2,hl,hz,e2,e3,za]
 ·generalize KF=kf at *
  cases o with
  |none=>simp only[out]at e1;simp![out,yh,Y9,qj,J2,hl,hz,e1,e2,e3,za]
  |some xs=>simp only[out]at e1;simp![out,yh,Y9,qj,J2,hl,hz,e1,e2,e3,za]
theorem zhp(cf:CF)(R:K8 cf){row:Str}(h:Tx row):runI 4 [false] [] Vj cf [.d (.str row)]=out (Ze row):=by
 obtain⟨w,r,e,hw,hl⟩:=QX h 32
 rw[<- km]at e
 have hz:row.length<=900000:=by have:=h.2;omega
 have hr:∀ y∈r,Tx y:=fun y hy=>hw y (.tail _ hy)
 have er:Ze row=Zs w r:=by unfold Ze;rw[e]
 rw[er]
 refine zdm cf e hz ?_
 unfold Zs
 split
 ·rename_i q;subst q;exact .inr ⟨_,by decide +kernel,R.hang r hr hl⟩
 split
 ·rename_i q;subst q;exact .inr ⟨_,by decide +kernel,R.fold r hr hl⟩
 split
 ·rename_i q;subst q;exact .inr ⟨_,by decide +kernel,R.twin r hr hl⟩
 split
 ·rename_i q;subst q;exact .inr ⟨_,by decide +kernel,R.wish r hr hl⟩
 split
 ·rename_i q;subst q;exact .inr ⟨_,by decide +kernel,R.wax r hr hl⟩
 split
 ·rename_i q;subst q;exact .inr ⟨_,by decide +kernel,R.dip r hr hl⟩
 split
 ·rename_i q;subst q;exact .inr ⟨_,by decide +kernel,R.boil r hr hl⟩
 split
 ·rename_i q;subst q;exact .inr ⟨_,by decide +kernel,R.brew r hr hl⟩
 ·rename_i q1 q2 q3 q4 q5 q6 q7 q8
  refine .inl ⟨?_,rfl⟩
  simp[KF,List.lookup,beq_eq_false_iff_ne.mpr q1,beq_eq_false_iff_ne.mpr q2,beq_eq_false_iff_ne.mpr q3,beq_eq_false_iff_ne.mpr q4,beq_eq_false_iff_ne.mpr q5,beq_eq_false_iff_ne.mpr q6,beq_eq_false_iff_ne.mpr q7,beq_eq_false_iff_ne.mpr q8]
noncomputable def vM (cf:CF):Prop:=∀ row,Tx row->cf "read" [.d (.str row)]=out (Ze row)
theorem jd{cf:CF}{io:List Nat}{c:IE}{e:IO}{s2:IS}{R2:IB}{Γ:Gv}(b:Bool)(hc:(IE.ev cf c).2 Γ=.ok (b,Γ)) :
  IB.ex cf io (.cons (.ite c (.cons (.ret e) .nil) .nil) (.cons s2 R2)) Γ=if b then IS.ex cf io (.ret e) Γ else IB.ex cf io (.cons s2 R2) Γ:=by
 have hx:∀ u,IB.ex cf io (.cons u (.cons s2 R2))=sSeq (IS.ex cf io u) (IB.ex cf io (.cons s2 R2)):=fun u=>rfl
 have hy:IB.ex cf io (.cons (.ret e) .nil)=IS.ex cf io (.ret e):=rfl
 have hz:IB.ex cf io .nil=sNext:=rfl
 rw[hx]
 generalize IB.ex cf io (.cons s2 R2)=T
 have hr:∀ Γ1,IS.ex cf io (.ret e) Γ≠ .ok (.next,Γ1):=fun Γ1=>by
  show sRet (e.ev cf) Γ≠_
  unfold sRet
  cases e.ev cf Γ<;>simp[R.bind]
 cases b with
 |true=>
  rw[if_pos rfl]
  show sSeq (sIf (IE.ev cf c).2 (IB.ex cf io (.cons (.ret e) .nil)) (IB.ex cf io .nil)) T Γ=_
  rw[hy,hz]
  simp only[sSeq,sIf,hc,R.bind,if_true]
 |false=>
  rw[if_neg (by decide)]
  show sSeq (sIf (IE.ev cf c).2 (IB.ex cf io (.cons (.ret e) .nil)) (IB.ex cf io .nil)) T Γ=_
  rw[hy,hz]
  simp[sSeq,sIf,hc,R.bind,sNext]
theorem yP{cf:CF}{io:List Nat}{u s2:IS}{R2:IB}{Γ Γ':Gv}(hu:IS.ex cf io u Γ=.ok (.next,Γ')):IB.ex cf io (.cons u (.cons s2 R2)) Γ=IB.ex cf io (.cons s2 R2) Γ':=by
 show sSeq (IS.ex cf io u) (IB.ex cf io (.cons s2 R2)) Γ=_
 unfold sSeq
 rw[hu]
theorem wn(cf:CF){body:IE}{f:Str}{p:Str->Bool}(hb:body=.call (.call f 1 (.cons (.var 0 4) .nil))){xs:List Str}(hp:∀ x∈xs,cf f [.d (.str x)]=.ok (.d (.bool (p x))) [none]){o0 o1 o2 o3:Option OV} :
  zF 1 (.nm 0 4) fYes (body.ev cf).1 (xs.map .str) [] [o0,o1,o2,o3]=.ok ((xs.map p).map .bool,[o0,o1,o2,o3]):=by
 rw[xX]
 exact qi .str _ fun x hx=>⟨[o0,o1,o2,o3,some (.d (.str x))],.dat (.bool (p x)),[o0,o1,o2,o3,some (.d (.str x))],rfl,by
  have e:=hp x hx
  subst hb
  simp![e,za],rfl,rfl⟩
theorem zfe(cf:CF){xs:List Str}(hp:∀ x∈xs,nbB x=true){o0 o1 o2 o3:Option OV} :
  zF 1 (.nm 0 4) fYes (b_law_meant_4.ev cf).1 (xs.map .str) [] [o0,o1,o2,o3]=.ok (xs.map zN,[o0,o1,o2,o3]) :=
 qi .str _ fun x hx=>⟨[o0,o1,o2,o3,some (.d (.str x))],.dat (zN x),[o0,o1,o2,o3,some (.d (.str x))],rfl,by
  have e:=Vg (hp x hx)
  unfold b_law_meant_4
  simp![e,za],rfl,rfl⟩
structure zeI(cf:CF):Prop where
 name:wg cf "_law_is_name"
 num:K7 cf
 fig:K4 cf
 pic:K5 cf
noncomputable def mnD(o:Option (List PyData)):PyData:=match o with
 |some xs=>.tuple xs
 |none=>.none
theorem jY(n:Nat)(k:Nat):PyData.eqv (.int (n:Int)) (.int (k:Int))=decide (n=k):=by
 rw[zt,ui]
 simp only[beq_iff_eq,decide_eq_true_eq]
 omega
theorem zcW (cf:CF) (K:zeI cf){row w:Str}(h:Tx row) (e2:Txt.split row (Str.ofString " ")= [w]) (tw:Tx w):runI 4 [false] [] zO cf [.d (.str row)]=.ok (.d (mnD (Zs w []))) [none]:=by
 have hz:row.length<=900000:=by have:=h.2;omega
 have hl:((Str.ofString " ").length==0)=false:=by decide
 have lw:=tw.ok 20
 have l1:lay 20 (.str (Str.ofString "boil"))=true:=zl "boil" 20
 have l2:lay 20 (.str (Str.ofString "fold"))=true:=zl "fold" 20
 have l3:lay 20 (.str (Str.ofString "twin"))=true:=zl "twin" 20
 have q1:=qF w (Str.ofString "boil")
 have ql:=jY 0 0
 have ql1:=jY 0 1
 have ql2:=jY 0 2
 have cut0:Ws [PyData.str w] (some 1) none= []:=yX _ _
 have lp:=wn cf (body:=b_law_meant_1) (f:= "_law_is_name") (p:=nmB) rfl (xs:= []) (fun x hx=>nomatch hx) (o0:=some (.d (.str row))) (o1:=some (.d (.list [.str w]))) (o2:=some (.d (.list []))) (o3:=none)
 have hq:∀ Γ,jN Γ (.dat (.list []))=some []:=fun _=>rfl
 simp only[uy]at lp
 unfold zO
 generalize b_law_meant_1=B1 at *
 generalize b_law_meant_2=B2 at *
 generalize b_law_meant_3=B3 at *
 generalize b_law_meant_4=B4 at *
 generalize Str.ofString " " =SP at *
 by_cases h1:w=Str.ofString "boil"
 ·have er:Zs w []=some [.str "boil",.tuple []]:=by subst h1;rfl
  rw[decide_eq_true h1]at q1
  rw[er]
  generalize Str.ofString "fold" =FO at *
  generalize Str.ofString "twin" =TW at *
  simp![mnD,qj,e2,hl,hz,a0,lw,l1,l2,l3,q1,ql,Zj,qW,qX,cut0,lp,hq,zz,zk,za]
 ·have er:Zs w []=none:=by
   unfold Zs
   repeat' split
   all_goals first | rfl | (rename_i q;exact absurd q h1) | skip
  rw[decide_eq_false h1]at q1
  rw[er]
  generalize Str.ofString "boil" =BO at *
  generalize q2:PyData.eqv (.str w) (.str (Str.ofString "fold"))=x2 at *
  generalize q3:PyData.eqv (.str w) (.str (Str.ofString "twin"))=x3 at *
  generalize Str.ofString "fold" =FO at *
  generalize Str.ofString "twin" =TW at *
  cases x2<;>cases x3<;>simp![mnD,qj,e2,hl,hz,a0,lw,l1,l2,l3,q1,q2,q3,ql,ql1,ql2,Zj,qW,qX,cut0,lp,hq,zz,zk,zt,za]
noncomputable def kw (w:Str):Nat:=if w= "hang" then 0 else if w= "fold" then 1 else if w= "twin" then 2 else if w= "wish" then 3 else if w= "wax" then 4 else if w= "dip" then 5 else if w= "boil" then 6 else if w= "brew" then 7 else 8
theorem zcS (w:Str):(w==Str.ofString "hang")=decide (kw w=0):=by
 unfold kw
 (repeat' split)<;>first | (rename_i q;subst q;decide +kernel) | (simp_all)
theorem zcR (w:Str):(w==Str.ofString "fold")=decide (kw w=1):=by
 unfold kw
 (repeat' split)<;>first | (rename_i q;subst q;decide +kernel) | (simp_all)
theorem zcT (w:Str):(w==Str.ofString "twin")=decide (kw w=2):=by
 unfold kw
 (repeat' split)<;>first | (rename_i q;subst q;decide +kernel) | (simp_all)
theorem zcU (w:Str):(w==Str.ofString "wish")=decide (kw w=3):=by
 unfold kw
 (repeat' split)<;>first | (rename_i q;subst q;decide +kernel) | (simp_all)
theorem zfq (w:Str):(w==Str.ofString "wax")=decide (kw w=4):=by
 unfold kw
 (repeat' split)<;>first | (rename_i q;subst q;decide +kernel) | (simp_all)
theorem zfp (w:Str):(w==Str.ofString "dip")=decide (kw w=5):=by
 unfold kw
 (repeat' split)<;>first | (rename_i q;subst q;decide +kernel) | (simp_all)
theorem zcP (w:Str):(w==Str.ofString "boil")=decide (kw w=6):=by
 unfold kw
 (repeat' split)<;>first | (rename_i q;subst q;decide +kernel) | (simp_all)
theorem zcQ (w:Str):(w==Str.ofString "brew")=decide (kw w=7):=by
 unfold kw
 (repeat' split)<;>first | (rename_i q;subst q;decide +kernel) | (simp_all)
noncomputable def yf(k:Nat)(r:List Str):Option (List PyData):=match k with
 |0=>Zq r
 |1=>QU r
 |2=>Zr r
 |3=>jM r
 |4=>ye r
 |5=>yd r
 |6=>w9 r
 |7=>QT r
 |_=>none
theorem Y8(w:Str)(r:List Str):Zs w r=yf (kw w) r:=by
 unfold Zs kw
 (repeat' split)<;>rfl
noncomputable def zcY(k:Nat)(a:Str)(s:List Str):PyData :=
 if decide (k=6)&&(a::s).all nmB then .tuple [.str "boil",.tuple ((a::s).map .str)]
 else if decide (k=1)&&((a::s).all nmB&&decide (s.length=0)) then .tuple [.str "fold",.str a]
 else if decide (k=2)&&((a::s).all nmB&&decide (s.length=1)) then .tuple [.str "twin",.str a,.str (s.headD "")]
 else if decide (k=7)&&(decide (s.length=0)&&nbB a) then .tuple [.str "brew",zN a]
 else if decide (k=5)&&(nbB a&&s.all nmB) then .tuple [.str "dip",.tuple (s.map .str),zN a]
 else if !nmB a then .none
 else if decide (k=4)&&s.all nbB then .tuple [.str "wax",.str a,.tuple (s.map zN)]
 else if decide (s.length=0)|| !nbB (s.headD "") then .none
 else if decide (k=0)&&decide (s.length=1) then .tuple [.str "hang",.str a,zN (s.headD "")]
 else if decide (k=3)&&(decide (s.length=2)&&shB (s.tail.headD "")) then .tuple [.str "wish",.str a,zN (s.headD ""),.tuple (shD (s.tail.headD ""))]
 else .none
theorem zcZ(k:Nat)(a:Str)(s:List Str):zcY k a s=mnD (yf k (a::s)):=by
 unfold zcY yf
 match k with
 |0=>match s with
  |[]=>cases h2:nmB a<;>simp[Zq,mnD,h2]
  |[b]=>cases h2:nmB a<;>cases h3:nbB b<;>simp[Zq,mnD,h2,h3]
  |b::c::d=>cases h2:nmB a<;>cases h3:nbB b<;>simp[Zq,mnD,h2,h3]
 |1=>match s with
  |[]=>cases h2:nmB a<;>simp[QU,mnD,h2]
  |b::c=>cases h2:nmB a<;>cases h3:nbB b<;>simp[QU,mnD,h2,h3]
 |2=>match s with
  |[]=>cases h2:nmB a<;>simp[Zr,mnD,h2]
  |[b]=>cases h2:nmB a<;>cases h3:nmB b<;>cases h4:nbB b<;>simp[Zr,mnD,h2,h3,h4]
  |b::c::d=>cases h2:nmB a<;>cases h4:nbB b<;>simp[Zr,mnD,h2,h4]
 |3=>match s with
  |[]=>cases h2:nmB a<;>simp[jM,mnD,h2]
  |[b]=>cases h2:nmB a<;>cases h3:nbB b<;>simp[jM,mnD,h2,h3]
  |[b,c]=>cases h2:nmB a<;>cases h3:nbB b<;>cases h4:shB c<;>simp[jM,mnD,h2,h3,h4]
  |b::c::d::e=>cases h2:nmB a<;>cases h3:nbB b<;>simp[jM,mnD,h2,h3]
 |4=>
  cases h2:nmB a<;>cases h3:s.all nbB<;>cases h4:(decide (s.length=0)|| !nbB (s.headD ""))<;>simp[ye,mnD,h2,h3,h4]
 |5=>cases h2:nmB a<;>cases h1:nbB a<;>cases h3:s.all nmB<;>cases h4:(decide (s.length=0)|| !nbB (s.headD ""))<;>simp[yd,mnD,h1,h2,h3,h4]
 |6=>cases h2:nmB a<;>cases h3:s.all nmB<;>cases h4:(decide (s.length=0)|| !nbB (s.headD ""))<;>simp[w9,mnD,h2,h3,h4]
 |7=>match s with
  |[]=>cases h2:nmB a<;>cases h1:nbB a<;>simp[QT,mnD,h1,h2]
  |b::c=>cases h2:nmB a<;>cases h3:nbB b<;>simp[QT,mnD,h2,h3]
 |k+8=>
  cases h2:nmB a<;>cases h4:(decide (s.length=0)|| !nbB (s.headD ""))<;>simp[mnD,h2,h4]
theorem all_map{α:Type}(xs:List α)(p:α->Bool):(xs.map p).all id=xs.all p:=by
 induction xs with
 |nil=>rfl
 |cons x r ih=>simp[ih]
theorem Zi(w l:Str):PyData.eqv (.str w) (.str l)=(w==l):=by
 rw[qF,ui]
 simp
theorem zcX (cf:CF) (K:zeI cf){row w a:Str}{s:List Str}(h:Tx row) (e2:Txt.split row (Str.ofString " ")=w::a::s) (hw:∀ y∈w::a::s,Tx y) (hsl:s.length<=450000):runI 4 [false] [] zO cf [.d (.str row)]=.ok (.d (zcY (kw w) a s)) [none]:=by
 have hz:row.length<=900000:=by have:=h.2;omega
 have hl:((Str.ofString " ").length==0)=false:=by decide
 have tw:=hw w (by simp)
 have ta:=hw a (by simp)
 have ts:∀ y∈s,Tx y:=fun y hy=>hw y (by simp[hy])
 have lw:=tw.ok 20
 have q0:PyData.eqv (.str w) (.str (Str.ofString "hang"))=decide (kw w=0):=(Zi _ _).trans (zcS w)
 have q1:PyData.eqv (.str w) (.str (Str.ofString "fold"))=decide (kw w=1):=(Zi _ _).trans (zcR w)
 have q2:PyData.eqv (.str w) (.str (Str.ofString "twin"))=decide (kw w=2):=(Zi _ _).trans (zcT w)
 have q3:PyData.eqv (.str w) (.str (Str.ofString "wish"))=decide (kw w=3):=(Zi _ _).trans (zcU w)
 have q4:PyData.eqv (.str w) (.str (Str.ofString "wax"))=decide (kw w=4):=(Zi _ _).trans (zfq w)
 have q5:PyData.eqv (.str w) (.str (Str.ofString "dip"))=decide (kw w=5):=(Zi _ _).trans (zfp w)
 have q6:PyData.eqv (.str w) (.str (Str.ofString "boil"))=decide (kw w=6):=(Zi _ _).trans (zcP w)
 have q7:PyData.eqv (.str w) (.str (Str.ofString "brew"))=decide (kw w=7):=(Zi _ _).trans (zcQ w)
 have z0:=zl "hang" 20
 have z1:=zl "fold" 20
 have z2:=zl "twin" 20
 have z3:=zl "wish" 20
 have z4:=zl "wax" 20
 have z5:=zl "dip" 20
 have z6:=zl "boil" 20
 have z7:=zl "brew" 20
 have na:=K.name a ta
 have ka:=K.num a ta
 have cutw:Ws (PyData.str w::PyData.str a::s.map .str) (some 1) none=PyData.str a::s.map .str:=yX _ _
 have cuta:Ws (PyData.str a::s.map .str) (some 1) none=s.map .str:=yX _ _
 have hzs:(s.map PyData.str).length<=1000000:=by simp;omega
 have hzr:(PyData.str a::s.map PyData.str).length<=1000000:=by simp;omega
 have hzn:(s.map zN).length<=1000000:=by simp;omega
 have n0:PyData.eqv (.int ((PyData.str a::s.map PyData.str).length:Int)) (.int 0)=false:=by
  have:=jY (PyData.str a::s.map PyData.str).length 0
  refine this.trans ?_
  simp
 have n1:PyData.eqv (.int ((PyData.str a::s.map PyData.str).length:Int)) (.int 1)=decide (s.length=0):=by
  have:=jY (PyData.str a::s.map PyData.str).length 1
  refine this.trans ?_
  simp
 have n2:PyData.eqv (.int ((PyData.str a::s.map PyData.str).length:Int)) (.int 2)=decide (s.length=1):=by
  have:=jY (PyData.str a::s.map PyData.str).length 2
  refine this.trans ?_
  simp
 have n3:PyData.eqv (.int ((PyData.str a::s.map PyData.str).length:Int)) (.int 3)=decide (s.length=2):=by
  have:=jY (PyData.str a::s.map PyData.str).length 3
  refine this.trans ?_
  simp
 have nl:decide (((PyData.str a::s.map PyData.str).length:Int)<2)=decide (s.length=0):=by
  rw[ui]
  simp only[decide_eq_true_eq,xk,xt]
  omega
 obtain⟨BL1,bl1,lp1,hb1,ha1⟩:∃ (BL:List PyData) (bl:List Bool),(∀ o0 o1 o2 o3:Option OV,zF 1 (.nm 0 4) fYes (b_law_meant_1.ev cf).1 (PyData.str a::s.map .str) [] [o0,o1,o2,o3]=.ok (BL,[o0,o1,o2,o3]))/\zz BL=some bl/\bl.all id=(a::s).all nmB :=
  ⟨_,_,fun o0 o1 o2 o3=>wn cf (body:=b_law_meant_1) (f:= "_law_is_name") (p:=nmB) rfl (xs:=a::s) (fun x hx=>K.name x (hw x (.tail _ hx))),zj _,all_map _ _⟩
 obtain⟨BL2,bl2,lp2,hb2,ha2⟩:∃ (BL:List PyData) (bl:List Bool),(∀ o0 o1 o2 o3:Option OV,zF 1 (.nm 0 4) fYes (b_law_meant_2.ev cf).1 (s.map .str) [] [o0,o1,o2,o3]=.ok (BL,[o0,o1,o2,o3]))/\zz BL=some bl/\bl.all id=s.all nmB :=
  ⟨_,_,fun o0 o1 o2 o3=>wn cf (body:=b_law_meant_2) (f:= "_law_is_name") (p:=nmB) rfl (xs:=s) (fun x hx=>K.name x (ts x hx)),zj _,all_map _ _⟩
 obtain⟨BL3,bl3,lp3,hb3,ha3⟩:∃ (BL:List PyData) (bl:List Bool),(∀ o0 o1 o2 o3:Option OV,zF 1 (.nm 0 4) fYes (b_law_meant_3.ev cf).1 (s.map .str) [] [o0,o1,o2,o3]=.ok (BL,[o0,o1,o2,o3]))/\zz BL=some bl/\bl.all id=s.all nbB :=
  ⟨_,_,fun o0 o1 o2 o3=>wn cf (body:=b_law_meant_3) (f:= "_law_is_number") (p:=nbB) rfl (xs:=s) (fun x hx=>K.num x (ts x hx)),zj _,all_map _ _⟩
 have lp4:=fun (hp:∀ x∈s,nbB x=true) (o0 o1 o2 o3:Option OV)=>zfe cf hp (o0:=o0) (o1:=o1) (o2:=o2) (o3:=o3)
 have hqr:∀ Γ,jN Γ (.dat (.list (PyData.str a::s.map .str)))=some (PyData.str a::s.map .str):=fun _=>rfl
 have hqs:∀ Γ,jN Γ (.dat (.list (s.map .str)))=some (s.map .str):=fun _=>rfl
 have hqn:∀ Γ,jN Γ (.dat (.list (s.map zN)))=some (s.map zN):=fun _=>rfl
 have gi:=fun (hb:nbB a=true)=>Vg hb
 have wx0:atI (PyData.str w::PyData.str a::s.map .str) 0=some (.str w):=a0
 have rx0:atI (PyData.str a::s.map .str) 0=some (.str a):=a0
 unfold zcY
 show fin [false] (IB.ex cf [] zO [some (.d (.str row)),none,none,none])=_
 unfold zO
 generalize b_law_meant_1=B1 at *
 generalize b_law_meant_2=B2 at *
 generalize b_law_meant_3=B3 at *
 generalize b_law_meant_4=B4 at *
 generalize decide (kw w=0)=b0 at *
 generalize decide (kw w=1)=b1 at *
 generalize decide (kw w=2)=b2 at *
 generalize decide (kw w=3)=b3 at *
 generalize decide (kw w=4)=b4 at *
 generalize decide (kw w=5)=b5 at *
 generalize decide (kw w=6)=b6 at *
 generalize decide (kw w=7)=b7 at *
 generalize hA:(a::s).all nmB=A at *
 generalize hS:s.all nmB=S at *
 generalize hN:s.all nbB=N at *
 refine (congrArg (fin [false]) (yP (Γ':= [some (.d (.str row)),some (.d (.list (PyData.str w::PyData.str a::s.map .str))),none,none]) ?_)).trans ?_
 ·generalize Str.ofString " " =SP at *
  simp![qj,e2,hl,hz,za]
 refine (congrArg (fin [false]) (yP (Γ':= [some (.d (.str row)),some (.d (.list (PyData.str w::PyData.str a::s.map .str))),some (.d (.list (PyData.str a::s.map .str))),none]) ?_)).trans ?_
 ·simp![Zj,qW,qX,cutw,za]
 refine (congrArg (fin [false]) (yP (Γ':= [some (.d (.str row)),some (.d (.list (PyData.str w::PyData.str a::s.map .str))),some (.d (.list (PyData.str a::s.map .str))),some (.d (.bool A))]) ?_)).trans ?_
 ·generalize (PyData.str a::s.map .str)=RR at *
  simp![hzr,lp1,hb1,ha1,za]
 generalize hG: [some (OV.d (.str row)),some (OV.d (.list (PyData.str w::PyData.str a::s.map .str))),some (OV.d (.list (PyData.str a::s.map .str))),some (OV.d (.bool A))]=G
 have g1:G[1]?=some (some (.d (.list (PyData.str w::PyData.str a::s.map .str)))):=by rw[<- hG];rfl
 have g2:G[2]?=some (some (.d (.list (PyData.str a::s.map .str)))):=by rw[<- hG];rfl
 have g3:G[3]?=some (some (.d (.bool A))):=by rw[<- hG];rfl
 have hout:outs [false] G= [none]:=by rw[<- hG];rfl
 refine (congrArg (fin [false]) (jd (b6&&A) ?_)).trans ?_
 ·cases b6<;>simp![g1,g3,wx0,lw,z6,q6,za]
 cases hB:b6&&A with
 |true=>
  simp only[if_true,xm]
  generalize (PyData.str a::s.map .str)=RR at *
  simp![g2,hqr,hzr,hout,za]
 |false=>
 simp only[xw,if_false]
 refine (congrArg (fin [false]) (jd (b1&&(A&&decide (s.length=0))) ?_)).trans ?_
 ·generalize (PyData.str a::s.map .str)=RR at *
  cases b1<;>cases A<;>simp![g1,g2,g3,wx0,lw,z1,q1,n1,zk,za]
 cases hB1:(b1&&(A&&decide (s.length=0))) with
 |true=>
  simp only[if_true]
  generalize (PyData.str a::s.map .str)=RR at *
  simp![g2,rx0,hout,za]
 |false=>
 simp only[xw,if_false]
 refine (congrArg (fin [false]) (jd (b2&&(A&&decide (s.length=1))) ?_)).trans ?_
 ·generalize (PyData.str a::s.map .str)=RR at *
  cases b2<;>cases A<;>simp![g1,g2,g3,wx0,lw,z2,q2,n2,zk,za]
 cases hB2:(b2&&(A&&decide (s.length=1))) with
 |true=>
  simp only[if_true]
  simp only[xa,decide_eq_true_eq]at hB2
  obtain⟨b,rfl⟩:=uA.mp hB2.2.2
  have rx1:atI [PyData.str a,PyData.str b] 1=some (.str b):=a1
  simp only[xm,uy]at g2 rx0
  simp![g2,rx0,rx1,hout,za]
 |false=>
 simp only[xw,if_false]
 refine (congrArg (fin [false]) (jd false ?_)).trans ?_
 ·generalize (PyData.str a::s.map .str)=RR at *
  simp![g2,n0,zk,za]
 simp only[xw,if_false]
 refine (congrArg (fin [false]) (jd (b7&&(decide (s.length=0)&&nbB a)) ?_)).trans ?_
 ·generalize (PyData.str a::s.map .str)=RR at *
  generalize decide (s.length=0)=l0 at n1 |-
  cases b7<;>cases l0<;>simp![g1,g2,wx0,rx0,lw,z7,q7,n1,ka,zk,za]
 cases hB3:(b7&&(decide (s.length=0)&&nbB a)) with
 |true=>
  simp only[if_true]
  have hk:nbB a=true:=by
   simp only[xa]at hB3
   exact hB3.2.2
  have gn:=gi hk
  generalize (PyData.str a::s.map .str)=RR at *
  simp![g2,rx0,gn,hout,za]
 |false=>
 simp only[xw,if_false]
 refine (congrArg (fin [false]) (jd (b5&&(nbB a&&S)) ?_)).trans ?_
 ·rw[<- hG]
  generalize s.map PyData.str=SS at *
  cases b5<;>cases hk:nbB a<;>rw[hk]at ka<;>simp![wx0,rx0,lw,z5,q5,ka,Zj,qW,qX,cuta,hzs,lp2,hb2,ha2,zk,za]
 cases hB4:(b5&&(nbB a&&S)) with
 |true=>
  simp only[if_true]
  have hk:nbB a=true:=by
   simp only[xa]at hB4
   exact hB4.2.1
  have gn:=gi hk
  generalize s.map PyData.str=SS at *
  simp![g2,rx0,gn,Zj,qW,qX,cuta,hzs,hqs,hout,za]
 |false=>
 simp only[xw,if_false]
 refine (congrArg (fin [false]) (jd (!nmB a) ?_)).trans ?_
 ·generalize (PyData.str a::s.map .str)=RR at *
  simp![g2,rx0,na,za]
 cases hB5: !nmB a with
 |true=>
  simp only[if_true]
  simp![hout]
 |false=>
 simp only[xw,if_false]
 refine (congrArg (fin [false]) (jd (b4&&N) ?_)).trans ?_
 ·rw[<- hG]
  generalize s.map PyData.str=SS at *
  cases b4<;>simp![wx0,rx0,lw,z4,q4,Zj,qW,qX,cuta,hzs,lp3,hb3,ha3,zk,za]
 cases hB6:(b4&&N) with
 |true=>
  simp only[if_true]
  have hN1:s.all nbB=true:=by
   simp only[xa]at hB6
   rw[hN];exact hB6.2
  have lp5:=lp4 (xB.mp hN1)
  rw[<- hG]at hout |-
  generalize s.map PyData.str=SS at *
  generalize s.map zN=NN at *
  simp![wx0,rx0,Zj,qW,qX,cuta,hzs,lp5,hzn,hqn,za]
 |false=>
 simp only[xw,if_false]
 refine (congrArg (fin [false]) (jd (decide (s.length=0)|| !nbB (s.headD "")) ?_)).trans ?_
 ·cases s with
  |nil=>
   simp only[uy]at *
   simp![g2,za]
  |cons b t=>
   have kb:=K.num b (ts b (by simp))
   have rx1:atI (PyData.str a::PyData.str b::t.map .str) 1=some (.str b):=a1
   have nl2:¬ (((PyData.str a::PyData.str b::t.map PyData.str).length:Int)<2):=by simp;omega
   simp only[xm]at *
   generalize (PyData.str a::PyData.str b::t.map .str)=RR at *
   simp![g2,nl2,rx1,kb,za]
 cases hB7:(decide (s.length=0)|| !nbB (s.headD "")) with
 |true=>
  simp only[if_true]
  simp![hout]
 |false=>
 simp only[xw,if_false]
 obtain⟨b,t,rfl⟩:∃ b t,s=b::t:=by
  cases s with
  |nil=>simp at hB7
  |cons b t=>exact⟨b,t,rfl⟩
 have hkb:nbB b=true:=by simpa using hB7
 have gb:=Vg hkb
 have rx1:atI (PyData.str a::PyData.str b::t.map .str) 1=some (.str b):=a1
 simp only[xm]at *
 refine (congrArg (fin [false]) (jd (b0&&decide ((b::t).length=1)) ?_)).trans ?_
 ·generalize (PyData.str a::PyData.str b::t.map .str)=RR at *
  cases b0<;>simp![g1,g2,wx0,lw,z0,q0,n2,zk,za]
 cases hB8:(b0&&decide ((b::t).length=1)) with
 |true=>
  simp only[if_true]
  generalize (PyData.str a::PyData.str b::t.map .str)=RR at *
  simp![g2,rx0,rx1,gb,hout,za]
 |false=>
 simp only[xw,if_false]
 refine (congrArg (fin [false]) (jd (b3&&(decide ((b::t).length=2)&&shB ((b::t).tail.headD ""))) ?_)).trans ?_
 ·cases b3 with
  |false=>
   generalize (PyData.str a::PyData.str b::t.map .str)=RR at *
   simp![g1,wx0,lw,z3,q3,za]
  |true=>
   by_cases h3:(b::t).length=2
   ·obtain⟨c,rfl⟩:=uA.mp (show t.length=1 by simpa using h3)
    have fc:=K.fig c (ts c (by simp))
    have rx2:atI [PyData.str a,PyData.str b,PyData.str c] 2=some (.str c):=a2
    simp only[xm,uy]at g1 g2 wx0 n3
    generalize [PyData.str a,PyData.str b,PyData.str c]=RR at *
    simp![g1,g2,wx0,lw,z3,q3,n3,rx2,fc,zk,za]
   ·rw[decide_eq_false h3]at n3 |-
    generalize (PyData.str a::PyData.str b::t.map .str)=RR at *
    simp![g1,g2,wx0,lw,z3,q3,n3,zk,za]
 cases hB9:(b3&&(decide ((b::t).length=2)&&shB ((b::t).tail.headD ""))) with
 |true=>
  simp only[if_true]
  simp only[xa,decide_eq_true_eq]at hB9
  obtain⟨c,rfl⟩:=uA.mp (show t.length=1 by simpa using hB9.2.1)
  have hc:shB c=true:=hB9.2.2
  have pc:=K.pic c (ts c (by simp)) hc
  have rx2:atI [PyData.str a,PyData.str b,PyData.str c] 2=some (.str c):=a2
  simp only[xm,uy]at g2 rx0 rx1
  generalize [PyData.str a,PyData.str b,PyData.str c]=RR at *
  simp![g2,rx0,rx1,rx2,gb,pc,hout,za]
 |false=>
 simp only[xw,if_false]
 simp![hout]
theorem zfr(cf:CF)(K:zeI cf){row:Str}(h:Tx row):runI 4 [false] [] zO cf [.d (.str row)]=.ok (.d (mnD (Ze row))) [none]:=by
 obtain⟨w,r,e,hw,hl⟩:=QX h 32
 rw[<- km]at e
 have er:Ze row=Zs w r:=by unfold Ze;rw[e]
 rw[er]
 cases r with
 |nil=>exact zcW cf K h e (hw w (by simp))
 |cons a s=>
  rw[Y8,<- zcZ]
  exact zcX cf K h e hw (by simp at hl;omega)
noncomputable def YB (cf:CF):Prop:=∀ row,Tx row->cf "_law_meant" [.d (.str row)]=.ok (.d (mnD (Ze row))) [none]
noncomputable def Txn(n:Nat)(x:Str):Prop:=(∀ c∈x.cps.toList,c<=127)/\x.length<=n
theorem Txn.tx{n:Nat}{x:Str}(h:Txn n x)(hn:n<=450000):Tx x:=⟨h.1,xC h.2 hn⟩
theorem Txn.mono{n m:Nat}{x:Str}(h:Txn n x)(hn:n<=m):Txn m x:=⟨h.1,xC h.2 hn⟩
theorem YU(x y:Str):(x++y).length=x.length+y.length:=by
 rw[<- jl,jA,xF,jl,jl]
theorem Txn.app{n m:Nat}{x y:Str}(h:Txn n x)(k:Txn m y):Txn (n+m) (x++y):=by
 refine⟨fun c hc=>?_,by rw[YU];exact Nat.add_le_add h.2 k.2⟩
 rw[jA]at hc
 rcases xE.mp hc with z | z
 ·exact h.1 c z
 ·exact k.1 c z
theorem KD(x:Str)(l u:Option Int):∀ c∈(Txt.slice x l u).cps.toList,c∈x.cps.toList:=by
 intro c hc
 unfold Txt.slice at hc
 split at hc
 ·exact hc
 ·simp only[uu]at hc
  obtain⟨i,_,hi⟩:=hc
  have:=Array.mem_of_getElem? hi
  simpa using this
theorem Txn.cut{n:Nat}{x:Str}(h:Txn n x)(l u:Option Int):Txn n (Txt.slice x l u):=⟨fun c hc=>h.1 c (KD x l u c hc),xC (Txt.slice_le x l u) h.2⟩
theorem Txn.one{c:Nat}(h:c<=127):Txn 1 (ch c):=⟨fun d hd=>by
 have:d=c:=by simpa using hd
 omega,by simp[Str.length]⟩
theorem KY{d:Deed}(h:d.Ok):∀ p∈d.words,∀ c∈p.cps.toList,c<=127:=by
 have lw:∀ p∈([Str.ofString "hang",Str.ofString "fold",Str.ofString "twin",Str.ofString "wish",Str.ofString "wax",Str.ofString "dip",Str.ofString "boil",Str.ofString "brew"]:List Str),∀ c∈p.cps.toList,c<=127:=by decide +kernel
 have nm:∀ {n:Str},Nm n->∀ c∈n.cps.toList,c<=127:=fun {n} hn c hc=>by have:=(hn.2.2 c hc).2;omega
 have nb:∀ {i:Int},Nb i->∀ c∈(tS i).cps.toList,c<=127:=fun {i} hi c hc=>by have:=(zgx hi c hc).2;omega
 have sh:∀ {sh:List Int},(∀ x∈sh,0<=x/\x<=9)->∀ c∈(shS sh).cps.toList,c<=127:=fun {sh} hs c hc=>by
  by_cases hne:sh= []
  ·subst hne
   have:(shS []).cps.toList= [45]:=by decide +kernel
   rw[this]at hc
   have:c=45:=by simpa using hc
   omega
  ·obtain⟨cs,e,_,h2,_⟩:=zbB hs hne
   rw[e]at hc
   have:=(h2 c (by simpa using hc)).2
   omega
 cases d with
 |hang n k=>simp only[Deed.words,xq];exact⟨lw _ (by simp),nm h.1,nb h.2,by simp⟩
 |fold n=>simp only[Deed.words,xq];exact⟨lw _ (by simp),nm h,by simp⟩
 |twin n m=>simp only[Deed.words,xq];exact⟨lw _ (by simp),nm h.1,nm h.2,by simp⟩
 |wish n k sh'=>simp only[Deed.words,xq];exact⟨lw _ (by simp),nm h.1,nb h.2.1,sh h.2.2.2,by simp⟩
 |wax n cs=>simp only[Deed.words,xq];exact⟨lw _ (by simp),nm h.1,fun y hy=>by obtain⟨i,hi,rfl⟩:=xI.mp hy;exact nb (h.2.2 i hi)⟩
 |dip ns k=>simp only[Deed.words,xq];exact⟨lw _ (by simp),nb h.2.2,fun y hy=>nm (h.2.1 y hy)⟩
 |boil ns=>simp only[Deed.words,xq];exact⟨lw _ (by simp),fun y hy=>nm (h.2 y hy)⟩
 |brew k=>simp only[Deed.words,xq];exact⟨lw _ (by simp),nb h,by simp⟩
theorem VZ{k:Nat}(hk:k<=127):∀ {l:List Str},(∀ p∈l,∀ c∈p.cps.toList,c<=127)->∀ c∈(Str.join (ch k) l).cps.toList,c<=127
 |[],_,c,h=>by simp[Str.join,Str.empty]at h
 |[x],h,c,hc=>h x (by simp) c hc
 |x::y::r,h,c,hc=>by
  rw[Zk]at hc
  rcases xE.mp hc with z | z
  ·exact h x (by simp) c z
  ·rcases xu.mp z with z | z
   ·omega
   ·exact VZ hk (l:=y::r) (fun p hp=>h p (xj _ hp)) c z
theorem zdo{d:Deed}(h:d.Ok):Txn 130 d.row:=by
 refine⟨?_,zdn h⟩
 unfold Deed.row
 rw[km]
 exact VZ (by decide) (KY h)
noncomputable def yO (cf:CF):Prop:=∀ b,zu b->∃ (c:Nat) (b':OV),c<=127/\zu b'/\cf "_law_sign" [b]=.ok (.d (.str (ch c))) [some b']
theorem ki{S:Str}{n:Nat}(hn:S.length=n)(ha:∀ c∈S.cps.toList,c<=127){i:Int}(h0:0<=i)(h1:i<n):∃ c:Nat,atI S.cps.toList i=some c/\c<=127:=by
 have hl:i.toNat<S.cps.toList.length:=by rw[jl,hn];omega
 have e:i=((i.toNat:Nat):Int):=by omega
 refine⟨S.cps.toList[i.toNat],?_,ha _ (uo hl)⟩
 generalize hx:S.cps.toList[i.toNat]=x
 have hx':S.cps.toList[i.toNat]?=some x:=by rw[xD hl,hx]
 have:=zX hx'
 rw[<- e]at this
 exact this
theorem zdJ(cf:CF)(ht:jU cf){b:OV}(hb:zu b):∃ (c:Nat) (b':OV),c<=127/\zu b'/\runI 2 [true] [0] Z8 cf [b]=.ok (.d (.str (ch c))) [some b']:=by
 obtain⟨r1,b1,h1,h1',hb1,e1⟩:=ht b hb 2 (by decide) (by decide)
 have L97:1<=(Str.ofString " !\"#$&'()*+,-./0123456789:;<=>?@ABCDEFGHIJKLMNOPQRSTUVWXYZ[\\]^_`abcdefghijklmnopqrstuvwxyz{|}~\n").length/\(Str.ofString " !\"#$&'()*+,-./0123456789:;<=>?@ABCDEFGHIJKLMNOPQRSTUVWXYZ[\\]^_`abcdefghijklmnopqrstuvwxyz{|}~\n").length<=200:=by decide +kernel
 have L18:(Str.ofString " 0123456789-*.abz\n").length=18:=by decide +kernel
 have A97:∀ c∈(Str.ofString " !\"#$&'()*+,-./0123456789:;<=>?@ABCDEFGHIJKLMNOPQRSTUVWXYZ[\\]^_`abcdefghijklmnopqrstuvwxyz{|}~\n").cps.toList,c<=127:=by decide +kernel
 have A18:∀ c∈(Str.ofString " 0123456789-*.abz\n").cps.toList,c<=127:=by decide +kernel
 unfold Z8
 generalize Str.ofString " !\"#$&'()*+,-./0123456789:;<=>?@ABCDEFGHIJKLMNOPQRSTUVWXYZ[\\]^_`abcdefghijklmnopqrstuvwxyz{|}~\n" =S at *
 generalize Str.ofString " 0123456789-*.abz\n" =S' at *
 have hz97:S.length<=1000000:=by omega
 have hz18:S'.length<=1000000:=by omega
 by_cases hr:r1=0
 ·obtain⟨r2,b2,h2,h2',hb2,e2⟩:=ht b1 hb1 S.length (by omega) (by omega)
  obtain⟨c,hc,hc'⟩:=ki (n:=S.length) rfl A97 h2 h2'
  refine⟨c,b2,hc',hb2,?_⟩
  simp![e1,hr,zC,v8,hz97,e2,hc,zk,zt,za]
 ·obtain⟨r2,b2,h2,h2',hb2,e2⟩:=ht b1 hb1 18 (by decide) (by decide)
  obtain⟨c,hc,hc'⟩:=ki L18 A18 h2 h2'
  refine⟨c,b2,hc',hb2,?_⟩
  simp![e1,hr,zC,v8,hz18,e2,hc,zk,zt,za]
noncomputable def VC (cf:CF):Prop:=∀ b x n,zu b->n<=100000->Txn n x->∃ (y:Str) (b':OV),Txn (4*n+3) y/\zu b'/\cf "_law_spoilt" [b,.d (.str x)]=.ok (.d (.str y)) [some b',none]
theorem ym(cf:CF)(ht:jU cf)(hg:yO cf){b:OV}(hb:zu b){n:Nat}(hn:n<=300000){x:Str}(h:Txn n x){o2 o3 o4:Option OV}:∃ (y:Str) (b':OV) (o3' o4':Option OV),Txn (2*n+1) y/\zu b'/\b_law_spoilt_1.ex cf [0] [some b,some (.d (.str x)),o2,o3,o4]=.ok (.next,[some b',some (.d (.str y)),o2,o3',o4']):=by
 obtain⟨r1,b1,h1,h1',hb1,e1⟩:=ht b hb (x.length+1) (by omega) (by have:=h.2;omega)
 obtain⟨r2,b2,h2,h2',hb2,e2⟩:=ht b1 hb1 4 (by decide) (by decide)
 obtain⟨c,b3,hc,hb3,e3⟩:=hg b2 hb2
 have hz:x.length<=1000000:=by have:=h.2;omega
 have t0:=Txn.one hc
 have t1:=h.cut none (some r1)
 have t2:=h.cut (some r1) none
 have t3:=h.cut (some (r1+1)) none
 have t4:=h.cut (some (if 2<r1 then r1-2 else 0)) none
 have t5:=t1.app t0
 have u2:=t5.app t2
 have u3:=t5.app t3
 have u1:=t1.app t3
 have u4:=t1.app t4
 have l5:(Txt.slice x none (some r1)).length+(ch c).length<=1000000:=by have:=t1.2;have:=t0.2;omega
 have l2:(Txt.slice x none (some r1)++ch c).length+(Txt.slice x (some r1) none).length<=1000000:=by have:=t5.2;have:=t2.2;omega
 have l3:(Txt.slice x none (some r1)++ch c).length+(Txt.slice x (some (r1+1)) none).length<=1000000:=by have:=t5.2;have:=t3.2;omega
 have l1:(Txt.slice x none (some r1)).length+(Txt.slice x (some (r1+1)) none).length<=1000000:=by have:=t1.2;have:=t3.2;omega
 have l4:(Txt.slice x none (some r1)).length+(Txt.slice x (some (if 2<r1 then r1-2 else 0)) none).length<=1000000:=by have:=t1.2;have:=t4.2;omega
 generalize ch c=cc at *
 unfold b_law_spoilt_1
 by_cases q0:r2=0
 ·refine⟨_,b3,some (.d (.int r1)),some (.d (.int r2)),u2.mono (by omega),hb3,?_⟩
  simp![e1,e2,e3,q0,zC,qv,Z1,qW,qX,hz,l5,l2,zk,zt,za]
 ·by_cases q1:r2=1
  ·refine⟨_,b2,some (.d (.int r1)),some (.d (.int r2)),u1.mono (by omega),hb2,?_⟩
   simp![e1,e2,e3,q0,q1,zC,qv,Z1,qW,qX,hz,l1,zk,zt,za]
  ·by_cases q2:r2=2
   ·refine⟨_,b3,some (.d (.int r1)),some (.d (.int r2)),u3.mono (by omega),hb3,?_⟩
    simp![e1,e2,e3,q0,q1,q2,zC,qv,Z1,qW,qX,hz,l5,l3,zk,zt,za]
   ·refine⟨_,b2,some (.d (.int r1)),some (.d (.int r2)),u4.mono (by omega),hb2,?_⟩
    simp![e1,e2,e3,q0,q1,q2,zC,qv,Z1,qW,qX,hz,l4,zk,zt,za]
theorem KE(cf:CF)(ht:jU cf)(hg:yO cf){b:OV}(hb:zu b){n:Nat}(hn:n<=100000){x:Str}(h:Txn n x):∃ (y:Str) (b':OV),Txn (4*n+3) y/\zu b'/\runI 5 [true,false] [0] jV cf [b,.d (.str x)]=.ok (.d (.str y)) [some b',none]:=by
 obtain⟨r1,b1,h1,h1',hb1,e1⟩:=ht b hb 2 (by decide) (by decide)
 obtain⟨Γ',e,⟨m,y,b',o2,o3,o4,hm0,hm1,hm2,hy,hb',rfl⟩⟩:=V4 (t:=.nm 2 2) (body:=b_law_spoilt_1.ex cf [0]) (ds:=qp (1+r1).toNat) (Γ:= [some b1,some (.d (.str x)),none,none,none])
  (fun pre Γ=>∃ (m:Nat) (y:Str) (b':OV) (o2 o3 o4:Option OV),(pre.length=0->m<=n)/\(pre.length=1->m<=2*n+1)/\(pre.length=2->m<=4*n+3)/\Txn m y/\zu b'/\Γ= [some b',some (.d (.str y)),o2,o3,o4]) ⟨n,x,b1,none,none,none,fun _=>xi _,by simp,by simp,h,hb1,rfl⟩ (by
   rintro pre d post e Γ ⟨m,y,b',o2,o3,o4,hm0,hm1,hm2,hy,hb',rfl⟩
   have hp:pre.length=0∨pre.length=1:=by
    have:=congrArg List.length e
    rw[zh,xF,xk]at this
    omega
   obtain⟨z,b2,o3',o4',hz,hb2,e2⟩:=ym cf ht hg hb' (n:=m) (by omega) hy (o2:=some (.d d)) (o3:=o3) (o4:=o4)
   refine⟨_,_,rfl,e2,2*m+1,z,b2,_,_,_,?_,?_,?_,hz,hb2,rfl⟩<;>rw[xF,List.length_singleton]<;>intro q<;>omega)
 rw[zh]at hm0 hm1 hm2
 refine⟨y,b',hy.mono (by omega),hb',?_⟩
 have hz1: -1000000<=1+r1/\1+r1<=1000000:=by omega
 unfold jV
 generalize b_law_spoilt_1=B at *
 simp![e1,e,hz1,za]
noncomputable def zaI:List Str->IL
 |[]=>.nil
 |s::r=>.cons (.cstr s) (zaI r)
theorem zaJ(cf:CF)(Γ:Gv):∀ ss:List Str,(zaI ss).ev cf Γ=.ok (ss.map fun s=>.dat (.str s),Γ)
 |[]=>rfl
 |s::r=>by
  have ih:=zaJ cf Γ r
  simp only[zaI,IL.ev,IE.ev,fCons,fC,R.bind,ih]
  rfl
theorem YG(Γ:Gv):∀ ss:List Str,derSs Γ (ss.map fun s=>.dat (.str s))=some (ss.map .str)
 |[]=>rfl
 |s::r=>by
  have ih:=YG Γ r
  simp[derSs,derS,ih]
noncomputable def oddS:List Str:=(["","boil","boil "," boil","dip","dip 0","dip 0 ","dip 00","dip -1","wax","wax a","wax a 01","hang a","hang a 1000000","hang abcdefghi 1","hang a 0","wish a 0 -","wish a 0 0-","wish a 0 0123456789012","wish a 0 012345678901","wish a 0","fold","fold a b","twin a","twin a a","twin a b c","brew","brew 0 0","brew +1","BOIL","boil A","boil a  b","brew 1 ","wax a 1 b","dip a","boil a1","brew 999999"]:List String).map Str.ofString
theorem zfw:jt=.cons (.asg 1 1 (.dat (.new (.lst (zaI oddS))))) (.cons (.ret (.dat (.ix (.var 1 1) (.call (.call "_law_take" 2 (.io 0 0 (.cons (.len (.var 1 1)) .nil))))))) .nil):=rfl
noncomputable def zeh (cf:CF):Prop:=∀ b,zu b->∃ (y:Str) (b':OV),Txn 40 y/\zu b'/\cf "_law_odd_row" [b]=.ok (.d (.str y)) [some b']
theorem zfx(cf:CF)(ht:jU cf){b:OV}(hb:zu b):∃ (y:Str) (b':OV),Txn 40 y/\zu b'/\runI 2 [true] [0] jt cf [b]=.ok (.d (.str y)) [some b']:=by
 have hl:1<=oddS.length/\oddS.length<=100:=by decide +kernel
 have ha:∀ y∈oddS,(∀ c∈y.cps.toList,c<=127)/\y.length<=40:=by decide +kernel
 have e0:=fun Γ=>zaJ cf Γ oddS
 have e3:=fun Γ=>YG Γ oddS
 rw[zfw]
 generalize oddS=ss at *
 generalize zaI ss=L at *
 obtain⟨r,b1,h1,h1',hb1,e1⟩:=ht b hb ss.length (by omega) (by omega)
 have hr:r.toNat<ss.length:=by omega
 have hx:(ss.map PyData.str)[r.toNat]?=some (.str ss[r.toNat]):=by rw[xA,xD hr];rfl
 have hat:=zX hx
 have e:((r.toNat:Nat):Int)=r:=by omega
 rw[e]at hat
 have hlen:(ss.map PyData.str).length=ss.length:=xt ..
 have hz:ss.length<=1000000:=by omega
 refine⟨ss[r.toNat],b1,ha _ (uo hr),hb1,?_⟩
 generalize ss[r.toNat]=y at *
 generalize ss.map PyData.str=DS at *
 rw[<- hlen]at e1
 simp![e0,e3,e1,hat,hz,za]
noncomputable def vN (cf:CF):Prop:=∀ xs:List PyData,(∀ x∈xs,yN x)->lay 20 (.tuple xs)=true->xs.length<=1000->cf "_law_same_deed" [.d (.tuple xs),.d (.tuple xs)]=.ok (.d (.bool true)) [none,none]
noncomputable def Good(xs:List PyData):Prop:=(∀ x∈xs,yN x)/\(∀ x∈xs,lay 19 x=true)/\xs.length<=1000
theorem zm{x:PyData}{xs:List PyData}(h1:yN x)(h2:lay 19 x=true)(h:Good xs)(hl:xs.length<=999):Good (x::xs) :=
 ⟨xq.mpr ⟨h1,h.1⟩,xq.mpr ⟨h2,h.2.1⟩,by simp;omega⟩
theorem qK:Good []:=⟨by simp,by simp,by simp⟩
theorem JM{xs:List PyData}(h:∀ x∈xs,lay 18 x=true):lay 19 (.tuple xs)=true:=YT h
theorem Ky{r:List Str}(hr:∀ w∈r,Tx w)(hl:r.length<=450000){k:Nat}{xs:List PyData}(e:yf k r=some xs):Good xs:=by
 have stx:∀ {ns:List Str},(∀ w∈ns,Tx w)->ns.length<=450000->yN (.tuple (ns.map .str))/\lay 19 (.tuple (ns.map .str))=true:=fun {ns} h l=>
  ⟨⟨fun y hy=>by obtain⟨n,_,rfl⟩:=xI.mp hy;trivial,by simp;omega⟩,JM fun y hy=>by obtain⟨n,hn,rfl⟩:=xI.mp hy;exact (h n hn).ok 18⟩
 have nums:∀ {ns:List Str},ns.length<=450000->yN (.tuple (ns.map zN))/\lay 19 (.tuple (ns.map zN))=true:=fun {ns} l=>
  ⟨⟨fun y hy=>by obtain⟨n,_,rfl⟩:=xI.mp hy;trivial,by simp;omega⟩,JM fun y hy=>by obtain⟨n,hn,rfl⟩:=xI.mp hy;rfl⟩
 have w0:=zl "hang" 19
 have w1:=zl "fold" 19
 have w2:=zl "twin" 19
 have w3:=zl "wish" 19
 have w4:=zl "wax" 19
 have w5:=zl "dip" 19
 have w6:=zl "boil" 19
 have w7:=zl "brew" 19
 unfold yf at e
 split at e
 ·unfold Zq at e
  split at e
  ·rename_i a b
   split at e
   ·cases e
    exact zm trivial w0 (zm trivial ((hr a (by simp)).ok 19) (zm trivial rfl qK (by simp)) (by simp)) (by simp)
   ·cases e
  ·cases e
 ·unfold QU at e
  split at e
  ·rename_i a
   split at e
   ·cases e
    exact zm trivial w1 (zm trivial ((hr a (by simp)).ok 19) qK (by simp)) (by simp)
   ·cases e
  ·cases e
 ·unfold Zr at e
  split at e
  ·rename_i a b
   split at e
   ·cases e
    exact zm trivial w2 (zm trivial ((hr a (by simp)).ok 19) (zm trivial ((hr b (by simp)).ok 19) qK (by simp)) (by simp)) (by simp)
   ·cases e
  ·cases e
 ·unfold jM at e
  split at e
  ·rename_i a b c
   split at e
   ·cases e
    have pc:yN (.tuple (shD c))/\lay 19 (.tuple (shD c))=true:=by
     unfold shD
     split
     ·exact⟨⟨by simp,by simp⟩,rfl⟩
     ·refine⟨⟨fun y hy=>by obtain⟨n,_,rfl⟩:=xI.mp hy;trivial,?_⟩,JM fun y hy=>by obtain⟨n,hn,rfl⟩:=xI.mp hy;rfl⟩
      rw[xt,jl]
      have:=(hr c (by simp)).2;omega
    exact zm trivial w3 (zm trivial ((hr a (by simp)).ok 19) (zm trivial rfl (zm pc.1 pc.2 qK (by simp)) (by simp)) (by simp)) (by simp)
   ·cases e
  ·cases e
 ·unfold ye at e
  split at e
  ·cases e
  ·rename_i a cs
   split at e
   ·cases e
    have p:=nums (ns:=cs) (by simp at hl;omega)
    exact zm trivial w4 (zm trivial ((hr a (by simp)).ok 19) (zm p.1 p.2 qK (by simp)) (by simp)) (by simp)
   ·cases e
 ·unfold yd at e
  split at e
  ·cases e
  ·rename_i a ns
   split at e
   ·cases e
    have p:=stx (ns:=ns) (fun w h=>hr w (.tail _ h)) (by simp at hl;omega)
    exact zm trivial w5 (zm p.1 p.2 (zm trivial rfl qK (by simp)) (by simp)) (by simp)
   ·cases e
 ·unfold w9 at e
  split at e
  ·cases e
   have p:=stx hr hl
   exact zm trivial w6 (zm p.1 p.2 qK (by simp)) (by simp)
  ·cases e
 ·unfold QT at e
  split at e
  ·rename_i a
   split at e
   ·cases e
    exact zm trivial w7 (zm trivial rfl qK (by simp)) (by simp)
   ·cases e
  ·cases e
 ·cases e
theorem Kw{row:Str}(h:Tx row){xs:List PyData}(e:Ze row=some xs):Good xs:=by
 obtain⟨w,r,es,hw,hl⟩:=QX h 32
 rw[<- km]at es
 have er:Ze row=Zs w r:=by unfold Ze;rw[es]
 rw[er,Y8]at e
 exact Ky (fun y hy=>hw y (.tail _ hy)) hl e
theorem Good.lay{xs:List PyData}(h:Good xs):lay 20 (.tuple xs)=true:=YT h.2.1
theorem Kx {cf:CF}(hs:vN cf){row:Str}(h:Tx row){xs:List PyData}(e:Ze row=some xs):cf "_law_same_deed" [.d (.tuple xs),.d (.tuple xs)]=.ok (.d (.bool true)) [none,none]:=by
 have g:=Kw h e
 exact hs xs g.1 g.lay g.2.2
theorem YI{A l:Str}(hl:l.cps.toList≠ [])(hn:10∉l.cps.toList):Txt.endswith (A++l) (ch 10)=false:=by
 cases q:Txt.endswith (A++l) (ch 10) with
 |false=>rfl
 |true=>
  exfalso
  unfold Txt.endswith at q
  rw[xa,StrLaws.subAt_eq]at q
  have q2:=q.2
  have h1:(ch 10).cps.toList= [10]:=rfl
  have h2:(ch 10).length=1:=rfl
  have hlen:(A++l).length=A.cps.toList.length+l.cps.toList.length:=by rw[YU,jl,jl]
  rw[h2,jA,hlen]at q2
  generalize A.cps.toList=a at *
  generalize l.cps.toList=m at *
  have hp:0<m.length:=List.length_pos_iff.mpr hl
  have e:a.length+m.length-1=a.length+(m.length-1):=by omega
  rw[e,List.drop_append]at q2
  have e1:a.drop (a.length+(m.length-1))= []:=List.drop_of_length_le (by omega)
  have e2:a.length+(m.length-1)-a.length=m.length-1:=by omega
  rw[e1,e2,xZ]at q2
  have hi:m.length-1<m.length:=by omega
  rw[uq hi]at q2
  have q3:=eq_of_beq q2
  rw[List.take_succ_cons,List.take_zero,h1,List.cons.injEq]at q3
  have:=uo hi
  rw[q3.1]at this
  exact hn this
theorem yS{T:Str}(h:Tx T):∃ (qs:List Str) (l:Str),Txt.split T (ch 10)=qs++ [l]/\(∀ y∈qs,Tx y)/\Tx l/\qs.length<=450000 /\
  ((l=Str.ofString "" /\qs= []/\T=Str.ofString "")∨(l=Str.ofString "" /\qs≠ []/\T≠Str.ofString "" /\Txt.endswith T (ch 10)=true/\Txt.split (Txt.slice T none (some (-1))) (ch 10)=qs)∨(l≠Str.ofString "" /\T≠Str.ofString "" /\Txt.endswith T (ch 10)=false)):=by
 obtain⟨w,r,e,hw,hl⟩:=QX h 10
 have hj:=StrLaws.join_split T (ch 10)
 have hf:=StrLaws.split_free T 10
 have emp:(Str.ofString "").cps.toList= []:=by decide +kernel
 rw[e]at hj hf
 have hne:w::r≠ []:=by simp
 refine⟨(w::r).dropLast,(w::r).getLast hne,by rw[e,List.dropLast_concat_getLast],fun y hy=>hw y (List.dropLast_subset _ hy),hw _ (List.getLast_mem hne),by simp;omega,?_⟩
 have hx:=List.dropLast_concat_getLast hne
 have hf1:∀ y∈(w::r).dropLast,10∉y.cps.toList:=fun y hy=>hf y (List.dropLast_subset _ hy)
 have hf2:10∉((w::r).getLast hne).cps.toList:=hf _ (List.getLast_mem hne)
 generalize (w::r).getLast hne=l at *
 generalize (w::r).dropLast=qs at *
 rw[<- hx]at hj
 by_cases q:l=Str.ofString ""
 ·by_cases q2:qs= []
  ·refine .inl ⟨q,q2,?_⟩
   rw[q2,xZ,wO]at hj
   rw[<- hj,q]
  ·refine .inr (.inl ⟨q,q2,?_⟩)
   rw[jL (ch 10) l q2]at hj
   have hj2:Str.join (ch 10) qs++ch 10=T:=by
    rw[<- hj]
    apply qZ
    rw[jA (Str.join (ch 10) qs++ch 10),q,emp,xN]
   rw[<- hj2]
   refine⟨fun z=>?_,zcF _ _,?_⟩
   ·have:=congrArg (fun s:Str=>s.cps.toList) z
    rw[jA,emp]at this
    simp at this
   ·rw[ze6]
    exact zbI q2 hf1
 ·have hl0:l.cps.toList≠ []:=fun z=>q (qZ (by rw[z,emp]))
  refine .inr (.inr ⟨q,?_⟩)
  by_cases q2:qs= []
  ·rw[q2,xZ,wO]at hj
   subst hj
   refine⟨q,?_⟩
   have:=YI (A:=Str.ofString "") hl0 hf2
   have e0:Str.ofString "" ++l=l:=qZ (by rw[jA,emp,xZ])
   rw[e0]at this
   exact this
  ·rw[jL (ch 10) l q2]at hj
   rw[<- hj]
   refine⟨fun z=>?_,YI hl0 hf2⟩
   have:=congrArg (fun s:Str=>s.cps.toList) z
   rw[jA,emp]at this
   exact hl0 (List.append_eq_nil_iff.mp this).2
theorem zan{α:Type}(xs:List α)(x:α):Ws (xs++ [x]) none (some (-1))=xs:=by
 unfold Ws
 have h1:HT.sIx (xs++ [x]).length 0 none=0:=rfl
 have h2:HT.sIx (xs++ [x]).length (xs++ [x]).length (some (-1))=xs.length:=by
  unfold HT.sIx
  simp
  omega
 rw[h1,h2]
 simp
noncomputable def qx(y:Str):Bool:=(Ze y).isSome
noncomputable def qu(y:Str):PyData:=mnD (Ze y)
theorem Vo{y:Str}(h:qx y=true):∃ xs,Ze y=some xs/\qu y=.tuple xs:=by
 unfold qx at h
 cases q:Ze y with
 |none=>rw[q]at h;cases h
 |some xs=>exact⟨xs,rfl,by unfold qu;rw[q];rfl⟩
theorem zbn{y:Str}(h:qx y=false):Ze y=none/\qu y=.none:=by
 unfold qx at h
 cases q:Ze y with
 |none=>exact⟨rfl,by unfold qu;rw[q];rfl⟩
 |some xs=>rw[q]at h;cases h
theorem zdp(cf:CF)(hr:vM cf){qs:List Str}(h:∀ y∈qs,Tx y)(D:OV):zF 1 (.nm 0 1) fYes (p_book_read_1.ev cf).1 (qs.map .str) [] [some D]=if qs.all qx then .ok (qs.map qu,[some D]) else .exc nod [some D] :=
 wB .str qu qx nod fun y hy=>⟨[some D,some (.d (.str y))],rfl,fun q=>by
   obtain⟨xs,e1,e2⟩:=Vo q
   have e:=hr y (h y hy)
   rw[e1]at e
   simp only[out]at e
   refine⟨.dat (.tuple xs),[some D,some (.d (.str y))],?_,by rw[e2];rfl,rfl⟩
   unfold p_book_read_1
   simp![e,za],fun q=>by
   obtain⟨e1,e2⟩:=zbn q
   have e:=hr y (h y hy)
   rw[e1]at e
   simp only[out]at e
   refine⟨[some D,some (.d (.str y))],?_,rfl⟩
   unfold p_book_read_1
   simp![e,za]⟩
noncomputable def wm (qs:List Str) (l:Str):RF:=if decide (l=Str.ofString "")&&qs.all qx then .ok (.l ((qs.map qu).map .d)) [none] else .exc nod [none]
theorem yT(cf:CF)(hr:vM cf){T:Str}(h:Tx T){qs:List Str}{l:Str}(hq:∀ y∈qs,Tx y)(hql:qs.length<=450000)
  (hc:(l=Str.ofString "" /\qs= []/\T=Str.ofString "")∨(l=Str.ofString "" /\qs≠ []/\T≠Str.ofString "" /\Txt.endswith T (ch 10)=true/\Txt.split (Txt.slice T none (some (-1))) (ch 10)=qs)∨(l≠Str.ofString "" /\T≠Str.ofString "" /\Txt.endswith T (ch 10)=false)) :
  runI 1 [false] [] qL cf [.d (.str T)]=wm qs l:=by
 have lt:=h.ok 20
 have le:lay 20 (.str (Str.ofString ""))=true:=zl "" 20
 have qe:=qF T (Str.ofString "")
 have hz:=h.len
 have hz9:(Txt.slice T none (some (-1))).length<=900000:=by have:=Txt.slice_le T none (some (-1));have:=h.2;omega
 have hlf:((Str.ofString "\n").length==0)=false:=by decide
 unfold wm
 rcases hc with ⟨e1,e2,e3⟩ | ⟨e1,e2,e3,e4,e5⟩ | ⟨e1,e3,e4⟩
 ·rw[decide_eq_true e3]at qe
  rw[decide_eq_true e1,e2]
  unfold qL
  generalize p_book_read_1=B at *
  generalize Str.ofString "" =EE at *
  simp![qe,lt,le]
 ·rw[decide_eq_false e3]at qe
  rw[decide_eq_true e1]
  have lp:=zdp cf hr hq (.d (.str T))
  have hzq:qs.length<=1000000:=by omega
  rw[<- YW]at e4 e5
  unfold qL
  generalize p_book_read_1=B at *
  generalize Str.ofString "" =EE at *
  generalize Str.ofString "\n" =LF at *
  cases q:qs.all qx with
  |true=>
   rw[q,if_pos rfl]at lp
   generalize qs.map qu=RD at *
   simp![qe,lt,le,vg,e4,Z1,qW,qX,qj,hz,hz9,hlf,e5,lp,hzq]
  |false=>
   rw[q,if_neg (by decide)]at lp
   simp![qe,lt,le,vg,e4,Z1,qW,qX,qj,hz,hz9,hlf,e5,lp,hzq]
 ·rw[decide_eq_false e3]at qe
  rw[decide_eq_false e1]
  rw[<- YW]at e4
  unfold qL
  generalize p_book_read_1=B at *
  generalize Str.ofString "" =EE at *
  generalize Str.ofString "\n" =LF at *
  simp![qe,lt,le,vg,e4,nod,Za]
noncomputable def YA(cf:CF):Prop:=∀ (T:Str) (qs:List Str) (l:Str),Tx T->(∀ y∈qs,Tx y)->qs.length<=450000 ->
 ((l=Str.ofString "" /\qs= []/\T=Str.ofString "")∨(l=Str.ofString "" /\qs≠ []/\T≠Str.ofString "" /\Txt.endswith T (ch 10)=true/\Txt.split (Txt.slice T none (some (-1))) (ch 10)=qs)∨(l≠Str.ofString "" /\T≠Str.ofString "" /\Txt.endswith T (ch 10)=false)) ->
 cf "book_read" [.d (.str T)]=wm qs l
theorem yi (cf:CF){xs:List PyData}(hs:∀ x∈xs,cf "_law_same_deed" [.d x,.d x]=.ok (.d (.bool true)) [none,none]) (hl:xs.length<=500000):runI 2 [false,false] [] zT cf [.d (.list xs),.d (.list xs)]=.ok (.d (.bool true)) [none,none]:=by
 have e:=qi (k:=2) (t:=.tp (.cons (.nm 0 2) (.cons (.nm 1 3) .nil))) (elt:=(b_law_same_deeds_1.ev cf).1) (fun d:PyData=>PyData.tuple [d,d]) (fun _=>PyData.bool true) (xs:=xs) (Γ:= [some (.d (.list xs)),some (.d (.list xs))]) fun d hd=>by
  have e:=hs d hd
  refine⟨[some (.d (.list xs)),some (.d (.list xs)),some (.d d),some (.d d)],.dat (.bool true),[some (.d (.list xs)),some (.d (.list xs)),some (.d d),some (.d d)],rfl,?_,rfl,rfl⟩
  unfold b_law_same_deeds_1
  generalize PyData.list xs=X0 at *
  simp![e,za]
 have hzd:WP xs xs=xs.map fun d=>PyData.tuple [d,d]:=by
  have:=yJ (fun x:PyData=>x) xs
  rw[List.map_id']at this;exact this
 have hz:(xs.map fun d=>PyData.tuple [d,d]).length<=1000000:=by simp;omega
 have eb:=zag xs
 unfold zT
 generalize b_law_same_deeds_1=B at *
 generalize (xs.map fun d=>PyData.tuple [d,d])=ZZ at *
 generalize (xs.map fun _=>PyData.bool true)=TT at *
 simp![zcJ,hzd,e,eb,hz,zk,zt,za]
noncomputable def VB (cf:CF):Prop:=∀ qs:List Str,(∀ y∈qs,Tx y)->qs.all qx=true->qs.length<=450000->cf "_law_same_deeds" [.d (.list (qs.map qu)),.d (.list (qs.map qu))]=.ok (.d (.bool true)) [none,none]
theorem Kz(cf:CF)(hs:vN cf){qs:List Str}(h:∀ y∈qs,Tx y)(ha:qs.all qx=true)(hl:qs.length<=450000):runI 2 [false,false] [] zT cf [.d (.list (qs.map qu)),.d (.list (qs.map qu))]=.ok (.d (.bool true)) [none,none] :=
 yi cf (fun x hx=>by
  obtain⟨y,hy,rfl⟩:=xI.mp hx
  obtain⟨xs,e1,e2⟩:=Vo (xB.mp ha y hy)
  rw[e2]
  exact Kx hs (h y hy) e1) (by simp;omega)
end Wx
namespace L3
open PySem L2
section
variable [Cs] {K:PySem.W.Frag} {mg:Str->Option Value} {h:Heap} {d:DefI}
theorem el0{α:Type}{P:List α->Prop}(h:P []):∀ us:List α,us.length=0->P us:=fun us e=>by
 rw[List.length_eq_zero_iff.mp e];exact h
theorem el1{α:Type}{P:List α->Prop}(h:∀ a0,P [a0]):∀ us:List α,us.length=1->P us:=fun us e=>by
 match us,e with
 |[a0],_=>exact h a0
theorem el2{α:Type}{P:List α->Prop}(h:∀ a0 a1,P [a0,a1]):∀ us:List α,us.length=2->P us:=fun us e=>by
 match us,e with
 |[a0,a1],_=>exact h a0 a1
noncomputable def biOk(K:PySem.W.Frag)(L:List Str):Bool:=L.all fun x=>match PySem.W.nsIn K mainGlobals x with
 |some none=>true
 |_=>false
theorem bi_all{L:List Str}(X:K.In h)(G:h.Ns mainGlobals mg)(hk:biOk K L=true)(x:Str)(hx:L.contains x=true):mg x=none:=by
 have:=xB.mp hk x (xQ.mp hx)
 split at this
 ·exact PySem.W.mg_none_of X G (by assumption)
 ·cases this
noncomputable def giOk(K:PySem.W.Frag)(L:List (Str×Int)):Bool:=L.all fun p=>match PySem.W.nsIn K mainGlobals p.1 with
 |some (some (.int i _))=>decide (i=p.2)
 |_=>false
theorem gi_of{L:List (Str×Int)}(X:K.In h)(G:h.Ns mainGlobals mg)(hk:giOk K L=true)(x:Str)(i:Int)(hx:L.contains (x,i)=true):∃ t,mg x=some (.int i t):=by
 have:=xB.mp hk _ (xQ.mp hx)
 split at this
 ·rename_i e
  exact⟨_,(PySem.W.mg_of X G e).trans (by rw[of_decide_eq_true this])⟩
 ·cases this
noncomputable def gsOk(K:PySem.W.Frag)(L:List (Str×Str)):Bool:=L.all fun p=>match PySem.W.nsIn K mainGlobals p.1 with
 |some (some (.str i _))=>decide (i=p.2)
 |_=>false
theorem gs_of{L:List (Str×Str)}(X:K.In h)(G:h.Ns mainGlobals mg)(hk:gsOk K L=true)(x:Str)(i:Str)(hx:L.contains (x,i)=true):∃ t,mg x=some (.str i t):=by
 have:=xB.mp hk _ (xQ.mp hx)
 split at this
 ·rename_i e
  exact⟨_,(PySem.W.mg_of X G e).trans (by rw[of_decide_eq_true this])⟩
 ·cases this
noncomputable def exOk(K:PySem.W.Frag)(L:List Str):Bool:=L.all fun x=>match PySem.W.nsIn K mainGlobals x with
 |some (some (.ref a))=>PySem.W.excIn K a bmV "ValueError.__new__" &&L.all fun y=>match PySem.W.nsIn K mainGlobals y with
  |some (some (.ref b))=>decide ((mroIn K a).contains (.ref b)=decide (x=y))
  |_=>false
 |_=>false
theorem ex_of {L:List Str}(X:K.In h) (G:h.Ns mainGlobals mg) (hk:exOk K L=true):(∀ x,L.contains x=true->∃ C,mg x=some (.ref C)/\PySem.W.excIn K C bmV "ValueError.__new__" =true)/\∀ x C y C2,L.contains x=true->mg x=some (.ref C)->L.contains y=true->mg y=some (.ref C2)->(mroIn K C).contains (.ref C2)=decide (x=y):=by
 have hk:=xB.mp hk
 refine⟨fun x hx=>?_,fun x C y C2 hx e1 hy e2=>?_⟩
 ·have:=hk x (xQ.mp hx)
  split at this
  ·rename_i e
   simp only[xa]at this
   exact⟨_,PySem.W.mg_of X G e,this.1⟩
  ·cases this
 ·have:=hk x (xQ.mp hx)
  split at this
  ·rename_i e
   simp only[xa]at this
   have h2:=xB.mp this.2 y (xQ.mp hy)
   split at h2
   ·rename_i e'
    rw[PySem.W.mg_of X G e]at e1
    rw[PySem.W.mg_of X G e']at e2
    cases e1
    cases e2
    exact of_decide_eq_true h2
   ·cases h2
  ·cases this
noncomputable def fkOk(K:PySem.W.Frag)(L:List (Str×Str)):Bool:=L.all fun p=>match PySem.W.nsIn K mainGlobals p.1 with
 |some (some (.ref C))=>PySem.W.plainGet K C Str.empty&&(PySem.W.hasDictIn K C&&(PySem.W.plainOver K C&&((match PySem.W.findIn K (.ref C) "__setattr__" with
   |some (some (.builtin b))=>decide (b= "object.__setattr__")
   |_=>false)&&match PySem.W.findIn K (.ref C) p.2 with
   |some none=>true
   |_=>false)))
 |_=>false
theorem fk_all{L:List (Str×Str)}(X:K.In h)(G:h.Ns mainGlobals mg)(hk:fkOk K L=true)(c f:Str)(hx:L.contains (c,f)=true):Cls K ((csOf mg).adr c)/\Z7 K ((csOf mg).adr c) f:=by
 have:=xB.mp hk _ (xQ.mp hx)
 split at this
 ·rename_i e
  simp only[xa]at this
  obtain⟨a1,a2,a3,a4,a5⟩:=this
  refine zgZ X G ⟨e,a1,a2,a3,?_⟩ ?_
  ·split at a4
   ·rename_i e2
    rw[e2,of_decide_eq_true a4]
   ·cases a4
  ·split at a5
   ·assumption
   ·cases a5
 ·cases this
noncomputable def AllX(K:PySem.W.Frag)(mg:Str->Option Value):List DefI->Prop
 |[]=>True
 |d::r=> @Dx (csOf mg) K mg d/\AllX K mg r
theorem dx_all{W:Wd}:{L:List DefI}->AllX K mg L->(L.all fun d=>d.ok W)=true->∀ d∈L,@Dx (csOf mg) K mg d/\d.ok W=true
 |[],_,_=>fun d hd=>nomatch hd
 |e::r,a,ok=>fun d hd=>by
  simp only[uj,xa]at ok
  rcases xu.mp hd with rfl | hd
  ·exact⟨a.1,ok.1⟩
  ·exact dx_all a.2 ok.2 d hd
end
end L3
namespace Wx
open PySem L2 L3
noncomputable def top(i:Nat):Stmt:=PySem.Challenge.pw_waxcloth_k32_a_book_refused.main.body.getD i (.Pass ⟨0,0,0,0⟩)
noncomputable def VQ:DefI:=⟨"is_name",top 10,["text"],["text"],[false],[],JO,.fn⟩
noncomputable def JJ:DefI:=⟨"plain_number",top 11,["text"],["text"],[false],[],qm,.fn⟩
noncomputable def vY:DefI:=⟨"is_plain",top 12,["text"],["text"],[false],[],qA,.fn⟩
noncomputable def JK:DefI:=⟨"plain_shades",top 13,["text"],["text"],[false],[],zB,.fn⟩
noncomputable def wb:DefI:=⟨"are_figures",top 14,["text"],["text"],[false],[],jw,.fn⟩
noncomputable def WA:DefI:=⟨"book_read",top 16,["text"],["text"],[false],[],qL,.fn⟩
noncomputable def WE:DefI:=⟨"read_hang",top 17,["words"],["words"],[false],[],qM,.fn⟩
noncomputable def WD:DefI:=⟨"read_fold",top 18,["words"],["words"],[false],[],jo,.fn⟩
noncomputable def WG:DefI:=⟨"read_twin",top 19,["words"],["words"],[false],[],qN,.fn⟩
noncomputable def WH:DefI:=⟨"read_wish",top 20,["words"],["words"],[false],[],qg,.fn⟩
noncomputable def v0:DefI:=⟨"read_wax",top 21,["words"],["words"],[false],[],j9,.fn⟩
noncomputable def vZ:DefI:=⟨"read_dip",top 22,["words"],["words","dye"],[false],[],j7,.fn⟩
noncomputable def WB:DefI:=⟨"read_boil",top 23,["words"],["words"],[false],[],Zm,.fn⟩
noncomputable def WC:DefI:=⟨"read_brew",top 24,["words"],["words"],[false],[],jn,.fn⟩
noncomputable def zao:DefI:=⟨"read",top 26,["row"],["row","word","words","reader"],[false],[],Vj,.fn⟩
noncomputable def wD:DefI:=⟨"check_many",top 27,["words","many"],["words","many"],[false,false],[],qY,.fn⟩
noncomputable def wE:DefI:=⟨"check_some",top 28,["words"],["words"],[false],[],j6,.fn⟩
noncomputable def WF:DefI:=⟨"read_name",top 29,["text"],["text"],[false],[],Zn,.fn⟩
noncomputable def wc:DefI:=⟨"read_number",top 30,["text"],["text","number"],[false],[],jy,.fn⟩
noncomputable def wd:DefI:=⟨"read_shades",top 31,["text"],["text","shades"],[false],[],jz,.fn⟩
noncomputable def VO:DefI:=⟨"_law_mixed",top 34,["_law_number","_law_turn"],["_law_number","_law_turn","_law_one","_law_two"],[false,false],[],Zf,.fn⟩
noncomputable def yZ:DefI:=⟨"_law_take",top 35,["_law_box_here","_law_many"],["_law_box_here","_law_many","_law_left","_law_cell"],[true,false],[0],qz,.fn⟩
noncomputable def Wv:DefI:=⟨"_law_letters",top 36,[],[],[],[],zV,.fn⟩
noncomputable def yY:DefI:=⟨"_law_sign",top 37,["_law_box_here"],["_law_box_here","_law_some"],[true],[0],Z8,.fn⟩
noncomputable def VP:DefI:=⟨"_law_named",top 38,["_law_box_here"],["_law_box_here","_law_many"],[true],[0],Zg,.fn⟩
noncomputable def wC:DefI:=⟨"_law_numbered",top 39,["_law_box_here"],["_law_box_here","_law_way"],[true],[0],zP,.fn⟩
noncomputable def wa:DefI:=⟨"_law_told_deed",top 40,["_law_box_here"],["_law_box_here","_law_word","_law_one","_law_number","_law_names"],[true],[0],qU,.fn⟩
noncomputable def Wt:DefI:=⟨"_law_figures",top 41,["_law_picture_here"],["_law_picture_here"],[false],[],jr,.fn⟩
noncomputable def Wz:DefI:=⟨"_law_written",top 42,["_law_deed"],["_law_deed","_law_found","_law_at","_law_name"],[false],[],ju,.fn⟩
noncomputable def Wu:DefI:=⟨"_law_is_name",top 43,["_law_word"],["_law_word"],[false],[],js,.fn⟩
noncomputable def J8:DefI:=⟨"_law_is_number",top 44,["_law_word"],["_law_word"],[false],[],qS,.fn⟩
noncomputable def JG:DefI:=⟨"_law_is_figures",top 45,["_law_word"],["_law_word"],[false],[],qy,.fn⟩
noncomputable def Wy:DefI:=⟨"_law_picture",top 46,["_law_word"],["_law_word"],[false],[],qE,.fn⟩
noncomputable def VN:DefI:=⟨"_law_meant",top 47,["_law_row"],["_law_row","_law_words","_law_rest","_law_names"],[false],[],zO,.fn⟩
noncomputable def vX:DefI:=⟨"_law_spoilt",top 48,["_law_box_here","_law_text"],["_law_box_here","_law_text","_law_k","_law_at","_law_way"],[true,false],[0],jV,.fn⟩
noncomputable def Ww:DefI:=⟨"_law_odd_row",top 49,["_law_box_here"],["_law_box_here","_law_some"],[true],[0],jt,.fn⟩
noncomputable def J9:DefI:=⟨"_law_same_deed",top 50,["_law_found","_law_due"],["_law_found","_law_due","_law_one","_law_other"],[false,false],[],qT,.fn⟩
noncomputable def JH:DefI:=⟨"_law_same_deeds",top 51,["_law_found","_law_due"],["_law_found","_law_due"],[false,false],[],zT,.fn⟩
noncomputable def lawB_1:IE:=(.call (.call "_law_written" 1 (.cons (.call (.call "_law_told_deed" 1 (.io 1 1 .nil))) .nil)))
noncomputable def lawB_2:IE:=(.sadd (.var 0 10) (.cstr "\n"))
noncomputable def lawB_3:IE:=(.call (.call "_law_meant" 1 (.cons (.var 0 10) .nil)))
noncomputable def lawB_4:IE:=(.cmp .Is (.var 0 10) .cnone)
noncomputable def lawB_5:IB:=(.cons (.asg 5 5 (.dat (.new (.split (.var 4 4) (.cstr "\n"))))) (.cons (.asg 6 6 (.dat (.new (.comp 10 1 [] ["_law_part"] (.nm 0 10) (.list (.new (.cut (.var 5 5) .non (.one (.neg (.cint 1)))))) .yes lawB_3)))) (.cons (.asg 7 7 (.dat (.and (.cmp .Eq (.ix (.var 5 5) (.neg (.cint 1))) (.cstr "")) (.not (.any (.new (.comp 10 1 [] ["_law_one"] (.nm 0 10) (.list (.var 6 6)) .yes lawB_4))))))) (.cons (.asg 8 8 (.dat .cnone)) (.cons (.asg 9 9 (.dat (.cbool false))) (.cons (.tryq (.cons (.asg 8 8 (.dat (.call (.call "book_read" 1 (.cons (.var 4 4) .nil))))) .nil) [("NoDeed",9,9,.b true)]) (.cons (.ite (.cmp .Eq (.var 9 9) (.var 7 7)) (.cons (.ret (.dat (.cbool false))) .nil) .nil) (.cons (.ret (.dat (.or (.var 9 9) (.call (.call "_law_same_deeds" 2 (.cons (.var 8 8) (.cons (.var 6 6) .nil))))))) .nil))))))))
noncomputable def lawB_6:IB:=(.cons (.asg 4 4 (.dat (.join "" (.new (.comp 10 1 [] ["_law_row"] (.nm 0 10) (.list (.frz 3 3)) .yes lawB_2))))) (.cons (.ite (.cmp .Eq (.var 2 2) (.cint 2)) (.cons (.asg 4 4 (.dat (.cutS (.var 4 4) .non (.one (.neg (.cint 1)))))) .nil) .nil) (.cons (.ite (.or (.cmp .Eq (.var 2 2) (.cint 3)) (.cmp .Eq (.var 2 2) (.cint 4))) (.cons (.asg 4 4 (.dat (.call (.call "_law_spoilt" 2 (.io 1 1 (.cons (.var 4 4) .nil)))))) .nil) .nil) lawB_5)))
noncomputable def defs:List DefI:=(VQ::JJ::vY::JK::wb::WA::WE::WD::WG::WH::v0::vZ::WB::WC::zao::wD::wE::WF::wc::wd::VO::yZ::Wv::yY::VP::wC::wa::Wt::Wz::Wu::J8::JG::Wy::VN::vX::Ww::J9::JH:: [])
noncomputable def lawB:IB:=(.cons (.asg 2 2 (.dat (.call (.call "_law_take" 2 (.io 1 1 (.cons (.cint 7) .nil)))))) (.cons (.asg 3 3 (.own (.comp 10 1 [1] ["_law_k","_law_box_here"] (.nm 0 10) (.range (.call (.call "_law_take" 2 (.io 1 1 (.cons (.cint 6) .nil))))) .yes lawB_1))) (.cons (.ite (.cmp .Eq (.var 2 2) (.cint 0)) (.cons (.ins 3 3 (.call (.call "_law_take" 2 (.io 1 1 (.cons (.bin .Add (.len (.var 3 3)) (.cint 1)) .nil)))) (.cstr "")) .nil) .nil) (.cons (.ite (.cmp .Eq (.var 2 2) (.cint 1)) (.cons (.ins 3 3 (.call (.call "_law_take" 2 (.io 1 1 (.cons (.bin .Add (.len (.var 3 3)) (.cint 1)) .nil)))) (.call (.call "_law_odd_row" 1 (.io 1 1 .nil)))) .nil) .nil) lawB_6))))
noncomputable def W:Wd:=⟨["all","any","bool","int","isinstance","len","list","max","range","str","tuple","zip"],[("MOST_FIGURES",6),("MOST_LETTERS",8),("MOST_POTS",12)],[("FIGURES","0123456789"),("LETTERS","abcdefghijklmnopqrstuvwxyz"),("NO_SHADES","-")],(("is_name",1)::("plain_number",1)::("is_plain",1)::("plain_shades",1)::("are_figures",1)::("book_read",1)::("read_hang",1)::("read_fold",1)::("read_twin",1)::("read_wish",1)::("read_wax",1)::("read_dip",1)::("read_boil",1)::("read_brew",1)::("read",1)::("check_many",2)::("check_some",1)::("read_name",1)::("read_number",1)::("read_shades",1)::("_law_mixed",2)::("_law_take",2)::("_law_letters",0)::("_law_sign",1)::("_law_named",1)::("_law_numbered",1)::("_law_told_deed",1)::("_law_figures",1)::("_law_written",1)::("_law_is_name",1)::("_law_is_number",1)::("_law_is_figures",1)::("_law_picture",1)::("_law_meant",1)::("_law_spoilt",2)::("_law_odd_row",1)::("_law_same_deed",2)::("_law_same_deeds",2):: []),["NoDeed"],[("READERS",[("hang","read_hang"),("fold","read_fold"),("twin","read_twin"),("wish","read_wish"),("wax","read_wax"),("dip","read_dip"),("boil","read_boil"),("brew","read_brew")])],[],[],[]⟩
noncomputable abbrev sBox:Stmt:=top 33
noncomputable abbrev sLaw:Stmt:=top 52
noncomputable def LN:List Str:= ["_law_script","_law_box_here","_law_way","_law_rows","_law_text","_law_parts","_law_due","_law_good","_law_found","_law_refused"]
theorem okLaw:lawB.chk W (defScope sLaw) LN (List.range LN.length) LN.length 0 (defBody sLaw).tail=true:=by kernel_rfl
structure zcl(cf:CF):Prop where
 take:jU cf
 told:zaa cf
 written:WT cf
 meant:YB cf
 book2:YA cf
 spoilt:VC cf
 odd:zeh cf
 sames2:VB cf
theorem ok32(n:Nat):zcl (zg defs (n+20)):=by
 have hmixed:∀ k,YC (zg defs (k+1)):=fun k a b=>zaL (zg defs k) a b
 have htake:∀ k,jU (zg defs (k+2)):=fun k b hb n h1 h2=>zd0 (zg defs (k+1)) (hmixed k) hb h1 h2
 have hletters:∀ k,WR (zg defs (k+1)):=fun k=>y8 (zg defs k)
 have hnamed:∀ k,vK (zg defs (k+3)):=fun k b hb=>zaP (zg defs (k+2)) (htake k) (hletters (k+1)) hb
 have hnumbered:∀ k,wx (zg defs (k+3)):=fun k b hb=>ya (zg defs (k+2)) (htake k) hb
 have htold:∀ k,zaa (zg defs (k+4)):=fun k b hb=>zd1 (zg defs (k+3)) (htake (k+1)) (hnamed k) (hnumbered k) hb
 have hfigures:∀ k,WQ (zg defs (k+1)):=fun k sh hl h=>y4 (zg defs k) hl h
 have hwritten:∀ k,WT (zg defs (k+2)):=fun k d h=>Yz (zg defs (k+1)) (hfigures k) h
 have hllet:∀ k,K6 (zg defs (k+1)):=fun k=>zaF (zg defs k)
 have hlname2:∀ k,wg (zg defs (k+2)) "_law_is_name" :=fun k x h=>zaH (zg defs (k+1)) (hllet k) h
 have hlnum2:∀ k,K7 (zg defs (k+1)):=fun k x h=>y9 (zg defs k) h
 have hlfig2:∀ k,K4 (zg defs (k+1)):=fun k x h=>V3 (zg defs k) h
 have hlpic2:∀ k,K5 (zg defs (k+1)):=fun k x h hb=>zaK (zg defs k) h hb
 have hmeant:∀ k,YB (zg defs (k+3)):=fun k row h=>zfr (zg defs (k+2)) ⟨hlname2 k,hlnum2 (k+1),hlfig2 (k+1),hlpic2 (k+1)⟩ h
 have hcmany2:∀ k,Ql (zg defs (k+1)):=fun k xs n=>VI (zg defs k) xs n
 have hcsome2:∀ k,Qm (zg defs (k+1)):=fun k xs=>VJ (zg defs k) xs
 have hisname2:∀ k,wg (zg defs (k+1)) "is_name" :=fun k x h=>zaz (zg defs k) h
 have hrname2:∀ k,JY (zg defs (k+2)):=fun k x h=>Yi (zg defs (k+1)) (hisname2 k) h
 have hfigs2:∀ k,yL (zg defs (k+1)):=fun k x h=>vP (zg defs k) h
 have hplain2:∀ k,VA (zg defs (k+2)):=fun k x h=>Kb (zg defs (k+1)) (hfigs2 k) h
 have hpnum2:∀ k,JX (zg defs (k+3)):=fun k x h=>WI (zg defs (k+2)) (hplain2 k) h
 have hrnum2:∀ k,wz (zg defs (k+4)):=fun k x h=>Vm (zg defs (k+3)) (hpnum2 k) h
 have hpsh2:∀ k,wy (zg defs (k+2)):=fun k x h=>WJ (zg defs (k+1)) (hfigs2 k) h
 have hrsh2:∀ k,WS (zg defs (k+3)):=fun k x h=>Vn (zg defs (k+2)) (hpsh2 k) h
 have hrd2:∀ k,RdOk (zg defs (k+4)):=fun k=>⟨hcmany2 (k+3),hcsome2 (k+3),hrname2 (k+2),hrnum2 k,hrsh2 (k+1)⟩
 have hrdr2:∀ k,K8 (zg defs (k+5)):=fun k=>⟨fun r h _=>zbj (hrd2 k) h,fun r h _=>zbi (hrd2 k) h,fun r h _=>zbk (hrd2 k) h,fun r h _=>zbl (hrd2 k) h,fun r h l=>zdl (hrd2 k) h (by omega),fun r h l=>zdk (hrd2 k) h (by omega),fun r h l=>zbg (hrd2 k) h (by omega),fun r h _=>zbh (hrd2 k) h⟩
 have hread2:∀ k,vM (zg defs (k+6)):=fun k row h=>zhp (zg defs (k+5)) (hrdr2 k) h
 have hbook2:∀ k,YA (zg defs (k+7)):=fun k T qs l hT hq hl hc=>yT (zg defs (k+6)) (hread2 k) hT hq hl hc
 have hsign:∀ k,yO (zg defs (k+3)):=fun k b hb=>zdJ (zg defs (k+2)) (htake k) hb
 have hspoilt:∀ k,VC (zg defs (k+4)):=fun k b x n hb hn h=>KE (zg defs (k+3)) (htake (k+1)) (hsign k) hb hn h
 have hodd:∀ k,zeh (zg defs (k+3)):=fun k b hb=>zfx (zg defs (k+2)) (htake k) hb
 have hsame2:∀ k,vN (zg defs (k+1)):=fun k xs h1 h2 h3=>Vp (zg defs k) h1 h2 h3
 have hsames2:∀ k,VB (zg defs (k+2)):=fun k qs h ha hl=>Kz (zg defs (k+1)) (hsame2 k) h ha hl
 exact⟨htake (n+18),htold (n+16),hwritten (n+18),hmeant (n+17),hbook2 (n+13),hspoilt (n+16),hodd (n+17),hsames2 (n+18)⟩
theorem zcM(y:Str):isN (qu y)= !qx y:=by
 cases q:qx y with
 |true=>obtain⟨xs,_,e⟩:=Vo q;rw[e];rfl
 |false=>rw[(zbn q).2];rfl
theorem zcq(qs:List Str):(qs.map fun y=> !qx y).any id= !qs.all qx:=by
 induction qs with
 |nil=>rfl
 |cons y r ih=>simp[ih]
theorem p3(cf:CF)(h:zcl cf){T:Str}(hT:Tx T){o1 o2 o3:Option OV}:∃ Γ',lawB_5.ex cf [] [none,o1,o2,o3,some (.d (.str T)),none,none,none,none,none]=.ok (.ret (.d (.bool true)),Γ'):=by
 obtain⟨qs,l,es,hq,hl,hql,hc⟩:=yS hT
 have hb:=h.book2 T qs l hT hq hql hc
 have hsm:=h.sames2 qs hq
 have hz:T.length<=900000:=by have:=hT.2;omega
 have hlf:((Str.ofString "\n").length==0)=false:=by decide
 have le:lay 20 (.str (Str.ofString ""))=true:=zl "" 20
 have ll:=hl.ok 20
 have qe:=qF l (Str.ofString "")
 have hzq:(qs.map PyData.str).length<=1000000:=by simp;omega
 have hzr:(qs.map qu).length<=1000000:=by simp;omega
 have hcut:=zan (qs.map PyData.str) (PyData.str l)
 have hat:=zae (qs.map PyData.str) (PyData.str l)
 have lp1:∀ o5:Option OV,zF 1 (.nm 0 10) fYes (lawB_3.ev cf).1 (qs.map .str) [] [none,o1,o2,o3,some (.d (.str T)),o5,none,none,none,none]=.ok (qs.map qu,[none,o1,o2,o3,some (.d (.str T)),o5,none,none,none,none]):=fun o5=>
  qi .str qu fun y hy=>by
   have e:=h.meant y (hq y hy)
   refine⟨[none,o1,o2,o3,some (.d (.str T)),o5,none,none,none,none,some (.d (.str y))],.dat (qu y),[none,o1,o2,o3,some (.d (.str T)),o5,none,none,none,none,some (.d (.str y))],rfl,?_,rfl,rfl⟩
   unfold lawB_3
   unfold qu
   simp![e,za]
 have lp2:∀ o5 o6:Option OV,zF 1 (.nm 0 10) fYes (lawB_4.ev cf).1 (qs.map qu) [] [none,o1,o2,o3,some (.d (.str T)),o5,o6,none,none,none]=.ok ((qs.map fun y=> !qx y).map .bool,[none,o1,o2,o3,some (.d (.str T)),o5,o6,none,none,none]):=fun o5 o6=>by
  rw[xX]
  exact qi qu _ fun y hy=>by
   have e:=zcM y
   refine⟨[none,o1,o2,o3,some (.d (.str T)),o5,o6,none,none,none,some (.d (qu y))],.dat (.bool (!qx y)),[none,o1,o2,o3,some (.d (.str T)),o5,o6,none,none,none,some (.d (qu y))],rfl,?_,rfl,rfl⟩
   unfold lawB_4
   generalize qu y=RD at *
   unfold isN at e
   simp![isN,e,za]
 have ha:=zcq qs
 rw[<- YW]at es
 have es':(Txt.split T (Str.ofString "\n")).map PyData.str=qs.map PyData.str++ [PyData.str l]:=by rw[es];simp
 unfold wm at hb
 unfold lawB_5
 generalize lawB_3=B3 at *
 generalize lawB_4=B4 at *
 generalize (qs.map fun y=> !qx y)=bs at *
 generalize Str.ofString "\n" =LF at *
 generalize qs.map PyData.str=QS at *
 generalize hg:decide (l=Str.ofString "")=d0 at *
 generalize Str.ofString "" =EE at *
 have hv:(OV.l ((qs.map qu).map .d)).view=.list (qs.map qu):=by rw[OV.view,OV.views_d]
 generalize hRD:(qs.map qu).map OV.d=RO at *
 have qb:∀ a b:Bool,PyData.eqv (.bool a) (.bool b)=(a==b):=fun a b=>by cases a<;>cases b<;>rfl
 cases hall:qs.all qx with
 |true=>
  have hsm':=hsm hall hql
  rw[hall]at hb ha
  generalize qs.map qu=RD at *
  cases d0 with
  |true=>
   simp only[Bool.and_true,if_true]at hb
   simp![qj,es',hz,hlf,Zj,qW,qX,hcut,lp1,hzq,hat,qe,ll,le,lp2,hzr,zj,ha,hb,hv,hsm',Yj,IQ.ex,IQs.ex,Zc,HC.D,je,qb,za]
  |false=>
   simp only[Bool.and_true,xw,if_false,nod]at hb
   simp![qj,es',hz,hlf,Zj,qW,qX,hcut,lp1,hzq,hat,qe,ll,le,lp2,hzr,zj,ha,hb,Yj,IQ.ex,IQs.ex,Zc,HC.D,je,qb,za]
 |false=>
  rw[hall,Bool.and_false,if_neg (by decide)]at hb
  rw[hall]at ha
  generalize qs.map qu=RD at *
  simp only[nod]at hb
  cases d0 with
  |true=>simp![qj,es',hz,hlf,Zj,qW,qX,hcut,lp1,hzq,hat,qe,ll,le,lp2,hzr,zj,ha,hb,Yj,IQ.ex,IQs.ex,Zc,HC.D,je,qb,za]
  |false=>simp![qj,es',hz,hlf,Zj,qW,qX,hcut,lp1,hzq,hat,qe,ll,le,lp2,hzr,zj,ha,hb,Yj,IQ.ex,IQs.ex,Zc,HC.D,je,qb,za]
theorem zbV{n:Nat}{x:Str}(h:x.cps.toList= []):Txn n x:=by
 refine⟨fun c hc=>?_,?_⟩
 ·rw[h]at hc;cases hc
 ·rw[<- jl,h];exact xV _
theorem KH {ys:List Str}{n:Nat}(h:∀ y∈ys,Txn n y):Txn (n*ys.length) (Str.join "" ys):=by
 have e3:(Str.ofString "" :Str)=Str.empty:=by decide +kernel
 have emp:(Str.ofString "").cps.toList= []:=by decide +kernel
 have hcons:∀ x y r,Str.join "" (x::y::r)=x++Str.ofString "" ++Str.join "" (y::r):=fun _ _ _=>rfl
 induction ys with
 |nil=>exact zbV (by decide +kernel)
 |cons x r ih=>
  cases r with
  |nil=>exact (h x (by simp)).mono (by simp)
  |cons y s=>
   have h1:=(h x (by simp)).app (ih fun z hz=>h z (.tail _ hz))
   have e:Str.join "" (x::y::s)=x++Str.join "" (y::s):=by
    rw[hcons]
    apply qZ
    rw[jA,jA,jA,emp,xN]
   rw[e]
   refine h1.mono ?_
   rw[xk (a:=x),Nat.mul_succ]
   omega
theorem p2(cf:CF)(h:zcl cf){b:OV}(hb:zu b){r:Int}{ss:List Str}(hs:∀ y∈ss,Txn 130 y)(hl:ss.length<=6):∃ Γ',lawB_6.ex cf [] [none,some b,some (.d (.int r)),some (.l ((ss.map PyData.str).map .d)),none,none,none,none,none,none]=.ok (.ret (.d (.bool true)),Γ'):=by
 have hlf:Txn 1 (Str.ofString "\n"):=by rw[YW];exact Txn.one (by decide)
 have hlf1:(Str.ofString "\n").length=1:=by decide
 have lp:∀ o3:Option OV,zF 1 (.nm 0 10) fYes (lawB_2.ev cf).1 (ss.map .str) [] [none,some b,some (.d (.int r)),o3,none,none,none,none,none,none]=.ok ((ss.map fun y=>y++Str.ofString "\n").map .str,[none,some b,some (.d (.int r)),o3,none,none,none,none,none,none]):=fun o3=>by
  rw[xX]
  exact qi .str _ fun y hy=>by
   have hz:y.length+(Str.ofString "\n").length<=1000000:=by rw[hlf1];have:=(hs y hy).2;omega
   refine⟨[none,some b,some (.d (.int r)),o3,none,none,none,none,none,none,some (.d (.str y))],.dat (.str (y++Str.ofString "\n")),[none,some b,some (.d (.int r)),o3,none,none,none,none,none,none,some (.d (.str y))],rfl,?_,rfl,rfl⟩
   unfold lawB_2
   generalize Str.ofString "\n" =LF at *
   simp![qv,hz,za]
 have hys:∀ y∈ss.map (fun y=>y++Str.ofString "\n"),Txn 131 y:=fun y hy=>by
  obtain⟨x,hx,rfl⟩:=xI.mp hy
  exact (hs x hx).app hlf
 have hT:=KH hys
 have hj:Z3 "" (.list ((ss.map fun y=>y++Str.ofString "\n").map .str))=some (.str (Str.join "" (ss.map fun y=>y++Str.ofString "\n"))) :=
  YR (by decide) (fun y hy=>by have:=(hys y hy).2;omega) (by simp;omega)
 rw[xt]at hT
 have hT6:Txn 786 (Str.join "" (ss.map fun y=>y++Str.ofString "\n")):=hT.mono (by omega)
 have hv:(OV.l ((ss.map PyData.str).map .d)).view=.list (ss.map PyData.str):=by rw[OV.view,OV.views_d]
 have hzs:(ss.map PyData.str).length<=1000000:=by simp;omega
 generalize Str.join "" (ss.map fun y=>y++Str.ofString "\n")=T at *
 have hz:T.length<=1000000:=by have:=hT6.2;omega
 have p3':=fun (T:Str) (hT:Tx T) (o1 o2 o3:Option OV)=>p3 cf h hT (o1:=o1) (o2:=o2) (o3:=o3)
 have hx:∀ s,IB.ex cf [] (.cons s lawB_5)=sSeq (IS.ex cf [] s) (IB.ex cf [] lawB_5):=fun s=>rfl
 obtain⟨y,b2,hy,hb2,e2⟩:=h.spoilt b T 786 hb (by decide) hT6
 unfold lawB_6
 generalize lawB_2=B2 at *
 generalize lawB_5=B5 at *
 generalize ((ss.map fun y=>y++Str.ofString "\n").map PyData.str)=YS at *
 generalize (ss.map PyData.str).map OV.d=SO at *
 generalize ss.map PyData.str=SD at *
 by_cases q2:r=2
 ·obtain⟨Γ',e⟩:=p3' (Txt.slice T none (some (-1))) ((hT6.cut _ _).tx (by decide)) (some b) (some (.d (.int r))) (some (.d (.list SD)))
  refine⟨Γ',?_⟩
  subst q2
  simp![hx,hv,lp,hzs,hj,Z1,qW,qX,hz,e,zk,zt,za]
 ·by_cases q3:r=3∨r=4
  ·obtain⟨Γ',e⟩:=p3' y (hy.tx (by decide)) (some b2) (some (.d (.int r))) (some (.d (.list SD)))
   refine⟨Γ',?_⟩
   rcases q3 with rfl | rfl<;>simp![hx,hv,lp,hzs,hj,e2,e,zk,zt,za]
  ·obtain⟨Γ',e⟩:=p3' T (hT6.tx (by decide)) (some b) (some (.d (.int r))) (some (.d (.list SD)))
   refine⟨Γ',?_⟩
   have q4:¬ r=3:=fun z=>q3 (.inl z)
   have q5:¬ r=4:=fun z=>q3 (.inr z)
   simp![hx,hv,lp,hzs,hj,e,q2,q4,q5,zk,zt,za]
theorem YN{ss:List Str}(hs:∀ y∈ss,Txn 130 y){x:Str}(hx:Txn 130 x)(k:Nat):∃ ts:List Str,(∀ y∈ts,Txn 130 y)/\ts.length=ss.length+1/\((ss.map PyData.str).map OV.d).take k++OV.d (.str x)::((ss.map PyData.str).map OV.d).drop k=(ts.map PyData.str).map .d:=by
 refine⟨ss.take k++x::ss.drop k,fun y hy=>?_,?_,?_⟩
 ·rcases xE.mp hy with z | z
  ·exact hs y (List.mem_of_mem_take z)
  ·rcases xu.mp z with z | z
   ·rw[z];exact hx
   ·exact hs y (List.mem_of_mem_drop z)
 ·rw[xF,xk,xJ,um];omega
 ·simp[List.map_take,List.map_drop]
theorem law_run(cf:CF)(h:zcl cf)(cells:List Int)(i l t s:Int)(hi:0<=i):∃ Γ',lawB.ex cf [] (none::some (Z0 cells i l t s)::List.replicate (LN.length-2) none)=.ok (.ret (.d (.bool true)),Γ'):=by
 have hB:zu (Z0 cells i l t s):=⟨_,_,_,_,_,hi,rfl⟩
 generalize Z0 cells i l t s=b at hB
 obtain⟨r,b1,h1,h1',hb1,e1⟩:=h.take b hB 7 (by decide) (by decide)
 obtain⟨n,b2,h2,h2',hb2,e2⟩:=h.take b1 hb1 6 (by decide) (by decide)
 obtain⟨ys,Γ',e3,⟨b3,ss,hsl,hss,hb3,rfl,rfl⟩⟩:=jI (k:=1) (t:=.nm 0 10) (cond:=fYes) (elt:=(lawB_1.ev cf).1) (ds:=qp n.toNat) (Γ:= [none,some b2,some (.d (.int r)),none,none,none,none,none,none,none])
  (fun pre ys Γ=>∃ (b3:OV) (ss:List Str),ss.length=pre.length/\(∀ y∈ss,Txn 130 y)/\zu b3/\ys=ss.map .str/\Γ= [none,some b3,some (.d (.int r)),none,none,none,none,none,none,none]) ⟨b2,[],rfl,(fun _ h=>nomatch h),hb2,rfl,rfl⟩ (by
   rintro pre d post e ys Γ ⟨b3,ss,hsl,hss,hb3,rfl,rfl⟩
   obtain⟨dd,b4,hok,hb4,e4⟩:=h.told b3 hb3
   have e5:=h.written dd hok
   have t0:=zdo hok
   refine⟨[none,some b3,some (.d (.int r)),none,none,none,none,none,none,none,some (.d d)],true,_,rfl,rfl,fun _=>⟨.dat (.str dd.row),[none,some b4,some (.d (.int r)),none,none,none,none,none,none,none,some (.d d)],.str dd.row,?_,rfl,b4,ss++ [dd.row],by simp[hsl],?_,hb4,by simp,rfl⟩,fun z=>nomatch z⟩
   ·unfold lawB_1
    generalize dd.row=RW at *
    generalize dd.D=DD at *
    simp![e4,e5,za]
   ·intro x hx
    rcases xE.mp hx with hx | hx
    ·exact hss x hx
    ·have:x=dd.row:=by simpa using hx
     subst this;exact t0)
 rw[zh]at hsl
 have hz1: -1000000<=n/\n<=1000000:=by omega
 have hz2:(qp n.toNat).length<=1000000:=by rw[zh];omega
 have hx:∀ s,IB.ex cf [] (.cons s lawB_6)=sSeq (IS.ex cf [] s) (IB.ex cf [] lawB_6):=fun s=>rfl
 have p2':=fun {b:OV} (hb:zu b) {ss:List Str} (hs:∀ y∈ss,Txn 130 y) (hl:ss.length<=6)=>p2 cf h hb (r:=r) hs hl
 simp only[lawB,LN]
 generalize lawB_1=B1 at *
 generalize lawB_6=B6 at *
 obtain⟨m,b4,hm,hm',hb4,e4⟩:=h.take b3 hb3 (ss.length+1) (by omega) (by omega)
 have hlen:((ss.map PyData.str).map OV.d).length=ss.length:=by simp
 have hv:(OV.l ((ss.map PyData.str).map .d)).view=.list (ss.map PyData.str):=by rw[OV.view,OV.views_d]
 have hvl:(ss.map PyData.str).length=ss.length:=by simp
 have hzi:ss.length<1000000/\ -1000000<=m/\m<=1000000:=by omega
 by_cases q0:r=0
 ·obtain⟨ts,hts,htl,et⟩:=YN hss (x:=Str.ofString "") (zbV (by decide +kernel)) (Qy ss.length m)
  obtain⟨Γ',e⟩:=p2' hb4 hts (by omega)
  refine⟨Γ',?_⟩
  rw[<- et]at e
  subst q0
  generalize Str.ofString "" =EE at *
  generalize ss.map PyData.str=SD at *
  generalize hSO:SD.map OV.d=SO at *
  simp![hx,e1,e2,e3,hSO,hz1,hz2,zbo,hv,hvl,hlen,e4,hzi,e,zk,zt,za]
 ·by_cases q1:r=1
  ·obtain⟨y,b5,hy,hb5,e5⟩:=h.odd b4 hb4
   obtain⟨ts,hts,htl,et⟩:=YN hss (x:=y) (hy.mono (by decide)) (Qy ss.length m)
   obtain⟨Γ',e⟩:=p2' hb5 hts (by omega)
   refine⟨Γ',?_⟩
   rw[<- et]at e
   subst q1
   generalize ss.map PyData.str=SD at *
   generalize hSO:SD.map OV.d=SO at *
   simp![hx,e1,e2,e3,hSO,hz1,hz2,zbo,hv,hvl,hlen,e4,e5,hzi,e,zk,zt,za]
  ·obtain⟨Γ',e⟩:=p2' hb3 hss (by omega)
   refine⟨Γ',?_⟩
   generalize ss.map PyData.str=SD at *
   generalize hSO:SD.map OV.d=SO at *
   simp![hx,e1,e2,e3,hSO,hz1,hz2,q0,q1,e,zk,zt,za]
section
variable [L2.Cs] {P:Program} {w:World} {K:PySem.W.Frag} {mg:Str->Option Value} {base:Heap}
theorem zam(ns:List Int)(lo hi:Option Int):∃ ms:List Int,JF (ns.map V.int) lo hi=ms.map V.int/\ms.length<=ns.length:=by
 refine⟨(ns.drop (HT.sIx (ns.map V.int).length 0 lo)).take (HT.sIx (ns.map V.int).length (ns.map V.int).length hi-HT.sIx (ns.map V.int).length 0 lo),?_,?_⟩
 ·unfold JF
  rw[List.map_take,List.map_drop]
 ·rw[xJ,um];omega
theorem scBox:jk ["_law_script","_law_seed","_law_cell"] ["_law_script"] (defScope sBox):=⟨rfl,rfl,rfl,by decide +kernel,rfl,by decide +kernel,by decide +kernel⟩
theorem kn_box (D:Df K mg "_law_box" sBox ["_law_script"]) (B:mg "list" =none):Kn P w K mg base CX0 "_law_box" 1 (zbH K) :=
 D.kn (k:=0) scBox (fun vs H Q E ⟨a,ns,e,_⟩=>by rw[e];rfl) fun f cdv A outer s H vs Q E hr ⟨a,ns,e,hS,hlen,kk⟩=>by
  subst e
  refine PSs.wp (Zo (JQ (i:=1) scBox.nd rfl (Or.inl rfl) pe_int)
   (Zo (za9 PassesOwn.never rfl (Y2 (QH Vs (pv 0) Vk (Vl pe_int))) (Y0 (i:=2) scBox.nd rfl (Or.inl rfl))
    (QR (JQ (i:=1) scBox.nd rfl (Or.inl rfl) (yc zaW (yc Ye (yc Ye (yc zaX (pv 1) pe_int) (pv 2)) pe_int) pe_int))))
   (QR (Yf (za3 (zq (ZU Qt rfl B Qb (zq (QH Vs (pv 0) Vk (Vl pe_int)) pa_nil)) (zq pe_int (zq pe_int (zq pe_int (zq (pv 1) pa_nil)))))))))) ?_
  obtain⟨ms,ems,hms⟩:=zam ns none (some 63)
  refine⟨_,rfl,_,rfl,a,_,rfl,hS,fun q nq=>⟨q,rfl,⟨_,SqL.of zf⟩,zaw (K:=K) (a:=q) (xs:=JF (ns.map V.int) none (some 63)) (fun i σ H2=>H2=upd H q (.lst (JF (ns.map V.int) none (some 63)))/\∃ sd v,σ= [some (.ref a),some (.int sd),v])
   ⟨rfl,0,none,rfl⟩ (fun i σ H2 _ ⟨e,_⟩=>by rw[e];exact SqL.of zf) ?_ ?_⟩⟩
  ·rintro i x σ H2 hx ⟨rfl,sd,v,rfl⟩
   obtain⟨z,rfl⟩:∃ z,x=V.int z:=by
    rw[ems]at hx
    have:=ub hx
    obtain⟨z,_,rfl⟩:=xI.mp this
    exact⟨z,rfl⟩
   refine⟨_,rfl,_,_,rfl,rfl,.inr (by decide),_,rfl,_,_,rfl,rfl,_,_,rfl,rfl,_,_,rfl,rfl,(by show (0:Int)<2147483647;decide),?_⟩
   exact⟨rfl,_,_,rfl⟩
  ·rintro σ H2 ⟨rfl,sd,v,rfl⟩
   have s1:Same H (upd H q (.lst (JF (ns.map V.int) none (some 63)))):=zv nq
   refine⟨_,rfl,_,rfl,a,_,rfl,s1.seq hS,fun q2 nq2=>⟨q2,_,rfl,.inl (SqL.of zf),fun l nl=>⟨_,rfl,(by show 5<=sizeLine;decide),fun b nb=>?_⟩⟩⟩
   have s2:=s1.trans (zv (o:=.lst (JF (ns.map V.int) none (some 63))) nq2)
   have s3:=s2.trans (zv (o:=.lst (JF (ns.map V.int) none (some 63))) nl)
   have hlb:l≠b:=fun e=>by rw[<- e,zf]at nb;cases nb
   refine kk b _ (s3.trans (zv nb)) (s3.free nb) (by rw[zf];exact fun z=>nomatch z) ⟨l,ms,0,0,0,sd,rfl,zf,?_,Int.le_refl 0⟩
   refine .list (vs:=ms.map V.int) (by rw[zd hlb,zf,ems]) hlb (RepL.ints ms)
theorem hw:wOk defs W=true:=by kernel_rfl
theorem hgd (GD0:GD w K mg "READERS" [("hang","read_hang"),("fold","read_fold"),("twin","read_twin"),("wish","read_wish"),("wax","read_wax"),("dip","read_dip"),("boil","read_boil"),("brew","read_brew")]):∀ x kf,W.gd.contains (x,kf)=true->GD w K mg x kf:=by
 intro x kf h
 have h2:=xQ.mp h
 simp only[W,xu,ug,or_false,Prod.mk.injEq]at h2
 obtain⟨rfl,rfl⟩:=h2
 ·exact GD0
theorem okS:Wb LN ["_law_script"] (defScope sLaw)=true:=by kernel_rfl
theorem oks:(defs.all fun d=>d.ok W)=true:=by kernel_rfl
theorem hdd {h:Heap}(X:K.In h) (G:h.Ns mainGlobals mg) (D0:Df K mg "is_name" (top 10) ["text"]) (D1:Df K mg "plain_number" (top 11) ["text"]) (D2:Df K mg "is_plain" (top 12) ["text"]) (D3:Df K mg "plain_shades" (top 13) ["text"]) (D4:Df K mg "are_figures" (top 14) ["text"]) (D5:Df K mg "book_read" (top 16) ["text"]) (D6:Df K mg "read_hang" (top 17) ["words"]) (D7:Df K mg "read_fold" (top 18) ["words"]) (D8:Df K mg "read_twin" (top 19) ["words"]) (D9:Df K mg "read_wish" (top 20) ["words"]) (D10:Df K mg "read_wax" (top 21) ["words"]) (D11:Df K mg "read_dip" (top 22) ["words"]) (D12:Df K mg "read_boil" (top 23) ["words"]) (D13:Df K mg "read_brew" (top 24) ["words"]) (D14:Df K mg "read" (top 26) ["row"]) (D15:Df K mg "check_many" (top 27) ["words","many"]) (D16:Df K mg "check_some" (top 28) ["words"]) (D17:Df K mg "read_name" (top 29) ["text"]) (D18:Df K mg "read_number" (top 30) ["text"]) (D19:Df K mg "read_shades" (top 31) ["text"]) (D20:Df K mg "_law_mixed" (top 34) ["_law_number","_law_turn"]) (D21:Df K mg "_law_take" (top 35) ["_law_box_here","_law_many"]) (D22:Df K mg "_law_letters" (top 36) []) (D23:Df K mg "_law_sign" (top 37) ["_law_box_here"]) (D24:Df K mg "_law_named" (top 38) ["_law_box_here"]) (D25:Df K mg "_law_numbered" (top 39) ["_law_box_here"]) (D26:Df K mg "_law_told_deed" (top 40) ["_law_box_here"]) (D27:Df K mg "_law_figures" (top 41) ["_law_picture_here"]) (D28:Df K mg "_law_written" (top 42) ["_law_deed"]) (D29:Df K mg "_law_is_name" (top 43) ["_law_word"]) (D30:Df K mg "_law_is_number" (top 44) ["_law_word"]) (D31:Df K mg "_law_is_figures" (top 45) ["_law_word"]) (D32:Df K mg "_law_picture" (top 46) ["_law_word"]) (D33:Df K mg "_law_meant" (top 47) ["_law_row"]) (D34:Df K mg "_law_spoilt" (top 48) ["_law_box_here","_law_text"]) (D35:Df K mg "_law_odd_row" (top 49) ["_law_box_here"]) (D36:Df K mg "_law_same_deed" (top 50) ["_law_found","_law_due"]) (D37:Df K mg "_law_same_deeds" (top 51) ["_law_found","_law_due"]):AllX K mg defs:=⟨zx rfl D0,zx rfl D1,zx rfl D2,zx rfl D3,zx rfl D4,zx rfl D5,zx rfl D6,zx rfl D7,zx rfl D8,zx rfl D9,zx rfl D10,zx rfl D11,zx rfl D12,zx rfl D13,zx rfl D14,zx rfl D15,zx rfl D16,zx rfl D17,zx rfl D18,zx rfl D19,zx rfl D20,zx rfl D21,zx rfl D22,zx rfl D23,zx rfl D24,zx rfl D25,zx rfl D26,zx rfl D27,zx rfl D28,zx rfl D29,zx rfl D30,zx rfl D31,zx rfl D32,zx rfl D33,zx rfl D34,zx rfl D35,zx rfl D36,zx rfl D37,trivial⟩
end
noncomputable def dP(s:Stmt):Arguments:=match s with
 |.FunctionDef _ a _ _ _ _ _ _ _ _=>a
 |_=>⟨[],[],none,[],[],none,[]⟩
noncomputable abbrev dB:=L2.defBody
noncomputable abbrev dS:=L2.defScope
noncomputable abbrev dE(P:PySem.Params)(n:Str)(t:Nat)(v:Value):DictEntry:=.mk (PySem.PyData.keyHash P n) (.str n t) v
noncomputable abbrev dR(P:PySem.Params)(n:Str)(t a:Nat):DictEntry:=.mk (PySem.PyData.keyHash P n) (.str n t) (.ref a)
noncomputable def v3(c:Nat):List (Nat×Nat)->List Value
 |[]=> []
 | (l,a)::r=>.int l 0::.int c 0::.ref a::v3 c r
noncomputable abbrev o3(c:Nat)(l:List (Nat×Nat)):Obj:=.mk .none none (.fields (v3 c l).toArray) #[]
noncomputable def sL:Nat->List Str->List Value
 |_,[]=> []
 |t,s::r=>.str s t::sL (t+1) r
noncomputable abbrev sN(t:Nat)(l:List Str):Array Value:=(sL t l).toArray
noncomputable def rL:List Nat->List Value
 |[]=> []
 |a::r=>.ref a::rL r
noncomputable abbrev rN(l:List Nat):Array Value:=(rL l).toArray
noncomputable abbrev oA:Obj:=PySem.Obj.mk (.type "tuple") none (.seq #[] 0) #[]
noncomputable abbrev oB (s0:Str) (n1 n2 n3 n4:Nat):Obj:=PySem.Obj.mk (.type "code") none (.fields #[(.str s0 n1),(.str s0 (n1+1)),(.str "/claim/cut.py" (n1+2)),(.int ((n2:Nat):Int) 0),(.int ((n3:Nat):Int) 0),(.int 0 0),(.int 0 0),(.int 3 0),(.ref n4),(.bool true),(.int 181 0),(.ref (n4+1)),.none,.none,.none,(.ref (n4+2)),(.int ((n1+3:Nat):Int) 0),(.int ((n2:Nat):Int) 0),(.str "/claim/cut.py" (n1+4))]) #[]
noncomputable abbrev oC (s0 s2:Str) (n1 n3 n4:Nat):Obj:=PySem.Obj.mk (.type "function") none (.func (PySem.FuncData.mk s0 s0 (dP (top n1)) (.stmts (dB (top n1))) (dS (top n1)) 3 [] .none .none .none (.str s2 n3) none (.ref n4) .none 0)) #[]
noncomputable abbrev oD (s1:Str) (n0:Nat):Obj:=PySem.Obj.mk (.type "tuple") none (.seq (sN n0 [s1]) 0) #[]
noncomputable abbrev oE (s0:Str) (n1 n2 n3 n4 n5:Nat):Obj:=PySem.Obj.mk (.type "code") none (.fields #[(.str s0 n1),(.str s0 (n1+1)),(.str "/claim/cut.py" (n1+2)),(.int ((n2:Nat):Int) 0),(.int ((n3:Nat):Int) 0),(.int 0 0),(.int 0 0),(.int 3 0),(.ref n4),(.bool true),(.int 181 0),(.ref (n4+1)),.none,(.ref (n4+2)),(.ref (n4+3)),(.ref (n4+4)),(.int ((n5:Nat):Int) 0),(.int ((n2:Nat):Int) 0),(.str "/claim/cut.py" (n5+1))]) #[]
noncomputable abbrev oF (s1 s2 s3 s4:Str) (n0:Nat):Obj:=PySem.Obj.mk (.type "tuple") none (.seq (sN n0 [s1,s2,s3,s4]) 0) #[]
noncomputable abbrev oG (s1 s2:Str) (n0:Nat):Obj:=PySem.Obj.mk (.type "tuple") none (.seq (sN n0 [s1,s2]) 0) #[]
noncomputable abbrev oH (s0:Str) (n1 n2 n3:Nat):Obj:=PySem.Obj.mk (.type "code") none (.fields #[(.str s0 n1),(.str s0 (n1+1)),(.str "/claim/cut.py" (n1+2)),(.int ((n2:Nat):Int) 0),(.int 0 0),(.int 0 0),(.int 0 0),(.int 0 0),(.ref n3),(.bool false),(.int 181 0),(.ref (n3+1)),.none,.none,.none,.none,(.int ((n1+3:Nat):Int) 0),(.int ((n2:Nat):Int) 0),(.str "/claim/cut.py" (n1+4))]) #[]
noncomputable abbrev oI (s2:Str) (n0 n1 n3:Nat):Obj:=PySem.Obj.mk (.type "frame") none .plain #[(some (.ref n0)),(some (.ref 3)),(some (.ref n1)),none,(some (.str s2 n3)),none,(some (.ref 0))]
noncomputable abbrev oJ:Obj:=PySem.Obj.mk (.type "builtin_function_or_method") none (.fields #[(.builtin "type.__prepare__"),(.type "type")]) #[]
noncomputable abbrev oK (P:PySem.Params) (s1:Str) (n0 n2 n3:Nat):Obj:=PySem.Obj.mk (.type "dict") none (.dict #[(dE P "__module__" n0 (.str "waxcloth.errors" 187)),(dE P "__qualname__" (n0+2) (.str s1 (n0+1))),(dE P "__firstlineno__" (n0+4) (.int ((n2:Nat):Int) (n0+3))),dR P "__static_attributes__" (n0+5) n3] 4) #[]
noncomputable abbrev oL:Obj:=PySem.Obj.mk .none none (.fields #[]) #[]
noncomputable abbrev oM (n0:Nat):Obj:=PySem.Obj.mk (.type "builtin_function_or_method") none (.fields #[(.builtin "object.__init_subclass__"),(.ref n0)]) #[]
noncomputable abbrev oN(s0:Str)(n1:Nat):Obj:=PySem.Obj.mk .none none (.func (PySem.FuncData.mk s0 s0 (dP (top n1)) (.stmts (dB (top n1))) (dS (top n1)) 0 [] .none .none .none .none none .none .none 0)) #[]
noncomputable def K(P:PySem.Params):PySem.W.Frag :=
 (nat_lit 2,(PySem.Obj.mk .none none (.dict #[] 0) #[])) ::
 (nat_lit 3,(PySem.Obj.mk (.type "dict") none (.dict #[(dE P "__name__" 165 (.str "law_waxcloth_k32_a_book_refused" 395)),(dE P "__doc__" 166 .none),(dE P "__package__" 167 .none),(dE P "__loader__" 168 (.builtin "__main__.__loader__#opaque")),(dE P "__spec__" 169 .none),dR P "__annotations__" 170 6,dR P "__builtins__" 171 4,(dE P "__file__" 173 (.str "/claim/cut.py" 172)),(dE P "__cached__" 174 .none),dR P "WaxError" 206 24,dR P "NoDeed" 222 37,(dE P "LETTERS" 226 (.str "abcdefghijklmnopqrstuvwxyz" 225)),(dE P "FIGURES" 228 (.str "0123456789" 227)),(dE P "NO_SHADES" 230 (.str "-" 229)),(dE P "MOST_LETTERS" 232 (.int 8 231)),(dE P "MOST_FIGURES" 234 (.int 6 233)),(dE P "MOST_POTS" 236 (.int 12 235)),dR P "is_name" 242 44,dR P "plain_number" 249 51,dR P "is_plain" 256 58,dR P "plain_shades" 262 63,dR P "are_figures" 268 68,dR P "book_read" 276 73,dR P "read_hang" 283 80,dR P "read_fold" 290 87,dR P "read_twin" 297 94,dR P "read_wish" 304 101,dR P "read_wax" 310 106,dR P "read_dip" 316 111,dR P "read_boil" 322 116,dR P "read_brew" 329 123,dR P "READERS" 346 124,dR P "read" 356 131,dR P "check_many" 364 138,dR P "check_some" 371 145,dR P "read_name" 378 152,dR P "read_number" 386 159,dR P "read_shades" 394 166,dR P "_law_box" 405 173,dR P "_law_mixed" 415 180,dR P "_law_take" 425 187,dR P "_law_letters" 431 194,dR P "_law_sign" 439 201,dR P "_law_named" 445 206,dR P "_law_numbered" 453 213,dR P "_law_told_deed" 459 218,dR P "_law_figures" 465 223,dR P "_law_written" 475 230,dR P "_law_is_name" 481 235,dR P "_law_is_number" 487 240,dR P "_law_is_figures" 493 245,dR P "_law_picture" 499 250,dR P "_law_meant" 505 255,dR P "_law_spoilt" 516 262,dR P "_law_odd_row" 524 269,dR P "_law_same_deed" 530 274,dR P "_law_same_deeds" 536 279,dR P "law" 542 284] 58) #[])) ::
 (nat_lit 15,(PySem.Obj.mk (.type "tuple") none (.seq #[(.type "ValueError")] 0) #[])) ::
 (nat_lit 22,oA) ::
 (nat_lit 23,(PySem.Obj.mk (.type "dict") none (.dict #[(dE P "__module__" 196 (.str "waxcloth.errors" 187)),(dE P "__firstlineno__" 200 (.int 2 199)),dR P "__static_attributes__" 201 22,dR P "__weakref__" 203 25,(dE P "__doc__" 204 .none)] 3) #[])) ::
 (nat_lit 24,(PySem.Obj.mk (.type "type") none (.cls (PySem.ClassData.mk "WaxError" [(.type "ValueError")] [(.ref 24),(.type "ValueError"),(.type "Exception"),(.type "BaseException"),(.type "object")] 23 "WaxError" true [] [(.ref 37)] false none false)) #[(some (.ref 15)),none,(some (.str "WaxError" 189)),(some (.str "WaxError" 197)),(some (.builtin "ValueError.__new__")),(some (.bool true))])) ::
 (nat_lit 25,(PySem.Obj.mk (.type "getset_descriptor") none (.fields #[(.str "__weakref__" 202),(.ref 24),(.builtin "ExceptionGroup.__weakref__"),.none]) #[])) ::
 (nat_lit 28,(PySem.Obj.mk (.type "tuple") none (.seq #[(.ref 24)] 0) #[])) ::
 (nat_lit 35,oA) ::
 (nat_lit 36,(PySem.Obj.mk (.type "dict") none (.dict #[(dE P "__module__" 214 (.str "waxcloth.errors" 187)),(dE P "__firstlineno__" 218 (.int 4 217)),dR P "__static_attributes__" 219 35,(dE P "__doc__" 220 .none)] 2) #[])) ::
 (nat_lit 37,(PySem.Obj.mk (.type "type") none (.cls (PySem.ClassData.mk "NoDeed" [(.ref 24)] [(.ref 37),(.ref 24),(.type "ValueError"),(.type "Exception"),(.type "BaseException"),(.type "object")] 36 "NoDeed" true [] [] false none false)) #[(some (.ref 28)),none,(some (.str "NoDeed" 207)),(some (.str "NoDeed" 215)),(some (.builtin "ValueError.__new__")),(some (.bool true))])) ::
 (nat_lit 40,oA) ::
 (nat_lit 43,(oB "is_name" 237 13 1 40)) ::
 (nat_lit 44,(oC "is_name" "waxcloth.words" 10 223 43)) ::
 (nat_lit 45,oA) ::
 (nat_lit 47,(oD "text" 246)) ::
 (nat_lit 48,oA) ::
 (nat_lit 50,(oE "plain_number" 243 15 1 45 247)) ::
 (nat_lit 51,(oC "plain_number" "waxcloth.words" 11 223 50)) ::
 (nat_lit 52,oA) ::
 (nat_lit 54,(oD "text" 253)) ::
 (nat_lit 55,oA) ::
 (nat_lit 57,(oE "is_plain" 250 19 1 52 254)) ::
 (nat_lit 58,(oC "is_plain" "waxcloth.words" 12 223 57)) ::
 (nat_lit 59,oA) ::
 (nat_lit 62,(oB "plain_shades" 257 25 1 59)) ::
 (nat_lit 63,(oC "plain_shades" "waxcloth.words" 13 223 62)) ::
 (nat_lit 64,oA) ::
 (nat_lit 67,(oB "are_figures" 263 31 1 64)) ::
 (nat_lit 68,(oC "are_figures" "waxcloth.words" 14 223 67)) ::
 (nat_lit 69,oA) ::
 (nat_lit 72,(oB "book_read" 271 34 1 69)) ::
 (nat_lit 73,(oC "book_read" "waxcloth.notes" 16 269 72)) ::
 (nat_lit 74,oA) ::
 (nat_lit 76,(oD "words" 280)) ::
 (nat_lit 77,oA) ::
 (nat_lit 79,(oE "read_hang" 277 40 1 74 281)) ::
 (nat_lit 80,(oC "read_hang" "waxcloth.notes" 17 269 79)) ::
 (nat_lit 81,oA) ::
 (nat_lit 83,(oD "words" 287)) ::
 (nat_lit 84,oA) ::
 (nat_lit 86,(oE "read_fold" 284 43 1 81 288)) ::
 (nat_lit 87,(oC "read_fold" "waxcloth.notes" 18 269 86)) ::
 (nat_lit 88,oA) ::
 (nat_lit 90,(oD "words" 294)) ::
 (nat_lit 91,oA) ::
 (nat_lit 93,(oE "read_twin" 291 46 1 88 295)) ::
 (nat_lit 94,(oC "read_twin" "waxcloth.notes" 19 269 93)) ::
 (nat_lit 95,oA) ::
 (nat_lit 97,(oD "words" 301)) ::
 (nat_lit 98,oA) ::
 (nat_lit 100,(oE "read_wish" 298 49 1 95 302)) ::
 (nat_lit 101,(oC "read_wish" "waxcloth.notes" 20 269 100)) ::
 (nat_lit 102,oA) ::
 (nat_lit 105,(oB "read_wax" 305 52 1 102)) ::
 (nat_lit 106,(oC "read_wax" "waxcloth.notes" 21 269 105)) ::
 (nat_lit 107,oA) ::
 (nat_lit 110,(oB "read_dip" 311 55 1 107)) ::
 (nat_lit 111,(oC "read_dip" "waxcloth.notes" 22 269 110)) ::
 (nat_lit 112,oA) ::
 (nat_lit 115,(oB "read_boil" 317 59 1 112)) ::
 (nat_lit 116,(oC "read_boil" "waxcloth.notes" 23 269 115)) ::
 (nat_lit 117,oA) ::
 (nat_lit 119,(oD "words" 326)) ::
 (nat_lit 120,oA) ::
 (nat_lit 122,(oE "read_brew" 323 61 1 117 327)) ::
 (nat_lit 123,(oC "read_brew" "waxcloth.notes" 24 269 122)) ::
 (nat_lit 124,(PySem.Obj.mk (.type "dict") none (.dict #[dR P "hang" 330 80,dR P "fold" 331 87,dR P "twin" 332 94,dR P "wish" 333 101,dR P "wax" 334 106,dR P "dip" 335 111,dR P "boil" 336 116,dR P "brew" 337 123] 8) #[])) ::
 (nat_lit 125,oA) ::
 (nat_lit 127,(oF "row" "word" "words" "reader" 350)) ::
 (nat_lit 128,oA) ::
 (nat_lit 130,(oE "read" 347 65 1 125 354)) ::
 (nat_lit 131,(oC "read" "waxcloth.notes" 26 269 130)) ::
 (nat_lit 132,oA) ::
 (nat_lit 134,(oG "words" "many" 360)) ::
 (nat_lit 135,oA) ::
 (nat_lit 137,(oE "check_many" 357 71 2 132 362)) ::
 (nat_lit 138,(oC "check_many" "waxcloth.notes" 27 269 137)) ::
 (nat_lit 139,oA) ::
 (nat_lit 141,(oD "words" 368)) ::
 (nat_lit 142,oA) ::
 (nat_lit 144,(oE "check_some" 365 74 1 139 369)) ::
 (nat_lit 145,(oC "check_some" "waxcloth.notes" 28 269 144)) ::
 (nat_lit 146,oA) ::
 (nat_lit 148,(oD "text" 375)) ::
 (nat_lit 149,oA) ::
 (nat_lit 151,(oE "read_name" 372 77 1 146 376)) ::
 (nat_lit 152,(oC "read_name" "waxcloth.notes" 29 269 151)) ::
 (nat_lit 153,oA) ::
 (nat_lit 155,(oG "text" "number" 382)) ::
 (nat_lit 156,oA) ::
 (nat_lit 158,(oE "read_number" 379 81 1 153 384)) ::
 (nat_lit 159,(oC "read_number" "waxcloth.notes" 30 269 158)) ::
 (nat_lit 160,oA) ::
 (nat_lit 162,(oG "text" "shades" 390)) ::
 (nat_lit 163,oA) ::
 (nat_lit 165,(oE "read_shades" 387 86 1 160 392)) ::
 (nat_lit 166,(oC "read_shades" "waxcloth.notes" 31 269 165)) ::
 (nat_lit 167,oA) ::
 (nat_lit 169,(PySem.Obj.mk (.type "tuple") none (.seq (sN 400 ["_law_script","_law_seed","_law_cell"]) 0) #[])) ::
 (nat_lit 170,oA) ::
 (nat_lit 172,(oE "_law_box" 397 92 1 167 403)) ::
 (nat_lit 173,(oC "_law_box" "law_waxcloth_k32_a_book_refused" 33 395 172)) ::
 (nat_lit 174,oA) ::
 (nat_lit 176,(oF "_law_number" "_law_turn" "_law_one" "_law_two" 409)) ::
 (nat_lit 177,oA) ::
 (nat_lit 179,(oE "_law_mixed" 406 97 2 174 413)) ::
 (nat_lit 180,(oC "_law_mixed" "law_waxcloth_k32_a_book_refused" 34 395 179)) ::
 (nat_lit 181,oA) ::
 (nat_lit 183,(oF "_law_box_here" "_law_many" "_law_left" "_law_cell" 419)) ::
 (nat_lit 184,oA) ::
 (nat_lit 186,(oE "_law_take" 416 101 2 181 423)) ::
 (nat_lit 187,(oC "_law_take" "law_waxcloth_k32_a_book_refused" 35 395 186)) ::
 (nat_lit 188,oA) ::
 (nat_lit 190,oA) ::
 (nat_lit 191,oA) ::
 (nat_lit 193,(oE "_law_letters" 426 115 0 188 429)) ::
 (nat_lit 194,(oC "_law_letters" "law_waxcloth_k32_a_book_refused" 36 395 193)) ::
 (nat_lit 195,oA) ::
 (nat_lit 197,(oG "_law_box_here" "_law_some" 435)) ::
 (nat_lit 198,oA) ::
 (nat_lit 200,(oE "_law_sign" 432 117 1 195 437)) ::
 (nat_lit 201,(oC "_law_sign" "law_waxcloth_k32_a_book_refused" 37 395 200)) ::
 (nat_lit 202,oA) ::
 (nat_lit 205,(oB "_law_named" 440 122 1 202)) ::
 (nat_lit 206,(oC "_law_named" "law_waxcloth_k32_a_book_refused" 38 395 205)) ::
 (nat_lit 207,oA) ::
 (nat_lit 209,(oG "_law_box_here" "_law_way" 449)) ::
 (nat_lit 210,oA) ::
 (nat_lit 212,(oE "_law_numbered" 446 125 1 207 451)) ::
 (nat_lit 213,(oC "_law_numbered" "law_waxcloth_k32_a_book_refused" 39 395 212)) ::
 (nat_lit 214,oA) ::
 (nat_lit 217,(oB "_law_told_deed" 454 132 1 214)) ::
 (nat_lit 218,(oC "_law_told_deed" "law_waxcloth_k32_a_book_refused" 40 395 217)) ::
 (nat_lit 219,oA) ::
 (nat_lit 222,(oB "_law_figures" 460 152 1 219)) ::
 (nat_lit 223,(oC "_law_figures" "law_waxcloth_k32_a_book_refused" 41 395 222)) ::
 (nat_lit 224,oA) ::
 (nat_lit 226,(oF "_law_deed" "_law_found" "_law_at" "_law_name" 469)) ::
 (nat_lit 227,oA) ::
 (nat_lit 229,(oE "_law_written" 466 156 1 224 473)) ::
 (nat_lit 230,(oC "_law_written" "law_waxcloth_k32_a_book_refused" 42 395 229)) ::
 (nat_lit 231,oA) ::
 (nat_lit 234,(oB "_law_is_name" 476 178 1 231)) ::
 (nat_lit 235,(oC "_law_is_name" "law_waxcloth_k32_a_book_refused" 43 395 234)) ::
 (nat_lit 236,oA) ::
 (nat_lit 239,(oB "_law_is_number" 482 180 1 236)) ::
 (nat_lit 240,(oC "_law_is_number" "law_waxcloth_k32_a_book_refused" 44 395 239)) ::
 (nat_lit 241,oA) ::
 (nat_lit 244,(oB "_law_is_figures" 488 184 1 241)) ::
 (nat_lit 245,(oC "_law_is_figures" "law_waxcloth_k32_a_book_refused" 45 395 244)) ::
 (nat_lit 246,oA) ::
 (nat_lit 249,(oB "_law_picture" 494 186 1 246)) ::
 (nat_lit 250,(oC "_law_picture" "law_waxcloth_k32_a_book_refused" 46 395 249)) ::
 (nat_lit 251,oA) ::
 (nat_lit 254,(oB "_law_meant" 500 190 1 251)) ::
 (nat_lit 255,(oC "_law_meant" "law_waxcloth_k32_a_book_refused" 47 395 254)) ::
 (nat_lit 256,oA) ::
 (nat_lit 258,(PySem.Obj.mk (.type "tuple") none (.seq (sN 509 ["_law_box_here","_law_text","_law_k","_law_at","_law_way"]) 0) #[])) ::
 (nat_lit 259,oA) ::
 (nat_lit 261,(oE "_law_spoilt" 506 217 2 256 514)) ::
 (nat_lit 262,(oC "_law_spoilt" "law_waxcloth_k32_a_book_refused" 48 395 261)) ::
 (nat_lit 263,oA) ::
 (nat_lit 265,(oG "_law_box_here" "_law_some" 520)) ::
 (nat_lit 266,oA) ::
 (nat_lit 268,(oE "_law_odd_row" 517 230 1 263 522)) ::
 (nat_lit 269,(oC "_law_odd_row" "law_waxcloth_k32_a_book_refused" 49 395 268)) ::
 (nat_lit 270,oA) ::
 (nat_lit 273,(oB "_law_same_deed" 525 233 2 270)) ::
 (nat_lit 274,(oC "_law_same_deed" "law_waxcloth_k32_a_book_refused" 50 395 273)) ::
 (nat_lit 275,oA) ::
 (nat_lit 278,(oB "_law_same_deeds" 531 244 2 275)) ::
 (nat_lit 279,(oC "_law_same_deeds" "law_waxcloth_k32_a_book_refused" 51 395 278)) ::
 (nat_lit 280,oA) ::
 (nat_lit 283,(oB "law" 537 248 1 280)) ::
 (nat_lit 284,(oC "law" "law_waxcloth_k32_a_book_refused" 52 395 283)):: []
noncomputable abbrev RR:PySem.W.RowW:=PySem.W.OpenRow.toRowW (PySem.W.OpenLaw.row PySem.Challenge.rw_waxcloth_k32_a_book_refused)
noncomputable def Q:Program:={ RR.prog with main:={ RR.prog.main with body:= [top 1,top 2,top 4,top 5,top 6,top 7,top 8,top 9,top 10,top 11,top 12,top 13,top 14,top 16,top 17,top 18,top 19,top 20,top 21,top 22,top 23,top 24,top 25,top 26,top 27,top 28,top 29,top 30,top 31,top 33,top 34,top 35,top 36,top 37,top 38,top 39,top 40,top 41,top 42,top 43,top 44,top 45,top 46,top 47,top 48,top 49,top 50,top 51,top 52] } }
noncomputable def asL:List Nat:= [2,3,15,22,23,24,25,28,35,36,37,40,43,44,45,47,48,50,51,52,54,55,57,58,59,62,63,64,67,68,69,72,73,74,76,77,79,80,81,83,84,86,87,88,90,91,93,94,95,97,98,100,101,102,105,106,107,110,111,112,115,116,117,119,120,122,123,124,125,127,128,130,131,132,134,135,137,138,139,141,142,144,145,146,148,149,151,152,153,155,156,158,159,160,162,163,165,166,167,169,170,172,173,174,176,177,179,180,181,183,184,186,187,188,190,191,193,194,195,197,198,200,201,202,205,206,207,209,210,212,213,214,217,218,219,222,223,224,226,227,229,230,231,234,235,236,239,240,241,244,245,246,249,250,251,254,255,256,258,259,261,262,263,265,266,268,269,270,273,274,275,278,279,280,283,284]
theorem asE:∀ P,asL=(K P).map (·.1):=fun _=>by kernel_rfl
noncomputable def zhb(P:PySem.Params):List (Nat×Obj) :=
 (0,PySem.W.boot_o_0 P) ::
 (1,PySem.W.boot_o_1 P) ::
 (4,PySem.W.boot_o_4 P) ::
 (5,PySem.W.boot_o_5 P) ::
 (6,PySem.W.boot_o_6 P) ::
 (7,PySem.W.boot_o_7 P) ::
 (8,PySem.W.boot_o_8 P) ::
 (9,PySem.W.boot_o_9 P) ::
 (10,PySem.W.boot_o_10 P) ::
 (11,oA) ::
 (12,(o3 0 [(2,20),(4,33),(13,43),(15,50),(19,57),(25,62),(31,67),(34,72),(40,79),(43,86),(46,93),(49,100),(52,105),(55,110),(59,115),(61,122),(65,130),(71,137),(74,144),(77,151),(81,158),(86,165),(92,172),(97,179),(101,186),(115,193),(117,200),(122,205),(125,212),(132,217),(152,222),(156,229),(178,234),(180,239),(184,244),(186,249),(190,254),(217,261),(230,268),(233,273),(244,278),(248,283)])) ::
 (13,(oH "<module>" 182 1 11)) ::
 (14,(oI "__main__" 13 3 164)) ::
 (16,oJ) ::
 (17,(oK P "WaxError" 196 2 22)) ::
 (18,oA) ::
 (19,oL) ::
 (20,(oH "WaxError" 191 2 18)) ::
 (21,(oI "waxcloth.errors" 20 17 187)) ::
 (26,(PySem.Obj.mk (.type "super") none (.fields (rN [24,24,24])) #[])) ::
 (27,(oM 24)) ::
 (29,oJ) ::
 (30,(oK P "NoDeed" 214 4 35)) ::
 (31,oA) ::
 (32,oL) ::
 (33,(oH "NoDeed" 209 4 31)) ::
 (34,(oI "waxcloth.errors" 33 30 187)) ::
 (38,(PySem.Obj.mk (.type "super") none (.fields (rN [37,37,37])) #[])) ::
 (39,(oM 37)) ::
 (41,oL) ::
 (42,(oN "is_name" 10)) ::
 (46,oL) ::
 (49,(oN "plain_number" 11)) ::
 (53,oL) ::
 (56,(oN "is_plain" 12)) ::
 (60,oL) ::
 (61,(oN "plain_shades" 13)) ::
 (65,oL) ::
 (66,(oN "are_figures" 14)) ::
 (70,oL) ::
 (71,(oN "book_read" 16)) ::
 (75,oL) ::
 (78,(oN "read_hang" 17)) ::
 (82,oL) ::
 (85,(oN "read_fold" 18)) ::
 (89,oL) ::
 (92,(oN "read_twin" 19)) ::
 (96,oL) ::
 (99,(oN "read_wish" 20)) ::
 (103,oL) ::
 (104,(oN "read_wax" 21)) ::
 (108,oL) ::
 (109,(oN "read_dip" 22)) ::
 (113,oL) ::
 (114,(oN "read_boil" 23)) ::
 (118,oL) ::
 (121,(oN "read_brew" 24)) ::
 (126,oL) ::
 (129,(oN "read" 26)) ::
 (133,oL) ::
 (136,(oN "check_many" 27)) ::
 (140,oL) ::
 (143,(oN "check_some" 28)) ::
 (147,oL) ::
 (150,(oN "read_name" 29)) ::
 (154,oL) ::
 (157,(oN "read_number" 30)) ::
 (161,oL) ::
 (164,(oN "read_shades" 31)) ::
 (168,oL) ::
 (171,(oN "_law_box" 33)) ::
 (175,oL) ::
 (178,(oN "_law_mixed" 34)) ::
 (182,oL) ::
 (185,(oN "_law_take" 35)) ::
 (189,oL) ::
 (192,(oN "_law_letters" 36)) ::
 (196,oL) ::
 (199,(oN "_law_sign" 37)) ::
 (203,oL) ::
 (204,(oN "_law_named" 38)) ::
 (208,oL) ::
 (211,(oN "_law_numbered" 39)) ::
 (215,oL) ::
 (216,(oN "_law_told_deed" 40)) ::
 (220,oL) ::
 (221,(oN "_law_figures" 41)) ::
 (225,oL) ::
 (228,(oN "_law_written" 42)) ::
 (232,oL) ::
 (233,(oN "_law_is_name" 43)) ::
 (237,oL) ::
 (238,(oN "_law_is_number" 44)) ::
 (242,oL) ::
 (243,(oN "_law_is_figures" 45)) ::
 (247,oL) ::
 (248,(oN "_law_picture" 46)) ::
 (252,oL) ::
 (253,(oN "_law_meant" 47)) ::
 (257,oL) ::
 (260,(oN "_law_spoilt" 48)) ::
 (264,oL) ::
 (267,(oN "_law_odd_row" 49)) ::
 (271,oL) ::
 (272,(oN "_law_same_deed" 50)) ::
 (276,oL) ::
 (277,(oN "_law_same_deeds" 51)) ::
 (281,oL) ::
 (282,(oN "law" 52)):: []
noncomputable def mix:Nat->Nat->List (Nat×Obj)->List (Nat×Obj)->List Obj
 |0,_,_,_=> []
 |n+1,i,(a,x)::l,(b,y)::r=>match Nat.beq a i with
  |true=>x::mix n (i+1) l ((b,y)::r)
  |false=>y::mix n (i+1) ((a,x)::l) r
 |n+1,i,(_,x)::l,[]=>x::mix n (i+1) l []
 |n+1,i,[],(_,y)::r=>y::mix n (i+1) [] r
 |_+1,_,[],[]=> []
noncomputable def ev:Bool->List Obj->List Obj
 |_,[]=> []
 |true,x::r=>x::ev false r
 |false,_::r=>ev true r
noncomputable def bt:Nat->List Obj->PySem.W.BT
 |0,_=>.nil
 |_+1,[]=>.nil
 |n+1,x::r=>.node x (bt n (ev true r)) (bt n (ev false r))
noncomputable def lf:Life:=(.mk [] [] [] 0 [] [] false #[] [] 0 false false false 0 [2000,10,10] false 0 true [] [] 0 false)
noncomputable def zha(P:PySem.Params):List Obj:=mix 285 0 (K P) (zhb P)
noncomputable def ze8:Env:={ scope:=RR.prog.main.scope,locals:=mainNs,globals:=mainNs,cells:= [],code:=.ref 13,frame:=some 14 }
noncomputable def bH:List Stmt:=PySem.W.behindTheImports RR.prog
noncomputable def cH:Code:=.body bH ze8
noncomputable abbrev BH:List Frame:= [PySem.W.topFrame ⟨0,0,0,0⟩]
noncomputable def zfv (P:PySem.Params):List Obj:= [PySem.W.boot_o_0 P,PySem.W.boot_o_1 P,PySem.W.boot_o_2 P,PySem.W.boot_o_3 P,PySem.W.boot_o_4 P,PySem.W.boot_o_5 P,PySem.W.boot_o_6 P,PySem.W.boot_o_7 P,PySem.W.boot_o_8 P,PySem.W.boot_o_9 P,PySem.W.boot_o_10 P,oA,oL,(oH "<module>" 182 1 11),(oI "__main__" 13 3 164)]
theorem preH:∀ w:World,(fun os=>PySem.W.topGo treeTable RR.prog w 11 (some (.ref 6)) 12 ⟨PySem.W.boot_heap w.params,Array.mk [],PySem.W.boot_drawn,PySem.W.boot_toks,os⟩ (PySem.W.topStub RR.prog))=fun os=>some (⟨⟨(zfv w.params).toArray,lf⟩,Array.mk [],PySem.W.boot_drawn,187,os⟩,⟨denote treeTable cH,cH,⟨0,0,0,0⟩,BH⟩):=fun w=>by kernel_rfl
noncomputable def tr0(P:PySem.Params):PySem.W.BT:=bt 14 (zfv P)
theorem zeP:∀ w:World,(fun os=>PySem.W.segRun treeTable RR.prog w 11 (some (.ref 6)) 1 1 ⟨⟨(zfv w.params).toArray,lf⟩,Array.mk [],PySem.W.boot_drawn,187,os⟩ (PySem.W.blockOf bH ze8 cH ⟨0,0,0,0⟩ BH))=fun os=>some (.next,(PySem.W.SharedT.mk (tr0 w.params) 15 lf (Array.mk []) PySem.W.boot_drawn 187 os).abs,cH,⟨0,0,0,0⟩):=fun w=>by kernel_rfl
noncomputable def tr1(P:PySem.Params):PySem.W.BT:=bt 14 (zha P)
noncomputable def zhC:List Stmt:=bH
theorem zhq:∀ w:World,(fun os=>PySem.W.segRunT treeTable RR.prog w 11 (some (.ref 6)) 1 1757 (PySem.W.SharedT.mk (tr0 w.params) 15 lf (Array.mk []) PySem.W.boot_drawn 187 os) (PySem.W.piecesOf zhC ze8 cH ⟨0,0,0,0⟩ BH))=fun os=>some (.next,(PySem.W.SharedT.mk (tr1 w.params) 285 lf (Array.mk []) PySem.W.boot_drawn 543 os),cH,⟨248,0,272,64⟩):=by
 refine PySem.W.byRow2 "special-get-raises" ?_ ?_<;>exact fun w=>by kernel_rfl
noncomputable def hE(P:PySem.Params):Heap:=⟨(zha P).toArray,lf⟩
theorem finH:∀ w:World,(fun os=>PySem.W.topRun treeTable RR.prog w 11 (some (.ref 6)) 2 (PySem.W.SharedT.mk (tr1 w.params) 285 lf (Array.mk []) PySem.W.boot_drawn 543 os).abs ⟨PySem.W.doneF .next,cH,⟨248,0,272,64⟩,BH⟩)=fun os=>some ⟨hE w.params,Array.mk [],PySem.W.boot_drawn,543,os⟩:=fun w=>by kernel_rfl
theorem zgS:bH=zhC++([]):=by kernel_rfl
theorem runH(w:World)(os:OsState):PySem.W.topRun treeTable RR.prog w 11 (some (.ref 6)) (12+(1+(1757+2))) ⟨PySem.W.boot_heap w.params,Array.mk [],PySem.W.boot_drawn,PySem.W.boot_toks,os⟩ (PySem.W.topStub RR.prog)=some ⟨hE w.params,Array.mk [],PySem.W.boot_drawn,543,os⟩:=by
 refine PySem.W.go_top (congrFun (preH w) os) (PySem.W.piece_block (congrFun (zeP w) os) ?_)
 rw[zgS]
 exact PySem.W.piece_app (PySem.W.segRun_of (congrFun (zhq w) os)) (PySem.W.piece_nil (congrFun (finH w) os))
noncomputable abbrev XtH:Shared->Bool:=fun s=>PySem.W.xlAt Q [] s&&PySem.W.recOk (PySem.W.RowW.records RR) s
theorem zfs:∀ w:World,(fun os=>((PySem.W.staticsOk (importedModules RR.prog.main.body) (PySem.W.boot_heap w.params) (hE w.params)&&PySem.W.namesBound RR.prog (hE w.params)&&PySem.W.gensDone ⟨hE w.params,Array.mk [],PySem.W.boot_drawn,543,os⟩&&PySem.W.laidKept (PySem.W.boot_heap w.params) (hE w.params)),PySem.W.openSeen Q ["READERS"] (importedModules RR.prog.main.body) XtH true ⟨hE w.params,Array.mk [],PySem.W.boot_drawn,543,os⟩,(PySem.W.Hook.obs (PySem.W.kHook K asL asE)) ⟨hE w.params,Array.mk [],PySem.W.boot_drawn,543,os⟩))=fun _=>(true,PySem.W.openGood Q ["READERS"],PySem.W.Hook.val (PySem.W.kHook K asL asE) w):=fun w=>by kernel_rfl
theorem zhg:PySem.W.opening RR.prog=PySem.W.plainProg RR.prog.main.scope.names:=by kernel_rfl
theorem ze9:∀ s,fenceModules? RR.prog s=some s:=fun s=>by kernel_rfl
theorem zhv:∀ w:World,((PySem.W.boot_heap w.params).isNs mainGlobals&&(Array.mk ([]:List GenState)).size==0,(PySem.W.boot_heap w.params).objs.size,(PySem.W.boot_heap w.params).nsMap mainGlobals "__annotations__")=(true,11,(some (.ref 6))):=fun w=>by kernel_rfl
theorem left:PySem.W.LeftO RR.prog Q ["READERS"] XtH (PySem.W.Hook.obs (PySem.W.kHook K asL asE)) (PySem.W.Hook.val (PySem.W.kHook K asL asE)) 3638 :=
 PySem.W.LeftO.of_pieces (PySem.W.boot_open zhg (by decide +kernel) ze9) zhv runH (by decide +kernel) zfs
theorem saidL:PySem.W.OpenLaw.wellSaid PySem.Challenge.rw_waxcloth_k32_a_book_refused=true:=by kernel_rfl
end Wx
open PySem PySem.W PyProof.Rows
set_option hygiene false in
local macro_rules
 | `(tactic| rotate_left 0)=>`(tactic| (dsimp only [L2.KOf];refine' L2.Df.of KX G ?a ?l ?c ?k (fun _ _ _ _ _ _=>L3.el0 rfl);(case a=>k_is);(case l=>k_is);(case c=>k_is);(case k=>k_is)))
 | `(tactic| rotate_left 1)=>`(tactic| (dsimp only [L2.KOf];refine' L2.Df.of KX G ?a ?l ?c ?k (fun _ _ _ _ _ _=>L3.el1 fun _=>rfl);(case a=>k_is);(case l=>k_is);(case c=>k_is);(case k=>k_is)))
 | `(tactic| rotate_left 2)=>`(tactic| (dsimp only [L2.KOf];refine' L2.Df.of KX G ?a ?l ?c ?k (fun _ _ _ _ _ _=>L3.el2 fun _ _=>rfl);(case a=>k_is);(case l=>k_is);(case c=>k_is);(case k=>k_is)))
theorem PySem.Challenge.cw_waxcloth_k32_a_book_refused_holds : PySem.Challenge.rw_waxcloth_k32_a_book_refused.Holds := by
 w_on;refine PySem.W.holds_law Wx.saidL fun said=>?_
 refine PySem.W.holds_open (q:=Wx.Q) (loose:= ["READERS"]) (XP:=PySem.W.XL Wx.Q []) (YP:=PySem.W.Hook.says (PySem.W.kHook Wx.K Wx.asL Wx.asE)) (N:=3638) Wx.left (PySem.W.Hook.of (PySem.W.kHook Wx.K Wx.asL Wx.asE)) (PySem.W.Hook.keeps (PySem.W.kHook Wx.K Wx.asL Wx.asE)) (fun s e=>PySem.W.xl_of s (xy.mp e).1) PySem.W.XL.keeps (by rfl) (by rfl) (by rfl) (fun s e=>PySem.W.recFacts_of (xy.mp e).2) (by rfl) (by first | assumption | decide +kernel) (by decide +kernel) ⟨rfl,rfl,rfl,rfl,rfl,by decide +kernel⟩ ?hw ?hc
 (case hw=>w_witness2)
 k_fill
 haveI:L2.Cs:=⟨fun _=>0⟩
 refine L2.walkL (l:=PySem.Challenge.rw_waxcloth_k32_a_book_refused) (k:=43) (st:=Wx.sLaw) rfl rfl ⟨rfl,by decide,by decide⟩ (fun w h Y=>PySem.W.kIn_of Y) ?F
 case F=>
  intro w mg fa h KX G hmg
  letI:L2.Cs:=L3.csOf mg
  have HD:L3.AllX (L2.KOf KX) mg Wx.defs:=Wx.hdd KX G (by rotate_left 1) (by rotate_left 1) (by rotate_left 1) (by rotate_left 1) (by rotate_left 1) (by rotate_left 1) (by rotate_left 1) (by rotate_left 1) (by rotate_left 1) (by rotate_left 1) (by rotate_left 1) (by rotate_left 1) (by rotate_left 1) (by rotate_left 1) (by rotate_left 1) (by rotate_left 2) (by rotate_left 1) (by rotate_left 1) (by rotate_left 1) (by rotate_left 1) (by rotate_left 2) (by rotate_left 2) (by rotate_left 0) (by rotate_left 1) (by rotate_left 1) (by rotate_left 1) (by rotate_left 1) (by rotate_left 1) (by rotate_left 1) (by rotate_left 1) (by rotate_left 1) (by rotate_left 1) (by rotate_left 1) (by rotate_left 1) (by rotate_left 2) (by rotate_left 1) (by rotate_left 2) (by rotate_left 2)
  have DB:L2.Df (L2.KOf KX) mg "_law_box" Wx.sBox ["_law_script"]:=by rotate_left 1
  have GD0:L2.GD w (L2.KOf KX) mg "READERS" [("hang","read_hang"),("fold","read_fold"),("twin","read_twin"),("wish","read_wish"),("wax","read_wax"),("dip","read_dip"),("boil","read_boil"),("brew","read_brew")]:=by
   dsimp only [L2.KOf]
   refine' L2.GD.of KX G (D:=124) (ep:=8) (l:= [("hang",330,80),("fold",331,87),("twin",332,94),("wish",333,101),("wax",334,106),("dip",335,111),("boil",336,116),("brew",337,123)]) ?hd ?hs ?ho ?hr ?hn
   (case hd=>k_is)
   (case hs=>decide)
   (case ho=>kernel_rfl)
   (case hr=>kernel_rfl)
   (case hn=>decide +kernel)
  have HB:∀ x,Wx.W.bi.contains x=true->mg x=none:=L3.bi_all (K:=L2.KOf KX) KX G (by kernel_rfl)
  have HX:=L3.ex_of (K:=L2.KOf KX) (L:=Wx.W.ex) KX G (by kernel_rfl)
  have L:L2.Dl (L2.KOf KX) "law" Wx.sLaw fa "_law_script" :=by
   dsimp only [L2.KOf]
   refine' L2.Dl.of KX G hmg ?a ?l ?c ?k ?b
   (case a=>k_is);(case l=>k_is);(case c=>k_is);(case k=>k_is)
   (case b=>exact fun s u=>.of_eq rfl)
  refine⟨L,fun fd Ff base=>?_⟩
  exact L3.law_ok Ff Wx.okS (Wx.kn_box DB (HB "list" (by kernel_rfl))) (by decide) (L3.wk_all (L3.dx_all HD Wx.oks) Wx.hw HB (L3.gi_of (K:=L2.KOf KX) KX G (by kernel_rfl)) (L3.gs_of (K:=L2.KOf KX) KX G (by kernel_rfl)) HX.1 HX.2 (Wx.hgd GD0) (L3.fk_all (K:=L2.KOf KX) KX G (by kernel_rfl)) 20) (by decide) rfl rfl rfl rfl (by first | exact Or.inl rfl | exact Or.inr rfl) rfl Wx.okLaw (fun cells i l t s hi=>Wx.law_run _ (Wx.ok32 0) cells i l t s hi)

