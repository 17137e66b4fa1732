import PyProof.Rows.All
import Wide.All
import OpenK.AllK
import Wide.FinOn
import Lean
import PyProof.EqAt
import PyProof.EqKinds
import PyProof.TupleCall
import PyProof.NeData
import PyProof.DictCompW
import PyProof.WalksEnum
import PyProof.Rows.SortWalk
import PyProof.Rows.SetFrom
import PyProof.SetKind
import PyProof.SetRoads
import PyProof.Tail
import PyProof.FactsAll.set_2
import KE.KRevIter
import PyProof.Rows.StrWeight2
import PyProof.Rows.StrNews2
import PyProof.CallStr
import PyProof.FString
import PyProof.StrBlockH
import PyProof.SliceStr2
import KE.KIntText
import PyProof.Rows.StrNews
import PyProof.StrLoop
import PyProof.StrCalls
import PyProof.StrWalks
import PyProof.ZipIter
import PyProof.WalksMore
import KE.KDictList
import PyProof.Rows.SortStr
import PyProof.DictWalks
import PyProof.DictItems
import KE.KPairComp
import PyProof.Rows.ListMul
import PySem.Challenge.RW_waxcloth_k35_a_new_house
set_option maxHeartbeats 0
set_option maxRecDepth 100000
set_option bootstrap.genMatcherCode false
set_option compiler.extract_closed false
abbrev xa:=@Bool.and_eq_true
abbrev xb:=@List.getElem?_eq_some_iff
abbrev xc:=@List.getElem?_append_left
abbrev xf:=@List.getElem?_append_right
abbrev xg:=@List.getElem?_set_ne
abbrev xh:=@Nat.le_refl
abbrev xi:=@List.getElem?_set_self
abbrev xj:=@Nat.ne_of_lt
abbrev xk:=@List.mem_cons_of_mem
abbrev xl:=@Nat.lt_of_lt_of_le
abbrev xm:=@List.mem_cons_self
abbrev xn:=@List.size_toArray
abbrev xo:=@List.getElem?_eq_none
abbrev xp:=@List.length_cons
abbrev xq:=@List.lookup_cons
abbrev xr:=@List.length_map
abbrev xt:=@List.getElem?_map
abbrev xu:=@List.map_cons
abbrev xv:=@List.mem_cons
abbrev xw:=@List.mem_append_right
abbrev xy:=@List.nodup_cons
abbrev xz:=@List.getElem?_replicate
abbrev xA:=@List.all_eq_true
abbrev xB:=@List.getElem?_eq_getElem
abbrev xC:=@Bool.and_eq_true_iff
abbrev xD:=@Bool.or_eq_true
abbrev xE:=@Nat.le_trans
abbrev xF:=@List.getElem?_take_of_lt
abbrev xG:=@List.length_set
abbrev xH:=@List.length_take
abbrev xI:=@List.ext_getElem?
abbrev xJ:=@List.nodup_append
abbrev xK:=@List.length_append
abbrev xL:=@List.append_nil
abbrev xM:=@List.replicate_succ
abbrev xN:=@List.find?_cons
abbrev xO:=@Nat.lt_irrefl
abbrev xP:=@List.any_cons
abbrev xQ:=@List.mem_append
abbrev xR:=@List.elem_iff
abbrev xS:=@List.getD_eq_getElem?_getD
abbrev xT:=@Nat.zero_le
abbrev xU:=@List.flatten_cons
abbrev xV:=@Nat.le_of_lt
abbrev xW:=@List.all_cons
abbrev xX:=@List.length_replicate
abbrev xY:=@List.mem_append_left
abbrev xZ:=@List.mem_of_getElem?
abbrev ua:=@List.filterMap_cons
abbrev ub:=@List.getElem?_range
abbrev uc:=@List.getElem?_cons_succ
abbrev ud:=@List.map_map
abbrev ue:=@Int.emod_lt_of_pos
abbrev uf:=@List.set_append_right
abbrev ug:=@Nat.ne_of_gt
abbrev uh:=@List.drop_length
abbrev ui:=@List.mem_map
abbrev uj:=@List.drop_eq_getElem_cons
abbrev uk:=@List.getLast?_eq_getElem?
abbrev ul:=@Int.emod_nonneg
abbrev um:=@Bool.false_eq_true
abbrev uo:=@Int.eq_ofNat_of_zero_le
abbrev uq:=@List.append_assoc
abbrev ur:=@Option.map_eq_some_iff
abbrev ut:=@Bool.not_eq_true'
abbrev uu:=@Nat.lt_succ_self
abbrev uw:=@List.prefix_refl
abbrev ux:=@Option.map_some
set_option Elab.async false
set_option linter.all false
namespace L2
open PySem PySem.Spec PyProof.Rows
noncomputable abbrev Key:=Sum Int Str
noncomputable def WU:Key->Value->Bool
 |.inl k,v=>Value.isInt k v
 |.inr x,v=>Value.isStrOf x v
noncomputable def keyH(w:World):Key->Int
 |.inl k=>hashInt k
 |.inr x=>hashStr w x
theorem zv:∀ {k:Key}{v:Value},WU k v=true->(∃ i t,k=Sum.inl i/\v=Value.int i t)∨(∃ x t,k=Sum.inr x/\v=Value.str x t)
 |.inl i,v,h=>by
  obtain⟨t,e⟩:=Value.isInt_shape (k:=i) (v:=v) h
  exact .inl ⟨i,t,rfl,e⟩
 |.inr x,v,h=>by
  obtain⟨t,e⟩:=Value.isStrOf_shape (x:=x) (v:=v) h
  exact .inr ⟨x,t,rfl,e⟩
theorem Y8(i:Int)(t:Tok):WU (.inl i) (.int i t)=true:=by simp[WU,Value.isInt]
theorem Y9(x:Str)(t:Tok):WU (.inr x) (.str x t)=true:=by simp[WU,Value.isStrOf]
theorem zeU(a b:Int):decide ((Sum.inl a:Key)=Sum.inl b)=(a==b):=by
 by_cases e:a=b
 ·subst e;simp
 ·have h:¬ (Sum.inl a:Key)=Sum.inl b:=fun q=>e (Sum.inl.inj q)
  rw[decide_eq_false h]
  exact (beq_eq_false_iff_ne.mpr e).symm
theorem zeX(a b:Str):decide ((Sum.inr a:Key)=Sum.inr b)=decide (a=b):=by
 by_cases e:a=b
 ·subst e;simp
 ·have h:¬ (Sum.inr a:Key)=Sum.inr b:=fun q=>e (Sum.inr.inj q)
  rw[decide_eq_false h,decide_eq_false e]
theorem zeV(a:Int)(b:Str):decide ((Sum.inl a:Key)=Sum.inr b)=false:=decide_eq_false (fun q=>nomatch q)
theorem zeW(a:Str)(b:Int):decide ((Sum.inr a:Key)=Sum.inl b)=false:=decide_eq_false (fun q=>nomatch q)
noncomputable def zn(prog:Program)(w:World):PySem.KeyKind prog w Key where
 is:=WU
 hash:=keyH w
 inj:=fun v a b ha hb=>by
  rcases zv ha with ⟨i,t,rfl,rfl⟩ | ⟨x,t,rfl,rfl⟩
  ·rcases zv hb with ⟨j,u,rfl,e⟩ | ⟨y,u,rfl,e⟩
   ·injection e with e1 _;rw[e1]
   ·exact nomatch e
  ·rcases zv hb with ⟨j,u,rfl,e⟩ | ⟨y,u,rfl,e⟩
   ·exact nomatch e
   ·injection e with e1 _;rw[e1]
 byValue:=fun k v h=>by
  rcases zv h with ⟨i,t,rfl,rfl⟩ | ⟨x,t,rfl,rfl⟩<;>rfl
 pyHash:=fun hv h=>by
  rcases zv hv with ⟨i,t,rfl,rfl⟩ | ⟨x,t,rfl,rfl⟩
  ·exact wpAny_pyHash_int h
  ·exact wpAny_pyHash_str h
 eqBool:=fun hu hv h=>by
  rcases zv hu with ⟨i,t,rfl,rfl⟩ | ⟨x,t,rfl,rfl⟩
  ·rcases zv hv with ⟨j,u,rfl,rfl⟩ | ⟨y,u,rfl,rfl⟩
   ·rw[zeU]at h;exact wpAny_eqBool_int h
   ·rw[zeV]at h;exact SeqAt.EqAt.int_str i t y u _ _ _ _ h
  ·rcases zv hv with ⟨j,u,rfl,rfl⟩ | ⟨y,u,rfl,rfl⟩
   ·rw[zeW]at h;exact SeqAt.EqAt.str_int x t j u _ _ _ _ h
   ·rw[zeX]at h;exact wpAny_eqBool_str h
 «strs»:=fun k x t v h=>by
  rcases zv h with ⟨i,u,rfl,e⟩ | ⟨y,u,rfl,e⟩
  ·exact nomatch e
  ·injection e with e1 _
   subst e1
   cases v<;>rfl
theorem VM(prog:Program)(w:World)(i:Int)(t:Tok):(zn prog w).is (.inl i) (.int i t)=true:=Y8 i t
theorem VN(prog:Program)(w:World)(x:Str)(t:Tok):(zn prog w).is (.inr x) (.str x t)=true:=Y9 x t
inductive V where
 |non | bl (b:Bool) | int (i:Int) | str (x:Str) | byt (b:Array UInt8) | flt (b:UInt64) | ref (a:Addr) | ty (n:String)
 deriving DecidableEq
noncomputable def RelV:V->Value->Prop
 |.non,u=>u=Value.none
 |.bl b,u=>u=Value.bool b
 |.int i,u=>∃ t,u=Value.int i t
 |.str x,u=>∃ t,u=Value.str x t
 |.byt b,u=>∃ t,u=Value.bytes b t
 |.flt b,u=>∃ t,u=Value.float b t
 |.ref a,u=>u=Value.ref a
 |.ty n,u=>u=Value.type n
noncomputable abbrev Vals:List V->List Value->Prop:=Paired RelV
theorem Vals.length{xs:List V}{us:List Value}(r:Vals xs us):xs.length=us.length:=Paired.length r
theorem Vals.get:∀ {xs:List V}{us:List Value}{i:Nat}{x:V},Vals xs us->xs[i]?=some x->∃ u,us[i]?=some u/\RelV x u
 |_,_,_,_,.nil,e=>by simp at e
 |_,_,0,_,.cons r _,e=>by simp at e;subst e;exact⟨_,rfl,r⟩
 |_,_,i+1,x,.cons _ t,e=>by
  obtain⟨u,h1,h2⟩:=Vals.get (i:=i) (x:=x) t (by simpa using e)
  exact⟨u,by simpa using h1,h2⟩
theorem Vals.set{x:V}{u:Value}(r:RelV x u):∀ {xs:List V}{us:List Value}(i:Nat),Vals xs us->Vals (xs.set i x) (us.set i u)
 |_,_,_,.nil=>.nil
 |_,_,0,.cons _ t=>.cons r t
 |_,_,i+1,.cons q t=>.cons q (Vals.set r i t)
theorem Vals.append:∀ {xs ys:List V}{us ws:List Value},Vals xs us->Vals ys ws->Vals (xs++ys) (us++ws)
 |_,_,_,_,.nil,s=>s
 |_,_,_,_,.cons r t,s=>.cons r (Vals.append t s)
theorem Vals.take:∀ {xs:List V}{us:List Value}(n:Nat),Vals xs us->Vals (xs.take n) (us.take n)
 |_,_,0,_=>.nil
 |_,_,_+1,.nil=>.nil
 |_,_,n+1,.cons r t=>.cons r (Vals.take n t)
theorem Vals.drop:∀ {xs:List V}{us:List Value}(n:Nat),Vals xs us->Vals (xs.drop n) (us.drop n)
 |_,_,0,r=>r
 |_,_,_+1,.nil=>.nil
 |_,_,n+1,.cons _ t=>Vals.drop n t
noncomputable def RelO:Option V->Option Value->Prop
 |some v,some u=>RelV v u
 |none,none=>True
 |_,_=>False
noncomputable def KV{κ:Type}:List (κ×V)->List (κ×Value)->Prop:=Paired fun (p:κ×V) (q:κ×Value)=>p.1=q.1/\RelV p.2 q.2
noncomputable def kV:Key->V
 |.inl i=>.int i
 |.inr x=>.str x
inductive HO where
 /-- a list -/
 |lst (xs:List V)
 /-- a tuple (never changes) -/
 |tup (xs:List V)
 /-- a dict whose keys are ints and texts;one whose keys are tuples of ints and texts (the empty one is zR) -/
 |dK (kvs:List (Key×V)) | dT (kvs:List (List Key×V))
 /-- a set of ints: its members,its size -/
 |set (S:Int->Bool) (n:Nat)
 /-- an instance of the class at C,its dict at dx,its attributes -/
 |ins (C dx:Addr) (fs:List (Str×V))
 /-- the dict of the instance at x -/
 |own (x:Addr)
 /-- the dict of an exception -/
 |xd (fs:List (Str×V))
 /-- a bound method,f of x -/
 |met (f x:Addr)
 /-- a range object lo,lo+1,.. below hi -/
 |rng (lo hi:Int)
 /-- a thing that is known to the object (the script;a dict while a loop walks it): read,never written while it is so -/
 |frz (o:Obj) (u:HO)
 /-- a code object's table -/
 |tbl (ps:Array Value)
 /-- any other thing,by what is true of its one object (a def of one's own: SetO a S n:=HO.ext fun h=>..) -/
 |ext (φ:Heap->Prop)
noncomputable abbrev Hp:=Addr->Option HO
noncomputable def upd(H:Hp)(a:Addr)(o:HO):Hp:=fun b=>if b=a then some o else H b
theorem ze{H:Hp}{a:Addr}{o:HO}:upd H a o a=some o:=by unfold upd;rw[if_pos rfl]
theorem zc{H:Hp}{a b:Addr}{o:HO}(h:b≠a):upd H a o b=H b:=by unfold upd;rw[if_neg h]
theorem zd5{H:Hp}{a b:Addr}{o u:HO}(h:H a=some o)(h':H b=some u)(d:o≠u):a≠b:=by
 intro e;subst e;rw[h]at h';exact d (Option.some.inj h')
theorem zw{H:Hp}{a b:Addr}{o:HO}(h:H a=some o)(h':H b=none):a≠b:=by
 intro e;subst e;rw[h]at h';cases h'
section
variable (P:Program) (w:World)
noncomputable def ObjOk(H:Hp)(h:Heap)(a:Addr):HO->Prop
 |.lst xs=>xs.length<=sizeLine/\∃ (its:List Value) (n:Nat),Vals xs its/\h.get? a=some { cls:=.type "list",data:=.seq its.toArray n }
 |.tup xs=>xs.length<=sizeLine/\∃ its:List Value,Vals xs its/\IsTup h a its.toArray
 |.dK kvs=>kvs.length<=sizeLine/\(a==sysModules)=false/\∃ vs,KV kvs vs/\h.DictOf (zn P w) a vs
 |.dT kvs=>kvs.length<=sizeLine/\(a==sysModules)=false/\∃ xs:List (List Key×Addr×Value),
   Paired (fun (p:List Key×V) (q:List Key×Addr×Value)=>p.1=q.1/\H q.2.1=some (.tup (p.1.map kV))/\RelV p.2 q.2.2) kvs xs /\
   ∃ o es ep,h.get? a=some o/\o.ExactDict/\o.data=.dict es ep/\es.toList=xs.map (entryOfKey (tupleKind (zn P w)))/\(xs.map (·.1)).Nodup
 |.set S n=>h.SetOf (intKind P w) a S n
 |.ins C dx fs=>H dx=some (.own a)/\fs.length<=1000/\dx≠a/\h.get? a=some (PySem.W.instObj C dx) /\
   ∃ mA,h.Ns1 dx mA/\(∀ f,RelO (fs.lookup f) (mA f))/\PySem.Within mA (fs.map (·.1))
 |.own _=>∃ o,h.get? a=some o
 |.xd fs=>∃ mA,h.Ns1 a mA/\∀ f,RelO (fs.lookup f) (mA f)
 |.rng lo hi=>∃ t u v,h.get? a=some { cls:=.type "range",data:=.fields #[.int lo t,.int hi u,.int 1 v] }
 |.frz o u=>h.get? a=some o/\ObjOk H h a u
 |.tbl ps=>h.get? a=some { cls:=.none,data:=.fields ps }
 |.met f x=>h.get? a=some (PySem.W.methodObj (.ref f) (.ref x))
 |.ext φ=>φ h/\(∃ o,h.get? a=some o)/\∀ h1 h2:Heap,φ h1->(∀ o,h1.get? a=some o->h2.get? a=some o)->φ h2
noncomputable def HOk(H:Hp)(h:Heap):Prop:=∀ a o,H a=some o->ObjOk P w H h a o
end
section
variable {P:Program} {w:World} {H H':Hp} {h h':Heap} {a:Addr} {o:HO}
theorem ObjOk.lt(x:ObjOk P w H h a o):a<h.objs.size:=by
 cases o with
 |lst xs=>obtain⟨_,_,_,_,e⟩:=x;exact Heap.lt_size e
 |tup xs=>obtain⟨_,_,_,p⟩:=x;exact p.lt
 |dK kvs=>obtain⟨_,_,_,_,o,_,_,e,_⟩:=x;exact Heap.lt_size e
 |dT kvs=>obtain⟨_,_,_,_,o,_,_,e,_⟩:=x;exact Heap.lt_size e
 |set S n=>obtain⟨o,_,_,_,e,_⟩:=x;exact Heap.lt_size e
 |ins C dx fs=>obtain⟨_,_,_,e,_⟩:=x;exact Heap.lt_size e
 |own y=>obtain⟨_,e⟩:=x;exact Heap.lt_size e
 |xd fs=>obtain⟨_,⟨_,_,_,e,_⟩,_⟩:=x;exact Heap.lt_size e
 |rng lo hi=>obtain⟨_,_,_,e⟩:=x;exact Heap.lt_size e
 |frz ob u=>obtain⟨e,_⟩:=x;exact Heap.lt_size e
 |tbl ps=>exact Heap.lt_size (show h.get? a=some _ from x)
 |met f y=>exact Heap.lt_size (show h.get? a=some _ from x)
 |ext φ=>obtain⟨_,⟨_,e⟩,_⟩:=x;exact Heap.lt_size e
theorem Paired.mapP{α β:Type}{F G:α->β->Prop}:∀ {l₁:List α} {l₂:List β},Paired F l₁ l₂->(∀ a b,F a b->G a b)->Paired G l₁ l₂
 |_,_,.nil,_=>.nil
 |_,_,.cons r t,f=>.cons (f _ _ r) (Paired.mapP t f)
theorem ObjOk.stay(x:ObjOk P w H h a o)(k:∀ b u,(b=a∨H b=some (.own a))->h.get? b=some u->h'.get? b=some u)
  (ho:∀ b,H b=some (.own a)->H' b=some (.own a)) (ht:∀ b xs,H b=some (.tup xs)->H' b=some (.tup xs)):ObjOk P w H' h' a o:=by
 induction o with
 |lst xs=>obtain⟨z,its,n,r,e⟩:=x;exact⟨z,its,n,r,k _ _ (.inl rfl) e⟩
 |tup xs=>obtain⟨z,its,r,ob,e,c⟩:=x;exact⟨z,its,r,ob,k _ _ (.inl rfl) e,c⟩
 |dK kvs=>obtain⟨z,y,vs,r,ob,es,ep,e,c⟩:=x;exact⟨z,y,vs,r,ob,es,ep,k _ _ (.inl rfl) e,c⟩
 |dT kvs=>
  obtain⟨z,y,xs,r,ob,es,ep,e,c⟩:=x
  exact⟨z,y,xs,Paired.mapP r fun p q z=>⟨z.1,ht _ _ z.2.1,z.2.2⟩,ob,es,ep,k _ _ (.inl rfl) e,c⟩
 |set S n=>obtain⟨ob,es,ep,t,e,c⟩:=x;exact⟨ob,es,ep,t,k _ _ (.inl rfl) e,c⟩
 |ins C dx fs=>
  obtain⟨d,z,ne,e,mA,⟨od,es,ep,e2,c⟩,r⟩:=x
  exact⟨ho _ d,z,ne,k _ _ (.inl rfl) e,mA,⟨od,es,ep,k _ _ (.inr d) e2,c⟩,r⟩
 |own y=>obtain⟨ob,e⟩:=x;exact⟨ob,k _ _ (.inl rfl) e⟩
 |xd fs=>obtain⟨mA,⟨od,es,ep,e,c⟩,r⟩:=x;exact⟨mA,⟨od,es,ep,k _ _ (.inl rfl) e,c⟩,r⟩
 |rng lo hi=>obtain⟨t,u,v,e⟩:=x;exact⟨t,u,v,k _ _ (.inl rfl) e⟩
 |frz ob u ih=>obtain⟨e,q⟩:=x;exact⟨k _ _ (.inl rfl) e,ih q⟩
 |tbl ps=>
  have e:h.get? a=some { cls:=.none,data:=.fields ps }:=x
  show h'.get? a=some { cls:=.none,data:=.fields ps }
  exact k a _ (.inl rfl) e
 |met f y=>
  have e:h.get? a=some (PySem.W.methodObj (.ref f) (.ref y)):=x
  show h'.get? a=some (PySem.W.methodObj (.ref f) (.ref y))
  exact k a _ (.inl rfl) e
 |ext φ=>obtain⟨p,⟨o,e⟩,st⟩:=x;exact⟨st _ _ p fun o q=>k _ _ (.inl rfl) q,⟨o,k _ _ (.inl rfl) e⟩,st⟩
theorem HOk.lt(x:HOk P w H h)(e:H a=some o):a<h.objs.size:=(x a o e).lt
theorem HOk.fresh(x:HOk P w H h)(e:h.objs.size<=a):H a=none:=by
 cases q:H a with
 |none=>rfl
 |some u=>exact absurd (xl (x.lt q) e) (xO _)
theorem HOk.kept(x:HOk P w H h)(k:∀ b u,h.get? b=some u->h'.get? b=some u):HOk P w H h':=fun a o e=>
 (x a o e).stay (fun b u _ q=>k b u q) (fun _ q=>q) fun _ _ q=>q
theorem HOk.laid(x:HOk P w H h)(k:∀ b u,h.get? b=some u->h'.get? b=some u)(hp:h.objs.size<=a)(new:ObjOk P w (upd H a o) h' a o):HOk P w (upd H a o) h':=fun b u e=>by
 have hn:=x.fresh hp
 by_cases hb:b=a
 ·subst hb;rw[ze]at e;cases e;exact new
 ·rw[zc hb]at e
  exact (x b u e).stay (fun c v _ q=>k c v q) (fun c q=>by rw[zc (zw q hn)];exact q) fun c xs q=>by rw[zc (zw q hn)];exact q
end
noncomputable def Rd(H:Hp)(a:Addr)(u:HO):Prop:=H a=some u∨∃ o,H a=some (.frz o u)
theorem Rd.ok{P:Program}{w:World}{H:Hp}{h:Heap}{a:Addr}{u:HO}(r:Rd H a u)(x:HOk P w H h):ObjOk P w H h a u:=by
 rcases r with r | ⟨o,r⟩
 ·exact x a u r
 ·obtain⟨_,q⟩:=x a _ r
  exact q
noncomputable def Mut:Option HO->Prop
 |some (.lst _)=>True
 |some (.dK _)=>True
 |some (.dT _)=>True
 |some (.set _ _)=>True
 |some (.ins _ _ _)=>True
 |some (.ext _)=>True
 |_=>False
section
variable {P:Program} {w:World} {H:Hp} {h h':Heap} {x e:Addr} {o':HO}
theorem HOk.write(ok:HOk P w H h)(mu:Mut (H x))(he:e=x∨H e=some (.own x))(k:∀ b u,b≠e->h.get? b=some u->h'.get? b=some u)(heo:∃ u,h'.get? e=some u)
  (new:ObjOk P w (upd H x o') h' x o'):HOk P w (upd H x o') h':=fun b u q=>by
 have nown:∀ c y,H c=some (.own y)->c≠x:=fun c y r z=>by subst z;rw[r]at mu;exact mu
 have ntup:∀ c xs,H c=some (.tup xs)->c≠x:=fun c xs r z=>by subst z;rw[r]at mu;exact mu
 by_cases hb:b=x
 ·subst hb;rw[ze]at q;cases q;exact new
 ·rw[zc hb]at q
  by_cases hbe:b=e
  ·have q':H b=some (.own x):=by
    rcases he with z | z
    ·exact absurd (hbe.trans z) hb
    ·rw[hbe];exact z
   rw[q]at q';cases q'
   obtain⟨v,hv⟩:=heo
   exact⟨v,by rw[hbe];exact hv⟩
  ·refine (ok b u q).stay (fun c v hc r=>k c v ?_ r) (fun c r=>by rw[zc (nown c b r)];exact r) fun c xs r=>by rw[zc (ntup c xs r)];exact r
   rcases hc with rfl | hc
   ·exact hbe
   ·rintro rfl
    rcases he with z | z
    ·exact nown c b hc z
    ·rw[hc]at z;cases z;exact hb rfl
end
structure Un(fs ex:List Addr)(H H':Hp)(h h':Heap):Prop where
 keep:∀ b o,h.get? b=some o->H b=none->b∉fs->b∉ex->h'.get? b=some o
 slot:∀ b o,h.get? b=some o->H b=none->b∈fs->b∉ex->∃ sl,h'.get? b=some { o with slots:=sl }
 free:∀ b o,h.get? b=some o->H b=none->b∉ex->H' b=none
 there:∀ b o,h.get? b=some o->b∉ex->∃ o',h'.get? b=some o'
 tups:∀ b xs,H b=some (.tup xs)->H' b=some (.tup xs)
 frzs:∀ b o u,H b=some (.frz o u)->H' b=some (.frz o u)
 tbls:∀ b ps,H b=some (.tbl ps)->∃ more,H' b=some (.tbl (ps++more))
section
variable {fs fs' ex ex':List Addr} {H H1 H2:Hp} {h h1 h2 h':Heap} {a x e:Addr} {o:HO}
theorem Un.any(u:Un fs ex H H1 h h1){b:Addr}{ob:Obj}(q:h.get? b=some ob)(n:H b=none)(hx:b∉ex):∃ sl,h1.get? b=some { ob with slots:=sl }:=by
 by_cases hb:b∈fs
 ·exact u.slot b ob q n hb hx
 ·exact⟨ob.slots,u.keep b ob q n hb hx⟩
theorem Un.kept(k:∀ b u,h.get? b=some u->h'.get? b=some u):Un fs ex H H h h' :=
 ⟨fun b ob q _ _ _=>k b ob q,fun b ob q _ _ _=>⟨ob.slots,k b ob q⟩,fun _ _ _ n _=>n,fun b ob q _=>⟨ob,k b ob q⟩,fun _ _ q=>q,fun _ _ _ q=>q,fun _ ps q=>⟨#[],by rw[q];simp⟩⟩
theorem Un.refl:Un fs ex H H h h:=Un.kept fun _ _ q=>q
theorem Un.laid(k:∀ b u,h.get? b=some u->h'.get? b=some u)(hp:h.objs.size<=a)(hn:H a=none):Un fs ex H (upd H a o) h h' where
 keep:=fun b u q _ _ _=>k b u q
 slot:=fun b u q _ _ _=>⟨u.slots,k b u q⟩
 free:=fun b u q n _=>by rw[zc (xj (xl (Heap.lt_size q) hp))];exact n
 there:=fun b u q _=>⟨u,k b u q⟩
 tups:=fun b xs q=>by rw[zc (zw q hn)];exact q
 frzs:=fun b u xs q=>by rw[zc (zw q hn)];exact q
 tbls:=fun b ps q=>⟨#[],by rw[zc (zw q hn),q];simp⟩
theorem Un.write(mu:Mut (H x))(he:e=x∨H e=some (.own x))(k:∀ b u,b≠e->h.get? b=some u->h'.get? b=some u)(heo:∃ u,h'.get? e=some u):Un fs ex H (upd H x o) h h':=by
 have hx:∀ b,H b=none->b≠x:=fun b n z=>by subst z;rw[n]at mu;exact mu
 have hb:∀ b,H b=none->b≠e:=fun b n z=>by
  subst z
  rcases he with r | r
  ·exact hx b n r
  ·rw[n]at r;cases r
 have hm:∀ b u,H b=some u->¬ Mut (some u)->b≠x:=fun b u q nm z=>by subst z;rw[q]at mu;exact nm mu
 refine⟨fun b u q n _ _=>k b u (hb b n) q,fun b u q n _ _=>⟨u.slots,k b u (hb b n) q⟩,fun b u q n _=>by rw[zc (hx b n)];exact n,fun b u q _=>?_,
  fun b xs q=>by rw[zc (hm b _ q fun z=>z)];exact q,fun b u xs q=>by rw[zc (hm b _ q fun z=>z)];exact q,fun b ps q=>⟨#[],by rw[zc (hm b _ q fun z=>z),q];simp⟩⟩
 by_cases hbe:b=e
 ·subst hbe;exact heo
 ·exact⟨u,k b u hbe q⟩
end
noncomputable def trk(h:Heap)(H:Hp):List Addr:=(List.range h.objs.size).filter fun a=>(H a).isSome
noncomputable def vJ(h:Heap)(H:Hp):Heap:=PySem.W.hideAll h (trk h H)
theorem Y4(h:Heap)(H:Hp):(vJ h H).objs.size=h.objs.size:=PySem.W.hideAll_size _ _
theorem K4{h:Heap}{H:Hp}{b:Addr}{o:Obj}(e:h.get? b=some o)(n:H b=none):(vJ h H).get? b=some o :=
 PySem.W.hideAll_get _ e fun hm=>by
  have q:(H b).isSome=true:=(List.mem_filter.mp hm).2
  rw[n]at q;simp at q
theorem zcz{h:Heap}{H:Hp}{b:Addr}{o:Obj}(e:(vJ h H).get? b=some o):h.get? b=some o/\H b=none:=by
 have e':h.get? b=some o:=PySem.W.of_hideAll (trk h H) e
 refine⟨e',?_⟩
 cases q:H b with
 |none=>rfl
 |some x=>
  have hm:b∈trk h H:=List.mem_filter.mpr ⟨List.mem_range.mpr (Heap.lt_size e'),by simp[q]⟩
  have z:(vJ h H).get? b=none:=PySem.W.hideAll_none (trk h H) hm
  rw[z]at e;cases e
structure Mod(K:PySem.W.Frag)(mg:Str->Option Value)(base:Heap):Prop where
 kin:K.In base
 glob:base.Ns mainGlobals mg
 blt:∃ mb,base.Ns builtinsNs mb/\∀ x:Str,x≠ "__name__" ->mb x=bootBuiltins x
 nolimit:base.NoLimit
structure Cx where
 prog:Program
 w:World
 K:PySem.W.Frag
 mg:Str->Option Value
 base:Heap
 A:Around
 N:List Str
 s₀:Shared
 H₀:Hp
 env:Env
 outer:List Env
 stack:List Env
 ex:List Addr
 fn:Str->Bool
 calm:Bool
 pn:List (Addr×Obj)
 xe:Value->Shared->Prop
noncomputable def frs(l:List Env):List Addr:=l.filterMap (·.frame)
noncomputable abbrev Cx.fs(X:Cx):List Addr:=frs X.outer
noncomputable def Vis(sc:Scope)(x:Str):Prop:=sc.names.lookup x=some .local∨sc.names.lookup x=some .cell∨sc.names.lookup x=some .free
noncomputable def Loc(sc:Scope)(x:Str):Prop:=sc.names.lookup x=some .local∨sc.names.lookup x=some .cell
noncomputable def Look(env:Env)(h:Heap)(m:Str->Option Value)(x:Str)(u:Value):Prop :=
 (env.kindOf x=some .local/\m x=some u)∨((env.kindOf x=some .cell∨env.kindOf x=some .free)/\∃ c,env.cells.lookup x=some c/\h.IsCell c (some u))
structure Cx.Ok(X:Cx):Prop where
 mod:Mod X.K X.mg X.base
 kind:X.env.scope.kind=.function
 glob:X.env.globals=mainGlobals
 blt:X.env.builtins=builtinsNs
 above:X.s₀.heap.objs.size<=X.env.locals
 inj:∀ x y c,X.env.cells.lookup x=some c->X.env.cells.lookup y=some c->x=y
 has:∀ x,(X.env.kindOf x=some .cell∨X.env.kindOf x=some .free)->∃ c,X.env.cells.lookup x=some c
 cab:∀ x c,X.fn x=true->X.env.cells.lookup x=some c->X.s₀.heap.objs.size<=c
 hd:X.calm=true->X.A.handled=none
 frames:X.A.frames=some X.stack
 stk:X.stack=X.outer∨(X.stack=X.env::X.outer/\X.env.frame=some X.env.locals)
 exf:∀ b∈X.ex,b≠X.env.locals/\∀ x c,X.env.cells.lookup x=some c->c≠b
 bs:∀ b o,X.base.get? b=some o->X.s₀.heap.get? b=some o/\X.H₀ b=none
 bsz:X.base.objs.size<=X.s₀.heap.objs.size
 noex:∀ b o,X.base.get? b=some o->b∉X.ex
 exfs:∀ b∈X.ex,b∉X.fs
 funs:X.s₀.heap.FunFrames X.base X.outer
 frf:∀ b∈X.fs,X.H₀ b=none
structure Inv(X:Cx)(pins:List (Addr×Obj))(σ:List (Option V))(H:Hp)(s:Shared):Prop where
 ok:X.Ok
 os:s.os=X.s₀.os
 bare:AllBare s.gens
 base:Un X.fs X.ex X.H₀ H X.s₀.heap s.heap
 loc:∃ m,s.heap.Ns X.env.locals m/\∀ (i:Nat) (x:Str) (v:V),X.N[i]?=some x->σ[i]?=some (some v)->Vis X.env.scope x->∃ u,RelV v u/\Look X.env s.heap m x u
 cell:∀ x c,X.env.cells.lookup x=some c->∃ v,s.heap.IsCell c v
 free:H X.env.locals=none
 freeC:∀ x c,X.env.cells.lookup x=some c->H c=none
 pin:∀ p∈X.pn++pins,s.heap.get? p.1=some p.2/\H p.1=none/\p.1≠X.env.locals/\p.1∉X.fs/\∀ v,p.2.data≠ .cell v
 hok:HOk X.prog X.w H s.heap
 len:σ.length=X.N.length
section
variable {X:Cx} {pins:List (Addr×Obj)} {σ:List (Option V)} {H H':Hp} {s:Shared} {h':Heap}
theorem Cx.Ok.nofr(ok:X.Ok){b:Addr}{o:Obj}(e:X.base.get? b=some o):b∉X.fs:=fun hb=>by
 have:=(ok.funs.mem hb).1
 rw[e]at this;cases this
theorem Inv.bs(I:Inv X pins σ H s):∀ b o,X.base.get? b=some o->s.heap.get? b=some o/\H b=none:=fun b o e=>
 ⟨I.base.keep b o (I.ok.bs b o e).1 (I.ok.bs b o e).2 (I.ok.nofr e) (I.ok.noex b o e),I.base.free b o (I.ok.bs b o e).1 (I.ok.bs b o e).2 (I.ok.noex b o e)⟩
theorem Inv.bk(I:Inv X pins σ H s):∀ b o,X.base.get? b=some o->s.heap.get? b=some o:=fun b o e=>(I.bs b o e).1
theorem Inv.mod(I:Inv X pins σ H s):Mod X.K X.mg X.base:=I.ok.mod
theorem Inv.kIn(I:Inv X pins σ H s):X.K.In s.heap:=I.ok.mod.kin.keeps I.bk
theorem Inv.fr(I:Inv X pins σ H s):∃ m,Fr X.base X.env.locals s.heap m :=
 let ⟨m,hn,_⟩:=I.loc
 ⟨m,hn,I.bk,xE I.ok.bsz I.ok.above⟩
theorem Inv.lt(I:Inv X pins σ H s):X.env.locals<s.heap.objs.size:=let ⟨_,hn,_⟩:=I.loc;hn.lt
theorem Inv.sz(I:Inv X pins σ H s):X.s₀.heap.objs.size<=s.heap.objs.size:=xE I.ok.above (xV I.lt)
theorem Inv.nofs(I:Inv X pins σ H s){a:Addr}(h:s.heap.objs.size<=a):a∉X.fs:=fun hb=>by
 obtain⟨_,o,ho,_⟩:=I.ok.funs.mem hb
 exact absurd (xl (Heap.lt_size ho) (xE I.sz h)) (xO _)
theorem Inv.cne(I:Inv X pins σ H s):∀ x c,X.env.cells.lookup x=some c->c≠X.env.locals:=fun x c e z=>by
 obtain⟨v,o,ho,hd⟩:=I.cell x c e
 obtain⟨m,⟨o',es,ep,ho',hd',_⟩,_⟩:=I.loc
 rw[z,ho']at ho;cases ho;rw[hd']at hd;cases hd
theorem Inv.funs(I:Inv X pins σ H s):s.heap.FunFrames X.base X.outer:=by
 have all:∀ (l:List Env),(∀ b∈frs l,b∈X.fs)->X.s₀.heap.FunFrames X.base l->s.heap.FunFrames X.base l:=by
  intro l
  induction l with
  |nil=>intro _ _;trivial
  |cons env r ih=>
   intro hs hl
   obtain⟨hk,⟨L,o,hf,hn,ho,hd⟩,hr⟩:=hl
   have hL:L∈X.fs:=hs L (by unfold frs;rw[ua,hf];exact xm)
   obtain⟨sl,e⟩:=I.base.slot L o ho (I.ok.frf L hL) hL fun z=>I.ok.exfs L z hL
   exact⟨hk,⟨L,_,hf,hn,e,hd⟩,ih (fun b hb=>hs b (by unfold frs;rw[ua,hf];exact xk _ hb)) hr⟩
 exact all X.outer (fun _ hb=>hb) I.ok.funs
theorem Inv.stack(I:Inv X pins σ H s):s.heap.FunFrames X.base X.stack:=by
 rcases I.ok.stk with e | ⟨e,hf⟩
 ·rw[e];exact I.funs
 ·rw[e]
  obtain⟨m,hn,_⟩:=I.loc
  refine .cons (by rw[I.ok.kind];decide) hf hn ?_ I.funs
  exact Heap.get?_none_of_le (xE I.ok.bsz I.ok.above)
theorem Inv.stkSub(I:Inv X pins σ H s):∀ b∈frs X.stack,b∈X.env.locals::X.fs:=fun b hb=>by
 rcases I.ok.stk with e | ⟨e,hf⟩
 ·rw[e]at hb;exact xk _ hb
 ·rw[e]at hb
  unfold frs at hb
  rw[ua,hf]at hb
  exact hb
theorem Inv.stkFree(I:Inv X pins σ H s):∀ b∈frs X.stack,H b=none:=fun b hb=>by
 rcases xv.mp (I.stkSub b hb)with e | hb
 ·rw[e];exact I.free
 ·obtain⟨_,o,ho,_⟩:=I.ok.funs.mem hb
  exact I.base.free b o ho (I.ok.frf b hb) fun z=>I.ok.exfs b z hb
theorem Inv.step{g':Array GenState}{t':Nat}{d':Drawn}{ch:List Addr}(I:Inv X pins σ H s)
  (hch:∀ b∈ch,(b∈X.ex∨X.s₀.heap.objs.size<=b)/\b≠X.env.locals/\(∀ x c,X.env.cells.lookup x=some c->c≠b)/\∀ p∈X.pn++pins,p.1≠b)
  (keep:∀ b o,b≠X.env.locals->b∉X.fs->b∉ch->s.heap.get? b=some o->H b=none->h'.get? b=some o)
  (slot:∀ b o,b≠X.env.locals->b∈X.fs->b∉ch->s.heap.get? b=some o->H b=none->∃ sl,h'.get? b=some { o with slots:=sl }) (free:∀ b o,b∉ch->s.heap.get? b=some o->H b=none->H' b=none)
  (there:∀ b o,b∉ch->s.heap.get? b=some o->∃ o',h'.get? b=some o')
  (tups:∀ b xs,H b=some (.tup xs)->H' b=some (.tup xs)) (frzs:∀ b o u,H b=some (.frz o u)->H' b=some (.frz o u)) (tbls:∀ b ps,H b=some (.tbl ps)->∃ more,H' b=some (.tbl (ps++more)))
  (ns:∀ m,s.heap.Ns X.env.locals m->h'.Ns X.env.locals m) (hok:HOk X.prog X.w H' h') (hg:AllBare g') :
  Inv X pins σ H' { s with heap:=h',gens:=g',drawn:=d',toks:=t' }:=by
 have neL:∀ b o,X.s₀.heap.get? b=some o->b≠X.env.locals:=fun b o e=>xj (xl (Heap.lt_size e) I.ok.above)
 have neC:∀ b o,X.s₀.heap.get? b=some o->b∉X.ex->b∉ch:=fun b o e hx hb=>by
  rcases (hch b hb).1 with z | z
  ·exact hx z
  ·exact absurd (xl (Heap.lt_size e) z) (xO _)
 have cellK:∀ x c,X.env.cells.lookup x=some c->∀ v,s.heap.IsCell c v->h'.IsCell c v:=fun x c e v ⟨o,ho,hd⟩=>by
  have nch:c∉ch:=fun z=>(hch c z).2.2.1 x c e rfl
  by_cases hc:c∈X.fs
  ·obtain⟨sl,q⟩:=slot c o (I.cne x c e) hc nch ho (I.freeC x c e)
   exact⟨_,q,hd⟩
  ·exact⟨o,keep c o (I.cne x c e) hc nch ho (I.freeC x c e),hd⟩
 refine⟨I.ok,I.os,hg,⟨fun b o e n hb hx=>?_,fun b o e n hb hx=>?_,fun b o e n hx=>?_,fun b o e hx=>?_,fun b xs e=>tups b xs (I.base.tups b xs e),fun b o xs e=>frzs b o xs (I.base.frzs b o xs e),fun b ps e=>?_⟩,?_,fun x c e=>?_,?_,fun x c e=>?_,fun p hp=>?_,hok,I.len⟩
 ·exact keep b o (neL b o e) hb (neC b o e hx) (I.base.keep b o e n hb hx) (I.base.free b o e n hx)
 ·obtain⟨sl,e1⟩:=I.base.slot b o e n hb hx
  obtain⟨sl',e2⟩:=slot b _ (neL b o e) hb (neC b o e hx) e1 (I.base.free b o e n hx)
  exact⟨sl',e2⟩
 ·obtain⟨o',e1⟩:=I.base.there b o e hx
  exact free b o' (neC b o e hx) e1 (I.base.free b o e n hx)
 ·obtain⟨o',e1⟩:=I.base.there b o e hx
  exact there b o' (neC b o e hx) e1
 ·obtain⟨m1,e1⟩:=I.base.tbls b ps e
  obtain⟨m2,e2⟩:=tbls b _ e1
  exact⟨m1++m2,by rw[e2,Array.append_assoc]⟩
 ·obtain⟨m,hn,hl⟩:=I.loc
  refine⟨m,ns m hn,fun i x v e1 e2 e3=>?_⟩
  obtain⟨u,r,l⟩:=hl i x v e1 e2 e3
  refine⟨u,r,?_⟩
  rcases l with l | ⟨k,c,e,z⟩
  ·exact .inl l
  ·exact .inr ⟨k,c,e,cellK x c e _ z⟩
 ·obtain⟨v,z⟩:=I.cell x c e
  exact⟨v,cellK x c e v z⟩
 ·obtain⟨m,⟨o,_,_,ho,_⟩,_⟩:=I.loc
  exact free _ o (fun z=>(hch _ z).2.1 rfl) ho I.free
 ·obtain⟨v,o,ho,hd⟩:=I.cell x c e
  exact free c o (fun z=>(hch c z).2.2.1 x c e rfl) ho (I.freeC x c e)
 ·obtain⟨e,n,ne,nf,d⟩:=I.pin p hp
  have nch:p.1∉ch:=fun z=>(hch p.1 z).2.2.2 p hp rfl
  exact⟨keep p.1 p.2 ne nf nch e n,free p.1 p.2 nch e n,ne,nf,d⟩
theorem Inv.un{t':Nat}(I:Inv X pins σ H s)(u:Un X.fs [] H H' s.heap h')(hok:HOk X.prog X.w H' h'):Inv X pins σ H' { s with heap:=h',toks:=t' }:=by
 obtain⟨m,⟨o,es,ep,ho,r⟩,_⟩:=id I.loc
 obtain⟨sl,hL⟩:=u.any ho I.free (by simp)
 exact I.step (g':=s.gens) (d':=s.drawn) (ch:= []) (fun _ z=>nomatch z) (fun b o _ hb _ e n=>u.keep b o e n hb (by simp)) (fun b o _ hb _ e n=>u.slot b o e n hb (by simp)) (fun b o _ e n=>u.free b o e n (by simp)) (fun b o _ e=>u.there b o e (by simp)) u.tups u.frzs u.tbls (fun m' hm=>by
  obtain⟨o',es',ep',ho',r'⟩:=hm
  rw[ho]at ho';cases ho'
  exact⟨_,es',ep',hL,r'⟩) hok I.bare
theorem Inv.call{g':Array GenState}{t':Nat}{d':Drawn}{ch:List Addr}(I:Inv X pins σ H s)(u:Un (frs X.stack) ch H H' s.heap h')(hok:HOk X.prog X.w H' h')(hg:AllBare g')
  (hch:∀ b∈ch,(b∈X.ex∨X.s₀.heap.objs.size<=b)/\b≠X.env.locals/\(∀ x c,X.env.cells.lookup x=some c->c≠b)/\∀ p∈X.pn++pins,p.1≠b) :
  Inv X pins σ H' { s with heap:=h',gens:=g',drawn:=d',toks:=t' }:=by
 obtain⟨m,⟨o,es,ep,ho,r⟩,_⟩:=id I.loc
 obtain⟨sl,hL⟩:=u.any ho I.free fun z=>(hch _ z).2.1 rfl
 exact I.step (ch:=ch) hch (fun b o hL hb hc e n=>u.keep b o e n (fun z=>(xv.mp (I.stkSub b z)).elim hL hb) hc) (fun b o _ _ hc e n=>u.any e n hc) (fun b o hc e n=>u.free b o e n hc) (fun b o hc e=>u.there b o e hc) u.tups u.frzs u.tbls (fun m' hm=>by
  obtain⟨o',es',ep',ho',r'⟩:=hm
  rw[ho]at ho';cases ho'
  exact⟨_,es',ep',hL,r'⟩) hok hg
theorem Inv.turned{t':Nat}{it:Addr}(I:Inv X pins σ H s)(k:∀ b o,b≠it->s.heap.get? b=some o->h'.get? b=some o)(hn:H it=none)(hL:it≠X.env.locals)
  (h1:it∈X.ex∨X.s₀.heap.objs.size<=it) (h2:∀ x c,X.env.cells.lookup x=some c->c≠it) (h3:∀ p∈X.pn++pins,p.1≠it):Inv X pins σ H { s with heap:=h',toks:=t' }:=by
 have nit:∀ b u,H b=some u->b≠it:=fun b u e z=>by rw[z,hn]at e;cases e
 refine I.step (g':=s.gens) (d':=s.drawn) (ch:= [it]) (fun b hb=>?_) (fun b o _ _ hc e _=>k b o (fun z=>hc (by simp[z])) e) (fun b o _ _ hc e _=>⟨o.slots,k b o (fun z=>hc (by simp[z])) e⟩) (fun _ _ _ _ n=>n)
  (fun b o hc e=>⟨o,k b o (fun z=>hc (by simp[z])) e⟩) (fun _ _ e=>e) (fun _ _ _ e=>e) (fun b ps e=>⟨#[],by rw[e];simp⟩) (fun m hm=>?_) (fun b u e=>?_) I.bare
 ·have e:b=it:=by simpa using hb
  subst e
  exact⟨h1,hL,h2,h3⟩
 ·obtain⟨o,es,ep,ho,r⟩:=hm
  exact⟨o,es,ep,k _ o (Ne.symm hL) ho,r⟩
 ·refine (I.hok b u e).stay (fun c v hc q=>k c v ?_ q) (fun _ q=>q) fun _ _ q=>q
  rcases hc with z | z
  ·rw[z];exact nit b u e
  ·exact nit c _ z
theorem Inv.tok(I:Inv X pins σ H s)(t:Nat):Inv X pins σ H { s with toks:=t }:=I.un (h':=s.heap) (t':=t) Un.refl I.hok
theorem Inv.kept{t':Nat}(I:Inv X pins σ H s)(k:∀ b u,s.heap.get? b=some u->h'.get? b=some u):Inv X pins σ H { s with heap:=h',toks:=t' }:=I.un (Un.kept k) (I.hok.kept k)
theorem Inv.laid{a:Addr}{o:HO}{t':Nat}(I:Inv X pins σ H s)(k:∀ b u,s.heap.get? b=some u->h'.get? b=some u)(hp:s.heap.objs.size<=a)(new:ObjOk X.prog X.w (upd H a o) h' a o) :
  Inv X pins σ (upd H a o) { s with heap:=h',toks:=t' }:=I.un (Un.laid k hp (I.hok.fresh hp)) (I.hok.laid k hp new)
theorem Inv.write{x e:Addr}{o:HO}{t':Nat}(I:Inv X pins σ H s)(mu:Mut (H x))(he:e=x∨H e=some (.own x))(k:∀ b u,b≠e->s.heap.get? b=some u->h'.get? b=some u)(heo:∃ u,h'.get? e=some u)
  (new:ObjOk X.prog X.w (upd H x o) h' x o):Inv X pins σ (upd H x o) { s with heap:=h',toks:=t' }:=I.un (Un.write mu he k heo) (I.hok.write mu he k heo new)
theorem Inv.weak{σ':List (Option V)}(I:Inv X pins σ H s)(hl:σ'.length=σ.length)(w:∀ (i:Nat) v,σ'[i]?=some (some v)->σ[i]?=some (some v)):Inv X pins σ' H s :=
 ⟨I.ok,I.os,I.bare,I.base,let ⟨m,hn,hl'⟩:=I.loc;⟨m,hn,fun i x v e1 e2 e3=>hl' i x v e1 (w i v e2) e3⟩,I.cell,I.free,I.freeC,I.pin,I.hok,hl.trans I.len⟩
theorem Inv.pins_of{pins':List (Addr×Obj)}(I:Inv X pins σ H s)(h:∀ p∈pins',s.heap.get? p.1=some p.2/\H p.1=none/\p.1≠X.env.locals/\p.1∉X.fs/\∀ v,p.2.data≠ .cell v):Inv X pins' σ H s :=
 ⟨I.ok,I.os,I.bare,I.base,I.loc,I.cell,I.free,I.freeC,fun p hp=>(xQ.mp hp).elim (fun z=>I.pin p (xY _ z)) (h p),I.hok,I.len⟩
theorem VP{N:List Str}(hN:N.Nodup){i j:Nat}{x:Str}(a:N[i]?=some x)(b:N[j]?=some x):i=j:=by
 obtain⟨h1,e1⟩:=xb.mp a
 obtain⟨h2,e2⟩:=xb.mp b
 exact (List.getElem_inj hN).mp (e1.trans e2.symm)
theorem Jl{M:Model}{A:Around}{E:Value->Shared->Prop}{i:Nat}{x:Str}{v:V}{u:Value}{Q:Unit->Shared->Prop}(I:Inv X pins σ H s)(hN:X.N.Nodup)(hi:X.N[i]?=some x)(hx:Loc X.env.scope x)(r:RelV v u)
  (h:∀ s',Inv X pins (σ.set i (some v)) H s'->(∃ a,Heap.SameBut a s.heap s'.heap/\(a=X.env.locals∨X.env.cells.lookup x=some a))->Q () s') (hf:X.fn x=true∨X.env.scope.names.lookup x=some .local:=by first | exact .inl rfl | exact .inr rfl | assumption):wpAny M A (storeName X.env x u) Q E s:=by
 obtain⟨m,hn,hl⟩:=id I.loc
 have hcls:(X.env.scope.kind==.class||(X.env.scope.kind==.module&&X.env.locals !=X.env.globals))=false:=by rw[I.ok.kind];rfl
 have hiσ:i<σ.length:=by rw[I.len];exact (xb.mp hi).1
 have cne:=I.cne
 have tracked:∀ {a:Addr} {h':Heap},(∃ o,s.heap.get? a=some o/\H a=none)->Heap.SameBut a s.heap h'->HOk X.prog X.w H h':=fun {a h'} ha hs b ob e=>by
  obtain⟨_,_,hfree⟩:=ha
  refine (I.hok b ob e).stay (fun c w' hc q=>(hs.2 c ?_).trans q) (fun _ q=>q) fun _ _ q=>q
  rintro rfl
  rcases hc with rfl | hc
  ·rw[hfree]at e;cases e
  ·rw[hfree]at hc;cases hc
 rcases hx with hk | hk
 ·refine wpAny_storeName_local hk hn (fun h' hn' hs=>?_) hcls
  obtain⟨oL,_,_,hoL,_⟩:=id hn
  refine h _ ⟨I.ok,I.os,I.bare,⟨fun b o e n hb hx=>?_,fun b o e n hb hx=>?_,I.base.free,fun b o e hx=>?_,I.base.tups,I.base.frzs,I.base.tbls⟩,⟨_,hn',fun j y v' e1 e2 e3=>?_⟩,fun y c e=>?_,I.free,I.freeC,fun p hp=>?_,tracked ⟨oL,hoL,I.free⟩ hs,by simpa using I.len⟩ ⟨_,hs,.inl rfl⟩
  ·exact (hs.2 b (xj (xl (Heap.lt_size e) I.ok.above))).trans (I.base.keep b o e n hb hx)
  ·obtain⟨sl,e1⟩:=I.base.slot b o e n hb hx
   exact⟨sl,(hs.2 b (xj (xl (Heap.lt_size e) I.ok.above))).trans e1⟩
  ·obtain⟨o',e1⟩:=I.base.there b o e hx
   exact⟨o',(hs.2 b (xj (xl (Heap.lt_size e) I.ok.above))).trans e1⟩
  ·by_cases hj:j=i
   ·subst hj
    rw[hi]at e1;cases e1
    rw[xi hiσ]at e2
    cases e2
    exact⟨u,r,.inl ⟨hk,by simp⟩⟩
   ·rw[xg (Ne.symm hj)]at e2
    obtain⟨u',r',q⟩:=hl j y v' e1 e2 e3
    refine⟨u',r',?_⟩
    rcases q with ⟨k,e⟩ | ⟨k,c,e,z⟩
    ·refine .inl ⟨k,?_⟩
     have:y≠x:=fun e=>hj (VP hN e1 (e ▸ hi))
     simp[this,e]
    ·exact .inr ⟨k,c,e,z.sameBut hs (cne y c e)⟩
  ·obtain⟨w',z⟩:=I.cell y c e
   exact⟨w',z.sameBut hs (cne y c e)⟩
  ·obtain⟨e,n,ne,nf,d⟩:=I.pin p hp
   exact⟨(hs.2 p.1 ne).trans e,n,ne,nf,d⟩
 ·have hfn:X.fn x=true:=by
   rcases hf with z | z
   ·exact z
   ·rw[z]at hk;cases hk
  obtain⟨c,hc⟩:=I.ok.has x (.inl hk)
  obtain⟨w',z⟩:=I.cell x c hc
  refine wpAny_storeName_cell I.ok.kind hk hc z (fun h' hc' hs=>?_)
  obtain⟨oc,hoc,hocd⟩:=id z
  refine h { s with heap:=h' } ⟨I.ok,I.os,I.bare,⟨fun b o e n hb hx=>?_,fun b o e n hb hx=>?_,I.base.free,fun b o e hx=>?_,I.base.tups,I.base.frzs,I.base.tbls⟩,⟨m,hn.sameBut hs (Ne.symm (cne x c hc)),fun j y v' e1 e2 e3=>?_⟩,fun y c' e=>?_,I.free,I.freeC,fun p hp=>?_,tracked ⟨oc,hoc,I.freeC x c hc⟩ hs,by simpa using I.len⟩ ⟨c,hs,.inr hc⟩
  ·exact (hs.2 b (xj (xl (Heap.lt_size e) (I.ok.cab x c hfn hc)))).trans (I.base.keep b o e n hb hx)
  ·obtain⟨sl,e1⟩:=I.base.slot b o e n hb hx
   exact⟨sl,(hs.2 b (xj (xl (Heap.lt_size e) (I.ok.cab x c hfn hc)))).trans e1⟩
  ·obtain⟨o',e1⟩:=I.base.there b o e hx
   exact⟨o',(hs.2 b (xj (xl (Heap.lt_size e) (I.ok.cab x c hfn hc)))).trans e1⟩
  ·by_cases hj:j=i
   ·subst hj
    rw[hi]at e1;cases e1
    rw[xi hiσ]at e2
    cases e2
    exact⟨u,r,.inr ⟨.inl hk,c,hc,hc'⟩⟩
   ·rw[xg (Ne.symm hj)]at e2
    obtain⟨u',r',q⟩:=hl j y v' e1 e2 e3
    refine⟨u',r',?_⟩
    rcases q with q | ⟨k,c',e,z'⟩
    ·exact .inl q
    ·refine .inr ⟨k,c',e,z'.sameBut hs ?_⟩
     rintro rfl
     exact hj (VP hN e1 (I.ok.inj _ _ _ e hc ▸ hi))
  ·by_cases hcc:c'=c
   ·subst hcc;exact⟨_,hc'⟩
   ·obtain⟨w2,z2⟩:=I.cell y c' e
    exact⟨w2,z2.sameBut hs hcc⟩
  ·obtain⟨e,n,ne,nf,d⟩:=I.pin p hp
   refine⟨(hs.2 p.1 ?_).trans e,n,ne,nf,d⟩
   intro q
   rw[q,hoc]at e
   have q':oc=p.2:=Option.some.inj e
   exact d w' (by rw[<- q'];exact hocd)
theorem Qd{M:Model}{A:Around}{E:Value->Shared->Prop}{i:Nat}{x:Str}{v:V}{u:Value}{Q:Unit->Shared->Prop}(I:Inv X pins σ H s)(hN:X.N.Nodup)(hi:X.N[i]?=some x)(hx:Loc X.env.scope x)(r:RelV v u)
  (h:∀ s',Inv X pins (σ.set i (some v)) H s'->Q () s') (hf:X.fn x=true∨X.env.scope.names.lookup x=some .local:=by first | exact .inl rfl | exact .inr rfl | assumption):wpAny M A (storeName X.env x u) Q E s :=
 Jl I hN hi hx r (fun s' I' _=>h s' I') hf
theorem Inv.call'{s':Shared}{ch:List Addr}(I:Inv X pins σ H s)(ho:s'.os=s.os)(u:Un (frs X.stack) ch H H' s.heap s'.heap)(hok:HOk X.prog X.w H' s'.heap)(hg:AllBare s'.gens)
  (hch:∀ b∈ch,(b∈X.ex∨X.s₀.heap.objs.size<=b)/\b≠X.env.locals/\(∀ x c,X.env.cells.lookup x=some c->c≠b)/\∀ p∈X.pn++pins,p.1≠b):Inv X pins σ H' s':=by
 obtain⟨h',g',d',t',o'⟩:=s'
 have e:o'=s.os:=ho
 subst e
 exact I.call (g':=g') (t':=t') (d':=d') u hok hg hch
end
noncomputable abbrev XK:=Value->Option Addr->Hp->Prop
noncomputable abbrev St:=List (Option V)
noncomputable abbrev VK:=V->Hp->Prop
noncomputable abbrev TE:=St->Hp->VK->Prop
noncomputable abbrev TT:=St->Hp->(Bool->Hp->Prop)->Prop
noncomputable abbrev TA:=St->Hp->(List V->Hp->Prop)->Prop
structure qf where
 nx:St->Hp->Prop
 rt:VK
 bk:St->Hp->Prop:=fun _ _=>False
 ct:St->Hp->Prop:=fun _ _=>False
noncomputable abbrev TS:=qf->St->Hp->Prop
noncomputable def EP(X:Cx)(pins:List (Addr×Obj))(σ:St)(Q:VK)(u:Value)(s':Shared):Prop:=∃ v H',Inv X pins σ H' s'/\RelV v u/\Q v H'
noncomputable def TP(X:Cx)(pins:List (Addr×Obj))(σ:St)(Q:Bool->Hp->Prop)(b:Bool)(s':Shared):Prop:=∃ H',Inv X pins σ H' s'/\Q b H'
noncomputable def AP(X:Cx)(pins:List (Addr×Obj))(σ:St)(Q:List V->Hp->Prop)(us:List Value)(s':Shared):Prop:=∃ vs H',Inv X pins σ H' s'/\Vals vs us/\Q vs H'
noncomputable def SP(X:Cx)(pins:List (Addr×Obj))(D:qf)(f:Flow)(s':Shared):Prop :=
 match f with
 |.next=>∃ σ' H',Inv X pins σ' H' s'/\D.nx σ' H'
 |.brk=>∃ σ' H',Inv X pins σ' H' s'/\D.bk σ' H'
 |.cont=>∃ σ' H',Inv X pins σ' H' s'/\D.ct σ' H'
 |.ret u=>∃ v σ' H',Inv X pins σ' H' s'/\RelV v u/\D.rt v H'
noncomputable def PE(X:Cx)(e:Expr)(t:TE):Prop :=
 ∀ (pins:List (Addr×Obj)) (s:Shared) (σ:St) (H:Hp) (Q:VK),Inv X pins σ H s->t σ H Q->wpAny (model X.prog X.w) X.A (eval e X.env) (EP X pins σ Q) X.xe s
noncomputable def PT(X:Cx)(e:Expr)(t:TT):Prop :=
 ∀ (pins:List (Addr×Obj)) (s:Shared) (σ:St) (H:Hp) (Q:Bool->Hp->Prop),Inv X pins σ H s->t σ H Q->wpAny (model X.prog X.w) X.A (isTrue e X.env (eval e X.env)) (TP X pins σ Q) X.xe s
noncomputable def PW(X:Cx)(e:Expr)(t:TT):Prop :=
 ∀ (whole:Sem Value) (pins:List (Addr×Obj)) (s:Shared) (σ:St) (H:Hp) (Q:Bool->Hp->Prop),Inv X pins σ H s->t σ H Q->wpAny (model X.prog X.w) X.A (isTrue e X.env whole) (TP X pins σ Q) X.xe s
noncomputable def PA(X:Cx)(es:List Expr)(t:TA):Prop :=
 ∀ (pos:Pos) (pins:List (Addr×Obj)) (s:Shared) (σ:St) (H:Hp) (Q:List V->Hp->Prop),Inv X pins σ H s->t σ H Q->wpAny (model X.prog X.w) X.A (spliced (backTo pos (starEach es X.env))) (AP X pins σ Q) X.xe s
noncomputable def PS(X:Cx)(st:Stmt)(t:TS):Prop :=
 ∀ (pins:List (Addr×Obj)) (s:Shared) (σ:St) (H:Hp) (D:qf),Inv X pins σ H s->t D σ H->wpAny (model X.prog X.w) X.A (exec st X.env) (SP X pins D) X.xe s
noncomputable def PSs(X:Cx)(st:List Stmt)(t:TS):Prop :=
 ∀ (pins:List (Addr×Obj)) (s:Shared) (σ:St) (H:Hp) (D:qf),Inv X pins σ H s->t D σ H->wpAny (model X.prog X.w) X.A (execs st X.env) (SP X pins D) X.xe s
theorem thn{α:Type}{t:Sem α}{Q Q':α->Shared->Prop}{M:Model}{A:Around}{E:Value->Shared->Prop}{s:Shared}(h:wpAny M A t Q E s)(hQ:∀ a s,Q a s->Q' a s):wpAny M A t Q' E s:=wpAny_mono h hQ fun _ _ x=>x
section
variable {X:Cx}
theorem bin{a b:Expr}{ta tb:TE}(ha:PE X a ta)(hb:PE X b tb){pins:List (Addr×Obj)}{s:Shared}{σ:St}{H:Hp}{R:V->V->Hp->Prop}(I:Inv X pins σ H s)(h:ta σ H fun x H1=>tb σ H1 fun y H2=>R x y H2)
  {α:Type} {Q:α->Shared->Prop} {f:Value->Value->Sem α}
  (hf:∀ v u s2 x y H2,Inv X pins σ H2 s2->RelV x v->RelV y u->R x y H2->wpAny (model X.prog X.w) X.A (f v u) Q X.xe s2) :
  wpAny (model X.prog X.w) X.A (eval a X.env) (fun v s₁=>wpAny (model X.prog X.w) X.A (eval b X.env) (fun u s₂=>wpAny (model X.prog X.w) X.A (f v u) Q X.xe s₂) X.xe s₁) X.xe s:=by
 refine thn (ha pins s σ H _ I h) fun v s1 ⟨x,H1,I1,r1,q1⟩=>?_
 refine thn (hb pins s1 σ H1 _ I1 q1) fun u s2 ⟨y,H2,I2,r2,q2⟩=>?_
 exact hf v u s2 x y H2 I2 r1 r2 q2
noncomputable def zf0(i:Nat):TE:=fun σ H Q=>∃ v,σ[i]?=some (some v)/\Q v H
noncomputable def tC(v:V):TE:=fun _ H Q=>Q v H
theorem zz {i:Nat}{x:Str}{pos:Pos}(hN:X.N[i]?=some x) (hv:Vis X.env.scope x) (hd:(x==("__debug__" :Str))=false:=by decide) (hcd:(x==("__classdict__" :Str))=false:=by decide):PE X (.Name x pos) (zf0 i):=by
 intro pins s σ H Q I h
 obtain⟨v,e,h⟩:=h
 obtain⟨m,hn,hl⟩:=I.loc
 obtain⟨u,r,l⟩:=hl i x v hN e hv
 have fin:EP X pins σ Q u s:=⟨v,H,I,r,h⟩
 rcases l with ⟨hk,hm⟩ | ⟨hk,c,hc,hcell⟩
 ·exact wpAny_Name (wpAny_loadName_local I.ok.kind hk hn hm fin) hd
 ·rcases hk with hk | hk
  ·exact wpAny_Name (wpAny_loadName_cell I.ok.kind hk hc hcell fin) hd
  ·exact wpAny_Name (wpAny_loadName_free I.ok.kind hk hc hcell fin hcd) hd
theorem pe_int{i j pos}:PE X (.Constant (.int i) j pos) (tC (.int i)):=fun _ _ _ H _ I h=>wpAny_Constant_int ⟨.int i,H,I.tok _,⟨_,rfl⟩,h⟩
theorem pe_bl{b j pos}:PE X (.Constant (.bool b) j pos) (tC (.bl b)):=fun _ _ _ H _ I h=>Constant_bool ⟨.bl b,H,I,rfl,h⟩
theorem pe_str{x j pos}:PE X (.Constant (.str x) j pos) (tC (.str x)):=fun _ _ _ H _ I h=>Calls.Constant_str ⟨.str x,H,I.tok _,⟨_,rfl⟩,h⟩
noncomputable def Gl(X:Cx)(x:Str):Prop:=X.env.kindOf x=some .globalImplicit
theorem qz{E:Value->Shared->Prop}{pins:List (Addr×Obj)}{s:Shared}{σ:St}{H:Hp}{x:Str}{u:Value}{pos:Pos}{Q:Value->Shared->Prop}(I:Inv X pins σ H s)(hg:Gl X x)(hm:X.mg x=some u)(h:Q u s)
  (hd:(x==("__debug__" :Str))=false:=by decide):wpAny (model X.prog X.w) X.A (eval (.Name x pos) X.env) Q E s :=
 Calls.Name_function_global I.ok.kind hg (Calls.loadGlobal_global (by rw[I.ok.glob];exact I.mod.glob.keeps I.bk) hm h) hd
theorem Jd{E:Value->Shared->Prop}{pins:List (Addr×Obj)}{s:Shared}{σ:St}{H:Hp}{x:Str}{u:Value}{pos:Pos}{Q:Value->Shared->Prop}(I:Inv X pins σ H s)(hg:Gl X x)(hm:X.mg x=none)(hv:bootBuiltins x=some u)(h:Q u s)
  (hn:x≠ "__name__" :=by decide) (hd:(x==("__debug__" :Str))=false:=by decide):wpAny (model X.prog X.w) X.A (eval (.Name x pos) X.env) Q E s:=by
 obtain⟨mb,h1,h2⟩:=I.mod.blt
 exact Calls.Name_function_global I.ok.kind hg (Calls.loadGlobal_builtin (by rw[I.ok.glob];exact I.mod.glob.keeps I.bk) hm (by rw[I.ok.blt];exact h1.keeps I.bk) ((h2 x hn).trans hv) h) hd
theorem Yp {x:Str}{v:V}{u:Value}{pos:Pos}(hg:Gl X x) (hm:X.mg x=some u) (r:RelV v u) (hd:(x==("__debug__" :Str))=false:=by decide):PE X (.Name x pos) (tC v) :=
 fun _ _ _ H _ I h=>qz I hg hm ⟨v,H,I,r,h⟩ hd
theorem zcH {x:Str}{v:V}{u:Value}{pos:Pos}(hg:Gl X x) (hm:X.mg x=none) (hv:bootBuiltins x=some u) (r:RelV v u) (hn:x≠ "__name__" :=by decide) (hd:(x==("__debug__" :Str))=false:=by decide):PE X (.Name x pos) (tC v) :=
 fun _ _ _ H _ I h=>Jd I hg hm hv ⟨v,H,I,r,h⟩ hn hd
variable {a b:Expr} {ta tb:TE} {pos:Pos}
noncomputable def PC(X:Cx)(op:CmpOp)(a b:Expr)(t:TE):Prop :=
 ∀ (pins:List (Addr×Obj)) (s:Shared) (σ:St) (H:Hp) (Q:VK),Inv X pins σ H s->t σ H Q ->
  wpAny (model X.prog X.w) X.A (eval a X.env) (fun v s₁=>wpAny (model X.prog X.w) X.A (eval b X.env) (fun u s₂=>wpAny (model X.prog X.w) X.A (compareOp op v u) (EP X pins σ Q) X.xe s₂) X.xe s₁) X.xe s
noncomputable def tB(t:TE):TT:=fun σ H Q=>t σ H fun x H1=>∃ c,x=.bl c/\Q c H1
theorem zfo{op:CmpOp}{t:TE}(h:PC X op a b t)(h1:behindInMarks op b=false:=by first | exact nobehind _ (by decide) (by decide) | rfl):PT X (.Compare a [op] [b] pos) (tB t):=by
 intro pins s σ H Q I hw
 refine wpAny_isTrue_Compare1 (thn (h pins s σ H _ I hw) fun v s1 h1=>thn h1 fun u s2 h2=>thn h2 fun c s3 ⟨x,H1,I1,r1,q1⟩=>?_) h1
 obtain⟨d,rfl,q⟩:=q1
 cases r1
 exact wpAny_truthy_bool ⟨H1,I1,q⟩
variable {tA tB':TT} {rest:List Expr}
noncomputable def tAnd(t u:TT):TT:=fun σ H Q=>t σ H fun c H1=>if c=true then u σ H1 Q else Q false H1
noncomputable def tOr(t u:TT):TT:=fun σ H Q=>t σ H fun c H1=>if c=true then Q true H1 else u σ H1 Q
noncomputable def tNot(t:TT):TT:=fun σ H Q=>t σ H fun c H1=>Q (!c) H1
theorem zcT(ha:PT X a tA):PW X (.BoolOp .And [a] pos) tA:=by
 intro wh pins s σ H Q I h
 refine isTrue_and (thn (ha pins s σ H Q I h) fun c s1 e=>?_)
 cases c with
 |true=>exact isTrue_and_nil e
 |false=>exact e
theorem zfr(ha:PT X a tA):PW X (.BoolOp .Or [a] pos) tA:=by
 intro wh pins s σ H Q I h
 refine isTrue_or (thn (ha pins s σ H Q I h) fun c s1 e=>?_)
 cases c with
 |false=>exact isTrue_or_nil e
 |true=>exact e
theorem zfq(ha:PT X a tA)(hb:PW X (.BoolOp .And (b::rest) pos) tB'):PW X (.BoolOp .And (a::b::rest) pos) (tAnd tA tB'):=by
 intro wh pins s σ H Q I h
 refine isTrue_and (thn (ha pins s σ H _ I h) fun c s1 ⟨H1,I1,q1⟩=>?_)
 cases c with
 |true=>exact hb wh pins s1 σ H1 Q I1 q1
 |false=>exact⟨H1,I1,q1⟩
theorem zgM(ha:PT X a tA)(hb:PW X (.BoolOp .Or (b::rest) pos) tB'):PW X (.BoolOp .Or (a::b::rest) pos) (tOr tA tB'):=by
 intro wh pins s σ H Q I h
 refine isTrue_or (thn (ha pins s σ H _ I h) fun c s1 ⟨H1,I1,q1⟩=>?_)
 cases c with
 |true=>exact⟨H1,I1,q1⟩
 |false=>exact hb wh pins s1 σ H1 Q I1 q1
theorem zfp(ha:PT X a tA):PT X (.UnaryOp .Not a pos) (tNot tA):=by
 intro pins s σ H Q I h
 exact isTrue_not (ha pins s σ H (fun c H1=>Q (!c) H1) I h)
noncomputable def zg7(ta tb:TE):TE:=fun σ H Q=>ta σ H fun x H1=>∃ c,x=.bl c/\if c=true then tb σ H1 Q else Q (.bl false) H1
noncomputable def tOrV(ta tb:TE):TE:=fun σ H Q=>ta σ H fun x H1=>∃ c,x=.bl c/\if c=true then Q (.bl true) H1 else tb σ H1 Q
theorem zfh{op}{t:TE}(h:PE X a t):PE X (.BoolOp op [a] pos) t:=fun pins s σ H Q I hw=>BoolOp_one (h pins s σ H Q I hw)
theorem zff(ha:PE X a ta)(hb:PE X (.BoolOp .And (b::rest) pos) tb):PE X (.BoolOp .And (a::b::rest) pos) (zg7 ta tb):=by
 intro pins s σ H Q I h
 refine BoolOp_and (thn (ha pins s σ H _ I h) fun v s1 ⟨x,H1,I1,r1,q1⟩=>?_)
 obtain⟨c,rfl,q1⟩:=q1
 cases r1
 refine wpAny_truthy_bool ?_
 cases c with
 |true=>exact hb pins s1 σ H1 Q I1 q1
 |false=>exact⟨.bl false,H1,I1,rfl,q1⟩
theorem zgK(ha:PE X a ta)(hb:PE X (.BoolOp .Or (b::rest) pos) tb):PE X (.BoolOp .Or (a::b::rest) pos) (tOrV ta tb):=by
 intro pins s σ H Q I h
 refine BoolOp_or (thn (ha pins s σ H _ I h) fun v s1 ⟨x,H1,I1,r1,q1⟩=>?_)
 obtain⟨c,rfl,q1⟩:=q1
 cases r1
 refine wpAny_truthy_bool ?_
 cases c with
 |false=>exact hb pins s1 σ H1 Q I1 q1
 |true=>exact⟨.bl true,H1,I1,rfl,q1⟩
noncomputable def tIf(t:TT)(ta tb:TE):TE:=fun σ H Q=>t σ H fun c H1=>if c=true then ta σ H1 Q else tb σ H1 Q
theorem zas{c:Expr}(hc:PT X c tA)(ha:PE X a ta)(hb:PE X b tb):PE X (.IfExp c a b pos) (tIf tA ta tb):=by
 intro pins s σ H Q I h
 refine wpAny_IfExp (thn (hc pins s σ H _ I h) fun d s1 ⟨H1,I1,q1⟩=>?_)
 cases d with
 |true=>exact ha pins s1 σ H1 Q I1 q1
 |false=>exact hb pins s1 σ H1 Q I1 q1
end
noncomputable def SqL(K:PySem.W.Frag)(H:Hp)(a:Addr)(xs:List V):Prop :=
 Rd H a (.lst xs) ∨
  ∃ (o:Obj) (its:Array Value) (n:Nat),K.lookup a=some o/\o.cls=.type "list" /\o.dict=none/\o.data=.seq its n/\its.size<=sizeLine/\Vals xs its.toList
noncomputable def SqT(K:PySem.W.Frag)(H:Hp)(a:Addr)(xs:List V):Prop :=
 Rd H a (.tup xs) ∨
  ∃ (o:Obj) (its:Array Value) (n:Nat),K.lookup a=some o/\o.cls=.type "tuple" /\o.data=.seq its n/\its.size<=sizeLine/\Vals xs its.toList
noncomputable def absV:Value->Option V
 |.none=>some .non
 |.bool b=>some (.bl b)
 |.int i _=>some (.int i)
 |.str x _=>some (.str x)
 |.bytes b _=>some (.byt b)
 |.float b _=>some (.flt b)
 |.ref a=>some (.ref a)
 |.type n=>some (.ty n)
 |_=>none
theorem RelV.abs{x:V}{u:Value}(r:RelV x u):absV u=some x:=by
 cases x with
 |non=>cases r;rfl
 |bl _=>cases r;rfl
 |int _=>obtain⟨t,rfl⟩:=r;rfl
 |str _=>obtain⟨t,rfl⟩:=r;rfl
 |byt _=>obtain⟨t,rfl⟩:=r;rfl
 |flt _=>obtain⟨t,rfl⟩:=r;rfl
 |ref _=>cases r;rfl
 |ty _=>cases r;rfl
theorem RelV.inj{x y:V}{u:Value}(r:RelV x u)(q:RelV y u):x=y:=Option.some.inj (r.abs.symm.trans q.abs)
theorem Vals.inj:∀ {xs ys:List V}{us:List Value},Vals xs us->Vals ys us->xs=ys
 |_,_,_,.nil,.nil=>rfl
 |_,_,_,.cons r t,.cons r' t'=>by rw[r.inj r',Vals.inj t t']
section
variable {X:Cx} {pins:List (Addr×Obj)} {σ:St} {H:Hp} {s:Shared} {a:Addr} {xs ys:List V}
theorem SqL.of{K:PySem.W.Frag}(h:H a=some (.lst xs)):SqL K H a xs:=.inl (.inl h)
theorem SqT.of{K:PySem.W.Frag}(h:H a=some (.tup xs)):SqT K H a xs:=.inl (.inl h)
theorem Inv.list(I:Inv X pins σ H s)(h:SqL X.K H a xs):∃ its:List Value,Vals xs its/\PlainL s.heap a its.toArray/\xs.length<=sizeLine:=by
 rcases h with h | ⟨o,its,n,hk,hc,hd,hs,hz,r⟩
 ·obtain⟨z,its,n,r,e⟩:=h.ok I.hok
  exact⟨its,r,⟨_,n,e,rfl,rfl,rfl⟩,z⟩
 ·refine⟨its.toList,r,⟨o,n,I.kIn a o hk,hc,hd,by simpa using hs⟩,?_⟩
  have e:=r.length
  simp only[Array.length_toList]at e
  omega
theorem Inv.tuple(I:Inv X pins σ H s)(h:SqT X.K H a xs):∃ its:List Value,Vals xs its/\IsTup s.heap a its.toArray/\xs.length<=sizeLine:=by
 rcases h with h | ⟨o,its,n,hk,hc,hs,hz,r⟩
 ·obtain⟨z,its,r,p⟩:=h.ok I.hok
  exact⟨its,r,p,z⟩
 ·refine⟨its.toList,r,⟨o,I.kIn a o hk,hc,n,by simpa using hs⟩,?_⟩
  have e:=r.length
  simp only[Array.length_toList]at e
  omega
theorem Inv.list_inj(I:Inv X pins σ H s)(h:SqL X.K H a xs)(h':SqL X.K H a ys):xs=ys:=by
 obtain⟨its,r,⟨o,n,e,_,_,d⟩,_⟩:=I.list h
 obtain⟨its',r',⟨o',n',e',_,_,d'⟩,_⟩:=I.list h'
 rw[e]at e';cases e'
 rw[d]at d'
 injection d' with d1 _
 have:its=its':=by simpa using congrArg Array.toList d1
 subst this
 exact r.inj r'
theorem Inv.tuple_inj(I:Inv X pins σ H s)(h:SqT X.K H a xs)(h':SqT X.K H a ys):xs=ys:=by
 obtain⟨its,r,⟨o,e,_,n,d⟩,_⟩:=I.tuple h
 obtain⟨its',r',⟨o',e',_,n',d'⟩,_⟩:=I.tuple h'
 rw[e]at e';cases e'
 rw[d]at d'
 injection d' with d1 _
 have:its=its':=by simpa using congrArg Array.toList d1
 subst this
 exact r.inj r'
end
noncomputable abbrev Cx.wish(X:Cx)(E:Value->Shared->Prop):Cx:={ X with xe:=E }
noncomputable abbrev Cx.nox(X:Cx):Cx:=X.wish fun _ _=>False
theorem Cx.Ok.wish{X:Cx}(ok:X.Ok)(E:Value->Shared->Prop):(X.wish E).Ok :=
 ⟨ok.mod,ok.kind,ok.glob,ok.blt,ok.above,ok.inj,ok.has,ok.cab,ok.hd,ok.frames,ok.stk,ok.exf,ok.bs,ok.bsz,ok.noex,ok.exfs,ok.funs,ok.frf⟩
theorem Cx.Ok.unwish{X:Cx}{E:Value->Shared->Prop}(ok:(X.wish E).Ok):X.Ok :=
 ⟨ok.mod,ok.kind,ok.glob,ok.blt,ok.above,ok.inj,ok.has,ok.cab,ok.hd,ok.frames,ok.stk,ok.exf,ok.bs,ok.bsz,ok.noex,ok.exfs,ok.funs,ok.frf⟩
section
variable {X:Cx} {pins:List (Addr×Obj)} {σ:St} {H:Hp} {s:Shared} {E:Value->Shared->Prop}
theorem Inv.wish(I:Inv X pins σ H s)(E:Value->Shared->Prop):Inv (X.wish E) pins σ H s:=⟨I.ok.wish E,I.os,I.bare,I.base,I.loc,I.cell,I.free,I.freeC,I.pin,I.hok,I.len⟩
theorem Inv.unwish(I:Inv (X.wish E) pins σ H s):Inv X pins σ H s:=⟨I.ok.unwish,I.os,I.bare,I.base,I.loc,I.cell,I.free,I.freeC,I.pin,I.hok,I.len⟩
theorem SP.unwish{D:qf}{f:Flow}{s':Shared}(h:SP (X.wish E) pins D f s'):SP X pins D f s':=by
 cases f with
 |next=>obtain⟨σ',H',I,q⟩:=h;exact⟨σ',H',I.unwish,q⟩
 |brk=>obtain⟨σ',H',I,q⟩:=h;exact⟨σ',H',I.unwish,q⟩
 |cont=>obtain⟨σ',H',I,q⟩:=h;exact⟨σ',H',I.unwish,q⟩
 |ret u=>obtain⟨v,σ',H',I,r,q⟩:=h;exact⟨v,σ',H',I.unwish,r,q⟩
theorem PSs.nox{st:List Stmt}{t:TS}(h:PSs X.nox st t):PSs X st t:=fun pins s σ H D I hw=>
 wpAny_mono (h pins s σ H D (I.wish _) hw) (fun _ _ q=>q.unwish) fun _ _ z=>False.elim z
end
section
variable {X:Cx} {st:Stmt} {rest:List Stmt} {t u:TS} {e:Expr} {te:TE} {pos:Pos}
noncomputable def zeg:TS:=fun D σ H=>D.nx σ H
noncomputable def tSeq(t u:TS):TS:=fun D σ H=>t { D with nx:=u D } σ H
theorem pss_nil:PSs X [] zeg:=fun _ _ σ H _ I h=>wpAny_execs_nil ⟨σ,H,I,h⟩
theorem jH(h1:PS X st t)(h2:PSs X rest u):PSs X (st::rest) (tSeq t u):=by
 intro pins s σ H D I h
 refine wpAny_execs_cons (thn (h1 pins s σ H { D with nx:=u D } I h) fun f s1 q=>?_)
 cases f with
 |next=>
  obtain⟨σ',H',I',q⟩:=q
  exact h2 pins s1 σ' H' D I' q
 |ret v=>exact q
 |brk=>exact q
 |cont=>exact q
theorem Qb(h1:PS X st t):PSs X [st] t:=by
 intro pins s σ H D I h
 refine wpAny_execs_cons (thn (h1 pins s σ H D I h) fun f s1 q=>?_)
 cases f with
 |next=>exact wpAny_execs_nil q
 |ret v=>exact q
 |brk=>exact q
 |cont=>exact q
theorem ps_pass:PS X (.Pass pos) zeg:=fun _ _ σ H _ I h=>wpAny_Pass ⟨σ,H,I,h⟩
theorem Inv.quiet{pins:List (Addr×Obj)}{σ:St}{H:Hp}{s:Shared}(I:Inv X pins σ H s):interactive X.env=false:=by simp[interactive,I.ok.kind]
noncomputable def zhb(te:TE):TS:=fun D σ H=>te σ H fun _ H1=>D.nx σ H1
theorem vX(he:PE X e te)(hs:swapsWith e none pos.line X.env=pure false:=by rfl):PS X (.Expr e pos) (zhb te):=by
 intro pins s σ H D I h
 exact wpAny_Expr_any (thn (he pins s σ H _ I h) fun v s1 ⟨x,H1,I1,r1,q1⟩=>⟨σ,H1,I1,q1⟩) I.quiet hs
noncomputable def tRet(te:TE):TS:=fun D σ H=>te σ H D.rt
theorem yO(he:PE X e te):PS X (.Return (some e) pos) (tRet te):=by
 intro pins s σ H D I h
 exact wpAny_Return_some (thn (he pins s σ H _ I h) fun v s1 ⟨x,H1,I1,r1,q1⟩=>⟨x,σ,H1,I1,r1,q1⟩)
noncomputable def tIfS(c:TT)(t u:TS):TS:=fun D σ H=>c σ H fun b H1=>if b=true then t D σ H1 else u D σ H1
theorem zgL{c:Expr}{a b:List Stmt}{tc:TT}(hc:PT X c tc)(ha:PSs X a t)(hb:PSs X b u):PS X (.If c a b pos) (tIfS tc t u):=by
 intro pins s σ H D I h
 refine wpAny_If (thn (hc pins s σ H _ I h) fun d s1 ⟨H1,I1,q1⟩=>?_)
 cases d with
 |true=>exact ha pins s1 σ H1 D I1 q1
 |false=>exact hb pins s1 σ H1 D I1 q1
end
noncomputable abbrev TG:=V->St->Hp->(St->Hp->Prop)->Prop
noncomputable abbrev TGs:=List V->St->Hp->(St->Hp->Prop)->Prop
noncomputable def PG(X:Cx)(target:Expr)(t:TG):Prop :=
 ∀ (pins:List (Addr×Obj)) (s:Shared) (σ:St) (H:Hp) (v:V) (u:Value) (Q:St->Hp->Prop),Inv X pins σ H s->RelV v u->t v σ H Q ->
  wpAny (model X.prog X.w) X.A (assign target X.env u) (fun _ s'=>∃ σ' H',Inv X pins σ' H' s'/\Q σ' H') X.xe s
noncomputable def PGs(X:Cx)(ts:List Expr)(t:TGs):Prop :=
 ∀ (pins:List (Addr×Obj)) (s:Shared) (σ:St) (H:Hp) (vs:List V) (us:List Value) (Q:St->Hp->Prop),Inv X pins σ H s->Vals vs us->t vs σ H Q ->
  wpAny (model X.prog X.w) X.A (assignInOrder ((assignEach ts X.env).map (·.2)) us) (fun _ s'=>∃ σ' H',Inv X pins σ' H' s'/\Q σ' H') X.xe s
noncomputable abbrev zbR:=V->V->V->Hp->(Hp->Prop)->Prop
noncomputable def zel(X:Cx)(t:zbR):Prop :=
 ∀ (pins:List (Addr×Obj)) (s:Shared) (σ:St) (H:Hp) (o i v:V) (ov iv u:Value) (Q:Hp->Prop),Inv X pins σ H s->RelV o ov->RelV i iv->RelV v u->t o i v H Q ->
  wpAny (model X.prog X.w) X.A (setItem ov iv u) (fun _ s'=>∃ H',Inv X pins σ H' s'/\Q H') X.xe s
section
variable {X:Cx} {pos:Pos}
noncomputable def wB(i:Nat):TG:=fun v σ H Q=>Q (σ.set i (some v)) H
theorem Yq{i:Nat}{x:Str}(hN:X.N.Nodup)(hi:X.N[i]?=some x)(hx:Loc X.env.scope x)(hf:X.fn x=true∨X.env.scope.names.lookup x=some .local:=by first | exact .inl rfl | exact .inr rfl | assumption):PG X (.Name x pos) (wB i):=by
 intro pins s σ H v u Q I r h
 exact wpAny_assign_Name (Qd I hN hi hx r (fun s' I'=>⟨_,H,I',h⟩) hf)
noncomputable def gNil:TGs:=fun vs σ H Q=>vs= []/\Q σ H
noncomputable def zgs(t:TG)(u:TGs):TGs:=fun vs σ H Q=>∃ v r,vs=v::r/\t v σ H fun σ' H'=>u r σ' H' Q
theorem pgs_nil:PGs X [] gNil:=by
 intro pins s σ H vs us Q I r h
 obtain⟨e,h⟩:=h
 subst e
 cases r
 exact assignInOrder_nil ⟨σ,H,I,h⟩
theorem zay{e:Expr}{es:List Expr}{t:TG}{u:TGs}(h1:PG X e t)(h2:PGs X es u)
  (hs:(assignEach (e::es) X.env).map (·.2)=assign e X.env::(assignEach es X.env).map (·.2):=by rfl):PGs X (e::es) (zgs t u):=by
 intro pins s σ H vs us Q I r h
 obtain⟨v,vr,e1,h⟩:=h
 subst e1
 cases r with
 |cons r rr=>
  rw[hs]
  refine assignInOrder_cons (thn (h1 pins s σ H _ _ _ I r h) fun _ s1 ⟨σ1,H1,I1,q1⟩=>?_)
  exact h2 pins s1 σ1 H1 _ _ Q I1 rr q1
noncomputable def gTup(K:PySem.W.Frag)(n:Nat)(t:TGs):TG:=fun v σ H Q=>∃ a xs,v=.ref a/\SqT K H a xs/\xs.length=n/\t xs σ H Q
theorem zfk{es:List Expr}{k:Nat}{t:TGs}{n:Nat}(hc:X.calm=true)(h:PGs X es t)
  (hn:(assignEach es X.env).length=n:=by rfl) (hst:(assignEach es X.env).findIdx? (·.1)=none:=by rfl):PG X (.Tuple es k pos) (gTup X.K n t):=by
 intro pins s σ H v u Q I r hw
 obtain⟨a,xs,e1,hq,hl,hw⟩:=hw
 subst e1
 cases r
 obtain⟨its,rv,ht,hz⟩:=I.tuple hq
 refine assign_Tuple_tuple (I.ok.hd hc) ht (by simp[hn,<- hl,rv.length]) hst fun h' hx=>?_
 have I1:Inv X pins σ H { s with heap:=h' }:=I.kept (t':=s.toks) fun b o e=>hx b o (xj (Heap.lt_size e)) e
 exact h pins _ σ H xs _ Q I1 (by simpa using rv) hw
noncomputable def zgt(to ti:TE)(t:zbR):TG:=fun v σ H Q=>to σ H fun o H1=>ti σ H1 fun i H2=>t o i v H2 fun H3=>Q σ H3
theorem zfj{o i:Expr}{to ti:TE}{t:zbR}(ho:PE X o to)(hi:PE X i ti)(hs:zel X t)
  (ha:∀ v,assign (.Subscript o i pos) X.env v=(do
   let ov<-holding [v] (eval o X.env)
   let iv<-holding [v,ov] (eval i X.env)
   standAt pos
   holding [v,ov,iv] (setItem ov iv v)
   release [v,ov,iv] []):=by intro _;rfl):PG X (.Subscript o i pos) (zgt to ti t):=by
 intro pins s σ H v u Q I r h
 rw[ha]
 refine wpAny_bind (wpAny_holding (thn (ho pins s σ H _ I h) fun ov s1 ⟨x,H1,I1,r1,q1⟩=>?_))
 refine wpAny_bind (wpAny_holding (thn (hi pins s1 σ H1 _ I1 q1) fun iv s2 ⟨y,H2,I2,r2,q2⟩=>?_))
 refine wpAny_bind (wpAny_standAt (wpAny_bind (wpAny_holding (thn (hs pins s2 σ H2 x y v ov iv u _ I2 r1 r2 r q2) fun _ s3 ⟨H3,I3,q3⟩=>?_))))
 exact wpAny_release ⟨σ,H3,I3,q3⟩
noncomputable def Va(te:TE)(g:TG):TS:=fun D σ H=>te σ H fun x H1=>g x σ H1 D.nx
theorem yN{tg e:Expr}{te:TE}{g:TG}(he:PE X e te)(hg:PG X tg g)(hs:swapsWithSole [tg] e pos.line X.env=pure false:=by rfl)(hw:swappedStores [tg] e X.env=pure none:=by rfl)
    (h1:(assignEach [tg] X.env).map (·.2)= [assign tg X.env]:=by rfl):PS X (.Assign [tg] e pos) (Va te g):=by
  intro pins s σ H D I h
  refine wpAny_Assign_stores (thn (he pins s σ H _ I h) fun v s1 ⟨x,H1,I1,r1,q1⟩=>?_) hs hw
  rw[h1]
  exact thn (hg pins s1 σ H1 x v _ I1 r1 q1) fun _ s2 q=>q
theorem ZT{i:Nat}{x:Str}{e:Expr}{te:TE}{pos':Pos}(hN:X.N.Nodup)(hi:X.N[i]?=some x)(hx:Loc X.env.scope x)(he:PE X e te)(hs:swapsWith e (some (.Name x pos')) pos.line X.env=pure false:=by rfl)(hf:X.fn x=true∨X.env.scope.names.lookup x=some .local:=by first | exact .inl rfl | exact .inr rfl | assumption) :
    PS X (.Assign [.Name x pos'] e pos) (Va te (wB i)):=by
  intro pins s σ H D I h
  refine wpAny_Assign_Name (thn (he pins s σ H _ I h) fun v s1 ⟨y,H1,I1,r1,q1⟩=>?_) hs
  exact Qd I1 hN hi hx r1 (fun s2 I2=>⟨_,H1,I2,q1⟩) hf
end
section
variable {X:Cx} {pos:Pos}
noncomputable def zf1(c:TT)(tb:TS):TS:=fun D σ H=>∃ W:Nat->St->Hp->Prop,(∃ m,W m σ H)/\∀ m σ H,W m σ H ->
 c σ H fun b H1=>if b=true then ∃ N:St->Hp->Prop,(∀ σ' H',N σ' H'->∃ m',m'<m/\W m' σ' H')/\tb { D with nx:=N,ct:=N,bk:=D.nx } σ H1 else D.nx σ H1
theorem zaE{c:Expr}{body:List Stmt}{tc:TT}{tb:TS}(hp:PassesOwn (model X.prog X.w) X.A X.env X.xe)(hc:PT X c tc)(hb:PSs X body tb):PS X (.While c body [] pos) (zf1 tc tb):=by
 intro pins s σ H D I h
 obtain⟨W,⟨m0,w0⟩,turn⟩:=h
 refine wpAny_While (codeAny_whileLoop (fun n s'=>∃ σ' H',Inv X pins σ' H' s'/\W n σ' H') ?_ m0 ⟨σ,H,I,w0⟩)
 rintro n s1 ⟨σ1,H1,I1,w1⟩
 refine wpAny_passesOwn hp (thn (hc pins s1 σ1 H1 _ I1 (turn n σ1 H1 w1)) fun b s2 ⟨H2,I2,q2⟩=>?_)
 cases b with
 |true=>
  obtain⟨N,hN,q2⟩:=q2
  rw[if_pos rfl]
  refine wpAny_passesOwn hp (thn (hb pins s2 σ1 H2 _ I2 q2) fun f s3 q3=>?_)
  cases f with
  |next=>
   obtain⟨σ3,H3,I3,n3⟩:=q3
   obtain⟨m',hm,w3⟩:=hN σ3 H3 n3
   exact⟨m',hm,σ3,H3,I3,w3⟩
  |cont=>
   obtain⟨σ3,H3,I3,n3⟩:=q3
   obtain⟨m',hm,w3⟩:=hN σ3 H3 n3
   exact⟨m',hm,σ3,H3,I3,w3⟩
  |brk=>exact q3
  |ret v=>exact q3
 |false=>
  rw[if_neg Bool.false_ne_true]
  exact wpAny_execs_nil ⟨σ1,H2,I2,q2⟩
end
structure It where
 go:Nat->Hp->Prop
 yld:Nat->Hp->V->Hp->Prop
 stop:Nat->Hp->Prop
noncomputable def Qh(X:Cx)(pins:List (Addr×Obj))(H:Hp)(b:Addr):Prop :=
 H b=none/\b≠X.env.locals/\b∉X.fs/\(b∈X.ex∨X.s₀.heap.objs.size<=b)/\(∀ x c,X.env.cells.lookup x=some c->c≠b)/\∀ p∈X.pn++pins,p.1≠b
theorem Inv.fpOk{X:Cx}{pins:List (Addr×Obj)}{σ:St}{H H':Hp}{s:Shared}{b:Addr}(I:Inv X pins σ H s)(hb:s.heap.objs.size<=b)(hn:H' b=none):Qh X pins H' b:=by
 refine⟨hn,ug (xl I.lt hb),I.nofs hb,.inr (xE I.sz hb),fun x c e z=>?_,fun p hp z=>?_⟩
 ·obtain⟨v,q⟩:=I.cell x c e
  exact absurd (xl q.lt (by rw[z];exact hb)) (xO _)
 ·exact absurd (xl (Heap.lt_size (I.pin p hp).1) (by rw[z];exact hb)) (xO _)
structure J7(P:Program)(w:World)(K:PySem.W.Frag)(tg:Expr)(J:It)(fp:List Addr)(it:Addr)(tn:Nat->Heap->Prop):Prop where
 mem:it∈fp
 obj:∀ i h,tn i h->∀ b∈fp,∃ o,h.get? b=some o/\∀ v,o.data≠ .cell v
 keep:∀ i h h',tn i h->(∀ b∈fp,∀ o,h.get? b=some o->h'.get? b=some o)->tn i h'
 item:∀ (X:Cx),X.prog=P->X.w=w->X.K=K->X.calm=true->∀ (i:Nat) (pins:List (Addr×Obj)) (s:Shared) (σ:St) (H:Hp) (E:Value->Shared->Prop),Inv X pins σ H s->(∀ b∈fp,Qh X pins H b)->tn i s.heap->J.go i H ->
  wpAny (model P w) X.A (pyNext (.ref it)) (fun r s1=>∃ u,r=some u /\
   wpAny (model P w) X.A (letOwnedTupleGo tg (.ref it) u) (fun _ s2=>∃ x H',Inv X pins σ H' s2/\RelV x u/\J.yld i H x H'/\tn (i+1) s2.heap/\∀ b∈fp,H' b=none) E s1) E s
 done:∀ (X:Cx),X.prog=P->X.w=w->X.K=K->X.calm=true->∀ (i:Nat) (pins:List (Addr×Obj)) (s:Shared) (σ:St) (H:Hp) (E:Value->Shared->Prop),Inv X pins σ H s->(∀ b∈fp,Qh X pins H b)->tn i s.heap->J.stop i H ->
  wpAny (model P w) X.A (pyNext (.ref it)) (fun r s1=>r=none/\Inv X pins σ H s1) E s
 self:∀ (A:Around) (i:Nat) (s:Shared) (Q:Value->Shared->Prop) (E:Value->Shared->Prop),tn i s.heap->Q (.ref it) s->wpAny (model P w) A (pyIter (.ref it)) Q E s
noncomputable abbrev TI:=St->Hp->(It->Hp->Prop)->Prop
noncomputable def PIE(X:Cx)(pins:List (Addr×Obj))(σ:St)(tg:Expr)(R:It->Hp->Prop)(itv:Value)(s2:Shared):Prop :=
 ∃ (it:Addr) (fp:List Addr) (tn:Nat->Heap->Prop) (J:It) (H':Hp),itv=.ref it/\Inv X pins σ H' s2/\J7 X.prog X.w X.K tg J fp it tn/\tn 0 s2.heap/\(∀ b∈fp,Qh X pins H' b)/\R J H'
noncomputable def PI(X:Cx)(tg iter:Expr)(wi:TI):Prop :=
 ∀ (pins:List (Addr×Obj)) (s:Shared) (σ:St) (H:Hp) (R:It->Hp->Prop),Inv X pins σ H s->wi σ H R ->
  wpAny (model X.prog X.w) X.A (eval iter X.env) (fun v s1=>wpAny (model X.prog X.w) X.A (pyIter v) (PIE X pins σ tg R) X.xe s1) X.xe s
theorem VC{M:Model}{A:Around}{E:Value->Shared->Prop}{s:Shared}{tg:Expr}{it:Addr}{u:Value}{o:Obj}{n:String}{vs:Array Value}{Q:Unit->Shared->Prop}(ho:s.heap.get? it=some o)(hc:o.cls=.type n)(hd:o.data=.fields vs)
    (hn: ["enumerate","zip","dict_itemiterator","dict_reverseitemiterator","odict_iterator","itertools.zip_longest","itertools.pairwise"].contains n=false) (hQ:Q () s):wpAny M A (letOwnedTupleGo tg (.ref it) u) Q E s:=by
  unfold letOwnedTupleGo
  cases tg<;>first
    |exact wpAny_pure hQ
    | (cases u<;>first
        |exact wpAny_pure hQ
        | (refine wpAny_bind (wpAny_load ho ?_)
           rw[hc,hd]
           show wpAny M A (if (["enumerate","zip","dict_itemiterator","dict_reverseitemiterator","odict_iterator","itertools.zip_longest","itertools.pairwise"].contains n&&vs[0]?==some (rawInt _))=true then _ else _) Q E s
           rw[if_neg (by intro h;rw[hn,Bool.false_and]at h;cases h)]
           exact wpAny_pure hQ))
noncomputable def Itl(K:PySem.W.Frag)(a:Addr):It :=
 ⟨fun i H=>∃ xs x,SqL K H a xs/\xs[i]?=some x,fun i H x H'=>H'=H/\∀ xs,SqL K H a xs->xs[i]?=some x,fun i H=>∃ xs,SqL K H a xs/\xs.length<=i⟩
noncomputable def Itt(K:PySem.W.Frag)(a:Addr):It :=
 ⟨fun i H=>∃ xs x,SqT K H a xs/\xs[i]?=some x,fun i H x H'=>H'=H/\∀ xs,SqT K H a xs->xs[i]?=some x,fun i H=>∃ xs,SqT K H a xs/\xs.length<=i⟩
noncomputable def Itr(lo:Int)(n:Nat):It:=⟨fun i _=>i<n,fun i H x H'=>H'=H/\x=.int (lo+i),fun i _=>n<=i⟩
theorem kQ{P:Program}{w:World}{K:PySem.W.Frag}{tg:Expr}(a it:Addr):J7 P w K tg (Itl K a) [it] it (fun i h=>h.IsListIter it a i) where
 mem:=by simp
 obj:=fun i h st b hb=>by
  have e:b=it:=by simpa using hb
  subst e
  obtain⟨o,e,c,d⟩:=st
  exact⟨o,e,fun v z=>by rw[d]at z;cases z⟩
 keep:=fun i h h' st k=>st.at fun o e=>k it (by simp) o e
 item:=by
  intro X hP hw hK hc i pins s σ H E I hf st hg
  subst hP hw hK
  obtain⟨xs,x,hq,hx⟩:=hg
  obtain⟨its,rv,p,hz⟩:=I.list hq
  obtain⟨u,hu,ru⟩:=rv.get hx
  obtain⟨f0,f1,f2,f3,f4,f5⟩:=hf it (by simp)
  refine wpAny_pyNext_list_item st p.isList (x:=u) (by simpa using hu) fun h' st' sb=>?_
  have I1:Inv X pins σ H { s with heap:=h' }:=I.turned (t':=s.toks) (fun b o hb e=>(sb.2 b hb).trans e) f0 f1 f3 f4 f5
  obtain⟨o,e,c,d⟩:=id st'
  exact⟨u,rfl,VC (s:={ s with heap:=h' }) e c d (by decide) ⟨x,H,I1,ru,⟨rfl,fun ys hy=>by rw[I.list_inj hy hq];exact hx⟩,st',fun b hb=>(hf b hb).1⟩⟩
 done:=by
  intro X hP hw hK hc i pins s σ H E I hf st hg
  subst hP hw hK
  obtain⟨xs,hq,hx⟩:=hg
  obtain⟨its,rv,p,hz⟩:=I.list hq
  obtain⟨f0,f1,f2,f3,f4,f5⟩:=hf it (by simp)
  have hl:=rv.length
  exact wpAny_pyNext_list_end (I.ok.hd hc) st p.isList (by simp;omega) fun h' eb=>⟨rfl,I.turned (t':=s.toks) (fun b o hb e=>eb b o hb e) f0 f1 f3 f4 f5⟩
 self:=fun _ _ _ _ _ st h=>wpAny_pyIter_listiter st h
theorem y0{P:Program}{w:World}{K:PySem.W.Frag}{tg:Expr}(a it:Addr):J7 P w K tg (Itt K a) [it] it (fun i h=>h.IsTupleIter it a i) where
 mem:=by simp
 obj:=fun i h st b hb=>by
  have e:b=it:=by simpa using hb
  subst e
  obtain⟨o,e,c,d⟩:=st
  exact⟨o,e,fun v z=>by rw[d]at z;cases z⟩
 keep:=fun i h h' st k=>st.at fun o e=>k it (by simp) o e
 item:=by
  intro X hP hw hK hc i pins s σ H E I hf st hg
  subst hP hw hK
  obtain⟨xs,x,hq,hx⟩:=hg
  obtain⟨its,rv,p,hz⟩:=I.tuple hq
  obtain⟨u,hu,ru⟩:=rv.get hx
  obtain⟨f0,f1,f2,f3,f4,f5⟩:=hf it (by simp)
  refine wpAny_pyNext_tuple_item st (show s.heap.IsTuple a its.toArray from p) (x:=u) (by simpa using hu) fun h' st' sb=>?_
  have I1:Inv X pins σ H { s with heap:=h' }:=I.turned (t':=s.toks) (fun b o hb e=>(sb.2 b hb).trans e) f0 f1 f3 f4 f5
  obtain⟨o,e,c,d⟩:=id st'
  exact⟨u,rfl,VC (s:={ s with heap:=h' }) e c d (by decide) ⟨x,H,I1,ru,⟨rfl,fun ys hy=>by rw[I.tuple_inj hy hq];exact hx⟩,st',fun b hb=>(hf b hb).1⟩⟩
 done:=by
  intro X hP hw hK hc i pins s σ H E I hf st hg
  subst hP hw hK
  obtain⟨xs,hq,hx⟩:=hg
  obtain⟨its,rv,p,hz⟩:=I.tuple hq
  obtain⟨f0,f1,f2,f3,f4,f5⟩:=hf it (by simp)
  have hl:=rv.length
  exact wpAny_pyNext_tuple_end (I.ok.hd hc) st (show s.heap.IsTuple a its.toArray from p) (by simp;omega) fun h' eb=>⟨rfl,I.turned (t':=s.toks) (fun b o hb e=>eb b o hb e) f0 f1 f3 f4 f5⟩
 self:=fun _ _ _ _ _ st h=>wpAny_pyIter_tupleiter st h
theorem yZ{P:Program}{w:World}{K:PySem.W.Frag}{tg:Expr}(it:Addr)(lo:Int)(n:Nat):J7 P w K tg (Itr lo n) [it] it (fun i h=>IsRangeIter h it (lo+(i:Nat)*1) ((n:Int)-(i:Nat)) 1) where
 mem:=by simp
 obj:=fun i h st b hb=>by
  have e:b=it:=by simpa using hb
  subst e
  exact⟨_,st,fun v z=>by
   have z':Data.fields _=Data.cell v:=z
   cases z'⟩
 keep:=fun i h h' st k=>k it (by simp) _ st
 item:=by
  intro X hP hw hK hc i pins s σ H E I hf st hg
  subst hP hw hK
  obtain⟨f0,f1,f2,f3,f4,f5⟩:=hf it (by simp)
  have W:=Walks.range (prog:=X.prog) (w:=X.w) (I.ok.hd hc) it lo 1 n
  refine W.item i s _ _ hg st fun v h' tk hv st' kk=>?_
  obtain⟨t,rfl⟩:=hv
  have I1:Inv X pins σ H { s with heap:=h',toks:=tk }:=I.turned (fun b o hb e=>kk b o (by simpa using hb) e) f0 f1 f3 f4 f5
  refine⟨_,rfl,VC (s:={ s with heap:=h',toks:=tk }) (n:= "range_iterator") st' rfl rfl (by decide) ⟨.int (lo+i),H,I1,⟨t,?_⟩,⟨rfl,rfl⟩,st',fun b hb=>(hf b hb).1⟩⟩
  rw[Int.mul_one]
 done:=by
  intro X hP hw hK hc i pins s σ H E I hf st hg
  subst hP hw hK
  obtain⟨f0,f1,f2,f3,f4,f5⟩:=hf it (by simp)
  exact wpAny_pyNext_range_end (I.ok.hd hc) st (by have:n<=i:=hg;omega) fun h' eb=>⟨rfl,I.turned (t':=s.toks) (fun b o hb e=>eb b o hb e) f0 f1 f3 f4 f5⟩
 self:=fun _ _ _ _ _ st h=>wpAny_pyIter_rangeiter st h
section
variable {X:Cx} {tg:Expr}
noncomputable def zgx(K:PySem.W.Frag)(tl:TE):TI:=fun σ H R=>tl σ H fun x H1=>∃ a,x=.ref a/\(∃ xs,SqL K H1 a xs)/\R (Itl K a) H1
noncomputable def iTup(K:PySem.W.Frag)(tl:TE):TI:=fun σ H R=>tl σ H fun x H1=>∃ a,x=.ref a/\(∃ xs,SqT K H1 a xs)/\R (Itt K a) H1
theorem vU{l:Expr}{tl:TE}(hl:PE X l tl):PI X tg l (zgx X.K tl):=by
 intro pins s σ H R I h
 refine thn (hl pins s σ H _ I h) fun v s1 ⟨x,H1,I1,r1,q1⟩=>?_
 obtain⟨a,e,⟨xs,hq⟩,q⟩:=q1
 subst e
 cases r1
 obtain⟨its,rv,p,hz⟩:=I1.list hq
 refine wpAny_pyIter_list p.isList ?_
 refine⟨s1.heap.objs.size,[s1.heap.objs.size],_,_,H1,rfl,I1.kept (t':=s1.toks) fun b o e=>Heap.get?_push_of_some _ e,kQ a _,⟨_,Heap.get?_push_size _ rfl,rfl,rfl⟩,fun b hb=>?_,q⟩
 have e:b=s1.heap.objs.size:=by simpa using hb
 subst e
 exact I1.fpOk (xh _) (I1.hok.fresh (xh _))
theorem zfm{l:Expr}{tl:TE}(hl:PE X l tl):PI X tg l (iTup X.K tl):=by
 intro pins s σ H R I h
 refine thn (hl pins s σ H _ I h) fun v s1 ⟨x,H1,I1,r1,q1⟩=>?_
 obtain⟨a,e,⟨xs,hq⟩,q⟩:=q1
 subst e
 cases r1
 obtain⟨its,rv,p,hz⟩:=I1.tuple hq
 refine wpAny_pyIter_tuple (show s1.heap.IsTuple a its.toArray from p) ?_
 refine⟨s1.heap.objs.size,[s1.heap.objs.size],_,_,H1,rfl,I1.kept (t':=s1.toks) fun b o e=>Heap.get?_push_of_some _ e,y0 a _,⟨_,Heap.get?_push_size _ rfl,rfl,rfl⟩,fun b hb=>?_,q⟩
 have e:b=s1.heap.objs.size:=by simpa using hb
 subst e
 exact I1.fpOk (xh _) (I1.hok.fresh (xh _))
theorem zaH{pins:List (Addr×Obj)}{σ:St}{H:Hp}{s:Shared}{R:It->Hp->Prop}{E:Value->Shared->Prop}{lo hi:Int}{t u v:Tok}{tk:Nat}(I:Inv X pins σ H s)(h1: -(2 ^ 62)<=lo)(h2:lo<2 ^ 62)(h3: -(2 ^ 62)<=hi)(h4:hi<2 ^ 62)
  (q:R (Itr lo (hi-lo).toNat) H):wpAny (model X.prog X.w) X.A (pyIter (.ref s.heap.objs.size)) (PIE X pins σ tg R) E { s with heap:=s.heap.push { cls:=.type "range",data:=.fields #[.int lo t,.int hi u,.int 1 v] },toks:=tk }:=by
 refine wpAny_pyIter_range (IsRange.new ..) (small_one h1 h2 h3 h4) ?_
 have I1:Inv X pins σ H { s with heap:=s.heap.push { cls:=.type "range",data:=.fields #[.int lo t,.int hi u,.int 1 v] },toks:=tk }:=I.kept fun b o e=>Heap.get?_push_of_some _ e
 refine⟨(s.heap.push { cls:=.type "range",data:=.fields #[.int lo t,.int hi u,.int 1 v] }).objs.size,[(s.heap.push { cls:=.type "range",data:=.fields #[.int lo t,.int hi u,.int 1 v] }).objs.size],_,_,H,rfl,
  I1.kept (t':=tk) fun b o e=>Heap.get?_push_of_some _ e,yZ _ lo (hi-lo).toNat,?_,fun b hb=>?_,q⟩
 ·have e1:lo+((0:Nat):Int)*1=lo:=by simp
  have e2:(((hi-lo).toNat:Nat):Int)-((0:Nat):Int)=Builtin.Range.rangeSize lo hi 1:=by rw[rangeSize_one];split<;>omega
  show IsRangeIter _ _ (lo+((0:Nat):Int)*1) ((((hi-lo).toNat:Nat):Int)-((0:Nat):Int)) 1
  rw[e1,e2]
  exact Heap.get?_push_size _ rfl
 ·have e:b=(s.heap.push { cls:=.type "range",data:=.fields #[.int lo t,.int hi u,.int 1 v] }).objs.size:=by simpa using hb
  subst e
  exact I1.fpOk (xh _) (I1.hok.fresh (xh _))
noncomputable def zgy(ta:TA):TI:=fun σ H R=>ta σ H fun vs H1=>∃ j:Int,vs= [.int j]/\ -(2 ^ 62)<=j/\j<2 ^ 62/\R (Itr 0 j.toNat) H1
theorem kB {a:Expr}{ta:TA}{p pos:Pos}(hg:Gl X "range") (hm:X.mg "range" =none) (ha:PA X [a] ta) (hs:starEach [a] X.env= [(false,eval a X.env)]:=by rfl):PI X tg (.Call (.Name "range" p) [a] [] pos) (zgy ta):=by
 intro pins s σ H R I h
 refine Call_ (Jd I hg hm boot_range (PyProof.Rows.callWith_type1 (thn (ha pos pins s σ H _ I h) fun us s1 ⟨vs,H1,I1,r1,q1⟩=>?_) hs rfl))
 obtain⟨j,e,q1,q2,q⟩:=q1
 subst e
 cases r1 with
 |cons r rr=>
  cases rr
  obtain⟨t,rfl⟩:=r
  exact call_range_1 (zaH I1 (by omega) (by omega) q1 q2 (by simpa using q))
noncomputable def tFor(wi:TI)(g:TG)(tb:TS):TS:=fun D σ H=>wi σ H fun J H1=>∃ W:Nat->Nat->St->Hp->Prop,(∃ m,W 0 m σ H1)/\∀ i m σ H,W i m σ H ->
 (J.stop i H/\D.nx σ H)∨(J.go i H/\∃ N:St->Hp->Prop,(∀ σ' H',N σ' H'->∃ m',m'<m/\W (i+1) m' σ' H')/\∀ x H',J.yld i H x H'->g x σ H' fun σ2 H2=>tb { D with nx:=N,ct:=N,bk:=D.nx } σ2 H2)
noncomputable def wU(fp:List Addr)(h:Heap):List (Addr×Obj):=fp.filterMap fun b=>(h.get? b).map fun o=>(b,o)
theorem qr{fp:List Addr}{h:Heap}{b:Addr}{o:Obj}(hb:b∈fp)(e:h.get? b=some o):(b,o)∈wU fp h:=List.mem_filterMap.mpr ⟨b,hb,by rw[e];rfl⟩
theorem ko{fp:List Addr}{h:Heap}{p:Addr×Obj}(hp:p∈wU fp h):p.1∈fp/\h.get? p.1=some p.2:=by
 obtain⟨b,hb,e⟩:=List.mem_filterMap.mp hp
 cases q:h.get? b with
 |none=>rw[q]at e;cases e
 |some o=>
  rw[q]at e
  have e':(b,o)=p:=Option.some.inj e
  subst e'
  exact⟨hb,q⟩
theorem Inv.pinned{pins:List (Addr×Obj)}{σ:St}{H:Hp}{s:Shared}{fp:List Addr}(I:Inv X pins σ H s)(hf:∀ b∈fp,Qh X pins H b)(ho:∀ b∈fp,∃ o,s.heap.get? b=some o/\∀ v,o.data≠ .cell v):Inv X (pins++wU fp s.heap) σ H s :=
 I.pins_of fun p hp=>(xQ.mp hp).elim (fun z=>I.pin p (xw _ z)) fun z=>by
  obtain⟨hb,e⟩:=ko z
  obtain⟨f0,f1,f2,_⟩:=hf p.1 hb
  obtain⟨o,e',d⟩:=ho p.1 hb
  rw[e]at e';cases e'
  exact⟨e,f0,f1,f2,d⟩
theorem Inv.unpinned{pins pl:List (Addr×Obj)}{σ:St}{H:Hp}{s:Shared}(I:Inv X (pins++pl) σ H s):Inv X pins σ H s:=I.pins_of fun p hp=>I.pin p (xw _ (xY _ hp))
theorem zaB{iter:Expr}{body:List Stmt}{wi:TI}{g:TG}{tb:TS}{pos:Pos}(hp:PassesOwn (model X.prog X.w) X.A X.env X.xe)(hc:X.calm=true)(hi:PI X tg iter wi)(hg:PG X tg g)(hb:PSs X body tb)
  (hs:∀ x,foldedSetIterable iter X.env x=pure x:=by intro _;rfl):PS X (.For tg iter body [] pos) (tFor wi g tb):=by
 intro pins s σ H D I h
 refine wpAny_For (thn (hi pins s σ H _ I h) fun v s1 h1=>thn h1 fun itv s2 h2=>?_) hs
 obtain⟨it,fp,tn,J,H2,e,I2,T,st2,f2,W,⟨m0,w0⟩,turn⟩:=h2
 subst e
 -- what stays true of the iterator's objects through the loop
 have stat:∀ {H':Hp},(∀ b∈fp,H' b=none)->∀ b∈fp,Qh X pins H' b:=fun hn b hb=>⟨hn b hb,(f2 b hb).2⟩
 refine codeAny_forLoop_any (fun n s'=>∃ i σ' H',Inv X pins σ' H' s'/\tn i s'.heap/\(∀ b∈fp,H' b=none)/\W i n σ' H') ?_ m0 ⟨0,σ,H2,I2,st2,fun b hb=>(f2 b hb).1,w0⟩
 rintro n s3 ⟨i,σ3,H3,I3,st3,fr3,w3⟩
 rcases turn i n σ3 H3 w3 with ⟨stop,qn⟩ | ⟨go,N,hN,step⟩
 ·refine wpAny_passesOwn hp (thn (T.done X rfl rfl rfl hc i pins s3 σ3 H3 X.xe I3 (stat fr3) st3 stop) fun r s4 ⟨hr,I4⟩=>?_)
  subst hr
  exact wpAny_execs_nil ⟨σ3,H3,I4,qn⟩
 ·refine wpAny_passesOwn hp (thn (T.item X rfl rfl rfl hc i pins s3 σ3 H3 X.xe I3 (stat fr3) st3 go) fun r s4 ⟨u,hr,h4⟩=>?_)
  subst hr
  refine wpAny_passesOwn hp (thn h4 fun _ s5 ⟨x,H5,I5,r5,y5,st5,fr5⟩=>?_)
  have I5':=I5.pinned (stat fr5) (T.obj _ _ st5)
  refine wpAny_passesOwn hp (thn (hg _ s5 σ3 H5 x u _ I5' r5 (step x H5 y5)) fun _ s6 ⟨σ6,H6,I6,q6⟩=>?_)
  refine wpAny_passesOwn hp (thn (hb _ s6 σ6 H6 _ I6 q6) fun f s7 q7=>?_)
  have again:∀ {σ7:St} {H7:Hp},Inv X (pins++wU fp s5.heap) σ7 H7 s7->N σ7 H7->∃ m,m<n/\∃ i σ' H',Inv X pins σ' H' s7/\tn i s7.heap/\(∀ b∈fp,H' b=none)/\W i m σ' H':=fun {σ7 H7} I7 n7=>by
   obtain⟨m',hm,w7⟩:=hN σ7 H7 n7
   refine⟨m',hm,i+1,σ7,H7,I7.unpinned,T.keep _ _ _ st5 fun b hb o e=>(I7.pin (b,o) (xw _ (xw _ (qr hb e)))).1,fun b hb=>?_,w7⟩
   obtain⟨o,e,d⟩:=T.obj _ _ st5 b hb
   exact (I7.pin (b,o) (xw _ (xw _ (qr hb e)))).2.1
  cases f with
  |next=>obtain⟨σ7,H7,I7,n7⟩:=q7;exact again I7 n7
  |cont=>obtain⟨σ7,H7,I7,n7⟩:=q7;exact again I7 n7
  |brk=>obtain⟨σ7,H7,I7,q7⟩:=q7;exact⟨σ7,H7,I7.unpinned,q7⟩
  |ret v=>obtain⟨x7,σ7,H7,I7,r7,q7⟩:=q7;exact⟨x7,σ7,H7,I7.unpinned,r7,q7⟩
end
theorem KZ{K:PySem.W.Frag}{a:Addr}{xs:List V}{g:TG}{tb:TS}{D:qf}{σ:St}{H:Hp}(Pv:Nat->St->Hp->Prop)(h0:Pv 0 σ H)(hl:∀ i σ H,i<=xs.length->Pv i σ H->SqL K H a xs)
  (hs:∀ i x σ H,xs[i]?=some x->Pv i σ H->g x σ H fun σ2 H2=>tb { D with nx:=Pv (i+1),ct:=Pv (i+1),bk:=D.nx } σ2 H2) (hd:∀ σ H,Pv xs.length σ H->D.nx σ H) :
  ∃ W:Nat->Nat->St->Hp->Prop,(∃ m,W 0 m σ H)/\∀ i m σ H,W i m σ H ->
   ((Itl K a).stop i H/\D.nx σ H)∨((Itl K a).go i H/\∃ N:St->Hp->Prop,(∀ σ' H',N σ' H'->∃ m',m'<m/\W (i+1) m' σ' H')/\∀ x H',(Itl K a).yld i H x H'->g x σ H' fun σ2 H2=>tb { D with nx:=N,ct:=N,bk:=D.nx } σ2 H2):=by
 refine⟨fun i m σ H=>m=xs.length-i/\i<=xs.length/\Pv i σ H,⟨xs.length,by simp,xT _,h0⟩,?_⟩
 rintro i m σ H ⟨rfl,hi,p⟩
 have q:=hl i σ H hi p
 by_cases hlt:i<xs.length
 ·refine .inr ⟨⟨xs,xs[i],q,by simp[hlt]⟩,Pv (i+1),fun σ' H' p'=>⟨xs.length-(i+1),by omega,rfl,hlt,p'⟩,fun x H' y=>?_⟩
  obtain⟨e,y⟩:=y
  subst e
  exact hs i x σ _ (y xs q) p
 ·have e:i=xs.length:=by omega
  subst e
  exact .inl ⟨⟨xs,q,xh _⟩,hd σ H p⟩
noncomputable abbrev R2:=V->V->Hp->VK->Prop
noncomputable def OpR(X:Cx)(f:Value->Value->Sem Value)(r:R2):Prop :=
 ∀ (pins:List (Addr×Obj)) (s:Shared) (σ:St) (H:Hp) (x y:V) (v u:Value) (Q:VK),Inv X pins σ H s->RelV x v->RelV y u->r x y H Q ->
  wpAny (model X.prog X.w) X.A (f v u) (EP X pins σ Q) X.xe s
noncomputable def UnR(X:Cx)(f:Value->Sem Value)(r:V->Hp->VK->Prop):Prop :=
 ∀ (pins:List (Addr×Obj)) (s:Shared) (σ:St) (H:Hp) (x:V) (v:Value) (Q:VK),Inv X pins σ H s->RelV x v->r x H Q ->
  wpAny (model X.prog X.w) X.A (f v) (EP X pins σ Q) X.xe s
noncomputable def jv(X:Cx)(f:Value)(r:List V->Hp->VK->Prop):Prop :=
 ∀ (pins:List (Addr×Obj)) (s:Shared) (σ:St) (H:Hp) (xs:List V) (us:List Value) (Q:VK),Inv X pins σ H s->Vals xs us->r xs H Q ->
  wpAny (model X.prog X.w) X.A (call f us) (EP X pins σ Q) X.xe s
noncomputable def TruR(X:Cx)(r:V->Hp->(Bool->Hp->Prop)->Prop):Prop :=
 ∀ (pins:List (Addr×Obj)) (s:Shared) (σ:St) (H:Hp) (x:V) (v:Value) (Q:Bool->Hp->Prop),Inv X pins σ H s->RelV x v->r x H Q ->
  wpAny (model X.prog X.w) X.A (truthy v) (TP X pins σ Q) X.xe s
noncomputable def tOp(r:R2)(ta tb:TE):TE:=fun σ H Q=>ta σ H fun x H1=>tb σ H1 fun y H2=>r x y H2 Q
noncomputable def tUn(r:V->Hp->VK->Prop)(ta:TE):TE:=fun σ H Q=>ta σ H fun x H1=>r x H1 Q
noncomputable def rI(C:Int->Int->Prop)(g:Int->Int->V):R2:=fun x y H Q=>∃ i j,x=.int i/\y=.int j/\C i j/\Q (g i j) H
noncomputable def rI0(g:Int->Int->V):R2:=fun x y H Q=>∃ i j,x=.int i/\y=.int j/\Q (g i j) H
noncomputable def rU(g:Int->V):V->Hp->VK->Prop:=fun x H Q=>∃ i,x=.int i/\Q (g i) H
section
variable {X:Cx} {a b c:Expr} {ta tb tc:TE} {pos:Pos}
theorem zeo(ha:PE X a ta)(hb:PE X b tb){pins:List (Addr×Obj)}{s:Shared}{σ:St}{H:Hp}{R:V->V->Hp->Prop}(I:Inv X pins σ H s)
  (h:ta σ H fun x H1=>tb σ H1 fun y H2=>R x y H2) {Q:Value->Shared->Prop} {f:Value->Value->Sem Value}
  (hf:∀ v u s2 x y H2,Inv X pins σ H2 s2->RelV x v->RelV y u->R x y H2->wpAny (model X.prog X.w) X.A (f v u) Q X.xe s2) :
  wpAny (model X.prog X.w) X.A (eval a X.env) (fun v s₁=>wpAny (model X.prog X.w) X.A (eval b X.env) (fun u s₂=>wpAny (model X.prog X.w) X.A (f v u) Q X.xe s₂) X.xe s₁) X.xe s:=by
 refine thn (ha pins s σ H _ I h) fun v s1 ⟨x,H1,I1,r1,q1⟩=>?_
 refine thn (hb pins s1 σ H1 _ I1 q1) fun u s2 ⟨y,H2,I2,r2,q2⟩=>?_
 exact hf v u s2 x y H2 I2 r1 r2 q2
theorem W2{op:Operator}{r:R2}(ho:OpR X (binaryOp op) r)(ha:PE X a ta)(hb:PE X b tb):PE X (.BinOp a op b pos) (tOp r ta tb):=by
 intro pins s σ H Q I h
 exact wpAny_BinOp (zeo ha hb I h fun v u s2 x y H2 I2 rx ry q=>ho pins s2 σ H2 x y v u Q I2 rx ry q)
theorem zd7{op:UnaryOp}{r:V->Hp->VK->Prop}(ho:UnR X (unaryOp op) r)(ha:PE X a ta):PE X (.UnaryOp op a pos) (tUn r ta):=by
 intro pins s σ H Q I h
 exact UnaryOp_ (thn (ha pins s σ H _ I h) fun v s1 ⟨x,H1,I1,r1,q1⟩=>ho pins s1 σ H1 x v Q I1 r1 q1)
theorem opI{f:Value->Value->Sem Value}{C:Int->Int->Prop}{g:Int->Int->Int}
  (rule:∀ (i j:Int) (t u:Tok) (s:Shared) (Q:Value->Shared->Prop) (E:Value->Shared->Prop),C i j->Q (.int (g i j) s.toks) { s with toks:=s.toks+1 }->wpAny (model X.prog X.w) X.A (f (.int i t) (.int j u)) Q E s) :
  OpR X f (rI C fun i j=>.int (g i j)):=by
 intro pins s σ H x y v u Q I rx ry h
 obtain⟨i,j,rfl,rfl,hc,q⟩:=h
 obtain⟨t,rfl⟩:=rx
 obtain⟨t',rfl⟩:=ry
 exact rule i j t t' s _ _ hc ⟨.int (g i j),H,I.tok _,⟨_,rfl⟩,q⟩
theorem ze6{f:Value->Value->Sem Value}{g:Int->Int->Int}
  (rule:∀ (i j:Int) (t u:Tok) (s:Shared) (Q:Value->Shared->Prop) (E:Value->Shared->Prop),Q (.int (g i j) s.toks) { s with toks:=s.toks+1 }->wpAny (model X.prog X.w) X.A (f (.int i t) (.int j u)) Q E s) :
  OpR X f (rI0 fun i j=>.int (g i j)):=by
 intro pins s σ H x y v u Q I rx ry h
 obtain⟨i,j,rfl,rfl,q⟩:=h
 obtain⟨t,rfl⟩:=rx
 obtain⟨t',rfl⟩:=ry
 exact rule i j t t' s _ _ ⟨.int (g i j),H,I.tok _,⟨_,rfl⟩,q⟩
theorem zcA{f:Value->Value->Sem Value}{g:Int->Int->Bool}
  (rule:∀ (i j:Int) (t u:Tok) (s:Shared) (Q:Value->Shared->Prop) (E:Value->Shared->Prop),Q (.bool (g i j)) s->wpAny (model X.prog X.w) X.A (f (.int i t) (.int j u)) Q E s) :
  OpR X f (rI0 fun i j=>.bl (g i j)):=by
 intro pins s σ H x y v u Q I rx ry h
 obtain⟨i,j,rfl,rfl,q⟩:=h
 obtain⟨t,rfl⟩:=rx
 obtain⟨t',rfl⟩:=ry
 exact rule i j t t' s _ _ ⟨.bl (g i j),H,I,rfl,q⟩
noncomputable def CDiv(i j:Int):Prop:=0<j/\j<1073741824
noncomputable def zgd(i j:Int):Prop:=0<=j/\j<=1000000/\i.natAbs<2 ^ 64
noncomputable def CMul(i j:Int):Prop:=(-(2 ^ 64)<i/\i<2 ^ 64)∨(-(2 ^ 64)<j/\j<2 ^ 64)
theorem CMul.ok{i j:Int}(h:CMul i j):IntMulOk i j:=by
 rcases h with ⟨h1,h2⟩ | ⟨h1,h2⟩
 ·exact .of_left (intBits_le_64 h1 h2)
 ·exact .of_right (intBits_le_64 h1 h2)
theorem y3(k:Nat):(0:Int)<=2 ^ k:=by
 rw[two_pow_cast]
 exact Int.natCast_nonneg _
theorem yJ:OpR X (binaryOp .Add) (rI0 fun i j=>.int (i+j)):=ze6 fun _ _ _ _ _ _ _ q=>add_int q
theorem zfe:OpR X (binaryOp .Sub) (rI0 fun i j=>.int (i-j)):=ze6 fun _ _ _ _ _ _ _ q=>sub_int q
theorem zan:OpR X (binaryOp .Mult) (rI CMul fun i j=>.int (i*j)):=opI fun _ _ _ _ _ _ _ hc q=>mul_int q hc.ok
theorem zcC:OpR X (binaryOp .FloorDiv) (rI CDiv fun i j=>.int (i / j)):=opI fun i j _ _ _ _ _ hc q=>by
 have h1:(0:Int)<j:=hc.1
 have h2:j<1073741824:=hc.2
 exact floordiv_int (by omega) (by rw[Int.fdiv_eq_ediv_of_nonneg i (by omega)];exact q) (.inl (PyProof.noPylong_small (by omega)))
theorem zam:OpR X (binaryOp .Mod) (rI (fun _ j=>0<j) fun i j=>.int (i % j)):=opI fun i j _ _ _ _ _ hc q=>by
 have h1:(0:Int)<j:=hc
 exact mod_int' (by omega) (by rw[Int.fmod_eq_emod_of_nonneg i (by omega)];exact q)
theorem zfa:OpR X (binaryOp .Pow) (rI zgd fun i j=>.int (i ^ j.toNat)):=opI fun _ _ _ _ _ _ _ hc q=>pow_int_small hc.1 hc.2.1 hc.2.2 q
theorem zfb:OpR X (binaryOp .LShift) (rI zgd fun i j=>.int (i*2 ^ j.toNat)):=opI fun _ _ _ _ _ _ _ hc q=>lshift_int_small hc.1 hc.2.1 hc.2.2 q
theorem zfc:OpR X (binaryOp .RShift) (rI (fun _ j=>0<=j) fun i j=>.int (i / 2 ^ j.toNat)):=opI fun i j _ _ _ _ _ hc q=>
 rshift_int hc (by rw[Int.fdiv_eq_ediv_of_nonneg i (y3 _)];exact q)
theorem ze7:OpR X (binaryOp .BitAnd) (rI0 fun i j=>.int (Builtin.bitAnd i j)):=ze6 fun _ _ _ _ _ _ _ q=>and_int q
theorem unI{f:Value->Sem Value}{g:Int->Int}
  (rule:∀ (i:Int) (t:Tok) (s:Shared) (Q:Value->Shared->Prop) (E:Value->Shared->Prop),Q (.int (g i) s.toks) { s with toks:=s.toks+1 }->wpAny (model X.prog X.w) X.A (f (.int i t)) Q E s) :
  UnR X f (rU fun i=>.int (g i)):=by
 intro pins s σ H x v Q I rx h
 obtain⟨i,rfl,q⟩:=h
 obtain⟨t,rfl⟩:=rx
 exact rule i t s _ _ ⟨.int (g i),H,I.tok _,⟨_,rfl⟩,q⟩
theorem zf6:UnR X (unaryOp .USub) (rU fun i=>.int (-i)):=unI fun _ _ _ _ _ q=>neg_int q
end
section
variable {X:Cx} {a b c:Expr} {ta tb tc:TE} {pos:Pos}
theorem KW{pins:List (Addr×Obj)}{σ:St}{H:Hp}{s:Shared}{Q:VK}{k k':Bool}(I:Inv X pins σ H s)(q:Q (.bl k) H)(e:k=k'):EP X pins σ Q (.bool k') s:=by
 subst e
 exact⟨.bl k,H,I,rfl,q⟩
theorem zgG:OpR X (compareOp .Lt) (rI0 fun i j=>.bl (decide (i<j))):=zcA fun _ _ _ _ _ _ _ q=>lt_int q
theorem zgF:OpR X (compareOp .LtE) (rI0 fun i j=>.bl (decide (i<=j))):=zcA fun _ _ _ _ _ _ _ q=>le_int q
theorem zgE:OpR X (compareOp .Gt) (rI0 fun i j=>.bl (decide (j<i))):=zcA fun _ _ _ _ _ _ _ q=>gt_int q
theorem zgD:OpR X (compareOp .GtE) (rI0 fun i j=>.bl (decide (j<=i))):=zcA fun _ _ _ _ _ _ _ q=>ge_int q
theorem ze9:OpR X (compareOp .Is) (fun x y H Q=>y=.non/\Q (.bl (decide (x=.non))) H):=by
 intro pins s σ H x y v u Q I rx ry h
 obtain⟨rfl,q⟩:=h
 cases ry
 refine is_none_gen (KW I q ?_)
 cases x<;>first
  | (cases rx;rfl)
  | (obtain⟨t,rfl⟩:=rx;rfl)
theorem zcE:OpR X (compareOp .IsNot) (fun x y H Q=>y=.non/\Q (.bl (!decide (x=.non))) H):=by
 intro pins s σ H x y v u Q I rx ry h
 obtain⟨rfl,q⟩:=h
 cases ry
 refine isnot_none_gen (KW I q ?_)
 cases x<;>first
  | (cases rx;rfl)
  | (obtain⟨t,rfl⟩:=rx;rfl)
theorem zcJ{op:CmpOp}{r:R2}(ho:OpR X (compareOp op) r)(ha:PE X a ta)(hb:PE X b tb)(hm:behindInMarks op b=false):PE X (.Compare a [op] [b] pos) (tOp r ta tb):=by
 intro pins s σ H Q I h
 exact wpAny_Compare1 (zeo ha hb I h fun v u s2 x y H2 I2 rx ry q=>ho pins s2 σ H2 x y v u Q I2 rx ry q) hm
noncomputable def zeh(t:TE):TT:=fun σ H Q=>t σ H fun x H'=>∃ k,x=.bl k/\Q k H'
theorem zcS{op:CmpOp}{r:R2}(ho:OpR X (compareOp op) r)(ha:PE X a ta)(hb:PE X b tb)(hm:behindInMarks op b=false):PT X (.Compare a [op] [b] pos) (zeh (tOp r ta tb)):=by
 intro pins s σ H Q I h
 refine wpAny_isTrue_Compare1 (thn (ha pins s σ H _ I h) fun v s1 ⟨x,H1,I1,r1,q1⟩=>thn (hb pins s1 σ H1 _ I1 q1) fun u s2 ⟨y,H2,I2,r2,q2⟩=>
  thn (ho pins s2 σ H2 x y v u _ I2 r1 r2 q2) fun c s3 ⟨z,H3,I3,r3,k,e,q3⟩=>?_) hm
 subst e
 cases r3
 exact wpAny_truthy_bool ⟨H3,I3,q3⟩
noncomputable def yV(r r':R2)(ta tb tc:TE):TE:=fun σ H Q=>ta σ H fun x H1=>tb σ H1 fun y H2=>r x y H2 fun z H3=>∃ k,z=.bl k /\
 (if k=true then tc σ H3 fun w' H4=>r' y w' H4 Q else Q (.bl false) H3)
theorem zao{op op':CmpOp}{r r':R2}(ho:OpR X (compareOp op) r)(ho':OpR X (compareOp op') r')(ha:PE X a ta)(hb:PE X b tb)(hc:PE X c tc)
  (hm:lastMarks [op,op'] [b,c]=false:=by with_unfolding_all rfl):PE X (.Compare a [op,op'] [b,c] pos) (yV r r' ta tb tc):=by
 intro pins s σ H Q I h
 refine Compare_chain (thn (ha pins s σ H _ I h) fun v s1 ⟨x,H1,I1,r1,q1⟩=>chain_link (thn (hb pins s1 σ H1 _ I1 q1) fun u s2 ⟨y,H2,I2,r2,q2⟩=>
  thn (ho pins s2 σ H2 x y v u _ I2 r1 r2 q2) fun d s3 ⟨z,H3,I3,r3,k,e,q3⟩=>?_)) hm
 subst e
 cases r3
 refine wpAny_truthy_bool ?_
 cases k with
 |false=>exact ite_ff ⟨.bl false,H3,I3,rfl,q3⟩
 |true=>exact ite_tt (chain_last (thn (hc pins s3 σ H3 _ I3 q3) fun w' s4 ⟨z',H4,I4,r4,q4⟩=>ho' pins s4 σ H4 y z' u w' Q I4 r2 r4 q4))
theorem zaF{op op':CmpOp}{r r':R2}(ho:OpR X (compareOp op) r)(ho':OpR X (compareOp op') r')(ha:PE X a ta)(hb:PE X b tb)(hc:PE X c tc)
  (hm:lastMarks [op,op'] [b,c]=false:=by with_unfolding_all rfl):PT X (.Compare a [op,op'] [b,c] pos) (zeh (yV r r' ta tb tc)):=by
 intro pins s σ H Q I h
 refine isTrue_chain (thn (ha pins s σ H _ I h) fun v s1 ⟨x,H1,I1,r1,q1⟩=>test_link (thn (hb pins s1 σ H1 _ I1 q1) fun u s2 ⟨y,H2,I2,r2,q2⟩=>
  thn (ho pins s2 σ H2 x y v u _ I2 r1 r2 q2) fun d s3 ⟨z,H3,I3,r3,k,e,q3⟩=>?_)) hm
 subst e
 cases r3
 refine wpAny_truthy_bool ?_
 cases k with
 |false=>
  obtain⟨k',e',q'⟩:=q3
  cases e'
  exact ite_ff ⟨H3,I3,q'⟩
 |true=>
  refine ite_tt (test_last (thn (hc pins s3 σ H3 _ I3 q3) fun w' s4 ⟨z',H4,I4,r4,q4⟩=>thn (ho' pins s4 σ H4 y z' u w' _ I4 r2 r4 q4) fun d' s5 ⟨z2,H5,I5,r5,k2,e2,q5⟩=>?_))
  subst e2
  cases r5
  exact wpAny_truthy_bool ⟨H5,I5,q5⟩
noncomputable def zbS(K:PySem.W.Frag)(x:V)(H:Hp)(k:Bool):Prop :=
 match x with
 |.non=>k=false
 |.bl b=>k=b
 |.int i=>k=(i !=0)
 |.str y=>y.length<=sizeLine/\k=((y.length:Int) !=0)
 |.byt y=>y.size<=sizeLine/\k=((y.size:Int) !=0)
 |.ref p=>(∃ xs,SqL K H p xs/\k= !xs.isEmpty)∨(∃ xs,SqT K H p xs/\k= !xs.isEmpty)∨∃ kvs,H p=some (.dK kvs)/\k= !kvs.isEmpty
 |_=>False
theorem yB{κ:Type}{kvs:List (κ×V)}{vs:List (κ×Value)}(r:KV kvs vs):(!vs.isEmpty)= !kvs.isEmpty:=by
 cases r<;>rfl
theorem wH{xs:List V}{its:List Value}(r:Vals xs its):(!its.toArray.isEmpty)= !xs.isEmpty:=by
 cases r<;>simp
theorem Je:(sizeLine:Nat)<2 ^ 63:=by rw[sizeLine_eq];decide
theorem zbl:TruR X (fun x H Q=>∃ k,zbS X.K x H k/\Q k H):=by
 intro pins s σ H x v Q I rx h
 obtain⟨k,e,q⟩:=h
 have hl:=Je
 have hs:sizeLine=16777216:=sizeLine_eq
 cases x with
 |non=>
  cases rx
  have e':k=false:=e
  subst e'
  exact truthy_none ⟨H,I,q⟩
 |bl b=>
  cases rx
  have e':k=b:=e
  subst e'
  exact wpAny_truthy_bool ⟨H,I,q⟩
 |int i=>
  obtain⟨t,rfl⟩:=rx
  have e':k=(i !=0):=e
  subst e'
  exact PySem.P.truthy_int ⟨H,I,q⟩
 |str y=>
  obtain⟨t,rfl⟩:=rx
  obtain⟨hy,e'⟩:y.length<=sizeLine/\k=((y.length:Int) !=0):=e
  subst e'
  exact PySem.P.truthy_str (by omega) ⟨H,I.tok _,q⟩
 |byt y=>
  obtain⟨t,rfl⟩:=rx
  obtain⟨hy,e'⟩:y.size<=sizeLine/\k=((y.size:Int) !=0):=e
  subst e'
  exact PySem.W.truthy_bytes (by omega) ⟨H,I.tok _,q⟩
 |ref p=>
  cases rx
  have e':(∃ xs,SqL X.K H p xs/\k= !xs.isEmpty)∨(∃ xs,SqT X.K H p xs/\k= !xs.isEmpty)∨∃ kvs,H p=some (.dK kvs)/\k= !kvs.isEmpty:=e
  rcases e' with ⟨xs,hx,e'⟩ | ⟨xs,hx,e'⟩ | ⟨kvs,hx,e'⟩
  ·subst e'
   obtain⟨its,r,pl,hz⟩:=I.list hx
   have hlen:=r.length
   exact wpAny_truthy_list pl.isList (by simp only[xn];omega) ⟨H,I.tok _,by rw[wH r];exact q⟩
  ·subst e'
   obtain⟨its,r,pl,hz⟩:=I.tuple hx
   have hlen:=r.length
   exact truthy_tuple pl (by simp only[xn];omega) ⟨H,I.tok _,by rw[wH r];exact q⟩
  ·subst e'
   obtain⟨hz,hS,vs,r,m⟩:kvs.length<=sizeLine/\(p==sysModules)=false/\∃ vs,KV kvs vs/\s.heap.DictOf (zn X.prog X.w) p vs:=I.hok p _ hx
   have hlen:kvs.length=vs.length:=Paired.length r
   exact wpAny_truthy_dict hS m (by omega) ⟨H,I.tok _,by rw[yB r];exact q⟩
 |_=>exact (show False from e).elim
theorem VU(ha:PE X a ta)(he:∀ whole,isTrue a X.env whole=(do let v<-whole;standAt a.pos;holding [v] (truthy v))) :
  PT X a (fun σ H Q=>ta σ H fun x H'=>∃ k,zbS X.K x H' k/\Q k H'):=by
 intro pins s σ H Q I h
 exact isTrue_plain (thn (ha pins s σ H _ I h) fun v s1 ⟨x,H1,I1,r1,q1⟩=>zbl pins s1 σ H1 x v Q I1 r1 q1) (he _)
theorem Qg{x:V}{us:List Value}(r:Vals [x] us):∃ u,us= [u]/\RelV x u:=by
 cases r with
 |cons r1 r2=>cases r2;exact⟨_,rfl,r1⟩
theorem zhg{x y:V}{us:List Value}(r:Vals [x,y] us):∃ u w',us= [u,w']/\RelV x u/\RelV y w':=by
 cases r with
 |cons r1 r2=>
  cases r2 with
  |cons r3 r4=>cases r4;exact⟨_,_,rfl,r1,r3⟩
end
structure ObjM(h:Heap)(x dx C:Addr)(mA:Str->Option Value):Prop where
 obj:h.get? x=some (PySem.W.instObj C dx)
 ns:h.Ns1 dx mA
 ne:dx≠x
theorem kh{h:Heap}{dx:Addr}{mA:Str->Option Value}(n:h.Ns1 dx mA):∃ od,h.get? dx=some od/\∀ name,PySem.W.lookIn name od=some (mA name):=by
 obtain⟨o,es,ep,ho,hd,hk,_,hm⟩:=n
 refine⟨o,ho,fun name=>?_⟩
 have e:=hm name
 unfold nsFind findBy at e
 rw[<- Array.find?_toList]at e
 unfold PySem.W.lookIn
 rw[hd]
 dsimp only
 split
 ·rename_i y q
  rw[q]at e
  exact congrArg some e
 ·rename_i q
  rw[q]at e
  have a:es.toList.any (·.refKey)=false:=by
   rw[List.any_eq_false]
   intro y hy
   obtain⟨z,t,hkey⟩:=hk y (Array.mem_toList_iff.mp hy)
   simp[DictEntry.refKey,hkey]
  have a':¬ es.toList.any (·.refKey)=true:=by rw[a];exact Bool.false_ne_true
  rw[if_neg a']
  exact congrArg some e
theorem ObjM.look{h:Heap}{x dx C:Addr}{mA:Str->Option Value}(I:ObjM h x dx C mA):∃ od,PySem.W.InstAt h x (PySem.W.instObj C dx) C (some od)/\∀ name,PySem.W.lookIn name od=some (mA name) :=
 let ⟨od,ho,hl⟩:=kh I.ns
 ⟨od,⟨I.obj,rfl,rfl,ho⟩,hl⟩
section
variable {prog:Program} {w:World} {A:Around} {E:Value->Shared->Prop} {s:Shared} {K:PySem.W.Frag} {x dx C f:Addr} {mA:Str->Option Value} {name:Str} {v:Value}
theorem zco{expr:Bool}{Q:Value->Shared->Prop}(X:K.In s.heap)(I:ObjM s.heap x dx C mA)(hg:PySem.W.plainGet K C name=true)(hh:PySem.W.hasDictIn K C=true)
  (ha:PySem.W.findIn K (.ref C) name=some none) (hv:mA name=some v) (hv':PySem.W.handedIn v=true) (h:Q v { s with toks:=s.toks+1 }) :
  wpAny (model prog w) A (getAttr (.ref x) name expr) Q E s:=by
 obtain⟨od,J,hl⟩:=I.look
 exact PySem.W.get_value X J (PySem.W.plainGet_of hg).1 (PySem.W.findObj_own hh ha rfl (by rw[hl,hv])) hv' h
theorem K2{pl:Sem Bool}{Q:Value×List Value->Shared->Prop}(X:K.In s.heap)(I:ObjM s.heap x dx C mA)(hg:PySem.W.plainGet K C name=true)
  (hf:PySem.W.findIn K (.ref C) name=some (some (.ref f))) (ht:PySem.W.isFn K (.ref f)=true) (hv:mA name=none) (h:Q (.ref f,[.ref x]) s) :
  wpAny (model prog w) A (getMethod (.ref x) name pl) Q E s:=by
 obtain⟨od,J,hl⟩:=I.look
 exact PySem.W.method_fn X J (PySem.W.plainGet_of hg).1 (PySem.W.plainGet_of hg).2 hf (beq_iff_eq.mp ht) (by show (PySem.W.lookIn name od).map (·.isSome)=some false;rw[hl,hv];rfl) h
theorem zdb{ns:List Str}{Q:Unit->Shared->Prop}(X:K.In s.heap)(I:ObjM s.heap x dx C mA)
  (hs:PySem.W.findIn K (.ref C) "__setattr__" =some (some (.builtin "object.__setattr__"))) (hp:PySem.W.plainOver K C=true) (ht:PySem.W.takerIn K C name=some none) (hh:PySem.W.hasDictIn K C=true)
  (hw:PySem.Within mA ns) (hsz:ns.length<=sizeLine)
  (h:∀ h',ObjM h' x dx C (fun y=>if y=name then some v else mA y)->Heap.SameBut dx s.heap h'->Q () { s with heap:=h',toks:=s.toks+2 }) :
  wpAny (model prog w) A (setAttr (.ref x) name v) Q E s:=by
 obtain⟨od,J,hl⟩:=I.look
 refine PySem.W.set_plain X J hs (PySem.W.osa_open (s:={ s with toks:=s.toks+1 }) (r:=none) X J hp ht fun b=>?_)
 obtain⟨cd,hc,hd'⟩:=PySem.W.any_some hh
 have hx:s.heap.get? x=some ⟨.ref C,some dx,.plain,#[]⟩:=I.obj
 refine wpAny_bind (wpAny_pure (wpAny_bind (wpAny_bind (wpAny_loadPart hx (wpAny_bind (PySem.W.Looks.here (s:={ s with toks:=s.toks+1 }) (PySem.W.looks_clsIn X hc) ?_))))))
 rw[hd']
 refine wpAny_pure (a:=some dx) (wpAny_bind (wpAny_pure (wpAny_bind ?_)))
 refine wpAny_nsSet1 (s:={ s with toks:=s.toks+1 }) I.ns fun h' hn2 hs2=>?_
 obtain⟨oD,esD,epD,hoD,hdD,hcD⟩:=hn2.count (PySem.Within.cons name v hw)
 refine wpAny_bind (wpAny_lookBehind hoD (by rw[hdD];exact pastItsLine_dict (xE hcD (by rw[xp];omega))) ?_)
 exact wpAny_pure (h _ ⟨(hs2.2 _ (Ne.symm I.ne)).trans I.obj,hn2,I.ne⟩ hs2)
theorem zae{R:Result->Shared->Prop}{vs:List Value}{kw:List (Str×Value)}(X:K.In s.heap)(hm:PySem.W.makesIn K C=true)
  (hi:PySem.W.findIn K (.ref C) "__init__" =some (some (.ref f))) (hf:PySem.W.typeIn K (.ref f)=some (.type "function"))
  (h:codeAny (model prog w) (A.under (.builtin "type.__call__" ⟨.ref C::vs,kw⟩)) (.call (.ref f) ⟨.ref (s.heap.objs.size+1)::vs,kw⟩) (PySem.W.InitBack (s.heap.objs.size+1) R)
   { s with heap:=(s.heap.push PySem.W.emptyDict).push (PySem.W.instObj C s.heap.objs.size) }) :
  codeAny (model prog w) A (.call (.ref C) ⟨vs,kw⟩) R s:=by
 obtain⟨hh,g,d,t,os⟩:=s
 exact PySem.W.make_core (PySem.W.makes_of X hm) (PySem.W.looks_findIn X hi) (fun self=>PySem.W.bind_fn X self hf) (.inl rfl) h
end
noncomputable def zX(f:Str)(v:V):List (Str×V)->List (Str×V)
 |[]=> [(f,v)]
 | (g,x)::r=>if g=f then (g,v)::r else (g,x)::zX f v r
theorem Ju(f g:Str)(v:V):∀ fs:List (Str×V),(zX f v fs).lookup g=if g=f then some v else fs.lookup g
 |[]=>by
  show List.lookup g [(f,v)]=_
  by_cases h:g=f
  ·have hb:(g==f)=true:=beq_iff_eq.mpr h
   simp only[List.lookup,hb,if_pos h]
  ·have hb:(g==f)=false:=beq_eq_false_iff_ne.mpr h
   simp only[List.lookup,hb,if_neg h]
 | (k,x)::r=>by
  have ih:=Ju f g v r
  rw[show zX f v ((k,x)::r)=(if k=f then (k,v)::r else (k,x)::zX f v r) from rfl]
  by_cases hk:k=f
  ·rw[if_pos hk]
   by_cases h:g=k
   ·have hb:(g==k)=true:=beq_iff_eq.mpr h
    simp only[List.lookup,hb,if_pos (h.trans hk)]
   ·have hb:(g==k)=false:=beq_eq_false_iff_ne.mpr h
    simp only[List.lookup,hb,if_neg (fun e:g=f=>h (e.trans hk.symm))]
  ·rw[if_neg hk]
   by_cases h:g=k
   ·have hb:(g==k)=true:=beq_iff_eq.mpr h
    simp only[List.lookup,hb,if_neg (fun e:g=f=>hk (h.symm.trans e))]
   ·have hb:(g==k)=false:=beq_eq_false_iff_ne.mpr h
    simp only[List.lookup,hb]
    exact ih
theorem Jc(f:Str)(v:V):∀ fs:List (Str×V),f∈(zX f v fs).map (·.1)/\∀ g,g∈fs.map (·.1)->g∈(zX f v fs).map (·.1)
 |[]=>⟨by simp[zX],fun g h=>by simp at h⟩
 | (k,x)::r=>by
  obtain⟨i1,i2⟩:=Jc f v r
  rw[show zX f v ((k,x)::r)=(if k=f then (k,v)::r else (k,x)::zX f v r) from rfl]
  by_cases hk:k=f
  ·rw[if_pos hk]
   subst hk
   exact⟨by simp,fun g h=>by simpa using h⟩
  ·rw[if_neg hk]
   refine⟨?_,fun g h=>?_⟩
   ·rw[xu]
    exact xk _ i1
   ·rw[xu]at h |-
    rcases xv.mp h with e | e
    ·exact xv.mpr (.inl e)
    ·exact xk _ (i2 g e)
theorem Js(f:Str)(v:V):∀ fs:List (Str×V),(zX f v fs).length<=fs.length+1
 |[]=>by simp[zX]
 | (k,x)::r=>by
  have ih:=Js f v r
  rw[show zX f v ((k,x)::r)=(if k=f then (k,v)::r else (k,x)::zX f v r) from rfl]
  by_cases hk:k=f
  ·rw[if_pos hk,xp,xp];omega
  ·rw[if_neg hk,xp,xp];omega
theorem RelO.some_of{v:V}{o:Option Value}(r:RelO (some v) o):∃ u,o=some u/\RelV v u:=by
 cases o with
 |none=>exact (show False from r).elim
 |some u=>exact⟨u,rfl,r⟩
theorem RelO.none_of{o:Option Value}(r:RelO none o):o=none:=by
 cases o with
 |none=>rfl
 |some u=>exact (show False from r).elim
theorem Y3{v:V}{u:Value}(r:RelV v u):PySem.W.handedIn u=true:=by
 cases v with
 |non=>cases (show u=Value.none from r);rfl
 |bl b=>cases (show u=Value.bool b from r);rfl
 |int i=>obtain⟨t,e⟩:=(show ∃ t,u=Value.int i t from r);cases e;rfl
 |str x=>obtain⟨t,e⟩:=(show ∃ t,u=Value.str x t from r);cases e;rfl
 |byt b=>obtain⟨t,e⟩:=(show ∃ t,u=Value.bytes b t from r);cases e;rfl
 |flt b=>obtain⟨t,e⟩:=(show ∃ t,u=Value.float b t from r);cases e;rfl
 |ref a=>cases (show u=Value.ref a from r);rfl
 |ty n=>cases (show u=Value.type n from r);rfl
section
variable {P:Program} {w:World} {H H':Hp} {h h':Heap} {a C dx:Addr} {fs fs':List (Str×V)}
theorem J1(hok:HOk P w H h)(e:H a=some (.ins C dx fs)):∃ mA,ObjM h a dx C mA/\(∀ f,RelO (fs.lookup f) (mA f))/\PySem.Within mA (fs.map (·.1))/\fs.length<=1000/\H dx=some (.own a):=by
 obtain⟨d,z,ne,ob,mA,n,r,q⟩:=(show ObjOk P w H h a (.ins C dx fs) from hok a _ e)
 exact⟨mA,⟨ob,n,ne⟩,r,q,z,d⟩
end
structure Cls(K:PySem.W.Frag)(C:Addr):Prop where
 pg:PySem.W.plainGet K C Str.empty=true
 hd:PySem.W.hasDictIn K C=true
 po:PySem.W.plainOver K C=true
 sa:PySem.W.findIn K (.ref C) "__setattr__" =some (some (.builtin "object.__setattr__"))
theorem Cls.get{K:PySem.W.Frag}{C:Addr}(c:Cls K C)(f:Str):PySem.W.plainGet K C f=true:=c.pg
noncomputable def NoAttr(K:PySem.W.Frag)(C:Addr)(f:Str):Prop:=PySem.W.findIn K (.ref C) f=some none
theorem NoAttr.taker{K:PySem.W.Frag}{C:Addr}{f:Str}(n:NoAttr K C f):PySem.W.takerIn K C f=some none:=by
 unfold PySem.W.takerIn
 rw[show PySem.W.findIn K (.ref C) f=some none from n]
 rfl
structure yh(K:PySem.W.Frag)(C:Addr)(m:Str)(f:Addr):Prop where
 at_:PySem.W.findIn K (.ref C) m=some (some (.ref f))
 fn:PySem.W.isFn K (.ref f)=true
 kp:PySem.W.keepIn K (.ref f)=true
section
variable {X:Cx} {pins:List (Addr×Obj)} {σ:St} {H:Hp} {s:Shared} {a C dx:Addr} {fs:List (Str×V)} {f:Str} {v:V} {A:Around} {E:Value->Shared->Prop}
theorem yA{b:Bool}{Q:Value->Shared->Prop}(I:Inv X pins σ H s)(e:H a=some (.ins C dx fs))(c:Cls X.K C)(n:NoAttr X.K C f)(l:fs.lookup f=some v)
  (h:∀ u s',Inv X pins σ H s'->RelV v u->Q u s'):wpAny (model X.prog X.w) A (getAttr (.ref a) f b) Q E s:=by
 obtain⟨mA,O,r,_,_,_⟩:=J1 I.hok e
 obtain⟨u,hu,ru⟩:=RelO.some_of (v:=v) (o:=mA f) (by rw[<- l];exact r f)
 exact zco I.kIn O (c.get f) c.hd n hu (Y3 ru) (h u _ (I.tok _) ru)
theorem wC{m:Str}{g:Addr}{pl:Sem Bool}{Q:Value×List Value->Shared->Prop}(I:Inv X pins σ H s)(e:H a=some (.ins C dx fs))(c:Cls X.K C)(k:yh X.K C m g)(l:fs.lookup m=none)
  (h:Q (.ref g,[.ref a]) s):wpAny (model X.prog X.w) A (getMethod (.ref a) m pl) Q E s:=by
 obtain⟨mA,O,r,_,_,_⟩:=J1 I.hok e
 have hn:mA m=none:=RelO.none_of (by rw[<- l];exact r m)
 exact K2 I.kIn O (c.get m) k.at_ k.fn hn h
theorem yR{y:V}{u:Value}{Q:Unit->Shared->Prop}(I:Inv X pins σ H s)(e:H a=some (.ins C dx fs))(c:Cls X.K C)(n:NoAttr X.K C f)(hl:fs.length<1000)(ry:RelV y u)
  (h:∀ s',Inv X pins σ (upd H a (.ins C dx (zX f y fs))) s'->Q () s'):wpAny (model X.prog X.w) A (setAttr (.ref a) f u) Q E s:=by
 obtain⟨mA,O,r,wi,_,ho⟩:=J1 I.hok e
 have hz:(fs.map (·.1)).length<=sizeLine:=by rw[xr,sizeLine_eq];omega
 refine zdb I.kIn O c.sa c.po n.taker c.hd wi hz fun h' O' sb=>h _ ?_
 have hd:∃ o,h'.get? dx=some o:=let ⟨o,_,_,e',_⟩:=O'.ns;⟨o,e'⟩
 refine I.write (x:=a) (e:=dx) (by rw[e];exact True.intro) (.inr ho) (fun b q hb z=>(sb.2 b hb).trans z) hd ?_
 refine⟨by rw[zc O.ne];exact ho,?_,O.ne,O'.obj,_,O'.ns,fun g=>?_,fun g hg=>?_⟩
 ·have:=Js f y fs;omega
 ·show RelO ((zX f y fs).lookup g) (if g=f then some u else mA g)
  rw[Ju]
  by_cases q:g=f
  ·rw[if_pos q,if_pos q];exact ry
  ·rw[if_neg q,if_neg q];exact r g
 ·by_cases q:g=f
  ·rw[q];exact (Jc f y fs).1
  ·refine (Jc f y fs).2 g (wi g fun z=>hg ?_)
   show (if g=f then some u else mA g)=none
   rw[if_neg q];exact z
theorem Inv.made(I:Inv X pins σ H s):Inv X pins σ (upd (upd H s.heap.objs.size (.own (s.heap.objs.size+1))) (s.heap.objs.size+1) (.ins C s.heap.objs.size []))
  { s with heap:=(s.heap.push PySem.W.emptyDict).push (PySem.W.instObj C s.heap.objs.size) }:=by
 have e1:(s.heap.push PySem.W.emptyDict).get? s.heap.objs.size=some PySem.W.emptyDict:=Heap.get?_push_size s.heap rfl
 have e2:((s.heap.push PySem.W.emptyDict).push (PySem.W.instObj C s.heap.objs.size)).get? (s.heap.objs.size+1)=some (PySem.W.instObj C s.heap.objs.size):=by
  have:=Heap.get?_push_size (s.heap.push PySem.W.emptyDict) (o:=PySem.W.instObj C s.heap.objs.size) rfl
  rwa [Heap.size_push]at this
 have e3:(s.heap.push PySem.W.emptyDict).Ns s.heap.objs.size (fun _=>none):=⟨PySem.W.emptyDict,#[],_,e1,rfl,(fun e he=>absurd he (by simp)),fun _=>rfl⟩
 have I1:=I.laid (a:=s.heap.objs.size) (o:=.own (s.heap.objs.size+1)) (h':=s.heap.push PySem.W.emptyDict) (t':=s.toks) (fun b u q=>Heap.get?_push_of_some _ q) (xh _) ⟨_,e1⟩
 refine I1.laid (a:=s.heap.objs.size+1) (o:=.ins C s.heap.objs.size []) (t':=s.toks) (fun b u q=>Heap.get?_push_of_some _ q) (Nat.le_of_eq (Heap.size_push _ _)) ?_
 have ne:s.heap.objs.size≠s.heap.objs.size+1:=xj (uu _)
 refine⟨by rw[zc ne,ze],xT _,ne,e2,fun _=>none,(Heap.Ns1.of_empty e3).at fun o q=>Heap.get?_push_of_some _ q,fun _=>True.intro,fun y hy=>absurd rfl hy⟩
theorem zbW{prog:Program}{w:World}{env:Env}{e:Expr}{f:Str}{pos:Pos}{s:Shared}{Q:Value->Shared->Prop}(hb:attributeBase e f env (eval e env)=eval e env)
  (h:wpAny (model prog w) A (eval e env) (fun o s₁=>wpAny (model prog w) A (getAttr o f true) Q E s₁) E s):wpAny (model prog w) A (eval (.Attribute e f pos) env) Q E s :=
 Attribute_any_ h (by rw[arm_eval_Attribute,hb])
end
noncomputable def tFld(K:PySem.W.Frag)(ta:TE)(f:Str):TE:=fun σ H Q=>ta σ H fun x H1=>∃ a C dx fs v,x=.ref a/\H1 a=some (.ins C dx fs)/\Cls K C/\NoAttr K C f/\fs.lookup f=some v/\Q v H1
noncomputable def sFld(K:PySem.W.Frag)(ta tv:TE)(f:Str):TS:=fun D σ H=>tv σ H fun y H1=>ta σ H1 fun x H2=>∃ a C dx fs,x=.ref a/\H2 a=some (.ins C dx fs)/\Cls K C/\NoAttr K C f/\fs.length<1000 /\
 D.nx σ (upd H2 a (.ins C dx (zX f y fs)))
section
variable {X:Cx} {o e value:Expr} {f:Str} {pos pos' tpos:Pos} {ta tv:TE}
theorem zar(he:PE X e ta)(hb:attributeBase e f X.env (eval e X.env)=eval e X.env):PE X (.Attribute e f pos) (tFld X.K ta f):=by
 intro pins s σ H Q I h
 refine zbW hb (thn (he pins s σ H _ I h) fun u s1 ⟨x,H1,I1,rx,a,C,dx,fs,v,ex,ea,c,n,l,q⟩=>?_)
 subst ex
 obtain rfl:u=Value.ref a:=rx
 exact yA I1 ea c n l fun u' s2 I2 ru=>⟨v,H1,I2,ru,q⟩
theorem zfn(ha:PE X o ta)(hv:PE X value tv)(hs:swapsWith value (some (.Attribute o f pos')) pos.line X.env=pure false):PS X (.Assign [.Attribute o f pos'] value pos) (sFld X.K ta tv f):=by
 intro pins s σ H D I h
 refine plainObj_wpAny_Assign_Attribute (thn (hv pins s σ H _ I h) fun u s1 ⟨y,H1,I1,ry,q⟩=>thn (ha pins s1 σ H1 _ I1 q) fun ov s2 ⟨x,H2,I2,rx,a,C,dx,fs,ex,ea,c,n,l,q2⟩=>?_) hs
 subst ex
 obtain rfl:ov=Value.ref a:=rx
 exact yR I2 ea c n l ry fun s3 I3=>⟨σ,_,I3,q2⟩
end
section
variable {X:Cx} {pins:List (Addr×Obj)} {σ:St} {H:Hp} {s:Shared} {A:Around} {E:Value->Shared->Prop} {Q:Value->Shared->Prop} {c:Value} {b:Bool}
inductive ZY(K:PySem.W.Frag)(H:Hp):V->Value->Prop where
 |non:ZY K H .non (.type "NoneType")
 |bl (x:Bool):ZY K H (.bl x) (.type "bool")
 |int (i:Int):ZY K H (.int i) (.type "int")
 |str (x:Str):ZY K H (.str x) (.type "str")
 |flt (x:UInt64):ZY K H (.flt x) (.type "float")
 |lst {a:Addr} {xs:List V} (e:H a=some (.lst xs)):ZY K H (.ref a) (.type "list")
 |frz {a:Addr} {o:Obj} {xs:List V} (e:H a=some (.frz o (.lst xs))):ZY K H (.ref a) (.type "list")
 |tup {a:Addr} {xs:List V} (e:H a=some (.tup xs)):ZY K H (.ref a) (.type "tuple")
 |dK {a:Addr} {kvs:List (Key×V)} (e:H a=some (.dK kvs)):ZY K H (.ref a) (.type "dict")
 |dT {a:Addr} {kvs:List (List Key×V)} (e:H a=some (.dT kvs)):ZY K H (.ref a) (.type "dict")
 |ins {a C dx:Addr} {fs:List (Str×V)} (e:H a=some (.ins C dx fs)) (cl:Cls K C) (ha:PySem.W.findIn K (.ref C) "__class__" =some (some (.builtin "object.__class__")))
   (hn:PySem.W.specialIn K (.builtin "object.__class__") "__get__" =some (some (.builtin "getset_descriptor.__get__"))) (htk:PySem.W.takesIn K (.builtin "object.__class__")=some true)
   (hm:PySem.W.mroIn K C (.type "object")=some true):ZY K H (.ref a) (.ref C)
theorem Y7{x:V}{u t:Value}(I:Inv X pins σ H s)(rx:RelV x u)(ty:ZY X.K H x t)(e:PySem.W.kitOne X.K t c=some b)(h:∀ tk,Q (.bool b) { s with toks:=tk }) :
  wpAny (model X.prog X.w) A (call (.builtin "isinstance") [u,c]) Q E s:=by
 cases ty with
 |non=>cases (show u=Value.none from rx);exact PySem.W.kia_one PySem.W.kitx_none I.kIn True.intro e (fun z=>nomatch z) h
 |bl y=>cases (show u=Value.bool y from rx);exact PySem.W.kia_one PySem.W.kitx_bool I.kIn True.intro e (fun z=>nomatch z) h
 |int i=>obtain⟨t,q⟩:=(show ∃ t,u=Value.int i t from rx);cases q;exact PySem.W.kia_one PySem.W.kitx_int I.kIn True.intro e (fun z=>nomatch z) h
 |str y=>obtain⟨t,q⟩:=(show ∃ t,u=Value.str y t from rx);cases q;exact PySem.W.kia_one PySem.W.kitx_str I.kIn True.intro e (fun z=>nomatch z) h
 |flt y=>obtain⟨t,q⟩:=(show ∃ t,u=Value.float y t from rx);cases q;exact PySem.W.kia_one PySem.W.kitx_float I.kIn True.intro e (fun z=>nomatch z) h
 | @lst a xs ea=>
  cases (show u=Value.ref a from rx)
  obtain⟨_,_,n,_,h1⟩:=(show ObjOk X.prog X.w H s.heap a (.lst xs) from I.hok a _ ea)
  exact PySem.W.kia_one PySem.W.kitx_list I.kIn ⟨_,h1,rfl⟩ e (fun z=>nomatch z) h
 | @frz a ob xs ea=>
  cases (show u=Value.ref a from rx)
  obtain⟨_,_,_,n,_,h1⟩:=(show ObjOk X.prog X.w H s.heap a (.frz ob (.lst xs)) from I.hok a _ ea)
  exact PySem.W.kia_one PySem.W.kitx_list I.kIn ⟨_,h1,rfl⟩ e (fun z=>nomatch z) h
 | @tup a xs ea=>
  cases (show u=Value.ref a from rx)
  obtain⟨_,_,_,p⟩:=(show ObjOk X.prog X.w H s.heap a (.tup xs) from I.hok a _ ea)
  obtain⟨o,h1,h2,_⟩:=p
  exact PySem.W.kia_one PySem.W.kitx_tuple I.kIn ⟨o,h1,h2⟩ e (fun z=>nomatch z) h
 | @dK a kvs ea=>
  cases (show u=Value.ref a from rx)
  obtain⟨_,_,vs,_,p⟩:=(show ObjOk X.prog X.w H s.heap a (.dK kvs) from I.hok a _ ea)
  obtain⟨o,es,ep,h1,h2,_⟩:=p
  exact PySem.W.kia_one PySem.W.kitx_dict I.kIn ⟨o,h1,h2.1⟩ e (fun z=>nomatch z) h
 | @dT a kvs ea=>
  cases (show u=Value.ref a from rx)
  obtain⟨_,_,xs,_,o,es,ep,h1,h2,_⟩:=(show ObjOk X.prog X.w H s.heap a (.dT kvs) from I.hok a _ ea)
  exact PySem.W.kia_one PySem.W.kitx_dict I.kIn ⟨o,h1,h2.1⟩ e (fun z=>nomatch z) h
 | @ins a C dx fs ea cl ha hn htk hm=>
  cases (show u=Value.ref a from rx)
  obtain⟨mA,O,_⟩:=J1 I.hok ea
  obtain⟨od,J,_⟩:=O.look
  exact PySem.W.kia_one (PySem.W.kitx_own (cl.get _) cl.hd ha hn htk hm) I.kIn J e (fun z=>nomatch z) h
end
structure Room(k:Nat)(A:Around):Prop where
 hd:A.handled=none
 dp:A.depth+3*k+5<recursionLimit
 un:A.units+16*k+200<cLine
theorem Room.mono{j k:Nat}{A:Around}(r:Room k A)(h:j<=k):Room j A:=⟨r.hd,by have:=r.dp;omega,by have:=r.un;omega⟩
theorem Room.deeper{k:Nat}{A:Around}(r:Room (k+1) A)(env:Env):Room k (A.deeper env) :=
 ⟨r.hd,by have:=r.dp;show A.depth+1+3*k+5<_;omega,by have:=r.un;show A.units+3+16*k+200<_;omega⟩
theorem Room.in1{k:Nat}{A:Around}(r:Room (k+1) A):Room k A.in1 :=
 ⟨r.hd,by have:=r.dp;show A.depth+3*k+5<_;omega,by have:=r.un;show A.units+1+16*k+200<_;omega⟩
theorem yG {A:Around}{C:Addr}{us:List Value}{kw:List (Str×Value)}:(A.under (.builtin "type.__call__" ⟨.ref C::us,kw⟩)).depth=A.depth+1:=by
 first | rfl | simp[Around.under,Code.weight,Code.isCreation,Code.isGuard,Code.isCaller,Code.frames,Code.isFrame,guardIds]
theorem yH {A:Around}{C:Addr}{us:List Value}{kw:List (Str×Value)}:(A.under (.builtin "type.__call__" ⟨.ref C::us,kw⟩)).units=A.units+1:=by
 first | rfl | simp[Around.under,Code.cUnits,Code.frames,Code.isFrame]
theorem Room.make {k:Nat}{A:Around}(r:Room (k+1) A) (C:Addr) (us:List Value) (kw:List (Str×Value)):Room k (A.under (.builtin "type.__call__" ⟨.ref C::us,kw⟩)) :=
 ⟨r.hd,by have:=r.dp;rw[yG];omega,by have:=r.un;rw[yH];omega⟩
theorem Room.depth{k:Nat}{A:Around}(r:Room k A):A.depth<recursionLimit:=by have:=r.dp;omega
theorem Room.units{k:Nat}{A:Around}(r:Room k A):A.units+64<cLine:=by have:=r.un;omega
noncomputable def zfZ:TA:=fun _ H Q=>Q [] H
noncomputable def zbj(ta:TE)(tr:TA):TA:=fun σ H Q=>ta σ H fun x H1=>tr σ H1 fun xs H2=>Q (x::xs) H2
section
variable {X:Cx} {e:Expr} {es:List Expr} {te:TE} {t:TA} {pos:Pos}
theorem pa_nil:PA X [] zfZ:=fun _ _ _ _ H Q I h=>Calls.spliced_nil ⟨[],H,I,.nil,h⟩
theorem zk(ha:PE X e te)(hr:PA X es t)(hs:starEach (e::es) X.env=(false,eval e X.env)::starEach es X.env:=by rfl):PA X (e::es) (zbj te t):=by
 intro pos pins s σ H Q I h
 rw[hs]
 show wpAny _ _ (spliced ((false,eval e X.env)::backTo pos (starEach es X.env))) _ _ s
 refine Calls.spliced_cons (thn (ha pins s σ H _ I h) fun u s1 ⟨x,H1,I1,r1,q1⟩=>?_)
 exact thn (hr pos pins s1 σ H1 _ I1 q1) fun us s2 ⟨xs,H2,I2,r2,q2⟩=>⟨x::xs,H2,I2,.cons r1 r2,q2⟩
noncomputable def tTup(t:TA):TE:=fun σ H Q=>t σ H fun xs H1=>xs.length<=sizeLine/\∀ p,H1 p=none->Q (.ref p) (upd H1 p (.tup xs))
noncomputable def tLst(t:TA):TE:=fun σ H Q=>t σ H fun xs H1=>xs.length<=sizeLine/\∀ p,H1 p=none->Q (.ref p) (upd H1 p (.lst xs))
theorem zav{x1}(h:PA X es t):PE X (.Tuple es x1 pos) (tTup t):=by
 intro pins s σ H Q I hq
 refine wpAny_Tuple_spliced (thn (h pos pins s σ H _ I hq) fun us s1 ⟨xs,H1,I1,r,z,q⟩=>⟨by rw[<- r.length];exact z,?_⟩)
 have hf:H1 s1.heap.objs.size=none:=I1.hok.fresh (xh _)
 refine⟨.ref s1.heap.objs.size,upd H1 s1.heap.objs.size (.tup xs),I1.laid (t':=s1.toks) (fun b u e=>Heap.get?_push_of_some _ e) (xh _) ?_,rfl,q _ hf⟩
 exact⟨z,us,r,⟨_,Heap.get?_push_size _ rfl,rfl,_,rfl⟩⟩
theorem zau(h:PA X es t):PE X (.List es pos) (tLst t):=by
 intro pins s σ H Q I hq
 refine wpAny_List_spliced (thn (h pos pins s σ H _ I hq) fun us s1 ⟨xs,H1,I1,r,z,q⟩=>⟨by rw[<- r.length];exact z,?_⟩)
 have hf:H1 s1.heap.objs.size=none:=I1.hok.fresh (xh _)
 refine⟨.ref s1.heap.objs.size,upd H1 s1.heap.objs.size (.lst xs),I1.laid (t':=s1.toks) (fun b u e=>Heap.get?_push_of_some _ e) (xh _) ?_,rfl,q _ hf⟩
 exact⟨z,us,0,r,Heap.get?_push_size _ rfl⟩
end
noncomputable abbrev Sp:=List V->Hp->VK->XK->Prop
noncomputable abbrev CXT:=List Env->Hp->Shared->XK->Value->Shared->Prop
structure Env0(P:Program)(w:World)(K:PySem.W.Frag)(mg:Str->Option Value)(base:Heap)(A:Around)(outer:List Env)(s:Shared)(H:Hp):Prop where
 frames:A.frames=some outer
 mod:Mod K mg base
 bs:∀ b o,base.get? b=some o->s.heap.get? b=some o/\H b=none
 bsz:base.objs.size<=s.heap.objs.size
 funs:s.heap.FunFrames base outer
 frf:∀ b∈frs outer,H b=none
 hok:HOk P w H s.heap
 bare:AllBare s.gens
noncomputable def CE(outer:List Env)(P:Program)(w:World)(H:Hp)(s:Shared)(Q:VK)(u:Value)(s':Shared):Prop :=
 ∃ v H',s'.os=s.os/\AllBare s'.gens/\Un (frs outer) [] H H' s.heap s'.heap/\HOk P w H' s'.heap/\RelV v u/\Q v H'
noncomputable def CR(CX:CXT)(outer:List Env)(P:Program)(w:World)(H:Hp)(s:Shared)(Q:VK)(E:XK)(r:Result)(s':Shared):Prop :=
 match r with
 |.ok (.ret u)=>CE outer P w H s Q u s'
 |.ok _=>False
 |.error e=>CX outer H s E e s'
structure FnOk(P:Program)(w:World)(K:PySem.W.Frag)(mg:Str->Option Value)(base:Heap)(CX:CXT)(k:Nat)(f:Addr)(fd:FuncData)(ps:List Str)(sp:Sp):Prop where
 len:∀ vs H Q E,sp vs H Q E->vs.length=ps.length
 run:∀ (A:Around) (outer:List Env) (s:Shared) (H:Hp) (args:Args) (us:List Value) (vs:List V) (Q:VK) (E:XK),Room k A->Env0 P w K mg base A outer s H->BindsTo s fd args (ps.zip us)->Vals vs us->sp vs H Q E ->
  codeAny (model P w) A (.call (.ref f) args) (CR CX outer P w H s Q E) s
theorem FnOk.mono{P:Program}{w:World}{K:PySem.W.Frag}{mg:Str->Option Value}{base:Heap}{CX:CXT}{j k:Nat}{f:Addr}{fd:FuncData}{ps:List Str}{sp:Sp}(F:FnOk P w K mg base CX j f fd ps sp)(h:j<=k) :
  FnOk P w K mg base CX k f fd ps sp:=⟨F.len,fun A outer s H args us vs Q E hr=>F.run A outer s H args us vs Q E (hr.mono h)⟩
theorem Env0.make{P:Program}{w:World}{K:PySem.W.Frag}{mg:Str->Option Value}{base:Heap}{A:Around}{outer:List Env}{s:Shared}{H:Hp}(e:Env0 P w K mg base A outer s H)(C:Addr)(us:List Value)(kw:List (Str×Value)) :
  Env0 P w K mg base (A.under (.builtin "type.__call__" ⟨.ref C::us,kw⟩)) outer s H:=⟨by first | exact e.frames | (simpa [Around.under,Code.envs,Code.isFrame,pushEnvs] using e.frames),e.mod,e.bs,e.bsz,e.funs,e.frf,e.hok,e.bare⟩
section
variable {X:Cx} {pins:List (Addr×Obj)} {σ:St} {H:Hp} {s s':Shared}
theorem Inv.env0(I:Inv X pins σ H s):Env0 X.prog X.w X.K X.mg X.base X.A X.stack s H :=
 ⟨I.ok.frames,I.ok.mod,I.bs,xE I.ok.bsz I.sz,I.stack,I.stkFree,I.hok,I.bare⟩
theorem Inv.after{Q:VK}{u:Value}(I:Inv X pins σ H s)(h:CE X.stack X.prog X.w H s Q u s'):EP X pins σ Q u s':=by
 obtain⟨v,H',os,bare,un,hok,r,q⟩:=h
 obtain⟨hh,g,d,t,os'⟩:=s'
 obtain rfl:os'=s.os:=os
 exact⟨v,H',I.call (h':=hh) (g':=g) (d':=d) (t':=t) (ch:= []) un hok bare (fun b z=>absurd z (by simp)),r,q⟩
end
noncomputable def zg8(sp:Sp)(dvs:List V)(E:XK)(t:TA):TE:=fun σ H Q=>t σ H fun vs H1=>sp (vs++dvs) H1 Q E
noncomputable def Binds(K:PySem.W.Frag)(fd:FuncData)(ps:List Str)(ds:List Value):Prop :=
 ∀ (s:Shared) (us:List Value),K.In s.heap->(us++ds).length=ps.length->BindsTo s fd ⟨us,[]⟩ (ps.zip (us++ds))
theorem Binds.all{K:PySem.W.Frag}{fd:FuncData}{ps:List Str}(h:∀ us:List Value,us.length=ps.length->bindArgs fd ⟨us,[]⟩=pure (ps.zip us)):Binds K fd ps []:=fun s us _ hl=>by
 rw[xL]at hl |-
 exact .of_eq (h us hl)
noncomputable def W9(CX:CXT)(X:Cx)(E:XK):Prop:=∀ (pins:List (Addr×Obj)) (σ:St) (H:Hp) (s:Shared) (e:Value) (s':Shared),Inv X pins σ H s->CX X.stack H s E e s'->X.xe e s'
section
variable {X:Cx} {CX:CXT} {k:Nat} {f C:Addr} {fd:FuncData} {ps:List Str} {sp:Sp} {dvs:List V} {ds:List Value} {E:XK} {x m:Str} {p pos apos:Pos} {e o:Expr} {es:List Expr} {ta:TE} {t:TA}
theorem zfv{pins:List (Addr×Obj)}{σ:St}{H:Hp}{s:Shared}{Q:VK}{us:List Value}{vs:List V}(F:FnOk X.prog X.w X.K X.mg X.base CX k f fd ps sp)(hr:Room k X.A)(hb:Binds X.K fd ps ds)(hd:Vals dvs ds)(hx:W9 CX X E)
  (I:Inv X pins σ H s) (r:Vals vs us) (h:sp (vs++dvs) H Q E):wpAny (model X.prog X.w) X.A (call (.ref f) us) (EP X pins σ Q) X.xe s:=by
 have r2:Vals (vs++dvs) (us++ds):=r.append hd
 have hl:(us++ds).length=ps.length:=by rw[<- r2.length];exact F.len _ _ _ _ h
 refine wpAny_call (codeAny_mono (F.run X.A X.stack s H ⟨us,[]⟩ (us++ds) (vs++dvs) Q E hr I.env0 (hb s us I.kIn hl) r2 h) fun r s' hq=>?_)
 cases r with
 |error e=>exact hx pins σ H s e s' I hq
 |ok fl=>
  cases fl with
  |ret u=>exact I.after hq
  |next=>exact False.elim hq
  |brk=>exact False.elim hq
  |cont=>exact False.elim hq
theorem zcI(F:FnOk X.prog X.w X.K X.mg X.base CX k f fd ps sp)(hr:Room k X.A)(hg:Gl X x)(hm:X.mg x=some (.ref f))(hk:PySem.W.keepIn X.K (.ref f)=true)(hb:Binds X.K fd ps ds)(hd:Vals dvs ds)(hx:W9 CX X E)
  (ha:PA X (e::es) t) (hdb:(x==("__debug__" :Str))=false:=by decide) (he:starEach (e::es) X.env=(false,eval e X.env)::starEach es X.env:=by rfl) (hpl:(backTo pos (starEach es X.env)).any (·.1)=false:=by rfl) :
  PE X (.Call (.Name x p) (e::es) [] pos) (zg8 sp dvs E t):=by
 intro pins s σ H Q I h
 refine wpAny_Call_Name_kw (qz I hg hm ?_ hdb)
 refine PySem.W.callWith_K (h₀:=X.base) I.ok.mod.kin hk (thn (ha pos pins s σ H _ I h) fun us s1 ⟨vs,H1,I1,r,q⟩=>⟨I1.kIn,?_⟩) he hpl
 exact zfv F hr hb hd hx I1 r q
structure Mk(K:PySem.W.Frag)(C f:Addr):Prop where
 makes:PySem.W.makesIn K C=true
 init:PySem.W.findIn K (.ref C) "__init__" =some (some (.ref f))
 fn:PySem.W.isFn K (.ref f)=true
 kp:PySem.W.keepIn K (.ref C)=true
end
section
variable {X:Cx} {CX:CXT} {k:Nat} {f C:Addr} {fd:FuncData} {ps ks:List Str} {sp:Sp} {E:XK} {x m:Str} {p pos apos kpos:Pos} {e o:Expr} {es:List Expr} {kws:List Keyword} {te ta:TE} {t tk:TA} {nm:Option Str}
variable {g:List Value->List Value->List Value} {gV:List V->List V->List V}
end
structure qw(N P:List Str)(sc:Scope):Prop where
 kind:sc.kind=.function
 co:sc.isCoroutine=false
 gen:sc.isGenerator=false
 nd:N.Nodup
 pre:N.take P.length=P
 par:∀ x∈P,sc.names.lookup x=some .local∨sc.names.lookup x=some .cell
 nofree:∀ y∈sc.names,y.2≠ .free
theorem WG{kindOf:Str->Option NameKind}{x:Str}:∀ {binds:List (Str×Value)}{m:Str->Option Value},(∀ v,(x,v)∉binds)->bindL kindOf binds m x=m x
 |[],_,_=>rfl
 | (n,v)::r,m,h=>by
  unfold bindL
  rw[WG fun w hw=>h w (xk _ hw)]
  split
  ·have:x≠n:=by rintro rfl;exact h v xm
   simp[this]
  ·rfl
theorem WE{kindOf:Str->Option NameKind}{x:Str}:∀ {binds:List (Str×Value)}{m:Str->Option Value},(∀ v,(x,v)∉binds)->bindC kindOf binds m x=m x
 |[],_,_=>rfl
 | (n,v)::r,m,h=>by
  unfold bindC
  rw[WE fun w hw=>h w (xk _ hw)]
  split
  ·rfl
  ·have:x≠n:=by rintro rfl;exact h v xm
   simp[this]
theorem WF{kindOf:Str->Option NameKind}{x:Str}{v:Value}:∀ {P:List Str}{vs:List Value}{i:Nat}{m:Str->Option Value},P.Nodup->P[i]?=some x->vs[i]?=some v->kindOf x=some .local ->
  bindL kindOf (P.zip vs) m x=some v
 |[],_,_,_,_,h,_,_=>by simp at h
 |_::_,[],_,_,_,_,h,_=>by simp at h
 |p::P,w::vs,0,m,nd,h1,h2,hk=>by
  simp at h1 h2;subst h1;subst h2
  show bindL kindOf ((p,w)::P.zip vs) m p=_
  unfold bindL
  rw[WG fun v hv=>(xy.mp nd).1 (List.of_mem_zip hv).1,if_pos hk]
  simp
 |p::P,w::vs,i+1,m,nd,h1,h2,hk=>by
  show bindL kindOf ((p,w)::P.zip vs) m x=_
  unfold bindL
  exact WF (i:=i) (xy.mp nd).2 (by simpa using h1) (by simpa using h2) hk
theorem WD{kindOf:Str->Option NameKind}{x:Str}{v:Value}:∀ {P:List Str}{vs:List Value}{i:Nat}{m:Str->Option Value},P.Nodup->P[i]?=some x->vs[i]?=some v->kindOf x≠some .local ->
  bindC kindOf (P.zip vs) m x=some v
 |[],_,_,_,_,h,_,_=>by simp at h
 |_::_,[],_,_,_,_,h,_=>by simp at h
 |p::P,w::vs,0,m,nd,h1,h2,hk=>by
  simp at h1 h2;subst h1;subst h2
  show bindC kindOf ((p,w)::P.zip vs) m p=_
  unfold bindC
  rw[WE fun v hv=>(xy.mp nd).1 (List.of_mem_zip hv).1,if_neg hk]
  simp
 |p::P,w::vs,i+1,m,nd,h1,h2,hk=>by
  show bindC kindOf ((p,w)::P.zip vs) m x=_
  unfold bindC
  exact WD (i:=i) (xy.mp nd).2 (by simpa using h1) (by simpa using h2) hk
noncomputable def start(N:List Str)(vs:List V):St:=vs.map some++List.replicate (N.length-vs.length) none
noncomputable def ZK(CX:CXT)(P:Program)(w:World)(K:PySem.W.Frag)(mg:Str->Option Value)(base:Heap)(N:List Str)(qual:Str)(scope:Scope)(f:Addr)(cd:Value)(A:Around)(outer:List Env)(s:Shared)(H:Hp)(E:XK):Cx where
 prog:=P
 w:=w
 K:=K
 mg:=mg
 base:=base
 A:=A.deeper (envOfC qual scope s.heap.objs.size f cd)
 N:=N
 s₀:=s
 H₀:=H
 env:=envOfC qual scope s.heap.objs.size f cd
 outer:=outer
 stack:=envOfC qual scope s.heap.objs.size f cd::outer
 ex:= []
 calm:=true
 fn:=fun _=>true
 pn:= []
 xe:=fun e s'=>wpAny (model P w) (A.deeper (envOfC qual scope s.heap.objs.size f cd)) (leaving (envOfC qual scope s.heap.objs.size f cd) e) (fun _ s''=>CX outer H s E e s'') (fun e' s''=>CX outer H s E e' s'') s'
theorem Z6{sc:Scope}{n:Nat}{x:Str}(h:sc.names.lookup x=some .cell):∃ c,(cellsFrom n sc.names []).lookup x=some c:=by
 have q:=PySem.W.cellsFrom_some sc.names n [] (.inl h)
 exact Option.isSome_iff_exists.mp q
theorem Y6{CX:CXT}{P:Program}{w:World}{K:PySem.W.Frag}{mg:Str->Option Value}{base:Heap}{N ps:List Str}{qual:Str}{scope:Scope}{f:Addr}{cd:Value}{A:Around}{outer:List Env}{s s1:Shared}{H:Hp}{E:XK}{us:List Value}{vs:List V}
  (S:qw N ps scope) (hd:A.handled=none) (e0:Env0 P w K mg base A outer s H) (hl:vs.length=ps.length) (r:Vals vs us)
  (x:InCallC s s.heap.objs.size (bindL (envOfC qual scope s.heap.objs.size f cd).kindOf (ps.zip us) fun _=>none) (cellsFrom (s.heap.objs.size+1) scope.names []) (bindC (envOfC qual scope s.heap.objs.size f cd).kindOf (ps.zip us) fun _=>none) s1) :
  Inv (ZK CX P w K mg base N qual scope f cd A outer s H E) [] (start N vs) H s1:=by
 have hpl:ps.length<=N.length:=by have:=congrArg List.length S.pre;rw[xH]at this;omega
 obtain⟨h1,tk,rfl,hk⟩:=x.done
 have noA:∀ b:Addr,b∉(ZK CX P w K mg base N qual scope f cd A outer s H E).ex:=fun b z=>absurd (show b∈([]:List Addr) from z) (by simp)
 refine⟨⟨e0.mod,S.kind,rfl,rfl,xh _,fun y z c h1 h2=>?_,fun y hy=>?_,fun y c _ h=>?_,fun _=>hd,Around.frames_deeper e0.frames,.inr ⟨rfl,rfl⟩,fun b z=>absurd z (noA b),e0.bs,e0.bsz,fun b _ _=>noA b,fun b z=>absurd z (noA b),e0.funs,e0.frf⟩,
  rfl,e0.bare,Un.kept hk,⟨_,x.toInCall.ns,fun i y v h1 h2 h3=>?_⟩,fun y c h=>⟨_,x.cell y c h⟩,e0.hok.fresh (xh _),fun y c h=>?_,fun p hp=>absurd (show p∈([]:List (Addr×Obj)) from hp) (by simp),e0.hok.kept hk,?_⟩
 ·exact name_of_addr x.apart (PySem.mem_of_lookup h1) (PySem.mem_of_lookup h2)
 ·have hy:scope.names.lookup y=some .cell∨scope.names.lookup y=some .free:=hy
  rcases hy with hy | hy
  ·exact Z6 hy
  ·exact absurd rfl (S.nofree _ (PySem.mem_of_lookup hy))
 ·exact xV (x.above y c (PySem.mem_of_lookup h))
 ·have hi:i<vs.length:=by
   unfold start at h2
   by_cases hi:i<vs.length
   ·exact hi
   ·rw[xf (by simpa using hi)]at h2
    rw[xz]at h2
    split at h2<;>cases h2
  have ha:vs[i]?=some v:=by
   unfold start at h2
   rw[xc (by simpa using hi),xt]at h2
   cases e:vs[i]? with
   |none=>rw[e]at h2;cases h2
   |some a=>rw[e]at h2;cases h2;rfl
  obtain⟨u,hu,rv⟩:=r.get ha
  have hp:ps[i]?=some y:=by
   rw[<- S.pre,xF (by omega)];exact h1
  have ndP:ps.Nodup:=by rw[<- S.pre];exact S.nd.sublist (List.take_sublist _ _)
  refine⟨u,rv,?_⟩
  rcases S.par y (xZ hp)with k | k
  ·exact .inl ⟨k,WF ndP hp hu k⟩
  ·obtain⟨c,e⟩:=Z6 (n:=s.heap.objs.size+1) k
   refine .inr ⟨.inl k,c,e,?_⟩
   have q:=x.cell y c e
   rw[WD ndP hp hu (by show scope.names.lookup y≠_;rw[k];decide)]at q
   exact q
 ·exact e0.hok.fresh (xV (x.above y c (PySem.mem_of_lookup h)))
 ·unfold start
  show _=N.length
  rw[xK,xr,xX]
  omega
theorem zd2{CX:CXT}{P:Program}{w:World}{K:PySem.W.Frag}{mg:Str->Option Value}{base:Heap}{k:Nat}{f:Addr}{name qual:Str}{params:Arguments}{body:List Stmt}{scope:Scope}{dV kV doc pm cdv ct oc:Value}{an od:Option Addr}
  {osl:Array (Option Value)} {N ps:List Str} {sp:Sp} (lk:K.lookup f=some ⟨oc,od,.func (PySem.W.fnOf name qual params body scope dV kV doc pm an cdv ct),osl⟩) (hcd:PySem.W.codeIn K cdv qual=true) (S:qw N ps scope)
  (len:∀ vs H Q E,sp vs H Q E->vs.length=ps.length)
  (hbody:∀ (A:Around) (outer:List Env) (s:Shared) (H:Hp) (vs:List V) (Q:VK) (E:XK),Room k (A.deeper (envOfC qual scope s.heap.objs.size f cdv))->sp vs H Q E ->
   ∃ t,PSs (ZK CX P w K mg base N qual scope f cdv A outer s H E) body t/\t { nx:=fun _ H'=>Q .non H',rt:=Q } (start N vs) H) :
  FnOk P w K mg base CX (k+1) f (PySem.W.fnOf name qual params body scope dV kV doc pm an cdv ct) ps sp:=by
 refine⟨len,fun A outer s H args us vs Q E hr e0 hb r hsp=>?_⟩
 have hl:=len _ _ _ _ hsp
 have KX:K.In s.heap:=e0.mod.kin.keeps fun b o e=>(e0.bs b o e).1
 have lim:s.heap.NoLimit:=e0.mod.nolimit.keeps fun b o e=>(e0.bs b o e).1
 have hkind:∀ y∈ps.zip us,scope.names.lookup y.1=some .local∨(scope.names.lookup y.1=some .cell/\((cellsFrom (s.heap.objs.size+1) scope.names []).lookup y.1).isSome=true):=fun ⟨n,v⟩ hy=>by
  rcases S.par n (List.of_mem_zip hy).1 with q | q
  ·exact .inl q
  ·exact .inr ⟨q,PySem.W.cellsFrom_some _ _ _ (.inl q)⟩
 refine codeAny_call_function hr.depth (KX _ _ lk) rfl S.co S.gen rfl (PySem.W.codeRec_of KX hcd) (hb _ _ _ _ ?_)
 refine wpAny_newFunctionEnv_cells S.kind hkind fun env he s1 x=>?_
 subst he
 refine⟨lim.keeps x.toInCall.keep,codeAny_func ?_⟩
 obtain⟨t,ht,hq⟩:=hbody A outer s H vs Q E (hr.deeper _) hsp
 have I:Inv (ZK CX P w K mg base N qual scope f cdv A outer s H E) [] (start N vs) H s1:=Y6 S hr.hd e0 hl r x
 refine wpAny_mono (ht [] s1 (start N vs) H _ I hq) (fun fl s' hs=>?_) fun e s' hs=>hs
 have fin:∀ {σ':St} {H':Hp} {v:V} {u:Value},Inv (ZK CX P w K mg base N qual scope f cdv A outer s H E) [] σ' H' s'->RelV v u->Q v H'->CE outer P w H s Q u s' :=
  fun {σ' H' v u} J rv q=>⟨v,H',J.os,J.bare,J.base,J.hok,rv,q⟩
 cases fl with
 |ret u=>
  obtain⟨v,σ',H',J,rv,q⟩:=hs
  exact fin J rv q
 |next=>
  obtain⟨σ',H',J,q⟩:=hs
  exact fin (v:=V.non) (u:=Value.none) J rfl q
 |brk=>
  obtain⟨_,_,_,q⟩:=hs
  exact False.elim q
 |cont=>
  obtain⟨_,_,_,q⟩:=hs
  exact False.elim q
section
variable {X:Cx} {x:Str} {p pos:Pos} {e:Expr} {es:List Expr} {t:TA} {id T:String} {r:List V->Hp->VK->Prop}
noncomputable def tCB(r:List V->Hp->VK->Prop)(t:TA):TE:=fun σ H Q=>t σ H fun vs H1=>r vs H1 Q
theorem jG (hc:jv X (.builtin id) r) (hg:Gl X x) (hm:X.mg x=none) (hv:bootBuiltins x=some (.builtin id)) (ha:PA X (e::es) t) (hn:x≠ "__name__" :=by decide) (hdb:(x==("__debug__" :Str))=false:=by decide)
    (he:starEach (e::es) X.env=(false,eval e X.env)::starEach es X.env:=by rfl) (hpl:(backTo pos (starEach es X.env)).any (·.1)=false:=by rfl):PE X (.Call (.Name x p) (e::es) [] pos) (tCB r t):=by
  intro pins s σ H Q I h
  refine wpAny_Call_Name_kw (Jd I hg hm hv ?_ hn hdb)
  exact PyProof.Rows.callWith_builtin1 (thn (ha pos pins s σ H _ I h) fun us s1 ⟨vs,H1,I1,r1,q1⟩=>hc pins s1 σ H1 vs us Q I1 r1 q1) he hpl
theorem Ji (hc:jv X (.type T) r) (hg:Gl X x) (hm:X.mg x=none) (hv:bootBuiltins x=some (.type T)) (ha:PA X (e::es) t) (hn:x≠ "__name__" :=by decide) (hdb:(x==("__debug__" :Str))=false:=by decide)
    (he:starEach (e::es) X.env=(false,eval e X.env)::starEach es X.env:=by rfl) (hpl:(backTo pos (starEach es X.env)).any (·.1)=false:=by rfl):PE X (.Call (.Name x p) (e::es) [] pos) (tCB r t):=by
  intro pins s σ H Q I h
  refine wpAny_Call_Name_kw (Jd I hg hm hv ?_ hn hdb)
  exact PyProof.Rows.callWith_type1 (thn (ha pos pins s σ H _ I h) fun us s1 ⟨vs,H1,I1,r1,q1⟩=>hc pins s1 σ H1 vs us Q I1 r1 q1) he hpl
end
end L2
namespace HT
open PySem PyProof.Rows
section
open PySem.SeqAt
open PySem.AutoSeq1 (wpAny_loadPart')
open PySem.MeetsSeq PySem.MeetsSeq2 PySem.MeetsSeq3
end
section
variable {prog:Program} {w:World} {A:Around} {E:Value->Shared->Prop} {s:Shared}
theorem cat_tup{t b:Addr}{vs ws:List Value}{Q:Value->Shared->Prop}(ht:IsTup s.heap t vs.toArray)(hb:IsTup s.heap b ws.toArray)(hv:vs≠ [])
  (h1:ws= []->Q (.ref t) s) (h2:ws≠ []->Q (.ref s.heap.objs.size) { s with heap:=s.heap.push { cls:=.type "tuple",data:=.seq (vs++ws).toArray } })
  (hsz:vs.length+ws.length<=sizeLine):wpAny (model prog w) A (binaryOp .Add (.ref t) (.ref b)) Q E s:=by
 obtain⟨⟨cls,dd,data,sl⟩,ho,hc,n,hd⟩:=id ht
 obtain⟨⟨cls2,dd2,data2,sl2⟩,ho2,hc2,n2,hd2⟩:=id hb
 simp only at hc hd hc2 hd2
 subst hc hd hc2 hd2
 have e:vs.toArray++ws.toArray=(vs++ws).toArray:=by simp
 by_cases hw:ws= []
 ·exact concat_meets ⟨_,ho,rfl⟩ ⟨_,ho2,rfl⟩ noFill_tuple_add seq_tuple_add PySem.F.slot_tuple_add PySem.F.entry_tuple_add (PySem.F.args_tuple_add_2 _ _)
   (tuple_addW1 t b vs.toArray ws.toArray n n2 dd dd2 sl sl2 (by simpa using hv) (by simp[hw])) ⟨ho,ho2,h1 hw⟩
 ·refine concat_meets ⟨_,ho,rfl⟩ ⟨_,ho2,rfl⟩ noFill_tuple_add seq_tuple_add PySem.F.slot_tuple_add PySem.F.entry_tuple_add (PySem.F.args_tuple_add_2 _ _)
   (tuple_addW2 t b vs.toArray ws.toArray n n2 dd dd2 sl sl2 (by simpa using hv) (by simpa using hw) (by rw[xn,xn];exact hsz)) ⟨ho,ho2,?_⟩
  rw[e]
  exact h2 hw
noncomputable def sIx(n d:Nat):Option Int->Nat
 |none=>d
 |some v=>if v<0 then (v+(n:Int)).toNat else min v.toNat n
end
end HT
namespace L2
open PySem PySem.Spec PyProof.Rows
noncomputable abbrev TO:=St->Hp->(Option Int->Hp->Prop)->Prop
noncomputable def PO(X:Cx)(e:Option Expr)(t:TO):Prop :=
 ∀ (pins:List (Addr×Obj)) (s:Shared) (σ:St) (H:Hp) (Q:Option Int->Hp->Prop),Inv X pins σ H s->t σ H Q ->
  wpAny (model X.prog X.w) X.A (evalPart e X.env) (fun u s'=>∃ o H',Inv X pins σ H' s'/\IsPart u o/\Q o H') X.xe s
noncomputable def zdF:TO:=fun _ H Q=>Q none H
noncomputable def zhc(t:TE):TO:=fun σ H Q=>t σ H fun x H1=>∃ i,x=.int i/\Q (some i) H1
section
variable {X:Cx} {e:Expr} {te:TE} {lo hi:Option Expr} {tl th:TO} {pos p2:Pos}
theorem vV:PO X none zdF:=by
 intro pins s σ H Q I h
 rw[evalPart_none]
 exact wpAny_pure ⟨none,H,I,.none,h⟩
theorem vW(h:PE X e te):PO X (some e) (zhc te):=by
 intro pins s σ H Q I hw
 rw[evalPart_some]
 refine thn (h pins s σ H _ I hw) fun u s1 ⟨x,H1,I1,r1,q1⟩=>?_
 obtain⟨i,rfl,q⟩:=q1
 obtain⟨t,rfl⟩:=r1
 exact⟨some i,H1,I1,.int i t,q⟩
noncomputable def SlR(X:Cx)(r:V->Option Int->Option Int->Hp->VK->Prop):Prop :=
 ∀ (pins:List (Addr×Obj)) (s:Shared) (σ:St) (H:Hp) (x:V) (v vl vu:Value) (lo hi:Option Int) (sl:Addr) (Q:VK),Inv X pins σ H s->RelV x v->s.heap.IsSliceOf sl vl vu .none->IsPart vl lo->IsPart vu hi->r x lo hi H Q ->
  ∃ T id,typeLookup (.type T) "__getitem__" =pure (some (.builtin id))/\s.TypeIs v T/\wpAny (model X.prog X.w) X.A (getItem v (.ref sl)) (EP X pins σ Q) X.xe s
noncomputable def tSl(r:V->Option Int->Option Int->Hp->VK->Prop)(te:TE)(tl th:TO):TE:=fun σ H Q=>te σ H fun x H1=>tl σ H1 fun l H2=>th σ H2 fun u H3=>r x l u H3 Q
theorem VT{r:V->Option Int->Option Int->Hp->VK->Prop}(hr:SlR X r)(he:PE X e te)(hl:PO X lo tl)(hu:PO X hi th):PE X (.Subscript e (.Slice lo hi none p2) pos) (tSl r te tl th):=by
 intro pins s σ H Q I h
 refine Subscript_ (thn (he pins s σ H _ I h) fun v s1 ⟨x,H1,I1,r1,q1⟩=>?_)
 refine wpAny_Slice (thn (hl pins s1 σ H1 _ I1 q1) fun vl s2 ⟨l,H2,I2,pl,q2⟩=>thn (hu pins s2 σ H2 _ I2 q2) fun vu s3 ⟨u,H3,I3,pu,q3⟩=>?_)
 rw[evalPart_none]
 refine wpAny_pure ?_
 have I4:Inv X pins σ H3 { s3 with heap:=s3.heap.push { cls:=.type "slice",data:=.fields #[vl,vu,.none] } }:=I3.kept (t':=s3.toks) fun b ob q=>Heap.get?_push_of_some _ q
 obtain⟨T,id,hT,ht,hg⟩:=hr pins { s3 with heap:=s3.heap.push { cls:=.type "slice",data:=.fields #[vl,vu,.none] } } σ H3 x v vl vu l u s3.heap.objs.size Q I4 r1 (Heap.IsSliceOf.new ..) pl pu q3
 show wpAny (model X.prog X.w) X.A (subscriptTail e (.Slice lo hi none p2) v (.ref s3.heap.objs.size)) (EP X pins σ Q) X.xe { s3 with heap:=s3.heap.push { cls:=.type "slice",data:=.fields #[vl,vu,.none] } }
 exact tail_any (ops:= [.ref s3.heap.objs.size,v]) ht hT hg (by with_unfolding_all rfl)
noncomputable def wn(xs:List V)(lo hi:Option Int):List V:=(xs.drop (HT.sIx xs.length 0 lo)).take (HT.sIx xs.length xs.length hi-HT.sIx xs.length 0 lo)
theorem Vs(xs:List V)(lo hi:Option Int):(wn xs lo hi).length<=xs.length:=by
 unfold wn
 rw[xH,List.length_drop]
 omega
theorem Vals.nil_iff{xs:List V}{us:List Value}(r:Vals xs us):us= []↔xs= []:=by
 cases r with
 |nil=>simp
 |cons _ _=>simp
end
noncomputable def ixN(n:Nat)(i:Int):Option Nat:=if 0<=i then (if i<n then some i.toNat else none) else if -(n:Int)<=i then some (i+n).toNat else none
noncomputable def atI{α:Type}(xs:List α)(i:Int):Option α:=(ixN xs.length i).bind fun j=>xs[j]?
theorem Ym{n:Nat}{i:Int}{j:Nat}(h:ixN n i=some j):seqIndex? i n=some j/\j<n/\ -(n:Int)<=i/\i<n:=by
 unfold ixN at h
 by_cases h0:0<=i
 ·rw[if_pos h0]at h
  by_cases h1:i<n
  ·rw[if_pos h1]at h
   have e:i.toNat=j:=Option.some.inj h
   exact⟨by rw[seqIndex_of h0 h1,e],by omega,by omega,h1⟩
  ·rw[if_neg h1]at h;cases h
 ·rw[if_neg h0]at h
  by_cases h1: -(n:Int)<=i
  ·rw[if_pos h1]at h
   have e:(i+n).toNat=j:=Option.some.inj h
   exact⟨by rw[seqIndex_neg (by omega) h1,e],by omega,h1,by omega⟩
  ·rw[if_neg h1]at h;cases h
theorem vd{α:Type}{xs:List α}{i:Int}{v:α}(h:atI xs i=some v):∃ j,seqIndex? i xs.length=some j/\xs[j]?=some v/\j<xs.length/\ -(xs.length:Int)<=i/\i<xs.length:=by
 unfold atI at h
 cases e:ixN xs.length i with
 |none=>rw[e]at h;cases h
 |some j=>
  rw[e]at h
  obtain⟨h1,h2,h3,h4⟩:=Ym e
  exact⟨j,h1,h,h2,h3,h4⟩
theorem Ye{α:Type}{xs:List α}{j:Nat}{v:α}(h:xs[j]?=some v):atI xs (j:Int)=some v:=by
 have hj:j<xs.length:=(xb.mp h).1
 have e:ixN xs.length (j:Int)=some j:=by
  unfold ixN
  rw[if_pos (by omega),if_pos (by omega)];simp
 unfold atI;rw[e];exact h
theorem Ks{α:Type}(xs:List α)(v:α):atI (xs++ [v]) (-1)=some v:=by
 have hl:(xs++ [v]).length=xs.length+1:=by simp
 have e:ixN (xs++ [v]).length (-1)=some xs.length:=by
  unfold ixN
  rw[hl,if_neg (by decide),if_pos (by omega)]
  congr 1
  omega
 unfold atI
 rw[e]
 show (xs++ [v])[xs.length]?=some v
 simp
noncomputable def JY(b:Expr):Prop:=∀ o i,subscripted b false o i=operate [o,i] (getItem o i)
noncomputable def IxR(X:Cx)(r:R2):Prop :=
 ∀ (value slice:Expr) (pins:List (Addr×Obj)) (s:Shared) (σ:St) (H:Hp) (x y:V) (v u:Value) (Q:VK),Inv X pins σ H s->RelV x v->RelV y u->r x y H Q ->
  subscripted slice false v u=operate [v,u] (getItem v u)->wpAny (model X.prog X.w) X.A (subscriptTail value slice v u) (EP X pins σ Q) X.xe s
noncomputable def MtR(X:Cx)(id:String)(r:V->List V->Hp->VK->Prop):Prop :=
 ∀ (pins:List (Addr×Obj)) (s:Shared) (σ:St) (H:Hp) (x:V) (xs:List V) (v:Value) (us:List Value) (Q:VK),Inv X pins σ H s->RelV x v->Vals xs us->r x xs H Q ->
  wpAny (model X.prog X.w) X.A (call (.builtin id) (v::us)) (EP X pins σ Q) X.xe s
section
variable {X:Cx} {a b:Expr} {ta tb:TE} {pos:Pos}
theorem IxR.or{r r':R2}(h:IxR X r)(h':IxR X r'):IxR X (fun x y H Q=>r x y H Q∨r' x y H Q):=by
 intro value slice pins s σ H x y v u Q I rx ry q hs
 rcases q with q | q
 ·exact h value slice pins s σ H x y v u Q I rx ry q hs
 ·exact h' value slice pins s σ H x y v u Q I rx ry q hs
theorem zat{r:R2}(hr:IxR X r)(ha:PE X a ta)(hb:PE X b tb)(hs:JY b):PE X (.Subscript a b pos) (tOp r ta tb):=by
 intro pins s σ H Q I h
 exact Subscript_ (zeo ha hb I h fun v u s2 x y H2 I2 rx ry q=>hr a b pins s2 σ H2 x y v u Q I2 rx ry q (hs _ _))
noncomputable def rIxL(K:PySem.W.Frag):R2:=fun x y H Q=>∃ p xs i v,x=.ref p/\y=.int i/\SqL K H p xs/\atI xs i=some v/\Q v H
noncomputable def rIxT(K:PySem.W.Frag):R2:=fun x y H Q=>∃ p xs i v,x=.ref p/\y=.int i/\SqT K H p xs/\atI xs i=some v/\Q v H
noncomputable def rIxS:R2:=fun x y H Q=>∃ z i c,x=.str z/\y=.int i/\z.length<=sizeLine/\atI z.cps.toList i=some c/\Q (.str ⟨#[c]⟩) H
theorem ix_list:IxR X (rIxL X.K):=by
 intro value slice pins s σ H x y v u Q I rx ry h hs
 obtain⟨p,xs,i,z,rfl,rfl,hq,he,q⟩:=h
 cases rx
 obtain⟨t,rfl⟩:=ry
 obtain⟨its,r,pl,hz⟩:=I.list hq
 obtain⟨j,h1,h2,h3,h4,h5⟩:=vd he
 obtain⟨w,ew,rw'⟩:=r.get h2
 have hl:=r.length
 have hn:=Je
 have fin:EP X pins σ Q w s:=⟨z,H,I,rw',q⟩
 by_cases h0:0<=i
 ·have hj:i.toNat=j:=by
   rw[seqIndex_of h0 h5]at h1
   exact Option.some.inj h1
  exact item_listR pl.isList h0 (by omega) (by rw[hj];simpa using ew) fin hs
 ·have hj:(i+(its.toArray.size:Int)).toNat=j:=by
   rw[seqIndex_neg (by omega) h4]at h1
   rw[xn,<- hl]
   exact Option.some.inj h1
  exact subscriptTail_builtinR (x:=w) pl.isList.typeIs slot_list_getitem.lookup
   (wpAny_getItem_list_neg (Q:=fun r s'=>r=w/\EP X pins σ Q r s') pl.isList (by omega) (by rw[xn]<;>omega) (by omega) (by rw[hj];simpa using ew) ⟨rfl,fin⟩) hs
theorem zeR:IxR X (rIxT X.K):=by
 intro value slice pins s σ H x y v u Q I rx ry h hs
 obtain⟨p,xs,i,z,rfl,rfl,hq,he,q⟩:=h
 cases rx
 obtain⟨t,rfl⟩:=ry
 obtain⟨its,r,pl,hz⟩:=I.tuple hq
 obtain⟨j,h1,h2,h3,h4,h5⟩:=vd he
 obtain⟨w,ew,rw'⟩:=r.get h2
 have hl:=r.length
 have hn:=Je
 have fin:EP X pins σ Q w s:=⟨z,H,I,rw',q⟩
 exact subscriptTail_builtinR (x:=w) pl.typeIs slot_tuple_getitem.lookup
  (getItem_tuple (j:=j) (Q:=fun r s'=>r=w/\EP X pins σ Q r s') pl (by omega) (by omega) (by rw[xn,<- hl];exact h1) (by simpa using ew) ⟨rfl,fin⟩) hs
theorem zeQ:IxR X rIxS:=by
 intro value slice pins s σ H x y v u Q I rx ry h hs
 obtain⟨z,i,c,rfl,rfl,hz,he,q⟩:=h
 obtain⟨t,rfl⟩:=rx
 obtain⟨t',rfl⟩:=ry
 obtain⟨j,h1,h2,h3,h4,h5⟩:=vd he
 have hl:z.cps.toList.length=z.length:=by simp[Str.length]
 rw[hl]at h1 h4 h5
 have hn:=Je
 exact tail_any (typeIs_str s z t) slot_str_getitem.lookup (getItem_str (c:=c) (by
  have e1:decide (i< -(2 ^ 63:Int))=false:=decide_eq_false (by omega)
  have e2:decide (i≥2 ^ 63)=false:=decide_eq_false (by omega)
  rw[e1,e2,Bool.or_false]) (by rw[h1];simpa using h2) ⟨.str ⟨#[c]⟩,H,I.tok _,⟨_,rfl⟩,q⟩) hs
theorem yI (its:List Value) (n j:Nat) (u:Value):Obj.mapSeq (·.setIfInBounds j u) { cls:=.type "list",data:=.seq its.toArray n }={ cls:=.type "list",data:=.seq (its.set j u).toArray n }:=by
 simp[Obj.mapSeq]
theorem Inv.lst{pins:List (Addr×Obj)}{σ:St}{H:Hp}{s:Shared}{p:Addr}{xs:List V}(I:Inv X pins σ H s)(h:H p=some (.lst xs)) :
  ∃ (its:List Value) (n:Nat),Vals xs its/\s.heap.get? p=some { cls:=.type "list",data:=.seq its.toArray n }/\xs.length<=sizeLine:=by
 obtain⟨z,its,n,r,e⟩:=I.hok p _ h
 exact⟨its,n,r,e,z⟩
theorem Inv.lstUpd{pins:List (Addr×Obj)}{σ:St}{H:Hp}{s:Shared}{p:Addr}{xs ys:List V}{its its':List Value}{n n':Nat}{f:Obj->Obj}(I:Inv X pins σ H s)(h:H p=some (.lst xs))
  (ho:s.heap.get? p=some { cls:=.type "list",data:=.seq its.toArray n }) (hf:f { cls:=.type "list",data:=.seq its.toArray n }={ cls:=.type "list",data:=.seq its'.toArray n' }) (r:Vals ys its') (hz:ys.length<=sizeLine) (t:Nat) :
  Inv X pins σ (upd H p (.lst ys)) { s with heap:=s.heap.update p f,toks:=t }:=by
 have e:(s.heap.update p f).get? p=some { cls:=.type "list",data:=.seq its'.toArray n' }:=by
  rw[Heap.get?_update_self f ho (by rw[hf]<;>rfl),hf]
 refine I.write (x:=p) (e:=p) (by rw[h];trivial) (.inl rfl) (fun b u hb q=>(Heap.get?_update_other _ _ (Ne.symm hb)).trans q) ⟨_,e⟩ ?_
 exact⟨hz,its',n',r,e⟩
noncomputable def zgP:V->V->V->Hp->(Hp->Prop)->Prop:=fun o i v H Q=>∃ p xs k j,o=.ref p/\i=.int k/\H p=some (.lst xs)/\ixN xs.length k=some j/\Q (upd H p (.lst (xs.set j v)))
theorem zaV:zel X zgP:=by
 intro pins s σ H o i v ov iv u Q I ro ri rv h
 obtain⟨p,xs,k,j,rfl,rfl,hp,hj,q⟩:=h
 cases ro
 obtain⟨t,rfl⟩:=ri
 obtain⟨its,n,r,ho,hz⟩:=I.lst hp
 obtain⟨h1,h2,h3,h4⟩:=Ym hj
 have hl:=r.length
 have hn:=Je
 have I':Inv X pins σ (upd H p (.lst (xs.set j v))) { s with heap:=s.heap.update p (Obj.mapSeq (·.setIfInBounds j u)) } :=
  I.lstUpd hp ho (yI its n j u) (r.set rv j) (by rw[xG];exact hz) s.toks
 by_cases h0:0<=k
 ·have hk:k.toNat=j:=by
   rw[seqIndex_of h0 h4]at h1
   exact Option.some.inj h1
  exact PySem.W.ki_setAt ho h0 (by omega) (by rw[xn,<- hl];exact h4) (by rw[hk];exact⟨_,I',q⟩)
 ·have hk:(k+(its.toArray.size:Int)).toNat=j:=by
   rw[seqIndex_neg (by omega) h3]at h1
   rw[xn,<- hl]
   exact Option.some.inj h1
  exact PySem.W.ki_setBack ho (by omega) (by rw[xn,<- hl];exact h3) (by omega) (by rw[hk];exact⟨_,I',q⟩)
theorem v6(lo hi:Option Int)(n:Nat):(sliceBounds lo hi none n).1=((HT.sIx n 0 lo:Nat):Int)/\(sliceBounds lo hi none n).2.1=((HT.sIx n n hi:Nat):Int)/\(sliceBounds lo hi none n).2.2=1:=by
 refine⟨?_,?_,rfl⟩
 ·cases lo with
  |none=>simp[sliceBounds,HT.sIx]
  |some i=>
   simp only[sliceBounds,HT.sIx,Option.getD_none,show (1:Int)>0 by decide,if_true]
   by_cases h:i<0
   ·simp only[h,if_true]<;>omega
   ·simp only[h,if_false]<;>omega
 ·cases hi with
  |none=>simp[sliceBounds,HT.sIx]
  |some i=>
   simp only[sliceBounds,HT.sIx,Option.getD_none,show (1:Int)>0 by decide,if_true]
   by_cases h:i<0
   ·simp only[h,if_true]<;>omega
   ·simp only[h,if_false]<;>omega
theorem Ww(its:List Value)(lo hi:Option Int):slicePick its.toArray lo hi none=((its.drop (HT.sIx its.length 0 lo)).take (HT.sIx its.length its.length hi-HT.sIx its.length 0 lo)).toArray:=by
 obtain⟨h1,h2,h3⟩:=v6 lo hi its.toArray.size
 unfold slicePick
 rw[h1,h2,h3]
 simp only[sliceRange_one,pick_run,xn]<;>rfl
noncomputable def rSlL(K:PySem.W.Frag):V->Option Int->Option Int->Hp->VK->Prop:=fun x lo hi H Q=>∃ a xs,x=.ref a/\SqL K H a xs/\∀ p,H p=none->Q (.ref p) (upd H p (.lst (wn xs lo hi)))
theorem Yw:SlR X (rSlL X.K):=by
 intro pins s σ H x v vl vu lo hi sl Q I rx hs pl pu h
 obtain⟨a,xs,rfl,hx,q⟩:=h
 cases rx
 obtain⟨its,r,ht,hz⟩:=I.list hx
 have hlen:=r.length
 refine⟨"list",_,slot_list_getitem.lookup,ht.isList.typeIs,?_⟩
 refine wpAny_getItem_list_slice ht.isList hs pl pu .none (by simp) ?_ (by rw[xn]<;>omega)
 rw[Ww,<- hlen]
 refine⟨.ref s.heap.objs.size,_,I.laid (t':=s.toks) (o:=.lst (wn xs lo hi)) (fun b ob q=>Heap.get?_push_of_some _ q) (xh _) ?_,rfl,q _ (I.hok.fresh (xh _))⟩
 exact⟨xE (Vs xs lo hi) hz,_,0,(r.drop (HT.sIx xs.length 0 lo)).take (HT.sIx xs.length xs.length hi-HT.sIx xs.length 0 lo),Heap.get?_push_size _ rfl⟩
theorem jf:jv X (.builtin "len") (fun xs H Q=>∃ p ys,xs= [.ref p]/\(SqL X.K H p ys∨SqT X.K H p ys)/\Q (.int ys.length) H):=by
 intro pins s σ H xs us Q I r h
 obtain⟨p,ys,rfl,hq,q⟩:=h
 obtain⟨u,rfl,rx⟩:=Qg r
 cases rx
 have hn:=Je
 rcases hq with hq | hq
 ·obtain⟨its,r',pl,hz⟩:=I.list hq
  have hlen:=r'.length
  exact Calls.call_len_list pl.isList (by simp only[xn]<;>omega) ⟨.int ys.length,H,I.tok _,⟨s.toks+1,by rw[xn,hlen]⟩,q⟩
 ·obtain⟨its,r',pl,hz⟩:=I.tuple hq
  have hlen:=r'.length
  exact len_tuple pl (by simp only[xn]<;>omega) ⟨.int ys.length,H,I.tok _,⟨s.toks+1,by rw[xn,hlen]⟩,q⟩
theorem Z4:jv X (.type "list") (fun xs H Q=>∃ p ys,xs= [.ref p]/\(SqL X.K H p ys∨SqT X.K H p ys)/\∀ l,H l=none->Q (.ref l) (upd H l (.lst ys))):=by
 intro pins s σ H xs us Q I r h
 obtain⟨p,ys,rfl,hq,q⟩:=h
 obtain⟨u,rfl,rx⟩:=Qg r
 cases rx
 have fin:∀ (its:List Value),Vals ys its->ys.length<=sizeLine->∀ (h':Heap) (c':Nat),(∀ b o',s.heap.get? b=some o'->h'.get? b=some o') ->
   h'.get? s.heap.objs.size=some { cls:=.type "list",dict:=none,data:=.seq its.toArray c',slots:=#[] }->EP X pins σ Q (.ref s.heap.objs.size) { s with heap:=h' }:=fun its r' hz h' c' kp e=>
  ⟨.ref s.heap.objs.size,_,I.laid (t':=s.toks) kp (xh _) (show ObjOk X.prog X.w _ h' _ (.lst ys) from ⟨hz,its,c',r',e⟩),rfl,q _ (I.hok.fresh (xh _))⟩
 rcases hq with hq | hq
 ·obtain⟨its,r',pl,hz⟩:=I.list hq
  have hlen:=r'.length
  obtain⟨o,ho,hc,n,hd⟩:=pl.isList
  exact call_list_seq p (.inl rfl) ho hc hd (fun h' c' kp e=>fin its r' hz h' c' kp e) (by simp only[xn]<;>omega)
 ·obtain⟨its,r',pl,hz⟩:=I.tuple hq
  have hlen:=r'.length
  obtain⟨o,ho,hc,n,hd⟩:=pl
  exact call_list_seq p (.inr rfl) ho hc hd (fun h' c' kp e=>fin its r' hz h' c' kp e) (by simp only[xn]<;>omega)
noncomputable def tyV(K:PySem.W.Frag)(T:String)(x:V)(H:Hp):Prop:=match x with
 |.str _=>T= "str"
 |.int _=>T= "int"
 |.ref p=>(T= "list" /\∃ xs,SqL K H p xs)∨(T= "tuple" /\∃ o,K.lookup p=some o/\o.cls=.type "tuple" /\o.dict=none) ∨
   (T= "dict" /\((∃ kvs,H p=some (.dK kvs))∨∃ kvs,H p=some (.dT kvs)))∨(T= "set" /\∃ S n,H p=some (.set S n))
 |_=>False
theorem zbo{pins:List (Addr×Obj)}{σ:St}{H:Hp}{s:Shared}{T:String}{x:V}{v:Value}(I:Inv X pins σ H s)(r:RelV x v)(ty:tyV X.K T x H) :
  s.TypeIs v T/\∀ a,v=.ref a->∃ ob,s.heap.get? a=some ob/\ob.dict=none:=by
 cases x with
 |str z=>
  obtain⟨t,rfl⟩:=r
  cases (show T= "str" from ty)
  exact⟨typeIs_str s z t,fun _ e=>nomatch e⟩
 |int i=>
  obtain⟨t,rfl⟩:=r
  cases (show T= "int" from ty)
  exact⟨typeIs_int s i t,fun _ e=>nomatch e⟩
 |ref p=>
  cases r
  rcases ty with ⟨rfl,xs,hq⟩ | ⟨rfl,o,hk,hc,hd⟩ | ⟨rfl,hk⟩ | ⟨rfl,S,n,hk⟩
  ·obtain⟨its,_,pl,_⟩:=I.list hq
   refine⟨pl.isList.typeIs,fun a e=>?_⟩
   cases e
   obtain⟨o,n,e,c,hd,_⟩:=pl
   exact⟨o,e,hd⟩
  ·refine⟨⟨o,I.kIn p o hk,hc⟩,fun a e=>?_⟩
   cases e
   exact⟨o,I.kIn _ o hk,hd⟩
  ·have z:∃ o,s.heap.get? p=some o/\o.ExactDict:=by
    rcases hk with ⟨kvs,hk⟩ | ⟨kvs,hk⟩
    ·obtain⟨_,_,_,_,o,_,_,e,ex,_⟩:=I.hok p _ hk
     exact⟨o,e,ex⟩
    ·obtain⟨_,_,_,_,o,_,_,e,ex,_⟩:=I.hok p _ hk
     exact⟨o,e,ex⟩
   obtain⟨o,e,ex⟩:=z
   refine⟨⟨o,e,ex.1⟩,fun a e2=>?_⟩
   cases e2
   exact⟨o,e,ex.2.1⟩
  ·obtain⟨o,_,_,_,e,ex,_⟩:=I.hok p _ hk
   refine⟨⟨o,e,ex.1⟩,fun a e2=>?_⟩
   cases e2
   exact⟨o,e,ex.2.1⟩
 |_=>exact False.elim ty
noncomputable def tBM0(K:PySem.W.Frag)(T:String)(r:V->List V->Hp->VK->Prop)(to:TE):TE:=fun σ H Q=>to σ H fun x H1=>tyV K T x H1/\r x [] H1 Q
noncomputable def tBM(K:PySem.W.Frag)(T:String)(r:V->List V->Hp->VK->Prop)(to:TE)(t:TA):TE:=fun σ H Q=>to σ H fun x H1=>tyV K T x H1/\t σ H1 fun xs H2=>r x xs H2 Q
variable {o e:Expr} {es:List Expr} {to:TE} {t:TA} {name:Str} {apos cpos:Pos} {T id:String} {r:V->List V->Hp->VK->Prop}
theorem zfg (pa:PlainAttrs T) (slot:Slot T name id) (hty:typeOf (.builtin id)=pure (.type "method_descriptor")) (hm:MtR X id r) (ho:PE X o to)
  (hbase:attributeBase o name X.env (eval o X.env)=eval o X.env:=by rfl) (hline:(apos.endLine==cpos.line)=true:=by rfl):PE X (.Call (.Attribute o name apos) [] [] cpos) (tBM0 X.K T r to):=by
 intro pins s σ H Q I h
 refine wpAny_Call_method0_late hbase hline (thn (ho pins s σ H _ I h) fun v s1 ⟨x,H1,I1,r1,ty,q1⟩=>?_)
 obtain⟨h1,h2⟩:=zbo I1 r1 ty
 exact⟨T,id,pa,slot,hty,h1,h2,Calls.callWith_builtin rfl (PySem.evalArgs_none (hm pins s1 σ H1 x [] v [] Q I1 r1 .nil q1))⟩
theorem zd6 (pa:PlainAttrs T) (slot:Slot T name id) (hty:typeOf (.builtin id)=pure (.type "method_descriptor")) (hm:MtR X id r) (ho:PE X o to) (ha:PA X (e::es) t)
  (hbase:attributeBase o name X.env (eval o X.env)=eval o X.env:=by rfl)
  (hfew:((backTo cpos (starEach (e::es) X.env)).all (fun x=> !x.1)&&(backToKw cpos (keywordEach [] X.env)).all (fun x=>x.1.isSome)
   && decide ((e::es).length+([]:List Keyword).length+(if ([]:List Keyword).isEmpty then 0 else 1)<30))=true:=by rfl)
  (hline:(apos.endLine==cpos.line)=true:=by rfl) (hs:starEach (e::es) X.env=(false,eval e X.env)::starEach es X.env:=by rfl) (hplain:(backTo cpos (starEach es X.env)).any (·.1)=false:=by rfl) :
  PE X (.Call (.Attribute o name apos) (e::es) [] cpos) (tBM X.K T r to t):=by
 intro pins s σ H Q I h
 refine wpAny_Call_method_late hbase hfew hline rfl (thn (ho pins s σ H _ I h) fun v s1 ⟨x,H1,I1,r1,ty,q1⟩=>?_)
 obtain⟨h1,h2⟩:=zbo I1 r1 ty
 refine⟨T,id,pa,slot,hty,h1,h2,?_⟩
 have hA:=ha cpos pins s1 σ H1 _ I1 q1
 rw[hs]at hA |-
 refine Calls.callWith_builtin (by show (false||(backTo cpos (starEach es X.env)).any (·.1))=false;rw[hplain]<;>rfl) (Calls.evalArgs_plain ?_)
 exact thn hA fun us s2 ⟨vs,H2,I2,r2,q2⟩=>hm pins s2 σ H2 x vs v us Q I2 r1 r2 q2
end
noncomputable def MtM(X:Cx)(id:String)(r:V->List V->Hp->VK->Prop):Prop :=
 ∀ (pins:List (Addr×Obj)) (s:Shared) (σ:St) (H:Hp) (x:V) (xs:List V) (v:Value) (us:List Value) (Q:VK),Inv X pins σ H s->RelV x v->Vals xs us->r x xs H Q ->
  wpAny (model X.prog X.w) X.A (call (.builtin id) (v::us)) (EP X pins σ Q) X.xe s
theorem Vals.one:∀ {x:V}{us:List Value},Vals [x] us->∃ u,us= [u]/\RelV x u
 |_,_,.cons r .nil=>⟨_,rfl,r⟩
theorem Vals.zero:∀ {us:List Value},Vals [] us->us= []
 |_,.nil=>rfl
theorem Vals.dropLast{xs:List V}{us:List Value}(h:Vals xs us):Vals xs.dropLast us.dropLast:=by
 induction h with
 |nil=>exact .nil
 |cons r t ih=>
  cases t with
  |nil=>exact .nil
  |cons q t'=>exact .cons r ih
theorem Vals.rep{xs:List V}{us:List Value}(h:Vals xs us):∀ k:Nat,Vals (List.replicate k xs).flatten (List.replicate k us).flatten
 |0=>.nil
 |k+1=>by
  rw[xM,xM,xU,xU]
  exact Vals.append h (Vals.rep h k)
theorem yw{α:Type}(l:List α):l.eraseIdx (l.length-1)=l.dropLast:=by
 induction l with
 |nil=>rfl
 |cons a r ih=>
  cases r with
  |nil=>rfl
  |cons b r=>
   have e:(a::b::r).length-1=((b::r).length-1)+1:=by
    have h1:(a::b::r).length=r.length+2:=rfl
    have h2:(b::r).length=r.length+1:=rfl
    omega
   rw[e,List.eraseIdx_cons_succ,ih]
   all_goals rfl
theorem Jb(its:List Value):∀ (k:Nat) (acc:List Value),
  List.foldl (fun x1 x2=>x1++x2) acc.toArray (List.replicate k its.toArray)=(acc++(List.replicate k its).flatten).toArray
 |0,acc=>by simp
 |k+1,acc=>by
  have e:acc.toArray++its.toArray=(acc++its).toArray:=by simp
  have e2:(acc++its)++(List.replicate k its).flatten=acc++(List.replicate (k+1) its).flatten:=by
   rw[xM,xU,uq]
  rw[<- e2,<- Jb its k (acc++its),<- e,xM,List.foldl_cons]
section
variable {X:Cx} {pins:List (Addr×Obj)} {σ:St} {H:Hp} {s:Shared} {l b:Addr} {xs ys zs:List V}
theorem Inv.lset{its its':List Value}{n:Nat}{f:Array Value->Array Value}{t':Nat}(I:Inv X pins σ H s)(hH:H l=some (.lst xs))
  (e:s.heap.get? l=some { cls:=.type "list",data:=.seq its.toArray n }) (hf:f its.toArray=its'.toArray) (hv:Vals ys its') (hz:ys.length<=sizeLine) :
  Inv X pins σ (upd H l (.lst ys)) { s with heap:=s.heap.update l (Obj.mapSeq f),toks:=t' }:=by
 have q:=PySem.IsL.update e f
 rw[hf]at q
 refine I.write (x:=l) (e:=l) (by rw[hH];exact trivial) (.inl rfl) (fun b' u hb hu=>(Heap.get?_update_other s.heap (Obj.mapSeq f) (Ne.symm hb)).trans hu) ⟨_,q⟩ ?_
 exact⟨hz,its',_,hv,q⟩
theorem Inv.lnew{its:List Value}{t':Nat}(I:Inv X pins σ H s)(hv:Vals ys its)(hz:ys.length<=sizeLine) :
  Inv X pins σ (upd H s.heap.objs.size (.lst ys)) { s with heap:=s.heap.push { cls:=.type "list",data:=.seq its.toArray },toks:=t' } :=
 I.laid (fun _ _ q=>Heap.get?_push_of_some _ q) (xh _) ⟨hz,its,0,hv,Heap.get?_push_size _ rfl⟩
theorem Inv.fresh(I:Inv X pins σ H s):H s.heap.objs.size=none:=I.hok.fresh (xh _)
theorem Inv.lstM (I:Inv X pins σ H s) (hH:H l=some (.lst xs)):xs.length<=sizeLine/\∃ (its:List Value) (n:Nat),Vals xs its/\xs.length=its.length/\s.heap.get? l=some { cls:=.type "list",data:=.seq its.toArray n }:=by
 obtain⟨z,its,n,r,e⟩:=I.hok l _ hH
 exact⟨z,its,n,r,r.length,e⟩
end
section
variable {X:Cx}
noncomputable def zcU:V->List V->Hp->VK->Prop:=fun x vs H Q=>∃ l xs y,x=.ref l/\vs= [y]/\H l=some (.lst xs)/\xs.length<sizeLine/\Q .non (upd H l (.lst (xs++ [y])))
theorem kj:MtM X "list.append" zcU:=by
 intro pins s σ H x vs v us Q I rx rv h
 obtain⟨l,xs,y,rfl,rfl,hH,hz,q⟩:=h
 cases rx
 obtain⟨u,rfl,ru⟩:=rv.one
 obtain⟨z,its,n,r,hl,e⟩:=I.lstM hH
 refine call_meets F.slot_list_append ⟨_,e,rfl⟩ F.entry_list_append (F.args_list_append_2 _ _) (PySem.list_append l its.toArray n u (by rw[xn];omega)) ⟨e,?_⟩
 refine⟨.non,_,I.lset (its':=its++ [u]) hH e (by simp) (r.append (.cons ru .nil)) ?_,rfl,q⟩
 rw[xK,List.length_singleton]
 omega
noncomputable def rPop:V->List V->Hp->VK->Prop:=fun x vs H Q=>∃ l xs y,x=.ref l/\vs= []/\H l=some (.lst xs)/\xs[xs.length-1]?=some y/\Q y (upd H l (.lst xs.dropLast))
theorem ze0:MtM X "list.pop" rPop:=by
 intro pins s σ H x vs v us Q I rx rv h
 obtain⟨l,xs,y,rfl,rfl,hH,hy,q⟩:=h
 cases rx
 have hus:=rv.zero
 subst hus
 obtain⟨z,its,n,r,hl,e⟩:=I.lstM hH
 obtain⟨u,hu,ru⟩:=r.get hy
 have hy':its.toArray[its.toArray.size-1]?=some u:=by
  show its.toArray[its.length-1]?=some u
  rw[<- Array.getElem?_toList,<- hl]
  exact hu
 refine call_meets F.slot_list_pop ⟨_,e,rfl⟩ F.entry_list_pop (F.args_list_pop_1 _) (MeetsSeq.list_pop_last l its.toArray n u hy' (by rw[xn];omega)) ⟨e,?_⟩
 refine⟨y,_,I.lset (its':=its.dropLast) hH e ?_ r.dropLast ?_,ru,q⟩
 ·show its.toArray.eraseIdxIfInBounds (its.toArray.size-1)=its.dropLast.toArray
  rw[xn,List.eraseIdxIfInBounds_toArray,yw]
 ·rw[List.length_dropLast]
  omega
theorem vL{α:Type}(xs:List α)(k:Nat):(List.replicate k xs).flatten.length=k*xs.length:=by
 induction k with
 |zero=>simp
 |succ k ih=>rw[xM,xU,xK,ih,Nat.succ_mul,Nat.add_comm]
end
section
variable {prog:Program} {w:World} {A:Around} {E:Value->Shared->Prop} {s:Shared}
end
section
variable {X:Cx}
end
end L2
namespace Att
open PySem PySem.W PySem.Calls PyProof.Rows
theorem JR{P:Params}{h:Heap}:∀ (ns:List Int) (vs:List Value),WellAll P h vs (ns.map WData.int)->IntsAre vs ns:=by
 intro ns
 induction ns with
 |nil=>
  intro vs w
  rw[List.map_nil]at w
  cases w
  exact .nil
 |cons n ns ih=>
  intro vs w
  rw[xu]at w
  cases w with
  |cons a b=>
   cases a
   exact .cons _ _ (ih _ b)
theorem kG{l:OpenLaw}{n:Nat}(hn:l.most=some n){P:Params}{h:Heap}{args:List WData}{vals:List Value}
  (hpre:l.row.toRowW.claim.pre args=true) (hwl:WellAll P h vals args) :
  ∃ a vs ns,vals= [Value.ref a]/\args= [WData.list (ns.map WData.int)]/\h.get? a=some { cls:=.type "list",data:=.seq vs.toArray }/\IntsAre vs ns/\ns.length<=n:=by
 have hsh:WShape.hasAll [] args [.list .int]=true:=(pre_splitW hpre).1
 have hc:l.pre.holds [] { args:=args }=true:=(pre_splitW hpre).2
 obtain⟨d,r,rfl,h1,h2⟩:=hasAllW_cons hsh
 obtain rfl:=hasAllW_nil h2
 obtain⟨xs,rfl,h3⟩:=hasW_list h1
 obtain⟨ns,rfl⟩:=items_int h3
 have hlen:ns.length<=n:=by
  unfold OpenLaw.pre at hc
  have h4:(WTm.not (.lt (.lit (.int (n:Int))) (.len (.arg 0)))).holds [] { args:= [.list (ns.map .int)] }=true:=by
   have h4:=(holds_andW hc).1
   rw[hn]at h4
   exact h4
  have h5:=condW_of h4 (w_not (w_lt w_lit (w_len_list (w_arg rfl))))
  rw[xr]at h5
  refine Nat.le_of_not_lt fun q=>?_
  have q':(n:Int)<((ns.length:Nat):Int):=by omega
  first
   | (rw[decide_eq_true q']at h5;exact absurd h5 (by decide))
   | (simp at h5;omega)
 cases hwl with
 |cons w1 w2=>
  cases w2
  cases w1 with
  |list ho hall=>exact⟨_,_,ns,rfl,rfl,ho,JR ns _ hall,hlen⟩
theorem kE(l:OpenLaw)(args:List WData):l.row.toRowW.claim.post args (.bool true) args=true :=
 postW_of (r:=l.row.toRowW) (X:=(true==true))
  (show WShape.has [] (.bool true) .bool=true by first | rfl | decide | simp[WShape.has,WShape.arms,WShape.armsAll])
  (show (WTm.eq .res (.lit (.bool true))).value [] { args:=args,res:=some (.bool true),after:=args }=some (.bool (true==true)) from w_eq_bool (w_res rfl) w_lit) rfl
theorem attach_call{l:OpenLaw}{n:Nat}{q:Program}{loose:List Str}{XP:(Str->Option Value)->Heap->Prop}{YP:World->Heap->Prop}{d:DefRec}
  (hn:l.most=some n) (hdf:d.params.defaults= [])
  (call:∀ (w:World) (s₀ s₁:Shared) (mg mb:Str->Option Value) (fa:Addr) (o:Obj) (pm cd doc:Value) (a:Addr) (vs:List Value) (ns:List Int),
   Ground q loose [] XP w s₀ mg mb s₁.heap->YP w s₁.heap ->
   s₁.heap.get? fa=some o->o.data=.func (docDef d.name d.params d.body d.scope pm cd doc)->s₁.heap.CodeRec cd d.name->mg d.name=some (.ref fa) ->
   s₁.heap.get? a=some { cls:=.type "list",data:=.seq vs.toArray }->IntsAre vs ns->ns.length<=n->s₁.gens=#[] ->
   codeAny (model l.prog w) callerA (.call (.ref fa) ⟨[.ref a],[]⟩) (fun r s'=>r=.ok (.ret (.bool true))/\OldK s₁.heap s'.heap/\s'.os=s₁.os/\AllBare s'.gens) s₁) :
  WalkO q loose XP YP l.row.toRowW d [] (fun f vs=>PySem.call f vs):=by
 intro w s₀ s₁ mg mb G Y fa o pm cd doc dV kV ho hd hcd hD hmg hg args vals as hpre hlay hrd hwl hlo
 obtain rfl:dV=.none:=Dflts.none hD hdf
 obtain rfl:kV=.none:=Dflts.noKw hD
 obtain⟨a,vs,ns,rfl,rfl,hobj,hints,hlen⟩:=kG hn hpre hwl
 refine enter_call (codeAny_mono (call w s₀ s₁ mg mb fa o pm cd doc a vs ns G Y ho (fd_plain hd) hcd hmg hobj hints hlen hg) fun r s' hq=>?_)
 obtain⟨rfl,h2,h3,h4⟩:=hq
 exact⟨.inl ⟨.bool true,.bool true,[],rfl,fun _=>rfl,.bool true,kE l _,fun _=>⟨List.Pairwise.nil,fun _ hm=>(nomatch hm)⟩⟩,h2,h3,h4⟩
section
variable {prog:Program} {w:World} {A:Around} {E:Value->Shared->Prop} {s:Shared} {K:Frag}
end
end Att
namespace L2
open PySem PySem.Spec PyProof.Rows
theorem Zz:∀ {vs:List Value}{ns:List Int},IntsAre vs ns->Vals (ns.map V.int) vs
 |_,_,.nil=>.nil
 |_,_,.cons n t h=>.cons ⟨t,rfl⟩ (Zz h)
noncomputable def zek(H:Hp):Prop:=∀ b,H b=none∨∃ o xs,H b=some (.frz o (.lst xs))
theorem zab{P:Program}{w:World}{K:PySem.W.Frag}{mg mb:Str->Option Value}{CX:CXT}{k:Nat}{fa a:Addr}{fd:FuncData}{x:Str}{sp:Sp}{s₁:Shared}{vs:List Value}{ns:List Int}
  (KX:K.In s₁.heap) (hns:s₁.heap.Ns mainGlobals mg) (hb:s₁.heap.Ns builtinsNs mb) (hbb:∀ x:Str,x≠ "__name__" ->mb x=bootBuiltins x) (hlim:s₁.heap.NoLimit) (hg:s₁.gens=#[])
  (ha:s₁.heap.get? a=some { cls:=.type "list",data:=.seq vs.toArray }) (hi:IntsAre vs ns) (hl:ns.length<=sizeLine) (hr:Room k callerA)
  (F:∀ base:Heap,K.In base->base.Ns mainGlobals mg->FnOk P w K mg base CX k fa fd [x] sp) (hbind:∀ (s:Shared) (u:Value),BindsTo s fd ⟨[u],[]⟩ [(x,u)])
  (hsp:∀ H:Hp,zek H->SqL K H a (ns.map V.int)->sp [.ref a] H (fun v _=>v=.bl true) fun _ _ _=>False)
  (hCX:∀ H e s',CX [] H s₁ (fun _ _ _=>False) e s'->False) :
  codeAny (model P w) callerA (.call (.ref fa) ⟨[.ref a],[]⟩) (fun r s'=>r=.ok (.ret (.bool true))/\OldK s₁.heap s'.heap/\s'.os=s₁.os/\AllBare s'.gens) s₁:=by
 have rv:=Zz hi
 have lenV:=hi.length
 -- from an abstract heap in which nothing but the script may be tracked
 have core:∀ H:Hp,zek H->SqL K H a (ns.map V.int)->HOk P w H s₁.heap->(∀ b,H b≠none->b=a)->(H a≠none->K.lookup a=none) ->
   codeAny (model P w) callerA (.call (.ref fa) ⟨[.ref a],[]⟩) (fun r s'=>r=.ok (.ret (.bool true))/\OldK s₁.heap s'.heap/\s'.os=s₁.os/\AllBare s'.gens) s₁:=by
  intro H hO hS hok hA hK
  have Z1:∀ {b:Addr} {o:Obj},s₁.heap.get? b=some o->H b=none->(vJ s₁.heap H).get? b=some o:=fun e n=>K4 e n
  have noA:∀ {b:Addr} {o:Obj} {es:Array DictEntry} {ep:Nat},s₁.heap.get? b=some o->o.data=.dict es ep->H b=none:=fun {b o es ep} e d=>by
   cases q:H b with
   |none=>rfl
   |some u=>
    have e':b=a:=hA b (by rw[q];simp)
    subst e'
    rw[ha]at e;cases e
    have d':Data.seq vs.toArray _=Data.dict es ep:=d
    cases d'
  have nsK:∀ {b:Addr} {m:Str->Option Value},s₁.heap.Ns b m->(vJ s₁.heap H).Ns b m:=fun {b m} ⟨o,es,ep,e,d,r⟩=>⟨o,es,ep,Z1 e (noA e d),d,r⟩
  have hKb:K.In (vJ s₁.heap H):=fun b o e=>Z1 (KX b o e) (by
   cases q:H b with
   |none=>rfl
   |some u=>
    have e':b=a:=hA b (by rw[q];simp)
    subst e'
    rw[hK (by rw[q];simp)]at e;cases e)
  have hM:Mod K mg (vJ s₁.heap H):=⟨hKb,nsK hns,⟨mb,nsK hb,hbb⟩,let ⟨mc,h1,h2⟩:=hlim;⟨mc,nsK h1,h2⟩⟩
  have e0:Env0 P w K mg (vJ s₁.heap H) callerA [] s₁ H:=⟨rfl,hM,fun b o e=>zcz e,Nat.le_of_eq (Y4 _ _),trivial,fun b hb=>absurd (show b∈([]:List Addr) from hb) (by simp),hok,.of_eq hg⟩
  refine codeAny_mono ((F _ hKb (nsK hns)).run callerA [] s₁ H ⟨[.ref a],[]⟩ [.ref a] [.ref a] _ _ hr e0 (hbind s₁ (.ref a)) (.cons rfl .nil) (hsp H hO hS)) fun r s' h=>?_
  cases r with
  |error e=>exact (hCX H e s' h).elim
  |ok fl=>
   cases fl with
   |next=>exact False.elim h
   |brk=>exact False.elim h
   |cont=>exact False.elim h
   |ret u=>
    obtain⟨v,H',os,bare,un,hok',r',q⟩:=h
    have q':v=.bl true:=q
    subst q'
    obtain rfl:u=Value.bool true:=r'
    refine⟨rfl,OldK.of_keep fun b o e=>?_,os,bare⟩
    cases q:H b with
    |none=>exact un.keep b o e q (by intro z;exact absurd (show b∈([]:List Addr) from z) (by simp)) (by simp)
    |some u=>
     rcases hO b with z | ⟨ob,xs,z⟩
     ·rw[q]at z;cases z
     ·have z2:=un.frzs b ob _ z
      obtain⟨e1,_⟩:=hok b _ z
      obtain⟨e2,_⟩:=hok' b _ z2
      rw[e]at e1;cases e1
      exact e2
 cases hk:K.lookup a with
 |some o=>
  -- the script is one of the module's own objects
  have e:=KX a o hk
  rw[ha]at e
  cases e
  refine core (fun _=>none) (fun _=>.inl rfl) (.inr ⟨_,vs.toArray,_,hk,rfl,rfl,rfl,by rw[xn,lenV];exact hl,by simpa using rv⟩) (fun b u z=>by have z':(none:Option HO)=some u:=z;cases z') (fun b z=>absurd rfl z) fun z=>absurd rfl z
 |none=>
  refine core (fun b=>if b=a then some (.frz { cls:=.type "list",data:=.seq vs.toArray } (.lst (ns.map V.int))) else none) (fun b=>?_) (.inl (.inr ⟨{ cls:=.type "list",data:=.seq vs.toArray },if_pos rfl⟩)) (fun b u z=>?_) (fun b z=>?_) fun _=>hk
  ·by_cases hb:b=a
   ·exact .inr ⟨_,_,if_pos hb⟩
   ·exact .inl (if_neg hb)
  ·by_cases hb:b=a
   ·have z':=(if_pos hb).symm.trans z
    cases z'
    subst hb
    exact⟨ha,by rw[xr];exact hl,vs,_,rv,ha⟩
   ·have z':=(if_neg hb).symm.trans z
    cases z'
  ·by_cases hb:b=a
   ·exact hb
   ·exact absurd (if_neg hb) z
noncomputable abbrev KOf{K:PySem.W.Frag}{h:Heap}(_:K.In h):PySem.W.Frag:=K
theorem walk_of{l:PySem.W.OpenLaw}{n k:Nat}{q:Program}{loose:List Str}{XP:(Str->Option Value)->Heap->Prop}{YP:World->Heap->Prop}{d:DefRec}{K:Params->PySem.W.Frag}{CX:World->CXT}{sp:World->Sp}{x:Str}
  (hn:l.most=some n) (hn2:n<=sizeLine) (hdf:d.params.defaults= []) (hr:Room k callerA)
  (hY:∀ (w:World) (h:Heap),YP w h->(K w.params).In h)
  (F:∀ (w:World) (mg:Str->Option Value) (fa:Addr) (h:Heap),(K w.params).In h->h.Ns mainGlobals mg->mg d.name=some (.ref fa) ->
   ∃ fd:FuncData,(∀ (s:Shared) (u:Value),BindsTo s fd ⟨[u],[]⟩ [(x,u)]) /\
    ∀ base:Heap,(K w.params).In base->base.Ns mainGlobals mg->FnOk l.prog w (K w.params) mg base (CX w) k fa fd [x] (sp w))
  (hsp:∀ (w:World) (H:Hp) (a:Addr) (ns:List Int),ns.length<=n->zek H->SqL (K w.params) H a (ns.map V.int)->sp w [.ref a] H (fun v _=>v=.bl true) fun _ _ _=>False)
  (hCX:∀ (w:World) (H:Hp) (s:Shared) (e:Value) (s':Shared),CX w [] H s (fun _ _ _=>False) e s'->False) :
  PySem.W.WalkO q loose XP YP l.row.toRowW d [] (fun f vs=>PySem.call f vs):=by
 refine Att.attach_call hn hdf fun w s₀ s₁ mg mb fa o pm cd doc a vs ns G Y ho hd hcd hmg hobj hints hlen hg=>?_
 have KX:=hY w _ Y
 obtain⟨fd,hb,hF⟩:=F w mg fa _ KX G.T.g hmg
 exact zab KX G.T.g G.T.b G.T.builtins G.T.nolimit hg hobj hints (xE hlen hn2) hr hF hb (fun H hO hS=>hsp w H a ns hlen hO hS) fun H e s'=>hCX w H s₁ e s'
noncomputable def zM(s:Stmt):Arguments:=match s with
 |.FunctionDef _ a _ _ _ _ _ _ _ _=>a
 |_=>{ posonlyargs:= [],args:= [],vararg:=none,kwonlyargs:= [],kw_defaults:= [],kwarg:=none,defaults:= [] }
noncomputable def defBody(s:Stmt):List Stmt:=match s with
 |.FunctionDef _ _ b _ _ _ _ _ _ _=>b
 |_=> []
noncomputable def defScope(s:Stmt):Scope:=match s with
 |.FunctionDef _ _ _ _ _ _ sc _ _ _=>sc
 |_=>{ kind:=.function,names:= [],isGenerator:=false,isCoroutine:=false }
noncomputable abbrev CX0:CXT:=fun _ _ _ _ _ _=>False
noncomputable abbrev E0:XK:=fun _ _ _=>False
theorem zgI{X:Cx}:W9 CX0 X E0:=fun _ _ _ _ _ _ _ h=>h.elim
structure Fun(K:PySem.W.Frag)(x qual:Str)(st:Stmt)(f:Addr)(fd:FuncData):Prop where
 ex:∃ (oc:Value) (od:Option Addr) (kV doc pm:Value) (an:Option Addr) (cdv ct:Value) (osl:Array (Option Value)),
  fd=PySem.W.fnOf x qual (zM st) (defBody st) (defScope st) .none kV doc pm an cdv ct/\K.lookup f=some ⟨oc,od,.func fd,osl⟩/\PySem.W.codeIn K cdv qual=true
 kp:PySem.W.keepIn K (.ref f)=true
section
variable {P:Program} {w:World} {K:PySem.W.Frag} {mg:Str->Option Value} {base:Heap}
theorem Fun.ok{x qual:Str}{st:Stmt}{f:Addr}{fd:FuncData}{N ps:List Str}{k:Nat}{sp:Sp}(F:Fun K x qual st f fd)(S:qw N ps (defScope st))(len:∀ vs H Q E,sp vs H Q E->vs.length=ps.length)
  (hbody:∀ (cdv:Value) (A:Around) (outer:List Env) (s:Shared) (H:Hp) (vs:List V) (Q:VK) (E:XK),Room k (A.deeper (envOfC qual (defScope st) s.heap.objs.size f cdv))->sp vs H Q E ->
   ∃ t,PSs (ZK CX0 P w K mg base N qual (defScope st) f cdv A outer s H E).nox (defBody st) t/\t { nx:=fun _ H'=>Q .non H',rt:=Q } (start N vs) H):FnOk P w K mg base CX0 (k+1) f fd ps sp:=by
 obtain⟨oc,od,kV,doc,pm,an,cdv,ct,osl,rfl,lk,hcd⟩:=F.ex
 refine zd2 lk hcd S len fun A outer s H vs Q E hr hsp=>?_
 obtain⟨t,h,q⟩:=hbody cdv A outer s H vs Q E hr hsp
 exact⟨t,h.nox,q⟩
theorem Fun.binds{x qual:Str}{st:Stmt}{f:Addr}{fd:FuncData}{ps:List Str}(F:Fun K x qual st f fd)
  (h:∀ (kV doc pm:Value) (an:Option Addr) (cdv ct:Value) (us:List Value),us.length=ps.length->bindArgs (PySem.W.fnOf x qual (zM st) (defBody st) (defScope st) .none kV doc pm an cdv ct) ⟨us,[]⟩=pure (ps.zip us)):Binds K fd ps []:=by
 obtain⟨oc,od,kV,doc,pm,an,cdv,ct,osl,rfl,lk,hcd⟩:=F.ex
 exact .all (h kV doc pm an cdv ct)
theorem ZO{x qual:Str}{st:Stmt}{f:Addr}{oc:Value}{od an:Option Addr}{osl:Array (Option Value)}{kV doc pm cdv ct:Value}(l:K.lookup f=some ⟨oc,od,.func (PySem.W.fnOf x qual (zM st) (defBody st) (defScope st) .none kV doc pm an cdv ct),osl⟩)
  (c:PySem.W.codeIn K cdv qual=true) (k:PySem.W.keepIn K (.ref f)=true):Fun K x qual st f (PySem.W.fnOf x qual (zM st) (defBody st) (defScope st) .none kV doc pm an cdv ct):=⟨⟨oc,od,kV,doc,pm,an,cdv,ct,osl,rfl,l,c⟩,k⟩
end
section
variable {X:Cx}
theorem pv (i:Nat){x:Str}{pos:Pos}(hN:X.N[i]?=some x:=by rfl) (hv:Vis X.env.scope x:=by first | exact Or.inl rfl | exact Or.inr (Or.inl rfl) | exact Or.inr (Or.inr rfl)) (hd:(x==("__debug__" :Str))=false:=by decide)
    (hcd:(x==("__classdict__" :Str))=false:=by decide):PE X (.Name x pos) (zf0 i):=zz hN hv hd hcd
end
theorem Ws{A B:Prop}(h:B):if false=true then A else B:=by
 rw[if_neg Bool.false_ne_true]
 exact h
theorem Wt{A B:Prop}(h:A):if true=true then A else B:=by
 rw[if_pos rfl]
 exact h
noncomputable def Same(H H':Hp):Prop:=∀ b o,H b=some o->H' b=some o
theorem Same.refl(H:Hp):Same H H:=fun _ _ h=>h
theorem Same.trans{H H1 H2:Hp}(a:Same H H1)(b:Same H1 H2):Same H H2:=fun c o h=>b c o (a c o h)
theorem Same.free{H H':Hp}(e:Same H H'){l:Addr}(h:H' l=Option.none):H l=Option.none:=by
 cases q:H l with
 |none=>rfl
 |some o=>
  rw[e l o q]at h
  cases h
theorem Same.seq{K:PySem.W.Frag}{H H':Hp}{a:Addr}{xs:List V}(e:Same H H')(h:SqL K H a xs):SqL K H' a xs:=by
 rcases h with (h | ⟨o,h⟩) | h
 ·exact .inl (.inl (e _ _ h))
 ·exact .inl (.inr ⟨o,e _ _ h⟩)
 ·exact .inr h
section
variable {κ:Type} [DecidableEq κ]
noncomputable def JW(kvs:List (κ×V))(k:κ):Option V:=(kvs.find? fun kv=>decide (kv.1=k)).map (·.2)
noncomputable def ju(kvs:List (κ×V))(k:κ)(v:V):List (κ×V) :=
 if (kvs.any fun kv=>decide (kv.1=k))=true then kvs.map (fun kv=>if kv.1=k then (kv.1,v) else kv) else kvs++ [(k,v)]
theorem Wi{p:κ×V}{r:List (κ×V)}{k:κ}(e:p.1=k):JW (p::r) k=some p.2:=by simp[JW,xN,e]
theorem Wh{p:κ×V}{r:List (κ×V)}{k:κ}(e:¬ p.1=k):JW (p::r) k=JW r k:=by simp[JW,xN,e]
theorem ye(k:κ):∀ kvs:List (κ×V),(kvs.any fun kv=>decide (kv.1=k))=(JW kvs k).isSome
 |[]=>rfl
 |p::r=>by
  rw[xP]
  by_cases e:p.1=k
  ·simp only[Wi e,decide_eq_true e,Bool.true_or,Option.isSome_some]
  ·rw[Wh e,decide_eq_false e,Bool.false_or];exact ye k r
theorem jB(kvs:List (κ×V))(k:κ)(v:V):(ju kvs k v).length<=kvs.length+1:=by
 unfold ju
 split
 ·rw[xr];omega
 ·rw[xK,xp,List.length_nil];omega
theorem RelO.isSome_eq{o:Option V}{u:Option Value}(r:RelO o u):o.isSome=u.isSome:=by
 cases o with
 |none=>cases u with
  |none=>rfl
  |some _=>exact (show False from r).elim
 |some _=>cases u with
  |none=>exact (show False from r).elim
  |some _=>rfl
theorem KV.val{kvs:List (κ×V)}{vs:List (κ×Value)}(r:KV kvs vs)(k:κ):RelO (JW kvs k) (valueAt vs k):=by
 unfold KV at r
 induction r with
 |nil=>exact True.intro
 | @cons p q ps qs h t ih=>
  obtain⟨h1,h2⟩:=h
  by_cases e:p.1=k
  ·have e':q.1=k:=h1.symm.trans e
   have b:valueAt (q::qs) k=some q.2:=by simp[valueAt,xN,e']
   rw[Wi e,b];exact h2
  ·have e':¬ q.1=k:=fun z=>e (h1.trans z)
   have b:valueAt (q::qs) k=valueAt qs k:=by simp[valueAt,xN,e']
   rw[Wh e,b];exact ih
theorem KV.any{kvs:List (κ×V)}{vs:List (κ×Value)}(r:KV kvs vs)(k:κ):(kvs.any fun kv=>decide (kv.1=k))=vs.any fun kv=>decide (kv.1=k):=by
 unfold KV at r
 induction r with
 |nil=>rfl
 |cons h t ih=>rw[xP,xP,ih,h.1]
theorem KV.repl{kvs:List (κ×V)}{vs:List (κ×Value)}(r:KV kvs vs)(k:κ){y:V}{u:Value}(ry:RelV y u) :
  KV (kvs.map fun kv=>if kv.1=k then (kv.1,y) else kv) (vs.map fun kv=>if kv.1=k then (kv.1,u) else kv):=by
 unfold KV at r |-
 induction r with
 |nil=>exact .nil
 | @cons p q ps qs h t ih=>
  rw[xu,xu]
  refine .cons ?_ ih
  obtain⟨h1,h2⟩:=h
  by_cases e:p.1=k
  ·rw[if_pos e,if_pos (h1.symm.trans e)];exact⟨h1,ry⟩
  ·rw[if_neg e,if_neg (fun z=>e (h1.trans z))];exact⟨h1,h2⟩
theorem KV.put{kvs:List (κ×V)}{vs:List (κ×Value)}(r:KV kvs vs)(k:κ){y:V}{u:Value}(ry:RelV y u):KV (ju kvs k y) (stored vs k u):=by
 unfold ju stored
 rw[r.any k]
 by_cases e:(vs.any fun kv=>decide (kv.1=k))=true
 ·rw[if_pos e,if_pos e];exact r.repl k ry
 ·rw[if_neg e,if_neg e];exact Paired.snoc r ⟨rfl,ry⟩
theorem KV.keys{kvs:List (κ×V)}{vs:List (κ×Value)}(r:KV kvs vs):kvs.map (·.1)=vs.map (·.1):=by
 unfold KV at r
 induction r with
 |nil=>rfl
 |cons h t ih=>rw[xu,xu,ih,h.1]
theorem KV.length{kvs:List (κ×V)}{vs:List (κ×Value)}(r:KV kvs vs):kvs.length=vs.length:=Paired.length r
end
theorem wI{P:Program}{w:World}{k:Key}{u:Value}(r:RelV (kV k) u):(zn P w).is k u=true:=by
 cases k with
 |inl i=>obtain⟨t,e⟩:=(show ∃ t,u=Value.int i t from r);subst e;exact VM P w i t
 |inr x=>obtain⟨t,e⟩:=(show ∃ t,u=Value.str x t from r);subst e;exact VN P w x t
theorem WT{P:Program}{w:World}:∀ {ks:List Key}{us:List Value},Vals (ks.map kV) us->ItemsAre (zn P w) ks us
 |[],_,r=>by rw[List.map_nil]at r;cases r;exact .nil
 |k::ks,_,r=>by
  rw[xu]at r
  cases r with
  |cons h t=>exact .cons (wI h) (WT t)
noncomputable abbrev KT(H:Hp):List (List Key×V)->List (List Key×Addr×Value)->Prop:=Paired fun p q=>p.1=q.1/\H q.2.1=some (.tup (p.1.map kV))/\RelV p.2 q.2.2
theorem KT.val{H:Hp}{kvs:List (List Key×V)}{xs:List (List Key×Addr×Value)}(r:KT H kvs xs)(k:List Key):RelO (JW kvs k) ((atKey xs k).map (·.2)):=by
 induction r with
 |nil=>exact True.intro
 | @cons p q ps qs h t ih=>
  obtain⟨h1,_,h2⟩:=h
  by_cases e:p.1=k
  ·have e':q.1=k:=h1.symm.trans e
   have b:atKey (q::qs) k=some q.2:=by simp[atKey,xN,e']
   rw[Wi e,b];exact h2
  ·have e':¬ q.1=k:=fun z=>e (h1.trans z)
   have b:atKey (q::qs) k=atKey qs k:=by simp[atKey,xN,e']
   rw[Wh e,b];exact ih
theorem KT.repl{H:Hp}{kvs:List (List Key×V)}{xs:List (List Key×Addr×Value)}(r:KT H kvs xs)(k:List Key){y:V}{u:Value}(ry:RelV y u) :
  KT H (kvs.map fun kv=>if kv.1=k then (kv.1,y) else kv) (xs.map (putAt k u)):=by
 induction r with
 |nil=>exact .nil
 | @cons p q ps qs h t ih=>
  rw[xu,xu]
  refine .cons ?_ ih
  obtain⟨h1,h2,h3⟩:=h
  unfold putAt
  by_cases e:p.1=k
  ·rw[if_pos e,if_pos (h1.symm.trans e)];exact⟨h1,h2,ry⟩
  ·rw[if_neg e,if_neg (fun z=>e (h1.trans z))];exact⟨h1,h2,h3⟩
theorem KT.put{H:Hp}{kvs:List (List Key×V)}{xs:List (List Key×Addr×Value)}(r:KT H kvs xs)(k:List Key){b:Addr}{y:V}{u:Value}(hb:H b=some (.tup (k.map kV)))(ry:RelV y u) :
  KT H (ju kvs k y) (storedH xs k b u):=by
 have e:(kvs.any fun kv=>decide (kv.1=k))=(atKey xs k).isSome:=by
  rw[ye,(r.val k).isSome_eq,Option.isSome_map]
 unfold ju storedH
 rw[e]
 by_cases q:(atKey xs k).isSome=true
 ·rw[if_pos q,if_pos q];exact r.repl k ry
 ·rw[if_neg q,if_neg q];exact Paired.snoc r ⟨rfl,hb,ry⟩
theorem KT.keeps{H H':Hp}{kvs:List (List Key×V)}{xs:List (List Key×Addr×Value)}(r:KT H kvs xs)(ht:∀ b ys,H b=some (.tup ys)->H' b=some (.tup ys)):KT H' kvs xs :=
 Paired.mapP r fun _ _ z=>⟨z.1,ht _ _ z.2.1,z.2.2⟩
section
variable {P:Program} {w:World} {H:Hp} {h:Heap} {a:Addr}
theorem zd8{u:HO}(ok:HOk P w H h)(e:Rd H a u):ObjOk P w H h a u:=e.ok ok
theorem ZC{kvs:List (Key×V)}(ok:HOk P w H h)(e:Rd H a (.dK kvs)):kvs.length<=sizeLine/\(a==sysModules)=false/\∃ vs,KV kvs vs/\h.DictOf (zn P w) a vs :=
 show ObjOk P w H h a (.dK kvs) from zd8 ok e
theorem KJ{kvs:List (Key×V)}(ok:HOk P w H h)(e:H a=some (.dK kvs)):kvs.length<=sizeLine/\(a==sysModules)=false/\∃ vs,KV kvs vs/\h.DictOf (zn P w) a vs:=ZC ok (.inl e)
theorem wJ{ks:List Key}(ok:HOk P w H h)(e:H a=some (.tup (ks.map kV))):(tupleKind (zn P w)).is h ks a:=by
 obtain⟨_,its,r,o,h1,h2,n,h3⟩:=(show ObjOk P w H h a (.tup (ks.map kV)) from ok a _ e)
 exact⟨o,its.toArray,n,h1,h2,h3,by simpa using WT r⟩
theorem WS{kvs:List (List Key×V)}(ok:HOk P w H h)(e:Rd H a (.dT kvs)):kvs.length<=sizeLine/\(a==sysModules)=false /\
  ∃ xs,KT H kvs xs/\h.DictOfH (tupleKind (zn P w)) a xs:=by
 obtain⟨z,y,xs,r,o,es,ep,h1,h2,h3,h4,h5⟩:=(show ObjOk P w H h a (.dT kvs) from zd8 ok e)
 refine⟨z,y,xs,r,o,es,ep,h1,h2,h3,h4,fun x hx=>?_,h5⟩
 have all:∀ {l:List (List Key×V)} {m:List (List Key×Addr×Value)},KT H l m->∀ x∈m,(tupleKind (zn P w)).is h x.1 x.2.1:=by
  intro l m q
  induction q with
  |nil=>intro x hx;exact nomatch hx
  | @cons p q ps qs hq t ih=>
   intro x hx
   rcases xv.mp hx with e | hx
   ·subst e
    exact wJ ok (by rw[<- hq.1];exact hq.2.1)
   ·exact ih x hx
 exact all r x hx
theorem zgn{kvs:List (List Key×V)}(ok:HOk P w H h)(e:H a=some (.dT kvs)):kvs.length<=sizeLine/\(a==sysModules)=false /\
  ∃ xs,KT H kvs xs/\h.DictOfH (tupleKind (zn P w)) a xs:=WS ok (.inl e)
end
noncomputable def Vf(H:Hp)(a:Addr)(y:V)(r:Option V):Prop :=
 (∃ kvs k,Rd H a (.dK kvs)/\y=kV k/\r=JW kvs k)∨∃ kvs k b,Rd H a (.dT kvs)/\y=.ref b/\H b=some (.tup (k.map kV))/\r=JW kvs k
noncomputable def zge(H:Hp)(a:Addr)(y v:V)(H':Hp):Prop :=
 (∃ kvs k,H a=some (.dK kvs)/\y=kV k/\kvs.length<sizeLine/\H'=upd H a (.dK (ju kvs k v))) ∨
 ∃ kvs k b,H a=some (.dT kvs)/\y=.ref b/\H b=some (.tup (k.map kV))/\kvs.length<sizeLine/\H'=upd H a (.dT (ju kvs k v))
section
variable {X:Cx} {pins:List (Addr×Obj)} {σ:St} {H:Hp} {s:Shared} {a:Addr} {y v:V} {u r:Value} {o:Option V} {A:Around} {E:Value->Shared->Prop}
theorem Inv.big(I:Inv X pins σ H s):sysModules<s.heap.objs.size:=by
 have h:mainGlobals<s.heap.objs.size:=(I.mod.glob.keeps I.bk).lt
 exact Nat.lt_trans (by decide) h
theorem YX{Q:Value->Shared->Prop}(hu:A.units+1<cLine)(I:Inv X pins σ H s)(g:Vf H a y (some v))(ry:RelV y u)(h:∀ w' s',Inv X pins σ H s'->RelV v w'->Q w' s') :
  wpAny (model X.prog X.w) A (getItem (.ref a) u) Q E s:=by
 rcases g with ⟨kvs,k,e,ey,l⟩ | ⟨kvs,k,b,e,ey,eb,l⟩
 ·subst ey
  obtain⟨z,hd,vs,rel,dd⟩:=ZC I.hok e
  obtain⟨w',hw,rw'⟩:=RelO.some_of (v:=v) (o:=valueAt vs k) (by rw[l];exact rel.val k)
  exact wpAny_getItem_of (wI ry) dd.mapOf hw (h w' _ (I.tok _) rw')
 ·subst ey
  cases (show u=Value.ref b from ry)
  obtain⟨z,hd,xs,rel,dd⟩:=WS I.hok e
  obtain⟨w',hw,rw'⟩:=RelO.some_of (v:=v) (o:=(atKey xs k).map (·.2)) (by rw[l];exact rel.val k)
  obtain⟨p,hp,hp2⟩:=ur.mp hw
  refine wpAny_getItem_heap (tupleKind_room_in1 hu) (wJ I.hok eb) dd hp ?_
  rw[hp2]
  exact h w' _ (I.tok _) rw'
theorem d_in{Q:Value->Shared->Prop}(hu:A.units+1<cLine)(I:Inv X pins σ H s)(g:Vf H a y o)(ry:RelV y u)(h:∀ s',Inv X pins σ H s'->Q (.bool o.isSome) s') :
  wpAny (model X.prog X.w) A (compareOp .In u (.ref a)) Q E s:=by
 rcases g with ⟨kvs,k,e,ey,l⟩ | ⟨kvs,k,b,e,ey,eb,l⟩
 ·subst ey
  obtain⟨z,hd,vs,rel,dd⟩:=ZC I.hok e
  refine wpAny_in_of (wI ry) hd dd.mapOf ?_
  rw[<- (rel.val k).isSome_eq,<- l]
  exact h _ (I.tok _)
 ·subst ey
  cases (show u=Value.ref b from ry)
  obtain⟨z,hd,xs,rel,dd⟩:=WS I.hok e
  refine wpAny_in_heap (tupleKind_room_in1 hu) (wJ I.hok eb) hd dd ?_
  have q:=(rel.val k).isSome_eq
  rw[Option.isSome_map]at q
  rw[<- q,<- l]
  exact h _ (I.tok _)
theorem Yh{Q:Value->Shared->Prop}(hu:A.units+1<cLine)(I:Inv X pins σ H s)(g:Vf H a y o)(ry:RelV y u)(h:∀ s',Inv X pins σ H s'->Q (.bool (!o.isSome)) s') :
  wpAny (model X.prog X.w) A (compareOp .NotIn u (.ref a)) Q E s:=by
 rcases g with ⟨kvs,k,e,ey,l⟩ | ⟨kvs,k,b,e,ey,eb,l⟩
 ·subst ey
  obtain⟨z,hd,vs,rel,dd⟩:=ZC I.hok e
  refine wpAny_notIn_of (wI ry) hd dd.mapOf ?_
  rw[<- (rel.val k).isSome_eq,<- l]
  exact h _ (I.tok _)
 ·subst ey
  cases (show u=Value.ref b from ry)
  obtain⟨z,hd,xs,rel,dd⟩:=WS I.hok e
  refine wpAny_notIn_heap (tupleKind_room_in1 hu) (wJ I.hok eb) hd dd ?_
  have q:=(rel.val k).isSome_eq
  rw[Option.isSome_map]at q
  rw[<- q,<- l]
  exact h _ (I.tok _)
theorem vB{h':Heap}{t':Nat}{ob:HO}(I:Inv X pins σ H s)(mu:Mut (H a))(hs:Heap.SameBut a s.heap h')(he:∃ q,h'.get? a=some q)(new:ObjOk X.prog X.w (upd H a ob) h' a ob) :
  Inv X pins σ (upd H a ob) { s with heap:=h',toks:=t' } :=
 I.write (x:=a) (e:=a) mu (.inl rfl) (fun b q hb z=>(hs.2 b hb).trans z) he new
theorem vD{P:Program}{w:World}{H':Hp}{h':Heap}{kvs:List (Key×V)}{vs:List (Key×Value)}(z:kvs.length<=sizeLine)(hd:(a==sysModules)=false)(rel:KV kvs vs)(dd:h'.DictOf (zn P w) a vs) :
  ObjOk P w H' h' a (.dK kvs):=⟨z,hd,vs,rel,dd⟩
theorem YY{H':Hp}{Q:Unit->Shared->Prop}(hu:A.units+1<cLine)(I:Inv X pins σ H s)(g:zge H a y v H')(ry:RelV y u)(rv:RelV v r)(h:∀ s',Inv X pins σ H' s'->Q () s') :
  wpAny (model X.prog X.w) A (setItem (.ref a) u r) Q E s:=by
 rcases g with ⟨kvs,k,e,ey,l,eH⟩ | ⟨kvs,k,b,e,ey,eb,l,eH⟩
 ·subst ey eH
  obtain⟨z,hd,vs,rel,dd⟩:=KJ I.hok e
  have hz:vs.length<=sizeLine:=by rw[<- rel.length];exact z
  have hl:(ju kvs k v).length<=sizeLine:=by have:=jB kvs k v;omega
  refine wpAny_setItem_pairs (hsz:=hz) (wI ry) dd fun h' dd' hs=>h _ ?_
  have he:∃ q,h'.get? a=some q:=let ⟨q,_,_,hq,_⟩:=dd';⟨q,hq⟩
  exact vB I (by rw[e];exact True.intro) hs he (vD hl hd (rel.put k rv) dd')
 ·subst ey eH
  cases (show u=Value.ref b from ry)
  obtain⟨z,hd,xs,rel,dd⟩:=zgn I.hok e
  have hz:xs.length<=sizeLine:=by rw[<- Paired.length rel];exact z
  have hl:(ju kvs k v).length<=sizeLine:=by have:=jB kvs k v;omega
  refine wpAny_setItem_heap (hsz:=hz) (tupleKind_room_in1 hu) (wJ I.hok eb) dd fun h' dd' hs=>h _ ?_
  obtain⟨q,es,ep,hq,h2,h3,h4,_,h5⟩:=dd'
  refine vB I (by rw[e];exact True.intro) hs ⟨q,hq⟩ ⟨hl,hd,_,(rel.put k eb rv).keeps fun c ys ec=>?_,q,es,ep,hq,h2,h3,h4,h5⟩
  rw[zc (zd5 ec e (fun z=>nomatch z))]
  exact ec
end
section
variable {X:Cx} {pins:List (Addr×Obj)} {σ:St} {H:Hp} {s:Shared} {a:Addr} {kvs:List (Key×V)} {k:Key} {u:Value} {A:Around} {E:Value->Shared->Prop}
end
noncomputable def zbQ(i:Expr):Prop:=∀ ov iv,subscripted i false ov iv=operate [ov,iv] (getItem ov iv)
theorem zdB{prog:Program}{w:World}{A:Around}{E:Value->Shared->Prop}{s:Shared}{env:Env}{value slice:Expr}{pos:Pos}{T id:String}{Q:Value->Shared->Prop}
  (hl:typeLookup (.type T) "__getitem__" =pure (some (.builtin id))) (hs:zbQ slice)
  (h:wpAny (model prog w) A (eval value env) (fun o s₁=>wpAny (model prog w) A (eval slice env) (fun i s₂=>s₂.TypeIs o T/\wpAny (model prog w) A (getItem o i) Q E s₂) E s₁) E s) :
  wpAny (model prog w) A (eval (.Subscript value slice pos) env) Q E s:=by
 refine Subscript_ (wpAny_mono h (fun o s₁ h₁=>wpAny_mono h₁ (fun i s₂ h₂=>?_) fun _ _ x=>x) fun _ _ x=>x)
 obtain⟨hT,h₂⟩:=h₂
 unfold subscriptTail
 refine wpAny_bind ?_
 rw[getitemInPython_of_ne hT.not_modules]
 refine wpAny_bind (wpAny_specialOf hT hl ?_)
 have fin:wpAny (model prog w) A (subscripted slice false o i) (fun r s₃=>wpAny (model prog w) A (letTemporaryGo value o r >>= fun _=>pure r) Q E s₃) E s₂:=by
  rw[hs o i]
  exact wpAny_operating (wpAny_mono h₂ (fun r s₃ h₃=>wpAny_bind (wpAny_letTemporaryGo (wpAny_pure h₃))) fun _ _ x=>x)
 first
  |exact wpAny_pure (wpAny_bind fin)
  |exact wpAny_bind (wpAny_pure (wpAny_bind fin))
  |exact wpAny_bind fin
theorem Vz {X:Cx}{pins:List (Addr×Obj)}{σ:St}{H:Hp}{s:Shared}{a:Addr}{y:V}{o:Option V}(I:Inv X pins σ H s) (g:Vf H a y o):s.TypeIs (.ref a) "dict" :=by
 rcases g with ⟨kvs,k,e,_,_⟩ | ⟨kvs,k,b,e,_,_,_⟩
 ·obtain⟨_,_,vs,_,dd⟩:=ZC I.hok e
  exact dd.typeIs
 ·obtain⟨_,_,xs,_,dd⟩:=WS I.hok e
  exact dd.typeIs
noncomputable def zg9(td ty:TE):TE:=fun σ H Q=>td σ H fun x H1=>ty σ H1 fun y H2=>∃ a v,x=.ref a/\Vf H2 a y (some v)/\Q v H2
noncomputable def Yz(ty td:TE):TE:=fun σ H Q=>ty σ H fun y H1=>td σ H1 fun x H2=>∃ a o,x=.ref a/\Vf H2 a y o/\Q (.bl (!o.isSome)) H2
noncomputable def zgU(td ty tv:TE):TS:=fun D σ H=>tv σ H fun v H1=>td σ H1 fun x H2=>ty σ H2 fun y H3=>∃ a H4,x=.ref a/\zge H3 a y v H4/\D.nx σ H4
section
variable {X:Cx} {o i e value:Expr} {pos pos' tpos:Pos} {td ty tv:TE}
theorem Yo(hu:X.A.units+1<cLine)(ho:PE X o td)(hi:PE X i ty)(hs:zbQ i):PE X (.Subscript o i pos) (zg9 td ty):=by
 intro pins s σ H Q I h
 refine zdB PySem.F.slot_dict_getitem.lookup hs (thn (ho pins s σ H _ I h) fun u s1 ⟨x,H1,I1,rx,q1⟩=>thn (hi pins s1 σ H1 _ I1 q1) fun iv s2 ⟨y,H2,I2,ry,a,v,ex,g,q2⟩=>?_)
 subst ex
 obtain rfl:u=Value.ref a:=rx
 exact⟨Vz I2 g,YX hu I2 g ry fun w' s3 I3 rw'=>⟨v,H2,I3,rw',q2⟩⟩
theorem ky(hu:X.A.units+1<cLine)(hi:PE X i ty)(ho:PE X o td):PC X .NotIn i o (Yz ty td):=by
 intro pins s σ H Q I h
 refine thn (hi pins s σ H _ I h) fun iv s1 ⟨y,H1,I1,ry,q1⟩=>thn (ho pins s1 σ H1 _ I1 q1) fun u s2 ⟨x,H2,I2,rx,a,ov,ex,g,q2⟩=>?_
 subst ex
 obtain rfl:u=Value.ref a:=rx
 exact Yh hu I2 g ry fun s3 I3=>⟨.bl (!ov.isSome),H2,I3,rfl,q2⟩
theorem zcP(hu:X.A.units+1<cLine)(ho:PE X o td)(hi:PE X i ty)(hv:PE X value tv)(hs:swapsWith value (some (.Subscript o i pos')) pos.line X.env=pure false) :
  PS X (.Assign [.Subscript o i pos'] value pos) (zgU td ty tv):=by
 intro pins s σ H D I h
 refine wpAny_Assign_Subscript (thn (hv pins s σ H _ I h) fun r s1 ⟨v,H1,I1,rv,q1⟩=>thn (ho pins s1 σ H1 _ I1 q1) fun u s2 ⟨x,H2,I2,rx,q2⟩=>thn (hi pins s2 σ H2 _ I2 q2) fun iv s3 ⟨y,H3,I3,ry,a,H4,ex,g,q3⟩=>?_) hs
 subst ex
 obtain rfl:u=Value.ref a:=rx
 exact YY hu I3 g ry rv fun s4 I4=>⟨σ,H4,I4,q3⟩
end
theorem KI {P:Program}{w:World}{H:Hp}(h:Heap) (hb:sysModules<h.objs.size):ObjOk P w H (h.push { cls:=.type "dict",data:=.dict #[] }) h.objs.size (.dK []) :=
 ⟨xT _,beq_eq_false_iff_ne.mpr (Ne.symm (xj hb)),[],.nil,Heap.DictOf.new h⟩
noncomputable def zfX:TE:=fun _ H Q=>∀ p,H p=none->Q (.ref p) (upd H p (.dK []))
section
variable {X:Cx} {pos:Pos}
theorem pe_dnewK:PE X (.Dict [] [] pos) zfX:=fun pins s σ H Q I h=>
 wpAny_Dict_empty ⟨.ref s.heap.objs.size,_,I.laid (a:=s.heap.objs.size) (o:=.dK []) (t':=s.toks) (fun _ _ q=>Heap.get?_push_of_some _ q) (xh _) (KI s.heap I.big),rfl,h _ (I.hok.fresh (xh _))⟩
end
noncomputable def ZQ(kvs more:List (Key×V)):List (Key×V):=more.foldl (fun acc kv=>ju acc kv.1 kv.2) kvs
theorem KV.merge:∀ {more:List (Key×V)}{rs:List (Key×Value)}{kvs:List (Key×V)}{vs:List (Key×Value)},KV more rs->KV kvs vs->KV (ZQ kvs more) (merged vs rs):=by
 intro more rs kvs vs r
 unfold KV at r
 induction r generalizing kvs vs with
 |nil=>intro q;exact q
 | @cons p q ps qs h t ih=>
  intro r0
  have e:KV (ju kvs p.1 p.2) (stored vs q.1 q.2):=by
   have:=r0.put p.1 h.2
   rw[<- h.1];exact this
  exact ih e
theorem ZD:∀ (more kvs:List (Key×V)),(ZQ kvs more).length<=kvs.length+more.length
 |[],kvs=>by show kvs.length<=kvs.length+0;omega
 |p::r,kvs=>by
  have h1:=ZD r (ju kvs p.1 p.2)
  have h2:=jB kvs p.1 p.2
  show (ZQ (ju kvs p.1 p.2) r).length<=_
  rw[xp];omega
structure M1(X:Cx)(o:Expr)(m:Str)(apos:Pos)(e:Expr)(cpos:Pos):Prop where
 base:attributeBase o m X.env (eval o X.env)=eval o X.env
 few:((backTo cpos (starEach [e] X.env)).all (fun x=> !x.1)&&(backToKw cpos (keywordEach [] X.env)).all (fun x=>x.1.isSome)
  && decide (([e]:List Expr).length+([]:List Keyword).length+(if ([]:List Keyword).isEmpty then 0 else 1)<30))=true
 line:(apos.endLine==cpos.line)=true
 trees:backTo cpos (starEach [e] X.env)= [(false,eval e X.env)]
noncomputable def IsD(H:Hp)(a:Addr):Prop:=(∃ kvs,Rd H a (.dK kvs))∨∃ kvs,Rd H a (.dT kvs)
theorem K7{X:Cx}{pins:List (Addr×Obj)}{σ:St}{H:Hp}{s:Shared}{a:Addr}(I:Inv X pins σ H s)(d:IsD H a) :
  s.TypeIs (.ref a) "dict" /\(∀ b,Value.ref a=.ref b->∃ ob,s.heap.get? b=some ob/\ob.dict=none)/\(a==sysModules)=false:=by
 rcases d with ⟨kvs,e⟩ | ⟨kvs,e⟩
 ·obtain⟨_,hd,vs,_,dd⟩:=ZC I.hok e
  refine⟨dd.typeIs,fun b q=>?_,hd⟩
  cases q
  obtain⟨ob,_,_,h1,h2,_⟩:=dd
  exact⟨ob,h1,h2.2.1⟩
 ·obtain⟨_,hd,xs,_,dd⟩:=WS I.hok e
  refine⟨dd.typeIs,fun b q=>?_,hd⟩
  cases q
  obtain⟨ob,_,_,h1,h2,_⟩:=dd
  exact⟨ob,h1,h2.2.1⟩
section
variable {X:Cx} {pins:List (Addr×Obj)} {σ:St} {H:Hp} {s:Shared} {a:Addr} {y d:V} {u r:Value} {o:Option V} {A:Around} {E:Value->Shared->Prop}
end
section
variable {X:Cx} {o e f:Expr} {apos cpos:Pos} {td ty tx:TE}
end
section
variable {X:Cx} {pins:List (Addr×Obj)} {σ:St} {H:Hp} {s:Shared} {a:Addr} {kvs:List (Key×V)} {A:Around} {E:Value->Shared->Prop}
theorem KE {Q:Value->Shared->Prop}(I:Inv X pins σ H s) (e:Rd H a (.dK kvs)) (h:∀ p s',H p=none->Inv X pins σ (upd H p (.dK kvs)) s'->Q (.ref p) s'):wpAny (model X.prog X.w) A (call (.type "dict") [.ref a]) Q E s:=by
 obtain⟨z,hd,vs,rel,dd⟩:=ZC I.hok e
 refine kt_call_dict hd dd (by rw[<- rel.length];exact z) fun h' dd' hs=>?_
 refine h _ _ (I.hok.fresh (xh _)) (I.laid (a:=s.heap.objs.size) (o:=.dK kvs) (t':=s.toks) (fun b q hq=>?_) (xh _) (vD z (beq_eq_false_iff_ne.mpr (Ne.symm (xj I.big))) rel dd'))
 exact (hs.2 b (xj (Heap.lt_size hq))).trans (Heap.get?_push_of_some _ hq)
end
section
variable {X:Cx} {pins:List (Addr×Obj)} {σ:St} {H:Hp} {s:Shared} {a:Addr} {y:V} {u:Value} {A:Around} {E:Value->Shared->Prop}
end
section
variable {X:Cx}
end
theorem zH{α β:Type}[BEq α][LawfulBEq α]:∀ {l:List (α×β)}{x:α}{v:β},l.lookup x=some v->(x,v)∈l
 |[],_,_,h=>by simp at h
 | (a,b)::r,x,v,h=>by
  rw[xq]at h
  cases e:x==a with
  |true=>rw[e]at h;have e':=eq_of_beq e;subst e';cases h;exact xm
  |false=>rw[e]at h;exact xk _ (zH h)
theorem ZJ{env:Env}:∀ (names:List (Str×NameKind)) (cs:List (Str×Addr)),
    (∀ y∈names,y.2=.free->∃ c,env.cells.lookup y.1=some c)->(∀ x c,cs.lookup x=some c->env.cells.lookup x=some c) ->
    ∃ cl,(forIn names cs fun x r=>if (x.snd==NameKind.free)=true then do
                let z<-cellOf env x.fst
                pure (ForInStep.yield ((x.fst,z)::r))
              else pure (ForInStep.yield r):Sem (List (Str×Addr)))=pure cl/\(∀ x c,cl.lookup x=some c->env.cells.lookup x=some c) /\
      (∀ x,(∃ c,cs.lookup x=some c)∨(x,NameKind.free)∈names->∃ c,cl.lookup x=some c)
  |[],cs,_,h2=>⟨cs,by simp,h2,fun x hx=>by
      rcases hx with h | h
      · exact h
      · cases h⟩
  | (n,k)::r,cs,h1,h2=>by
    rw[List.forIn_cons]
    by_cases hk:k=.free
    · subst hk
      obtain⟨c,hc⟩:=h1 (n,.free) xm rfl
      have e:cellOf env n=pure c:=by unfold cellOf;rw[hc]
      obtain⟨cl,e1,h3,h4⟩:=ZJ r ((n,c)::cs) (fun y hy=>h1 y (xk _ hy)) (fun x c' hx=>by
        rw[xq]at hx
        cases q:x==n with
        |true=>rw[q]at hx;cases hx;rw[eq_of_beq q];exact hc
        |false=>rw[q]at hx;exact h2 x c' hx)
      refine⟨cl,?_,h3,fun x hx=>h4 x ?_⟩
      · simp only [beq_self_eq_true, if_true, e, pure_bind]
        exact e1
      · by_cases q : x = n
        · subst q;exact .inl ⟨c,by simp⟩
        · rcases hx with ⟨c', hx⟩ | hx
          · exact .inl ⟨c',by rw[xq,beq_eq_false_iff_ne.mpr q];exact hx⟩
          · rcases List.mem_cons.mp hx with z | z
            · exact absurd (congrArg Prod.fst z) q
            · exact .inr z
    · have hb : (k == NameKind.free) = false := by simpa using hk
      obtain⟨cl,e1,h3,h4⟩:=ZJ r cs (fun y hy=>h1 y (xk _ hy)) h2
      refine⟨cl,?_,h3,fun x hx=>h4 x ?_⟩
      · simp only [hb, Bool.false_eq_true, if_false, pure_bind]
        exact e1
      · rcases hx with hx | hx
        · exact .inl hx
        · rcases List.mem_cons.mp hx with z | z
          · exact absurd (congrArg Prod.snd z).symm hk
          · exact .inr z
theorem yp{sc:Scope}{env:Env}(h:∀ y∈sc.names,y.2=.free->∃ c,env.cells.lookup y.1=some c) :
  ∃ cl,closureFor sc env=pure cl/\(∀ x c,cl.lookup x=some c->env.cells.lookup x=some c)/\(∀ x,(x,NameKind.free)∈sc.names->∃ c,cl.lookup x=some c):=by
 obtain⟨cl,e,h1,h2⟩:=ZJ (env:=env) sc.names [] h (fun x c z=>by simp at z)
 refine⟨cl,?_,h1,fun x hx=>h2 x (.inr hx)⟩
 simp only[closureFor]
 rw[bind_pure]
 exact e
noncomputable def zbP (X:Cx) (C:Addr) (x:Value) (s':Shared):Prop:=∃ m,s'.heap.Ns C m/\∀ h',Heap.SameBut C s'.heap h'->∀ cenv:Env,cenv.locals=C->wpAny (model X.prog X.w) X.A (passOn "comprehension.variables-let-go" x cenv:Sem Value) (fun _ _=>False) X.xe { s' with heap:=h' }
noncomputable abbrev Cx.comp(X:Cx)(N':List Str)(scope:Scope)(cl:List (Str×Addr))(C:Addr)(s2:Shared)(H2:Hp)(fp:List Addr):Cx :=
 { X with N:=N',env:=compEnvC scope cl C X.env,s₀:=s2,H₀:=H2,outer:=X.stack,stack:=X.stack,ex:=fp,fn:=fun x=>decide (scope.names.lookup x=some .cell),pn:= [],xe:=notedBy (model X.prog X.w) X.A (compEnvC scope cl C X.env) (zbP X C) }
structure CSc(psc:Scope)(N:List Str)(sc:Scope)(N':List Str)(k:Nat)(ix:List Nat):Prop where
 kind:sc.kind=.function
 cel:∀ y∈sc.names,y.2=.cell->sc.names.lookup y.1=some .cell
 loc:∀ y∈sc.names,y.2=.local->sc.names.lookup y.1=some .local
 fre:∀ y∈sc.names,y.2=.free->psc.names.lookup y.1=some .cell∨psc.names.lookup y.1=some .free
 len:N'.length=k+ix.length
 nd:N'.Nodup
 cap:∀ (j i:Nat),ix[j]?=some i->∃ y,N'[k+j]?=some y/\N[i]?=some y/\sc.names.lookup y=some .free
noncomputable def Vr(psc:Scope)(N:List Str)(sc:Scope)(N':List Str)(k:Nat)(ix:List Nat):Bool :=
 decide (sc.kind=.function)&&sc.names.all (fun y=>(decide (y.2≠ .cell)||decide (sc.names.lookup y.1=some .cell))&&(decide (y.2≠ .local)||decide (sc.names.lookup y.1=some .local))&&(decide (y.2≠ .free)||decide (psc.names.lookup y.1=some .cell)||decide (psc.names.lookup y.1=some .free))) &&
 decide (N'.length=k+ix.length)&&decide N'.Nodup&&(List.range ix.length).all (fun j=>match N'[k+j]?,N[ix.getD j 0]? with
  |some y,some z=>decide (y=z)&&decide (sc.names.lookup y=some .free)
  |_,_=>false)
theorem CSc.of{psc:Scope}{N:List Str}{sc:Scope}{N':List Str}{k:Nat}{ix:List Nat}(h:Vr psc N sc N' k ix=true):CSc psc N sc N' k ix:=by
 unfold Vr at h
 simp only[xa,decide_eq_true_eq,xA,xD]at h
 obtain⟨⟨⟨⟨h1,h2⟩,h3⟩,h4⟩,h5⟩:=h
 refine⟨h1,fun y hy e=>?_,fun y hy e=>?_,fun y hy e=>?_,h3,h4,fun j i e=>?_⟩
 ·rcases (h2 y hy).1.1 with z | z
  ·exact absurd e z
  ·exact z
 ·rcases (h2 y hy).1.2 with z | z
  ·exact absurd e z
  ·exact z
 ·rcases (h2 y hy).2 with (z | z) | z
  ·exact absurd e z
  ·exact .inl z
  ·exact .inr z
 ·obtain⟨hj,ei⟩:=xb.mp e
  have:=h5 j (List.mem_range.mpr hj)
  have e2:ix.getD j 0=i:=by rw[xS,e];rfl
  rw[e2]at this
  split at this
  ·rename_i y z ey ez
   simp only[xa,decide_eq_true_eq]at this
   obtain⟨rfl,hl⟩:=this
   exact⟨y,ey,ez,hl⟩
  ·cases this
noncomputable def cS(k:Nat)(ix:List Nat)(σ:St):St:=List.replicate k none++ix.map fun i=>(σ[i]?).join
theorem Qc{env:Env}:∀ {names:List (Str×NameKind)}{x:Str},
    ((names.map fun (n,k)=>if (k==NameKind.free&&env.scope.kind==.function&&env.kindOf n==some .cell) then (n,NameKind.cell) else (n,k)).lookup x=some .cell ∨
     (names.map fun (n,k)=>if (k==NameKind.free&&env.scope.kind==.function&&env.kindOf n==some .cell) then (n,NameKind.cell) else (n,k)).lookup x=some .free)->names.lookup x=some .free∨names.lookup x=some .cell
  |[],_,h=>by simp at h
  | (n,k)::r,x,h=>by
    have ih:=@Qc env r x
    rw[xu]at h
    dsimp only at h
    by_cases hcd:(k==NameKind.free&&env.scope.kind==.function&&env.kindOf n==some .cell)=true
    · have hkf : k = .free := by
        simp only[xa]at hcd
        exact eq_of_beq hcd.1.1
      rw[if_pos hcd]at h
      cases hx:x==n with
      |true=>rw[xq,hx,hkf];exact .inl rfl
      |false=>simp only[xq,hx]at h;simp only[xq,hx];exact ih h
    · rw [if_neg hcd] at h
      cases hx:x==n with
      |true=>
        simp only[xq,hx]at h
        rw[xq,hx]
        rcases h with h | h
        · exact .inr h
        · exact .inl h
      |false=>simp only[xq,hx]at h;simp only[xq,hx];exact ih h
theorem Jw{env:Env}:∀ {names:List (Str×NameKind)}{x:Str},names.lookup x=some .free ->
    ((names.map fun (n,k)=>if (k==NameKind.free&&env.scope.kind==.function&&env.kindOf n==some .cell) then (n,NameKind.cell) else (n,k)).lookup x=some .cell ∨
     (names.map fun (n,k)=>if (k==NameKind.free&&env.scope.kind==.function&&env.kindOf n==some .cell) then (n,NameKind.cell) else (n,k)).lookup x=some .free)
  |[],_,h=>by simp at h
  | (n,k)::r,x,h=>by
    have ih:=@Jw env r x
    rw[xu]
    dsimp only
    cases hx:x==n with
    |true=>
      rw[xq,hx]at h
      cases h
      by_cases hcd:(NameKind.free==NameKind.free&&env.scope.kind==.function&&env.kindOf n==some .cell)=true
      · rw[if_pos hcd];simp[xq,hx]
      · rw[if_neg hcd];simp[xq,hx]
    |false=>
      rw[xq,hx]at h
      by_cases hcd:(k==NameKind.free&&env.scope.kind==.function&&env.kindOf n==some .cell)=true
      · rw[if_pos hcd];simp only[xq,hx];exact ih h
      · rw[if_neg hcd];simp only[xq,hx];exact ih h
structure ClOk(X:Cx)(sc:Scope)(cl:List (Str×Addr))(C:Addr)(h4:Heap):Prop where
 src:∀ x c,cl.lookup x=some c->X.env.cells.lookup x=some c∨(C<c/\h4.IsCell c none)
 inj:∀ x y c,cl.lookup x=some c->cl.lookup y=some c->x=y
 has:∀ x,(sc.names.lookup x=some .free∨sc.names.lookup x=some .cell)->∃ c,cl.lookup x=some c
 own:∀ x c,sc.names.lookup x=some .cell->cl.lookup x=some c->C<c
 old:∀ x c,sc.names.lookup x=some .free->cl.lookup x=some c->X.env.cells.lookup x=some c
theorem zL:∀ (names:List (Str×NameKind)) (n:Nat) (acc:List (Str×Addr)),cellsFrom n names acc=cellsFrom n names []++acc
 |[],n,acc=>rfl
 | (x,k)::r,n,acc=>by
  unfold cellsFrom
  split
  ·rw[zL r (n+1) ((x,n)::acc),zL r (n+1) [(x,n)],uq];rfl
  ·exact zL r n acc
theorem jg:∀ (names:List (Str×NameKind)) (n:Nat) (y:Str×Addr),y∈cellsFrom n names []->(y.1,NameKind.cell)∈names
 |[],n,y,h=>by cases h
 | (x,k)::r,n,y,h=>by
  unfold cellsFrom at h
  split at h
  ·rename_i hk
   rw[zL]at h
   rcases xQ.mp h with h | h
   ·exact xk _ (jg r _ y h)
   ·have e:y=(x,n):=by simpa using h
    subst e
    have hk':k=.cell:=eq_of_beq hk
    subst hk'
    exact xm
  ·exact xk _ (jg r _ y h)
theorem ZP{β:Type}:∀ (l1 l2:List (Str×β)) (x:Str),(l1++l2).lookup x=(match l1.lookup x with | some v=>some v | none=>l2.lookup x)
 |[],l2,x=>rfl
 | (a,b)::l1,l2,x=>by
  rw[List.cons_append,xq,xq]
  cases x==a with
  |true=>rfl
  |false=>exact ZP l1 l2 x
theorem Wy{M:Model}{A:Around}{E:Value->Shared->Prop}{s:Shared}{scope:Scope}{globals:Addr}{cl:List (Str×Addr)}{qual:Str}{env:Env}{builtins:Addr}{Q:Env->Shared->Prop}
  (hQ:Q (newEnv scope s.heap.objs.size globals (cellsFrom (s.heap.objs.size+1) scope.names cl) qual none .none (some env) builtins) { s with heap:=pushCells (s.heap.push { cls:=.type "dict",data:=.dict #[] }) scope.names }) :
  wpAny M A (newFunctionEnv scope globals cl [] qual none .none (some env) builtins) Q E s:=by
 simp only[newFunctionEnv,Option.isSome_some,if_true]
 refine wpAny_bind (wpAny_alloc ?_)
 refine wpAny_bind (wpAny_layCells _ (fun name kind cells=>by cases hkc:kind==NameKind.cell<;>simp[hkc]) _ _ _ _ ?_)
 rw[show ({ s with heap:=s.heap.push { cls:=.type "dict",data:=.dict #[] } }:Shared).heap.objs.size=s.heap.objs.size+1 from Heap.size_push ..]
 simp only[List.forIn_nil]
 exact wpAny_bind (wpAny_pure (wpAny_pure hQ))
section
variable {X:Cx} {pins:List (Addr×Obj)} {σ:St} {H:Hp} {s2:Shared}
theorem ClOk.of{sc:Scope}{N':List Str}{ix:List Nat}{k:Nat}(I:Inv X pins σ H s2)(S:CSc X.env.scope X.N sc N' k ix){cl:List (Str×Addr)}(hcl1:∀ x c,cl.lookup x=some c->X.env.cells.lookup x=some c)(hcl2:∀ x,(x,NameKind.free)∈sc.names->∃ c,cl.lookup x=some c)
  {g:Heap} {o:Obj} (hg:s2.heap.objs.size<=g.objs.size):ClOk X sc (cellsFrom (g.objs.size+1) sc.names cl) g.objs.size (pushCells (g.push o) sc.names):=by
 have ok:=cellsFrom_ok sc.names (g.push o) (g.objs.size+1) [] ⟨(fun _ _ hm=>nomatch hm),List.Pairwise.nil⟩ (by rw[Heap.size_push];exact xh _)
 rw[Heap.size_push]at ok
 rw[zL]
 have hnew:∀ x c,(cellsFrom (g.objs.size+1) sc.names []).lookup x=some c->g.objs.size<c/\(pushCells (g.push o) sc.names).IsCell c none/\(x,NameKind.cell)∈sc.names:=fun x c e=>by
  have hm:=zH e
  have:=ok.empty x c hm
  exact⟨Nat.lt_of_succ_le this.2,this.1,jg _ _ _ hm⟩
 have hold:∀ x c,cl.lookup x=some c->c<g.objs.size:=fun x c e=>by
  obtain⟨v,ob,hob,_⟩:=I.cell x c (hcl1 x c e)
  exact xl (Heap.lt_size hob) hg
 have hget:∀ x c,(cellsFrom (g.objs.size+1) sc.names []++cl).lookup x=some c->((cellsFrom (g.objs.size+1) sc.names []).lookup x=some c)∨((cellsFrom (g.objs.size+1) sc.names []).lookup x=none/\cl.lookup x=some c):=fun x c e=>by
  rw[ZP]at e
  cases q:(cellsFrom (g.objs.size+1) sc.names []).lookup x with
  |some v=>rw[q]at e;exact .inl e
  |none=>rw[q]at e;exact .inr ⟨rfl,e⟩
 have hnone:∀ x,sc.names.lookup x=some .free->(cellsFrom (g.objs.size+1) sc.names []).lookup x=none:=fun x hx=>by
  cases q:(cellsFrom (g.objs.size+1) sc.names []).lookup x with
  |none=>rfl
  |some c=>
   have:=S.cel (x,.cell) (hnew x c q).2.2 rfl
   rw[hx]at this;cases this
 refine⟨fun x c e=>?_,fun x y c e1 e2=>?_,fun x hx=>?_,fun x c hx e=>?_,fun x c hx e=>?_⟩
 ·rcases hget x c e with q | ⟨_,q⟩
  ·exact .inr ⟨(hnew x c q).1,(hnew x c q).2.1⟩
  ·exact .inl (hcl1 x c q)
 ·rcases hget x c e1 with q1 | ⟨_,q1⟩
  ·rcases hget y c e2 with q2 | ⟨_,q2⟩
   ·have m1:=zH q1
    have m2:=zH q2
    by_cases hxy:x=y
    ·exact hxy
    ·exfalso
     have:=ok.apart
     obtain⟨i,hi,ei⟩:=List.getElem_of_mem m1
     obtain⟨j,hj,ej⟩:=List.getElem_of_mem m2
     have pw:=List.pairwise_iff_getElem.mp this
     rcases Nat.lt_trichotomy i j with h | h | h
     ·have:=pw i j hi hj h
      rw[ei,ej]at this;exact this rfl
     ·subst h
      rw[ei]at ej
      exact hxy (congrArg Prod.fst ej)
     ·have:=pw j i hj hi h
      rw[ei,ej]at this;exact this rfl
   ·exact absurd (hold y c q2) (Nat.not_lt.mpr (xV (hnew x c q1).1))
  ·rcases hget y c e2 with q2 | ⟨_,q2⟩
   ·exact absurd (hold x c q1) (Nat.not_lt.mpr (xV (hnew y c q2).1))
   ·exact I.ok.inj x y c (hcl1 x c q1) (hcl1 y c q2)
 ·rw[ZP]
  rcases hx with hx | hx
  ·rw[hnone x hx]
   exact hcl2 x (zH hx)
  ·obtain⟨c,hc⟩:=Z6 (n:=g.objs.size+1) hx
   rw[hc];exact⟨c,rfl⟩
 ·rcases hget x c e with q | ⟨q,_⟩
  ·exact (hnew x c q).1
  ·obtain⟨c',hc⟩:=Z6 (n:=g.objs.size+1) hx
   rw[hc]at q;cases q
 ·rcases hget x c e with q | ⟨_,q⟩
  ·rw[hnone x hx]at q;cases q
  ·exact hcl1 x c q
theorem Inv.child{fp:List Addr}{sc:Scope}{N':List Str}{ix:List Nat}{k:Nat}(I:Inv X pins σ H s2)(S:CSc X.env.scope X.N sc N' k ix)(hf:∀ b∈fp,Qh X pins H b)
  (hfo:∀ b∈fp,∃ o,s2.heap.get? b=some o) {cl:List (Str×Addr)}
  {C:Addr} {s4:Shared} (L:ClOk X sc cl C s4.heap) (hC:s2.heap.objs.size<=C) (keep:∀ b o,s2.heap.get? b=some o->s4.heap.get? b=some o) {m0:Str->Option Value} (hns:s4.heap.Ns C m0) (ho:s4.os=s2.os) (hg:AllBare s4.gens) :
  Inv (X.comp N' sc cl C s2 H fp) [] (cS k ix σ) H s4 where
 ok:={
  mod:=I.ok.mod
  kind:=S.kind
  glob:=I.ok.glob
  blt:=I.ok.blt
  above:=hC
  inj:=L.inj
  has:=fun x hx=>L.has x (Qc (env:=X.env) hx)
  cab:=fun x c h e=>xE hC (xV (L.own x c (of_decide_eq_true h) e))
  hd:=I.ok.hd
  frames:=I.ok.frames
  stk:=.inl rfl
  exf:=fun b hb=>by
   obtain⟨f0,f1,f2,f3,f4,f5⟩:=hf b hb
   obtain⟨o,e⟩:=hfo b hb
   refine⟨xj (xl (Heap.lt_size e) hC),fun x c z=>?_⟩
   rcases L.src x c z with z | z
   ·exact f4 x c z
   ·exact Ne.symm (xj (Nat.lt_trans (xl (Heap.lt_size e) hC) z.1))
  bs:=fun b o e=>I.bs b o e
  bsz:=xE I.ok.bsz I.sz
  noex:=fun b o e hb=>by
   obtain⟨f0,f1,f2,f3,f4,f5⟩:=hf b hb
   rcases f3 with z | z
   ·exact I.ok.noex b o e z
   ·exact absurd (xl (Heap.lt_size (I.ok.bs b o e).1) z) (xO _)
  exfs:=fun b hb hz=>by
   obtain⟨f0,f1,f2,f3,f4,f5⟩:=hf b hb
   rcases xv.mp (I.stkSub b hz)with z | z
   ·exact f1 z
   ·exact f2 z
  funs:=I.stack
  frf:=I.stkFree }
 os:=ho
 bare:=hg
 base:=Un.kept keep
 loc:=⟨m0,hns,fun i x v e1 e2 e3=>by
  unfold cS at e2
  by_cases hi:i<k
  ·rw[xc (by simpa using hi),xz,if_pos hi]at e2
   cases e2
  ·obtain⟨j,rfl⟩:∃ j,i=k+j:=⟨i-k,by omega⟩
   rw[xf (by simp),xX,Nat.add_sub_cancel_left,xt]at e2
   cases q:ix[j]? with
   |none=>rw[q]at e2;cases e2
   |some i0=>
    rw[q]at e2
    obtain⟨y,hy1,hy2,hy3⟩:=S.cap j i0 q
    have ey:y=x:=by
     have:(X.comp N' sc cl C s2 H fp).N[k+j]?=some y:=hy1
     rw[this]at e1;exact Option.some.inj e1
    subst ey
    have ev:σ[i0]?=some (some v):=by
     simp only[ux,Option.some.injEq]at e2
     cases r:σ[i0]? with
     |none=>rw[r]at e2;cases e2
     |some z=>rw[r]at e2;exact congrArg some e2
    obtain⟨m,hn,hl⟩:=I.loc
    have hfr:=S.fre (y,.free) (zH hy3) rfl
    have hv:Vis X.env.scope y:=.inr hfr
    obtain⟨u,r1,l1⟩:=hl i0 y v hy2 ev hv
    refine⟨u,r1,.inr ⟨Jw (env:=X.env) hy3,?_⟩⟩
    obtain⟨c,hc⟩:=L.has y (.inl hy3)
    refine⟨c,hc,?_⟩
    have hc':=L.old y c hy3 hc
    rcases l1 with ⟨hk,_⟩ | ⟨_,c',hc2,z⟩
    ·have hk':X.env.scope.names.lookup y=some .local:=hk
     rcases hfr with w | w
     ·rw[hk']at w;cases w
     ·rw[hk']at w;cases w
    ·rw[hc']at hc2;cases hc2
     obtain⟨ob,hob,hd⟩:=z
     exact⟨ob,keep _ _ hob,hd⟩⟩
 cell:=fun x c e=>by
  rcases L.src x c e with e | e
  ·obtain⟨v,ob,hob,hd⟩:=I.cell x c e
   exact⟨v,ob,keep _ _ hob,hd⟩
  ·exact⟨none,e.2⟩
 free:=I.hok.fresh hC
 freeC:=fun x c e=>by
  rcases L.src x c e with e | e
  ·exact I.freeC x c e
  ·exact I.hok.fresh (xE hC (xV e.1))
 pin:=fun p hp=>by cases hp
 hok:=I.hok.kept keep
 len:=by
  show (cS k ix σ).length=N'.length
  rw[S.len];unfold cS;simp
theorem Inv.back{fp:List Addr}{sc:Scope}{N':List Str}{cl:List (Str×Addr)}{C:Addr}{pl:List (Addr×Obj)}{σc:St}{H5:Hp}{s5:Shared}(I:Inv X pins σ H s2)(hf:∀ b∈fp,Qh X pins H b)(J:Inv (X.comp N' sc cl C s2 H fp) pl σc H5 s5):Inv X pins σ H5 s5 :=
 I.call' (ch:=fp) J.os J.base J.hok J.bare fun b hb=>by
  obtain⟨f0,f1,f2,f3,f4,f5⟩:=hf b hb
  exact⟨f3,f1,f4,f5⟩
end
section
variable {X:Cx} {pins:List (Addr×Obj)} {σ:St} {H:Hp} {s:Shared}
theorem Inv.track{a:Addr}{o:HO}(I:Inv X pins σ H s)(ha:X.s₀.heap.objs.size<=a)(hn:H a=none)(hL:a≠X.env.locals)(hc:∀ x c,X.env.cells.lookup x=some c->c≠a)(hp:∀ p∈X.pn++pins,p.1≠a)
  (new:ObjOk X.prog X.w (upd H a o) s.heap a o):Inv X pins σ (upd H a o) s where
 ok:=I.ok
 os:=I.os
 bare:=I.bare
 base:={
  keep:=I.base.keep
  slot:=I.base.slot
  free:=fun b ob e n hx=>by
   rw[zc (xj (xl (Heap.lt_size e) ha))]
   exact I.base.free b ob e n hx
  there:=I.base.there
  tups:=fun b xs e=>by
   have:=I.base.tups b xs e
   rw[zc (zw this hn)];exact this
  frzs:=fun b ob u e=>by
   have:=I.base.frzs b ob u e
   rw[zc (zw this hn)];exact this
  tbls:=fun b ps e=>by
   obtain⟨mo,this⟩:=I.base.tbls b ps e
   exact⟨mo,by rw[zc (zw this hn)];exact this⟩ }
 loc:=I.loc
 cell:=I.cell
 free:=by rw[zc (Ne.symm hL)];exact I.free
 freeC:=fun x c e=>by rw[zc (hc x c e)];exact I.freeC x c e
 pin:=fun p h=>by
  obtain⟨e,n,r⟩:=I.pin p h
  exact⟨e,by rw[zc (hp p h)];exact n,r⟩
 hok:=fun b u q=>by
  by_cases hb:b=a
  ·subst hb;rw[ze]at q;cases q;exact new
  ·rw[zc hb]at q
   exact (I.hok b u q).stay (fun c v _ r=>r) (fun c r=>by rw[zc (zw r hn)];exact r) fun c xs r=>by rw[zc (zw r hn)];exact r
 len:=I.len
end
noncomputable def PF(X:Cx)(ifs:List Expr)(t:TT):Prop :=
 ∀ (pins:List (Addr×Obj)) (s:Shared) (σ:St) (H:Hp) (Q:Bool->Hp->Prop),Inv X pins σ H s->t σ H Q ->
  wpAny (model X.prog X.w) X.A (forIn ifs true fun c r=>if r=true then do let ok<-isTrue c X.env (eval c X.env);pure (ForInStep.yield ok) else pure (ForInStep.yield r)) (TP X pins σ Q) X.xe s
noncomputable def zhd:TT:=fun _ H Q=>Q true H
theorem pf_nil{X:Cx}:PF X [] zhd:=fun _ _ _ H _ I h=>wpAny_tests_nil ⟨H,I,h⟩
theorem zfi{X:Cx}{c:Expr}{t:TT}(h:PT X c t):PF X [c] t:=fun pins s σ H Q I hw=>wpAny_tests_one (h pins s σ H Q I hw)
theorem Vq{prog:Program}{w:World}{A:Around}{R:Result->Shared->Prop}{s:Shared}{e target iter:Expr}{ifs:List Expr}{it acc:Value}{env:Env}{act:Sem Unit}(hlp:∀ (R:Result->Shared->Prop) (s:Shared) (I:Nat->Shared->Prop) (n:Nat),(∀ n s,I n s->wpAny (model prog w) A ((compTurn e 0 it acc env).onRaise (fun x=>do noteFrame x env;theTreesLotGoes x)) (fun fin s'=>match fin with
   |.done f=>R (.ok f) s'
   |.again c'=>c'=Code.compLoop e 0 it acc env/\∃ m,m<n/\I m s') (fun e s'=>R (.error e) s') s)->I n s->codeAny (model prog w) A (.compLoop e 0 it acc env) R s)
  (heq:compTurn e 0 it acc env=(do
   standAt iter.pos
   match<-pyNext it with
   |none=>pure (.done .next)
   |some v=>
    letOwnedTupleGo target it v
    assign target env v
    let mut ok:=true
    for c in ifs do
     if ok then ok<-isTrue c env (eval c env)
    if ok then act
    again (.compLoop e 0 it acc env))) (I:Nat->Shared->Prop)
  (turn:∀ n s,I n s->wpAny (model prog w) A (pyNext it) (fun r s₁=>match r with
   |none=>R (.ok .next) s₁
   |some v=>wpAny (model prog w) A (letOwnedTupleGo target it v) (fun _ s₁=>wpAny (model prog w) A (assign target env v) (fun _ s₂=>
     wpAny (model prog w) A (forIn ifs true fun c r=>if r=true then do let ok<-isTrue c env (eval c env);pure (ForInStep.yield ok) else pure (ForInStep.yield r)) (fun ok s₃=>
      if ok=true then wpAny (model prog w) A act (fun _ s₅=>∃ m,m<n/\I m s₅) (notedBy (model prog w) A env fun e s'=>R (.error e) s') s₃
      else ∃ m,m<n/\I m s₃) (notedBy (model prog w) A env fun e s'=>R (.error e) s') s₂) (notedBy (model prog w) A env fun e s'=>R (.error e) s') s₁) (notedBy (model prog w) A env fun e s'=>R (.error e) s') s₁) (notedBy (model prog w) A env fun e s'=>R (.error e) s') s)
  (n:Nat) (h:I n s):codeAny (model prog w) A (.compLoop e 0 it acc env) R s:=by
 refine hlp R s I n (fun n s hI=>?_) h
 refine wpAny_noted ?_
 rw[heq]
 refine wpAny_bind (wpAny_standAt (wpAny_bind (wpAny_mono (turn n s hI) (fun r s₁ h₁=>?_) fun _ _ f=>f)))
 cases r with
 |none=>exact wpAny_pure h₁
 |some v=>
  refine wpAny_bind (wpAny_mono h₁ (fun _ s₂ h₂=>?_) fun _ _ f=>f)
  refine wpAny_bind (wpAny_mono h₂ (fun _ s₂ h₂=>wpAny_bind (wpAny_mono h₂ (fun ok s₃ h₃=>?_) fun _ _ f=>f)) fun _ _ f=>f)
  cases ok with
  |false=>exact wpAny_pure ⟨rfl,h₃⟩
  |true=>exact wpAny_bind (wpAny_mono h₃ (fun _ s₅ h₅=>wpAny_pure ⟨rfl,h₅⟩) fun _ _ f=>f)
structure Acc(α β:Type) where
 a0:α
 add:α->β->α
 len:α->Nat
 ho:α->HO
noncomputable def Wj{α β:Type}(ac:Acc α β)(k:Nat)(ix:List Nat)(g:TG)(tt:TT)(te:St->Hp->(β->Hp->Prop)->Prop)(σ:St)(J:It)(H1:Hp)(Q:α->Hp->Prop):Prop :=
 ∃ W:Nat->Nat->α->Hp->Prop,(∃ m,W 0 m ac.a0 H1)/\∀ i m ys H,W i m ys H->ac.len ys<sizeLine /\
  ((J.stop i H/\Q ys H)∨(J.go i H/\∃ N:α->Hp->Prop,(∀ ys' H',N ys' H'->∃ m',m'<m/\W (i+1) m' ys' H')/\∀ x H',J.yld i H x H'->g x (cS k ix σ) H' fun σ2 H2=>σ2.drop k=(cS k ix σ).drop k/\tt σ2 H2 fun b H3=>
   if b=true then te σ2 H3 fun y H4=>N (ac.add ys y) H4 else N ys H3))
noncomputable abbrev Km:Acc (List V) V:=⟨[],fun ys y=>ys++ [y],List.length,.lst⟩
noncomputable abbrev zbT:Acc (List (Key×V)) (Key×V):=⟨[],fun ys y=>ju ys y.1 y.2,List.length,.dK⟩
noncomputable def W5(k:Nat)(ix:List Nat)(wi:TI)(g:TG)(tt:TT)(te:TE):TE:=fun σ H Q=>
 wi σ H fun J H1=>Wj Km k ix g tt te σ J H1 fun ys H2=>∀ p,H2 p=none->Q (.ref p) (upd H2 p (.lst ys))
noncomputable def V1(tk tv:TE):St->Hp->(Key×V->Hp->Prop)->Prop:=fun σ H Q=>tk σ H fun x H1=>tv σ H1 fun y H2=>∃ k,x=kV k/\Q (k,y) H2
noncomputable def Jn(k:Nat)(ix:List Nat)(wi:TI)(g:TG)(tt:TT)(te:St->Hp->(Key×V->Hp->Prop)->Prop):TE:=fun σ H Q=>
 wi σ H fun J H1=>Wj zbT k ix g tt te σ J H1 fun ys H2=>∀ p,H2 p=none->Q (.ref p) (upd H2 p (.dK ys))
structure zei(P:Program)(w:World){α β γ:Type}(ac:Acc α β)(OK:α->Obj->Prop)(RB:β->γ->Prop)(o0:Obj)(na:Sem Value)(st:Addr->γ->Sem Unit):Prop where
 new:∀ (A:Around) (E:Value->Shared->Prop) (s:Shared) (Q:Value->Shared->Prop),Q (.ref s.heap.objs.size) { s with heap:=s.heap.push o0 }->wpAny (model P w) A na Q E s
 z0:OK ac.a0 o0
 live:o0.isFreed=false
 cell:∀ a o,OK a o->∀ v,o.data≠ .cell v
 st:∀ (A:Around) (E:Value->Shared->Prop) (s:Shared) (Q:Unit->Shared->Prop) (D:Addr) (a:α) (o:Obj) (y:β) (b:γ),OK a o->ac.len a<sizeLine->RB y b->s.heap.get? D=some o ->
  (∀ h' o' t',Heap.SameBut D s.heap h'->h'.get? D=some o'->OK (ac.add a y) o'->Q () { s with heap:=h',toks:=t' })->wpAny (model P w) A (st D b) Q E s
 ok:∀ (H:Hp) (h:Heap) (D:Addr) (a:α) (o:Obj),OK a o->ac.len a<=sizeLine->sysModules<D->h.get? D=some o->ObjOk P w H h D (ac.ho a)
noncomputable def PEv(X:Cx){β γ:Type}(RB:β->γ->Prop)(st:Addr->γ->Sem Unit)(act:Addr->Env->Sem Unit)(te:St->Hp->(β->Hp->Prop)->Prop):Prop:=∀ (D:Addr) (pins:List (Addr×Obj)) (s:Shared) (σ:St) (H:Hp) (Q:β->Hp->Prop) (R:Unit->Shared->Prop),Inv X pins σ H s->te σ H Q ->
 (∀ y b s' H',Inv X pins σ H' s'->RB y b->Q y H'->wpAny (model X.prog X.w) X.A (st D b) R X.xe s')->wpAny (model X.prog X.w) X.A (act D X.env) R X.xe s
section
variable {X:Cx} {pins:List (Addr×Obj)} {σ:St} {H:Hp} {s2:Shared}
theorem WP{α β γ:Type}{ac:Acc α β}{OK:α->Obj->Prop}{RB:β->γ->Prop}{o0:Obj}{na:Sem Value}{sto:Addr->γ->Sem Unit}{act:Addr->Env->Sem Unit}{e tg iter:Expr}{ifs:List Expr}{scope:Scope}{N':List Str}{k:Nat}{ix:List Nat}{g:TG}{tt:TT}{te:St->Hp->(β->Hp->Prop)->Prop}{cl:List (Str×Addr)}{it:Addr}{fp:List Addr}{tn:Nat->Heap->Prop}{J:It}
  {Q:α->Hp->Prop} {RR:Value->Addr->Result->Shared->Prop} {E:Value->Shared->Prop} (AK:zei X.prog X.w ac OK RB o0 na sto)
  (hlp:∀ (it acc:Value) (env:Env) (R:Result->Shared->Prop) (s:Shared) (I:Nat->Shared->Prop) (n:Nat),(∀ n s,I n s->wpAny (model X.prog X.w) X.A ((compTurn e 0 it acc env).onRaise (fun x=>do noteFrame x env;theTreesLotGoes x)) (fun fin s'=>match fin with
   |.done f=>R (.ok f) s'
   |.again c'=>c'=Code.compLoop e 0 it acc env/\∃ m,m<n/\I m s') (fun e s'=>R (.error e) s') s)->I n s->codeAny (model X.prog X.w) X.A (.compLoop e 0 it acc env) R s)
  (heq:∀ it D env,compTurn e 0 it (.ref D) env=(do
   standAt iter.pos
   match<-pyNext it with
   |none=>pure (.done .next)
   |some v=>
    letOwnedTupleGo tg it v
    assign tg env v
    let mut ok:=true
    for c in ifs do
     if ok then ok<-isTrue c env (eval c env)
    if ok then act D env
    again (.compLoop e 0 it (.ref D) env)))
  (hstart:∀ (R:Result->Shared->Prop) (s:Shared) (it acc:Value) (env:Env),codeAny (model X.prog X.w) X.A (.compLoop e 0 it acc env) R s->wpAny (model X.prog X.w) X.A (pyIter it) (fun it' s'=>codeAny (model X.prog X.w) X.A (.compLoop e 0 it' acc env) R s') (notedBy (model X.prog X.w) X.A env fun x s'=>R (.error x) s') s ->
   codeAny (model X.prog X.w) X.A (.compStart e 0 it acc env) R s) (hcalm:X.calm=true)
  (S:CSc X.env.scope X.N scope N' k ix)
  (hg:∀ cl C s2 H2 fp,PG (X.comp N' scope cl C s2 H2 fp) tg g) (ht:∀ cl C s2 H2 fp,PF (X.comp N' scope cl C s2 H2 fp) ifs tt) (he:∀ cl C s2 H2 fp,PEv (X.comp N' scope cl C s2 H2 fp) RB sto act te)
  (I2:Inv X pins σ H s2) (T:J7 X.prog X.w X.K tg J fp it tn) (st2:tn 0 s2.heap) (f2:∀ b∈fp,Qh X pins H b) (hR:Wj ac k ix g tt te σ J H Q)
  (hcl1:∀ x c,cl.lookup x=some c->X.env.cells.lookup x=some c) (hcl2:∀ x,(x,NameKind.free)∈scope.names->∃ c,cl.lookup x=some c)
  (herr:∀ (D C:Addr) (x:Value) (s':Shared),zbP X C x s'->RR (.ref D) C (.error x) s')
  (fin:∀ (D C:Addr) (ys:α) (H5:Hp) (s5:Shared) (m:Str->Option Value),Inv X pins σ (upd H5 D (ac.ho ys)) s5->Q ys H5->H5 D=none->s5.heap.Ns C m->C≠D->s2.heap.objs.size<=C->upd H5 D (ac.ho ys) C=none ->
   RR (.ref D) C (.ok .next) s5) :
  wpAny (model X.prog X.w) X.A na (fun acc s₃=>wpAny (model X.prog X.w) X.A (newFunctionEnv scope X.env.globals cl [] X.env.qual none .none (some X.env)) (fun cenv s₄=>
   codeAny (model X.prog X.w) X.A (.compStart e 0 (.ref it) acc { cenv with scope:=relabel scope X.env }) (RR acc cenv.locals) s₄) E s₃) E s2:=by
 refine AK.new _ _ _ _ (Wy ?_)
 dsimp only
 generalize hH2:s2.heap.push o0=G2
 have hC:G2.objs.size=s2.heap.objs.size+1:=by rw[<- hH2,Heap.size_push]
 have hDC:s2.heap.objs.size≠G2.objs.size:=by rw[hC];exact xj (uu _)
 have hCle:s2.heap.objs.size<=G2.objs.size:=by rw[hC];exact Nat.le_succ _
 have L:=ClOk.of I2 S hcl1 hcl2 (g:=G2) (o:={ cls:=.type "dict",data:=.dict #[] }) hCle
 have below:∀ b,b<s2.heap.objs.size->b≠G2.objs.size/\b≠s2.heap.objs.size:=fun b hb=>⟨by rw[hC];exact xj (Nat.lt_succ_of_lt hb),xj hb⟩
 have old:∀ b o,s2.heap.get? b=some o->(pushCells (G2.push { cls:=.type "dict",data:=.dict #[] }) scope.names).get? b=some o:=fun b o e=>pushCells_keeps _ _ b o (Heap.get?_push_of_some _ (hH2 ▸ Heap.get?_push_of_some _ e))
 have hacc:(pushCells (G2.push { cls:=.type "dict",data:=.dict #[] }) scope.names).get? s2.heap.objs.size=some o0:=pushCells_keeps _ _ _ _ (Heap.get?_push_of_some _ (hH2 ▸ Heap.get?_push_size _ AK.live))
 have hns₁:(pushCells (G2.push { cls:=.type "dict",data:=.dict #[] }) scope.names).Ns G2.objs.size _:=(Heap.Ns.new G2 (.type "dict")).keeps (pushCells_keeps _ _)
 generalize pushCells (G2.push { cls:=.type "dict",data:=.dict #[] }) scope.names=h₁ at L old hacc hns₁ |-
 generalize cellsFrom (G2.objs.size+1) scope.names cl=cl2 at L |-
 have st1:tn 0 h₁:=T.keep _ _ _ st2 fun b _ o e=>old b o e
 have hfo:∀ b∈fp,∃ o,s2.heap.get? b=some o:=fun b hb=>let ⟨o,e,_⟩:=T.obj _ _ st2 b hb;⟨o,e⟩
 have Ic:Inv (X.comp N' scope cl2 G2.objs.size s2 H fp) [] (cS k ix σ) H { s2 with heap:=h₁ } :=
  I2.child S f2 hfo L hCle old hns₁ rfl I2.bare
 -- the accumulator D,as a pin
 have dfs:s2.heap.objs.size∉(X.comp N' scope cl2 G2.objs.size s2 H fp).fs:=fun hz=>by
  rcases xv.mp (I2.stkSub _ hz)with z | z
  ·exact absurd I2.lt (by rw[<- z];exact xO _)
  ·exact I2.nofs (xh _) z
 have dcell:∀ x c,cl2.lookup x=some c->c≠s2.heap.objs.size:=fun x c e=>by
  rcases L.src x c e with e | e
  ·obtain⟨v,ob,hob,_⟩:=I2.cell x c e
   exact xj (Heap.lt_size hob)
  ·exact Ne.symm (xj (Nat.lt_of_le_of_lt hCle e.1))
 have dpin:∀ (ys:α) (ob:Obj) (σ':St) (H':Hp) (s':Shared),Inv (X.comp N' scope cl2 G2.objs.size s2 H fp) [] σ' H' s'->OK ys ob->s'.heap.get? s2.heap.objs.size=some ob->H' s2.heap.objs.size=none ->
   Inv (X.comp N' scope cl2 G2.objs.size s2 H fp) [(s2.heap.objs.size,ob)] σ' H' s':=fun ys ob σ' H' s' I' ok e hn=>I'.pins_of fun p hp=>by
  have e':p=(s2.heap.objs.size,ob):=by simpa using hp
  subst e'
  exact⟨e,hn,hDC,dfs,fun v z=>AK.cell _ _ ok v z⟩
 have fpc:∀ (ob:Obj) (H':Hp),(∀ b∈fp,H' b=none)->∀ b∈fp,Qh (X.comp N' scope cl2 G2.objs.size s2 H fp) [(s2.heap.objs.size,ob)] H' b:=fun ob H' hn b hb=>by
  obtain⟨f0,f1,f2',f3,f4,f5⟩:=f2 b hb
  obtain⟨o,e⟩:=hfo b hb
  have hb2:=below b (Heap.lt_size e)
  refine⟨hn b hb,hb2.1,fun hz=>?_,.inl hb,fun x c z=>?_,fun p hp=>?_⟩
  ·rcases xv.mp (I2.stkSub b hz)with z | z
   ·exact f1 z
   ·exact f2' z
  ·rcases L.src x c z with z | z
   ·exact f4 x c z
   ·exact Ne.symm (xj (Nat.lt_trans (xl (Heap.lt_size e) hCle) z.1))
  ·have e':p=(s2.heap.objs.size,ob):=by simpa using hp
   subst e'
   exact Ne.symm hb2.2
 obtain⟨W,⟨m0,w0⟩,turn⟩:=hR
 have loop:codeAny (model X.prog X.w) X.A (.compLoop e 0 (.ref it) (.ref s2.heap.objs.size) (compEnvC scope cl2 G2.objs.size X.env)) (RR (.ref s2.heap.objs.size) G2.objs.size)
   { s2 with heap:=h₁ }:=by
  have hxe:∀ x s',(X.comp N' scope cl2 G2.objs.size s2 H fp).xe x s'->notedBy (model X.prog X.w) X.A (compEnvC scope cl2 G2.objs.size X.env) (fun e s'=>RR (.ref s2.heap.objs.size) G2.objs.size (.error e) s') x s':=fun x s' h=>
   wpAny_mono h (fun _ s'' q=>herr _ _ _ _ q) fun _ s'' q=>herr _ _ _ _ q
  have thnX:∀ {τ:Type} {m:Sem τ} {Q1:τ->Shared->Prop} {Q2:τ->Shared->Prop} {s':Shared},wpAny (model X.prog X.w) X.A m Q1 (X.comp N' scope cl2 G2.objs.size s2 H fp).xe s'->(∀ v s'',Q1 v s''->Q2 v s'')->wpAny (model X.prog X.w) X.A m Q2 (notedBy (model X.prog X.w) X.A (compEnvC scope cl2 G2.objs.size X.env) (fun e s'=>RR (.ref s2.heap.objs.size) G2.objs.size (.error e) s')) s':=fun h k=>wpAny_mono h k hxe
  refine Vq (hlp _ _ _) (heq _ _ _) (fun n s'=>∃ i ys ob H',Inv (X.comp N' scope cl2 G2.objs.size s2 H fp) [(s2.heap.objs.size,ob)] (cS k ix σ) H' s'/\OK ys ob/\tn i s'.heap/\(∀ b∈fp,H' b=none)/\W i n ys H') ?_ m0
   ⟨0,_,o0,H,dpin _ _ _ _ _ Ic AK.z0 hacc (I2.hok.fresh (xh _)),AK.z0,st1,fun b hb=>(f2 b hb).1,w0⟩
  rintro n s3 ⟨i,ys,ob,H3,I3,rv,st3,fr3,w3⟩
  obtain⟨hlen,hw⟩:=turn i n ys H3 w3
  have hDn:H3 s2.heap.objs.size=none:=(I3.pin (s2.heap.objs.size,ob) (by simp)).2.1
  have hDe:s3.heap.get? s2.heap.objs.size=some ob:=(I3.pin (s2.heap.objs.size,ob) (by simp)).1
  rcases hw with ⟨stop,q⟩ | ⟨go,N,hN,step⟩
  ·refine thn (T.done (X.comp N' scope cl2 G2.objs.size s2 H fp) rfl rfl rfl hcalm i _ s3 _ H3 _ I3 (fpc _ _ fr3) st3 stop) fun r s4 ⟨hr,I4⟩=>?_
   subst hr
   have hDe4:s4.heap.get? s2.heap.objs.size=some ob:=(I4.pin (s2.heap.objs.size,ob) (by simp)).1
   have Ib:Inv X pins σ H3 s4:=I2.back f2 I4
   have hz:ac.len ys<=sizeLine:=xV hlen
   obtain⟨m',hn',_⟩:=I4.loc
   have It:Inv X pins σ (upd H3 s2.heap.objs.size (ac.ho ys)) s4:=Ib.track I2.sz hDn (Ne.symm (xj I2.lt)) (fun x c e=>by
    obtain⟨v,ob,hob,_⟩:=I2.cell x c e
    exact xj (Heap.lt_size hob)) (fun p hp=>xj (Heap.lt_size (I2.pin p hp).1)) (AK.ok _ _ _ _ _ rv hz I2.big hDe4)
   exact fin _ _ ys H3 s4 m' It q hDn hn' (Ne.symm hDC) hCle (by rw[zc (Ne.symm hDC)];exact I4.free)
  ·refine thn (T.item (X.comp N' scope cl2 G2.objs.size s2 H fp) rfl rfl rfl hcalm i _ s3 _ H3 _ I3 (fpc _ _ fr3) st3 go) fun r s4 ⟨u,hr,h4⟩=>?_
   subst hr
   refine thn h4 fun _ s5 ⟨x,H5,I5,r5,y5,st5,fr5⟩=>?_
   have I5':=I5.pinned (fpc ob H5 fr5) (T.obj _ _ st5)
   refine thnX (hg _ _ _ _ _ _ s5 _ H5 x u _ I5' r5 (step x H5 y5)) fun _ s6 ⟨σ6,H6,I6,hσ,q6⟩=>?_
   refine thnX (ht _ _ _ _ _ _ s6 σ6 H6 _ I6 q6) fun ok s7 ⟨H7,I7,q7⟩=>?_
   have wk:∀ {pl:List (Addr×Obj)} {H':Hp} {s':Shared},Inv (X.comp N' scope cl2 G2.objs.size s2 H fp) pl σ6 H' s'->Inv (X.comp N' scope cl2 G2.objs.size s2 H fp) pl (cS k ix σ) H' s':=fun {pl H' s'} I'=>
    I'.weak (by rw[Ic.len,I'.len]) fun j v ev=>by
     by_cases hj:j<k
     ·unfold cS at ev
      rw[xc (by simpa using hj),xz,if_pos hj]at ev
      cases ev
     ·obtain⟨j',rfl⟩:∃ j',j=k+j':=⟨j-k,by omega⟩
      rw[<- List.getElem?_drop,hσ,List.getElem?_drop]
      exact ev
   have itk:∀ {σ':St} {H':Hp} {s':Shared},Inv (X.comp N' scope cl2 G2.objs.size s2 H fp) ([(s2.heap.objs.size,ob)]++wU fp s5.heap) σ' H' s'->tn (i+1) s'.heap/\∀ b∈fp,H' b=none:=fun {σ' H' s'} I'=>
    ⟨T.keep _ _ _ st5 fun b hb o e=>(I'.pin (b,o) (xw _ (xw _ (qr hb e)))).1,fun b hb=>by
     obtain⟨o,e,_⟩:=T.obj _ _ st5 b hb
     exact (I'.pin (b,o) (xw _ (xw _ (qr hb e)))).2.1⟩
   cases ok with
   |false=>
    rw[if_neg (by decide)]at q7 |-
    obtain⟨m',hm,w7⟩:=hN _ _ q7
    obtain⟨t7,f7⟩:=itk I7
    exact⟨m',hm,i+1,ys,ob,H7,wk I7.unpinned,rv,t7,f7,w7⟩
   |true=>
    rw[if_pos rfl]at q7 |-
    refine thnX (he _ _ _ _ _ s2.heap.objs.size _ s7 σ6 H7 _ _ I7 q7 fun y b s8 H8 I8 r8 n8q=>?_) fun _ _ q=>q
    obtain⟨m',hm,w8⟩:=hN _ _ n8q
    obtain⟨t8,f8⟩:=itk I8
    have I8':Inv (X.comp N' scope cl2 G2.objs.size s2 H fp) [(s2.heap.objs.size,ob)] σ6 H8 s8:=I8.unpinned
    have e8:s8.heap.get? s2.heap.objs.size=some ob:=(I8'.pin (s2.heap.objs.size,ob) (by simp)).1
    have n8:H8 s2.heap.objs.size=none:=(I8'.pin (s2.heap.objs.size,ob) (by simp)).2.1
    refine AK.st _ _ s8 _ _ ys ob y b rv hlen r8 e8 fun h' o' t' sb e9 ok9=>?_
    have I8n:Inv (X.comp N' scope cl2 G2.objs.size s2 H fp) [] σ6 H8 s8:=I8'.pins_of fun p hp=>by cases hp
    have I9:Inv (X.comp N' scope cl2 G2.objs.size s2 H fp) [] σ6 H8 { s8 with heap:=h',toks:=t' } :=
     I8n.turned (t':=t') (fun b o hb e=>(sb.2 b hb).trans e) n8 hDC (.inr (xh _)) (fun x c e=>dcell x c e) (fun p hp=>by cases hp)
    refine⟨m',hm,i+1,_,o',H8,wk (dpin _ _ _ _ _ I9 ok9 e9 n8),ok9,?_,f8,w8⟩
    exact T.keep _ _ _ t8 fun b hb o e=>(sb.2 b (by
     obtain⟨o',e'⟩:=hfo b hb
     exact (below b (Heap.lt_size e')).2)).trans e
 exact hstart _ _ _ _ _ loop (T.self X.A 0 _ _ _ st1 loop)
noncomputable abbrev zgz (ys:List Value) (n:Nat):Obj:={ cls:=.type "list",data:=.seq ys.toArray n }
theorem YL {P:Program}{w:World}:zei P w Km (fun ys o=>∃ its n,Vals ys its/\o=zgz its n) RelV (zgz [] 0) (newList []) (fun D b=>do let _<-call (.builtin "list.append") [.ref D,b]) where
 new A E s Q h:=wpAny_newObj_type h
 z0:=⟨[],0,.nil,rfl⟩
 live:=rfl
 cell a o h v z:=by
  obtain⟨its,n,_,rfl⟩:=h
  cases z
 st A E s Q D a o y b h hl r e k:=by
  obtain⟨its,n,rv,rfl⟩:=h
  refine wpAny_bind (call_meets F.slot_list_append ⟨_,e,rfl⟩ F.entry_list_append (F.args_list_append_2 _ _) (PySem.list_append D its.toArray n b (by
   have:=rv.length
   have hl':a.length<sizeLine:=hl
   rw[xn];omega)) ⟨e,wpAny_pure ?_⟩)
  have q9:=PySem.IsL.update e (·.push b)
  rw[show its.toArray.push b=(its++ [b]).toArray by simp]at q9
  exact k _ _ _ ⟨by simp[Heap.update],fun c hc=>Heap.get?_update_other s.heap _ (Ne.symm hc)⟩ q9 ⟨its++ [b],_,rv.append (.cons r .nil),rfl⟩
 ok H h D a o hk hz _ e:=by
  obtain⟨its,n,rv,rfl⟩:=hk
  exact⟨hz,its,n,rv,e⟩
theorem YK {P:Program}{w:World}:zei P w zbT (fun ys o=>∃ vs,KV ys vs/\o.IsDictOf (zn P w) vs) (fun (y:Key×V) (b:Value×Value)=>RelV (kV y.1) b.1/\RelV y.2 b.2) { cls:=.type "dict",data:=.dict #[] } newDict (fun D b=>holding [b.1,b.2] (dictSet D b.1 b.2)) where
 new A E s Q h:=wpAny_newObj_type h
 z0:=by
  refine⟨[],.nil,?_⟩
  exact⟨#[],0,⟨rfl,rfl,rfl⟩,rfl,fun _ he=>by simp at he,Pairs.nil,List.nodup_nil⟩
 live:=rfl
 cell a o h v z:=by
  obtain⟨vs,_,es,ep,_,hd,_⟩:=h
  rw[hd]at z;cases z
 st A E s Q D a o y b h hl r e k:=by
  obtain⟨vs,rv,hd⟩:=h
  refine wpAny_holding (wpAny_dictSet_pairs (knd:=zn P w) (wI r.1) (Heap.dictOf_iff.mpr ⟨o,e,hd⟩) (fun h' dd sb=>?_) (by rw[<- rv.length];exact xV hl))
  obtain⟨o',e',r'⟩:=Heap.dictOf_iff.mp dd
  exact k h' o' _ sb e' ⟨_,rv.put y.1 r.2,r'⟩
 ok H h D a o hk hz hb e:=by
  obtain⟨vs,rv,hd⟩:=hk
  exact⟨hz,beq_eq_false_iff_ne.mpr (ug hb),vs,rv,Heap.dictOf_iff.mpr ⟨o,e,hd⟩⟩
theorem jh{X:Cx}{pins:List (Addr×Obj)}{σ:St}{H:Hp}{s:Shared}{scope:Scope}{N':List Str}{k:Nat}{ix:List Nat}(I:Inv X pins σ H s)(S:CSc X.env.scope X.N scope N' k ix) :
  ∃ cl,closureFor scope X.env=pure cl/\(∀ x c,cl.lookup x=some c->X.env.cells.lookup x=some c)/\(∀ x,(x,NameKind.free)∈scope.names->∃ c,cl.lookup x=some c) :=
 yp fun y hy e=>by
  rcases S.fre y hy e with z | z
  ·exact I.ok.has _ (.inl z)
  ·exact I.ok.has _ (.inr z)
theorem Inv.letgo{H5:Hp}{s5:Shared}{σ5:St}{C:Addr}{h':Heap}(I2:Inv X pins σ H s2)(I5:Inv X pins σ5 H5 s5)(hCs:s2.heap.objs.size<=C)(hCn:H5 C=none)(hs:Heap.SameBut C s5.heap h'):Inv X pins σ5 H5 { s5 with heap:=h' } :=
 I5.turned (t':=s5.toks) (it:=C) (fun b o hb e=>(hs.2 b hb).trans e) hCn (Ne.symm (xj (xl I2.lt hCs))) (.inr (xE I2.sz hCs))
  (fun x c e=>by
   obtain⟨v,ob,hob,_⟩:=I2.cell x c e
   exact xj (xl (Heap.lt_size hob) hCs))
  (fun p hp=>xj (xl (Heap.lt_size (I2.pin p hp).1) hCs))
end
section
variable {X:Cx} {elt tg iter:Expr} {ifs:List Expr} {scope:Scope} {pos:Pos} {N':List Str} {k:Nat} {ix:List Nat} {g:TG} {tt:TT} {te:TE} {wi:TI}
theorem yY{it:Value}{D:Addr}{env:Env}:compTurn (.ListComp elt [⟨tg,iter,ifs,0⟩] scope pos) 0 it (.ref D) env=(do
   standAt iter.pos
   match<-pyNext it with
   |none=>pure (.done .next)
   |some v=>
    letOwnedTupleGo tg it v
    assign tg env v
    let mut ok:=true
    for c in ifs do
     if ok then ok<-isTrue c env (eval c env)
    if ok then (do let _<-call (.builtin "list.append") [.ref D,<- eval elt env])
    again (.compLoop (.ListComp elt [⟨tg,iter,ifs,0⟩] scope pos) 0 it (.ref D) env)):=compTurn_list elt tg iter ifs scope pos it (.ref D) env
theorem zax {X:Cx}(he:PE X elt te):PEv X RelV (fun D b=>do let _<-call (.builtin "list.append") [.ref D,b]) (fun D env=>do let _<-call (.builtin "list.append") [.ref D,<- eval elt env]) te:=fun D pins s σ H Q R I h k=>
 wpAny_bind (wpAny_mono (he pins s σ H Q I h) (fun b s' ⟨y,H',I',r,q⟩=>k y b s' H' I' r q) fun _ _ z=>z)
theorem WR(hcalm:X.calm=true)(S:CSc X.env.scope X.N scope N' k ix)
  (hg:∀ cl C s2 H2 fp,PG (X.comp N' scope cl C s2 H2 fp) tg g) (ht:∀ cl C s2 H2 fp,PF (X.comp N' scope cl C s2 H2 fp) ifs tt) (he:∀ cl C s2 H2 fp,PE (X.comp N' scope cl C s2 H2 fp) elt te)
  {pins:List (Addr×Obj)} {σ:St} {H:Hp} {s2:Shared} {cl:List (Str×Addr)} {it:Addr} {fp:List Addr} {tn:Nat->Heap->Prop} {J:It} {Q:List V->Hp->Prop} {RR:Value->Addr->Result->Shared->Prop} {E:Value->Shared->Prop}
  (I2:Inv X pins σ H s2) (T:J7 X.prog X.w X.K tg J fp it tn) (st2:tn 0 s2.heap) (f2:∀ b∈fp,Qh X pins H b) (hR:Wj Km k ix g tt te σ J H Q)
  (hcl1:∀ x c,cl.lookup x=some c->X.env.cells.lookup x=some c) (hcl2:∀ x,(x,NameKind.free)∈scope.names->∃ c,cl.lookup x=some c)
  (herr:∀ (D C:Addr) (x:Value) (s':Shared),zbP X C x s'->RR (.ref D) C (.error x) s')
  (fin:∀ (D C:Addr) (ys:List V) (H5:Hp) (s5:Shared) (m:Str->Option Value),Inv X pins σ (upd H5 D (.lst ys)) s5->Q ys H5->H5 D=none->s5.heap.Ns C m->C≠D->s2.heap.objs.size<=C->upd H5 D (.lst ys) C=none->RR (.ref D) C (.ok .next) s5) :
  wpAny (model X.prog X.w) X.A (newList []) (fun acc s₃=>wpAny (model X.prog X.w) X.A (newFunctionEnv scope X.env.globals cl [] X.env.qual none .none (some X.env)) (fun cenv s₄=>
   codeAny (model X.prog X.w) X.A (.compStart (.ListComp elt [⟨tg,iter,ifs,0⟩] scope pos) 0 (.ref it) acc { cenv with scope:=relabel scope X.env }) (RR acc cenv.locals) s₄) E s₃) E s2 :=
 WP YL (act:=fun D env=>do let _<-call (.builtin "list.append") [.ref D,<- eval elt env]) (fun it acc env R s I n h h0=>codeAny_loop rfl I h n h0) (fun _ _ _=>yY) (fun R s it acc env h0 h=>codeAny_compStart_list h0 h) hcalm S hg ht (fun cl C s2 H2 fp=>zax (he cl C s2 H2 fp)) I2 T st2 f2 hR hcl1 hcl2 herr fin
theorem zcK(hcalm:X.calm=true)(S:CSc X.env.scope X.N scope N' k ix)(hi:PI X tg iter wi)
  (hg:∀ cl C s2 H2 fp,PG (X.comp N' scope cl C s2 H2 fp) tg g) (ht:∀ cl C s2 H2 fp,PF (X.comp N' scope cl C s2 H2 fp) ifs tt) (he:∀ cl C s2 H2 fp,PE (X.comp N' scope cl C s2 H2 fp) elt te)
  (hs:∀ x,foldedSetIterable iter X.env x=pure x:=by intro _;rfl):PE X (.ListComp elt [⟨tg,iter,ifs,0⟩] scope pos) (W5 k ix wi g tt te):=by
 intro pins s σ H Q I h
 obtain⟨cl,ecl,hcl1,hcl2⟩:=jh I S
 rw[eval_ListComp]
 refine wpAny_comprehension_free (use:=none) rfl hs ecl S.kind S.loc (thn (hi pins s σ H _ I h) fun v s1 h1=>thn h1 fun itv s2 h2=>?_)
 obtain⟨it,fp,tn,J,H2,e,I2,T,st2,f2,hR⟩:=h2
 subst e
 refine WR (RR:=fun acc C=>compPost (model X.prog X.w) X.A X.xe none (EP X pins σ Q) acc C) hcalm S hg ht he I2 T st2 f2 hR hcl1 hcl2 (fun D C x s' h=>h) ?_
 intro D C ys H5 s5 m I5 q hD hn hCD hCs hCn
 exact⟨m,hn,fun h' hs'=>⟨.ref D,upd H5 D (.lst ys),I2.letgo I5 hCs hCn hs',rfl,q D hD⟩⟩
theorem zcQ{i:Nat}{x:Str}{pos' spos:Pos}(hN:X.N.Nodup)(hi':X.N[i]?=some x)(hx:Loc X.env.scope x)(hcalm:X.calm=true)(S:CSc X.env.scope X.N scope N' k ix)(hi:PI X tg iter wi)
  (hg:∀ cl C s2 H2 fp,PG (X.comp N' scope cl C s2 H2 fp) tg g) (ht:∀ cl C s2 H2 fp,PF (X.comp N' scope cl C s2 H2 fp) ifs tt) (he:∀ cl C s2 H2 fp,PE (X.comp N' scope cl C s2 H2 fp) elt te)
  (hsw:swapsWith (.ListComp elt [⟨tg,iter,ifs,0⟩] scope pos) (some (.Name x pos')) spos.line X.env=pure true)
  (hs:∀ x,foldedSetIterable iter X.env x=pure x:=by intro _;rfl) (hf:X.fn x=true∨X.env.scope.names.lookup x=some .local:=by first | exact .inl rfl | exact .inr rfl | assumption) :
  PS X (.Assign [.Name x pos'] (.ListComp elt [⟨tg,iter,ifs,0⟩] scope pos) spos) (Va (W5 k ix wi g tt te) (wB i)):=by
 intro pins s σ H D' I h
 obtain⟨cl,ecl,hcl1,hcl2⟩:=jh I S
 rw[exec_Assign_Name_used _ _ _ _ hsw]
 refine wpAny_bind (wpAny_standAt (wpAny_bind ?_))
 show wpAny _ X.A (do let _<-comprehension (.ListComp elt [⟨tg,iter,ifs,0⟩] scope pos) scope X.env _ (newList []) false (eval iter X.env) (some (assign (.Name x pos') X.env))) _ _ s
 refine wpAny_bind (wpAny_mono (wpAny_comprehension_free (use:=some (assign (.Name x pos') X.env)) (Q:=fun _ s'=>SP X pins D' .next s') rfl hs ecl S.kind S.loc
  (thn (hi pins s σ H _ I h) fun v s1 h1=>thn h1 fun itv s2 h2=>?_)) (fun _ s' hq=>wpAny_pure (wpAny_pure hq)) fun _ _ e=>e)
 obtain⟨it,fp,tn,J,H2,e,I2,T,st2,f2,hR⟩:=h2
 subst e
 refine WR (RR:=fun acc C=>compPost (model X.prog X.w) X.A X.xe (some (assign (.Name x pos') X.env)) (fun _ s'=>SP X pins D' .next s') acc C) hcalm S hg ht he I2 T st2 f2 hR hcl1 hcl2 (fun D C x s' h=>h) ?_
 intro D C ys H5 s5 m I5 q hD hn hCD hCs hCn
 show wpAny _ X.A (assign (.Name x pos') X.env (.ref D)) _ _ s5
 refine wpAny_assign_Name (Jl (v:=.ref D) I5 hN hi' hx rfl (fun s' I' ⟨a,sb,ha⟩=>?_) hf)
 have hCa:C≠a:=by
  rcases ha with rfl | ha
  ·exact Ne.symm (xj (xl I2.lt hCs))
  ·obtain⟨v,ob,hob,_⟩:=I2.cell x a ha
   exact Ne.symm (xj (xl (Heap.lt_size hob) hCs))
 exact⟨m,hn.sameBut sb hCa,fun h' hs'=>⟨_,_,I2.letgo I' hCs hCn hs',q D hD⟩⟩
end
section
variable {X:Cx} {kx vx tg iter:Expr} {ifs:List Expr} {scope:Scope} {pos:Pos} {N':List Str} {k:Nat} {ix:List Nat} {g:TG} {tt:TT} {tk tv:TE} {wi:TI}
theorem zaw{X:Cx}(hk:PE X kx tk)(hv:PE X vx tv):PEv X (fun (y:Key×V) (b:Value×Value)=>RelV (kV y.1) b.1/\RelV y.2 b.2) (fun D b=>holding [b.1,b.2] (dictSet D b.1 b.2)) (fun D env=>do
   let kv<-eval kx env
   let vv<-holding [kv] (eval vx env)
   standAt { kx.pos with endLine:=vx.pos.endLine,endCol:=vx.pos.endCol }
   holding [kv,vv] (dictSet D kv vv)) (V1 tk tv):=fun D pins s σ H Q R I h kk=>
 wpAny_bind (wpAny_mono (hk pins s σ H _ I h) (fun kv s1 ⟨x,H1,I1,rx,q1⟩=>wpAny_bind (wpAny_holding (wpAny_mono (hv pins s1 σ H1 _ I1 q1) (fun vv s2 ⟨y,H2,I2,ry,k,ek,q2⟩=>
  wpAny_bind (wpAny_standAt (kk (k,y) (kv,vv) s2 H2 I2 ⟨by rw[<- ek];exact rx,ry⟩ q2))) fun _ _ z=>z))) fun _ _ z=>z)
theorem WQ(hcalm:X.calm=true)(S:CSc X.env.scope X.N scope N' k ix)
  (hg:∀ cl C s2 H2 fp,PG (X.comp N' scope cl C s2 H2 fp) tg g) (ht:∀ cl C s2 H2 fp,PF (X.comp N' scope cl C s2 H2 fp) ifs tt) (hk:∀ cl C s2 H2 fp,PE (X.comp N' scope cl C s2 H2 fp) kx tk) (hv:∀ cl C s2 H2 fp,PE (X.comp N' scope cl C s2 H2 fp) vx tv)
  {pins:List (Addr×Obj)} {σ:St} {H:Hp} {s2:Shared} {cl:List (Str×Addr)} {it:Addr} {fp:List Addr} {tn:Nat->Heap->Prop} {J:It} {Q:List (Key×V)->Hp->Prop} {RR:Value->Addr->Result->Shared->Prop} {E:Value->Shared->Prop}
  (I2:Inv X pins σ H s2) (T:J7 X.prog X.w X.K tg J fp it tn) (st2:tn 0 s2.heap) (f2:∀ b∈fp,Qh X pins H b) (hR:Wj zbT k ix g tt (V1 tk tv) σ J H Q)
  (hcl1:∀ x c,cl.lookup x=some c->X.env.cells.lookup x=some c) (hcl2:∀ x,(x,NameKind.free)∈scope.names->∃ c,cl.lookup x=some c)
  (herr:∀ (D C:Addr) (x:Value) (s':Shared),zbP X C x s'->RR (.ref D) C (.error x) s')
  (fin:∀ (D C:Addr) (ys:List (Key×V)) (H5:Hp) (s5:Shared) (m:Str->Option Value),Inv X pins σ (upd H5 D (.dK ys)) s5->Q ys H5->H5 D=none->s5.heap.Ns C m->C≠D->s2.heap.objs.size<=C->upd H5 D (.dK ys) C=none->RR (.ref D) C (.ok .next) s5) :
  wpAny (model X.prog X.w) X.A newDict (fun acc s₃=>wpAny (model X.prog X.w) X.A (newFunctionEnv scope X.env.globals cl [] X.env.qual none .none (some X.env)) (fun cenv s₄=>
   codeAny (model X.prog X.w) X.A (.compStart (.DictComp kx vx [⟨tg,iter,ifs,0⟩] scope pos) 0 (.ref it) acc { cenv with scope:=relabel scope X.env }) (RR acc cenv.locals) s₄) E s₃) E s2 :=
 WP YK (act:=fun D env=>do
   let kv<-eval kx env
   let vv<-holding [kv] (eval vx env)
   standAt { kx.pos with endLine:=vx.pos.endLine,endCol:=vx.pos.endCol }
   holding [kv,vv] (dictSet D kv vv)) (fun it acc env R s I n h h0=>codeAny_loop rfl I h n h0) (fun it D env=>compTurn_dict kx vx tg iter ifs scope pos it D env) (fun R s it acc env h0 h=>codeAny_compStart_dict h0 h) hcalm S hg ht (fun cl C s2 H2 fp=>zaw (hk cl C s2 H2 fp) (hv cl C s2 H2 fp)) I2 T st2 f2 hR hcl1 hcl2 herr fin
theorem zap(hcalm:X.calm=true)(S:CSc X.env.scope X.N scope N' k ix)(hi:PI X tg iter wi)
  (hg:∀ cl C s2 H2 fp,PG (X.comp N' scope cl C s2 H2 fp) tg g) (ht:∀ cl C s2 H2 fp,PF (X.comp N' scope cl C s2 H2 fp) ifs tt) (hk:∀ cl C s2 H2 fp,PE (X.comp N' scope cl C s2 H2 fp) kx tk) (hv:∀ cl C s2 H2 fp,PE (X.comp N' scope cl C s2 H2 fp) vx tv)
  (hs:∀ x,foldedSetIterable iter X.env x=pure x:=by intro _;rfl):PE X (.DictComp kx vx [⟨tg,iter,ifs,0⟩] scope pos) (Jn k ix wi g tt (V1 tk tv)):=by
 intro pins s σ H Q I h
 obtain⟨cl,ecl,hcl1,hcl2⟩:=jh I S
 show wpAny _ X.A (comprehension (.DictComp kx vx [⟨tg,iter,ifs,0⟩] scope pos) scope X.env _ newDict false (eval iter X.env)) _ _ s
 refine wpAny_comprehension_free (use:=none) rfl hs ecl S.kind S.loc (thn (hi pins s σ H _ I h) fun v s1 h1=>thn h1 fun itv s2 h2=>?_)
 obtain⟨it,fp,tn,J,H2,e,I2,T,st2,f2,hR⟩:=h2
 subst e
 refine WQ (RR:=fun acc C=>compPost (model X.prog X.w) X.A X.xe none (EP X pins σ Q) acc C) hcalm S hg ht hk hv I2 T st2 f2 hR hcl1 hcl2 (fun D C x s' h=>h) ?_
 intro D C ys H5 s5 m I5 q hD hn hCD hCs hCn
 exact⟨m,hn,fun h' hs'=>⟨.ref D,upd H5 D (.dK ys),I2.letgo I5 hCs hCn hs',rfl,q D hD⟩⟩
theorem zaC{i:Nat}{x:Str}{pos' spos:Pos}(hN:X.N.Nodup)(hi':X.N[i]?=some x)(hx:Loc X.env.scope x)(hcalm:X.calm=true)(S:CSc X.env.scope X.N scope N' k ix)(hi:PI X tg iter wi)
  (hg:∀ cl C s2 H2 fp,PG (X.comp N' scope cl C s2 H2 fp) tg g) (ht:∀ cl C s2 H2 fp,PF (X.comp N' scope cl C s2 H2 fp) ifs tt) (hk:∀ cl C s2 H2 fp,PE (X.comp N' scope cl C s2 H2 fp) kx tk) (hv:∀ cl C s2 H2 fp,PE (X.comp N' scope cl C s2 H2 fp) vx tv)
  (hsw:swapsWith (.DictComp kx vx [⟨tg,iter,ifs,0⟩] scope pos) (some (.Name x pos')) spos.line X.env=pure true)
  (hs:∀ x,foldedSetIterable iter X.env x=pure x:=by intro _;rfl) (hf:X.fn x=true∨X.env.scope.names.lookup x=some .local:=by first | exact .inl rfl | exact .inr rfl | assumption) :
  PS X (.Assign [.Name x pos'] (.DictComp kx vx [⟨tg,iter,ifs,0⟩] scope pos) spos) (Va (Jn k ix wi g tt (V1 tk tv)) (wB i)):=by
 intro pins s σ H D' I h
 obtain⟨cl,ecl,hcl1,hcl2⟩:=jh I S
 rw[exec_Assign_Name_used _ _ _ _ hsw]
 refine wpAny_bind (wpAny_standAt (wpAny_bind ?_))
 show wpAny _ X.A (do let _<-comprehension (.DictComp kx vx [⟨tg,iter,ifs,0⟩] scope pos) scope X.env _ newDict false (eval iter X.env) (some (assign (.Name x pos') X.env))) _ _ s
 refine wpAny_bind (wpAny_mono (wpAny_comprehension_free (use:=some (assign (.Name x pos') X.env)) (Q:=fun _ s'=>SP X pins D' .next s') rfl hs ecl S.kind S.loc
  (thn (hi pins s σ H _ I h) fun v s1 h1=>thn h1 fun itv s2 h2=>?_)) (fun _ s' hq=>wpAny_pure (wpAny_pure hq)) fun _ _ e=>e)
 obtain⟨it,fp,tn,J,H2,e,I2,T,st2,f2,hR⟩:=h2
 subst e
 refine WQ (RR:=fun acc C=>compPost (model X.prog X.w) X.A X.xe (some (assign (.Name x pos') X.env)) (fun _ s'=>SP X pins D' .next s') acc C) hcalm S hg ht hk hv I2 T st2 f2 hR hcl1 hcl2 (fun D C x s' h=>h) ?_
 intro D C ys H5 s5 m I5 q hD hn hCD hCs hCn
 show wpAny _ X.A (assign (.Name x pos') X.env (.ref D)) _ _ s5
 refine wpAny_assign_Name (Jl (v:=.ref D) I5 hN hi' hx rfl (fun s' I' ⟨a,sb,ha⟩=>?_) hf)
 have hCa:C≠a:=by
  rcases ha with rfl | ha
  ·exact Ne.symm (xj (xl I2.lt hCs))
  ·obtain⟨v,ob,hob,_⟩:=I2.cell x a ha
   exact Ne.symm (xj (xl (Heap.lt_size hob) hCs))
 exact⟨m,hn.sameBut sb hCa,fun h' hs'=>⟨_,_,I2.letgo I' hCs hCn hs',q D hD⟩⟩
end
class Cs where
 adr:Str->Addr
variable [Cs]
noncomputable def kK(p:Str×V):Key×V:=(.inr p.1,p.2)
noncomputable def dK(p:Str×PyData):PyData×PyData:=(.str p.1,p.2)
mutual
/-- the value v stands for the data d;no list of it lies in M -/
inductive Rep(M:Addr->Prop)(H:Hp):V->PyData->Prop
 |none:Rep M H .non .none
 |bool (b:Bool):Rep M H (.bl b) (.bool b)
 |int (i:Int):Rep M H (.int i) (.int i)
 |str (x:Str):Rep M H (.str x) (.str x)
 |list {a:Addr} {vs:List V} {ds:List PyData}:H a=some (.lst vs)->¬ M a->RepL M H vs ds->Rep M H (.ref a) (.list ds)
 |tuple {a:Addr} {vs:List V} {ds:List PyData}:H a=some (.tup vs)->RepL M H vs ds->Rep M H (.ref a) (.tuple ds)
 |dict {a:Addr} {kvs:List (Str×V)} {ds:List (Str×PyData)}:Rd H a (.dK (kvs.map kK))->¬ M a->kvs.map (·.1)=ds.map (·.1)->RepL M H (kvs.map (·.2)) (ds.map (·.2))->Rep M H (.ref a) (.dict (ds.map dK))
 |inst {a dx:Addr} {c:Str} {fs:List (Str×V)} {ds:List (Str×PyData)}:H a=some (.ins (Cs.adr c) dx fs)->¬ M a->fs.map (·.1)=ds.map (·.1)->RepL M H (fs.map (·.2)) (ds.map (·.2))->Rep M H (.ref a) (.dict ((.none,.str c)::ds.map dK))
inductive RepL(M:Addr->Prop)(H:Hp):List V->List PyData->Prop
 |nil:RepL M H [] []
 |cons {v:V} {vs:List V} {d:PyData} {ds:List PyData}:Rep M H v d->RepL M H vs ds->RepL M H (v::vs) (d::ds)
end
noncomputable def zgi(M:Addr->Prop)(H H':Hp):Prop:=∀ b o,¬ M b->H b=some o->H' b=some o
noncomputable def TupM(H H':Hp):Prop:=∀ b xs,H b=some (.tup xs)->H' b=some (.tup xs)
structure zej(M:Addr->Prop)(H H':Hp):Prop where
 same:zgi M H H'
 tups:TupM H H'
 stay:∀ b,H b≠none->H' b≠none
theorem Same.grow{M:Addr->Prop}{H H':Hp}(s:Same H H'):zej M H H' :=
 ⟨fun b o _ e=>s b o e,fun b xs e=>s b _ e,fun b h=>by
  cases q:H b with
  |none=>exact absurd q h
  |some o=>rw[s b o q];exact fun z=>nomatch z⟩
mutual
theorem Rep.grow{M:Addr->Prop}{H H':Hp}(g:zej M H H'):∀ {v:V}{d:PyData},Rep M H v d->Rep M H' v d
 |_,_,.none=>.none
 |_,_,.bool b=>.bool b
 |_,_,.int i=>.int i
 |_,_,.str x=>.str x
 |_,_,.list e n r=>.list (g.same _ _ n e) n (RepL.grow g r)
 |_,_,.tuple e r=>.tuple (g.tups _ _ e) (RepL.grow g r)
 |_,_,.dict e n k r=>.dict (e.imp (g.same _ _ n) fun ⟨o,z⟩=>⟨o,g.same _ _ n z⟩) n k (RepL.grow g r)
 |_,_,.inst e n k r=>.inst (g.same _ _ n e) n k (RepL.grow g r)
theorem RepL.grow{M:Addr->Prop}{H H':Hp}(g:zej M H H'):∀ {vs:List V}{ds:List PyData},RepL M H vs ds->RepL M H' vs ds
 |_,_,.nil=>.nil
 |_,_,.cons r t=>.cons (Rep.grow g r) (RepL.grow g t)
end
mutual
/-- fewer addresses may change;or one more that is not there -/
theorem Rep.less{M M':Addr->Prop}{H:Hp}(g:∀ b,M' b->H b≠none->M b):∀ {v:V}{d:PyData},Rep M H v d->Rep M' H v d
 |_,_,.none=>.none
 |_,_,.bool b=>.bool b
 |_,_,.int i=>.int i
 |_,_,.str x=>.str x
 |_,_,.list e n r=>.list e (fun z=>n (g _ z (by rw[e];exact fun z=>nomatch z))) (RepL.less g r)
 |_,_,.tuple e r=>.tuple e (RepL.less g r)
 |_,_,.dict e n k r=>.dict e (fun z=>n (g _ z (by rcases e with e | ⟨o,e⟩<;>rw[e]<;>exact fun z=>nomatch z))) k (RepL.less g r)
 |_,_,.inst e n k r=>.inst e (fun z=>n (g _ z (by rw[e];exact fun z=>nomatch z))) k (RepL.less g r)
theorem RepL.less{M M':Addr->Prop}{H:Hp}(g:∀ b,M' b->H b≠none->M b):∀ {vs:List V}{ds:List PyData},RepL M H vs ds->RepL M' H vs ds
 |_,_,.nil=>.nil
 |_,_,.cons r t=>.cons (Rep.less g r) (RepL.less g t)
end
theorem RepL.length{M:Addr->Prop}{H:Hp}:∀ {vs:List V}{ds:List PyData},RepL M H vs ds->vs.length=ds.length
 |_,_,.nil=>rfl
 |_,_,.cons _ t=>by rw[xp,xp,RepL.length t]
theorem RepL.append{M:Addr->Prop}{H:Hp}:∀ {vs ws:List V}{ds es:List PyData},RepL M H vs ds->RepL M H ws es->RepL M H (vs++ws) (ds++es)
 |_,_,_,_,.nil,s=>s
 |_,_,_,_,.cons r t,s=>.cons r (RepL.append t s)
theorem RepL.get{M:Addr->Prop}{H:Hp}:∀ {vs:List V}{ds:List PyData}{i:Nat}{v:V},RepL M H vs ds->vs[i]?=some v->∃ d,ds[i]?=some d/\Rep M H v d
 |_,_,_,_,.nil,e=>by simp at e
 |_,_,0,_,.cons r _,e=>by simp at e;subst e;exact⟨_,rfl,r⟩
 |_,_,i+1,v,.cons _ t,e=>by
  obtain⟨u,h1,h2⟩:=RepL.get (i:=i) (v:=v) t (by simpa using e)
  exact⟨u,by simpa using h1,h2⟩
theorem RepL.get'{M:Addr->Prop}{H:Hp}{vs:List V}{ds:List PyData}{i:Nat}{d:PyData}(r:RepL M H vs ds)(e:ds[i]?=some d):∃ v,vs[i]?=some v/\Rep M H v d:=by
 have hl:=r.length
 have hi:i<vs.length:=by rw[hl];exact (xb.mp e).1
 obtain⟨d',e',r'⟩:=r.get (i:=i) (v:=vs[i]) (by simp[hi])
 rw[e]at e';cases e'
 exact⟨vs[i],by simp[hi],r'⟩
theorem RepL.take{M:Addr->Prop}{H:Hp}:∀ {vs:List V}{ds:List PyData}(n:Nat),RepL M H vs ds->RepL M H (vs.take n) (ds.take n)
 |_,_,0,_=>.nil
 |_,_,_+1,.nil=>.nil
 |_,_,n+1,.cons r t=>.cons r (RepL.take n t)
theorem RepL.ints{M:Addr->Prop}{H:Hp}:∀ (ns:List Int),RepL M H (ns.map V.int) (ns.map PyData.int)
 |[]=>.nil
 |n::ns=>.cons (.int n) (RepL.ints ns)
mutual
theorem Rep.reads{P:Program}{w:World}{M:Addr->Prop}{H:Hp}{h:Heap}(ok:HOk P w H h):∀ {v:V}{d:PyData}{u:Value},Rep M H v d->d.canLay0=true->RelV v u->∃ as,Reads h u d as
 |_,_,_,.none,_,r=>by cases (show _=Value.none from r);exact⟨_,.none⟩
 |_,_,_,.bool b,_,r=>by cases (show _=Value.bool b from r);exact⟨_,.bool b⟩
 |_,_,_,.int i,_,r=>by obtain⟨t,e⟩:=(show ∃ t,_=Value.int i t from r);cases e;exact⟨_,.int i t⟩
 |_,_,_,.str x,_,r=>by obtain⟨t,e⟩:=(show ∃ t,_=Value.str x t from r);cases e;exact⟨_,.str x t⟩
 |_,_,_,.list (a:=a) (vs:=vs) e n q,l,r=>by
  cases (show _=Value.ref a from r)
  obtain⟨_,its,c,rv,ho⟩:=(show ObjOk P w H h a (.lst vs) from ok a _ e)
  obtain⟨as,z⟩:=RepL.reads ok q l rv
  exact⟨_,.list ho rfl rfl (by simpa using z)⟩
 |_,_,_,.tuple (a:=a) (vs:=vs) e q,l,r=>by
  cases (show _=Value.ref a from r)
  obtain⟨_,its,rv,o,ho,hc,c,hd⟩:=(show ObjOk P w H h a (.tup vs) from ok a _ e)
  obtain⟨as,z⟩:=RepL.reads ok q l rv
  exact⟨_,.tuple ho hc hd (by simpa using z)⟩
 |_,_,_,.dict e n k q,l,r=>by cases l
 |_,_,_,.inst e n k q,l,r=>by cases l
theorem RepL.reads{P:Program}{w:World}{M:Addr->Prop}{H:Hp}{h:Heap}(ok:HOk P w H h):∀ {vs:List V}{ds:List PyData}{us:List Value},RepL M H vs ds->PyData.canLayAll0 ds=true->Vals vs us->∃ as,ReadsAll h us ds as
 |_,_,_,.nil,_,r=>by cases r;exact⟨_,.nil⟩
 |_,_,_,.cons q t,l,r=>by
  have l':=xC.mp l
  cases r with
  |cons r rs=>
   obtain⟨as,z⟩:=Rep.reads ok q l'.1 r
   obtain⟨bs,y⟩:=RepL.reads ok t l'.2 rs
   exact⟨_,.cons z y⟩
end
section
variable (X:Cx)
noncomputable def wpE(e:Expr):TE:=fun σ H Q=>∀ (pins:List (Addr×Obj)) (s:Shared),Inv X pins σ H s->wpAny (model X.prog X.w) X.A (eval e X.env) (EP X pins σ Q) X.xe s
noncomputable def wpT(e:Expr):TT:=fun σ H Q=>∀ (pins:List (Addr×Obj)) (s:Shared),Inv X pins σ H s->wpAny (model X.prog X.w) X.A (isTrue e X.env (eval e X.env)) (TP X pins σ Q) X.xe s
noncomputable def wpW(e:Expr):TT:=fun σ H Q=>∀ (whole:Sem Value) (pins:List (Addr×Obj)) (s:Shared),Inv X pins σ H s->wpAny (model X.prog X.w) X.A (isTrue e X.env whole) (TP X pins σ Q) X.xe s
noncomputable def wpA(es:List Expr):TA:=fun σ H Q=>∀ (pos:Pos) (pins:List (Addr×Obj)) (s:Shared),Inv X pins σ H s->wpAny (model X.prog X.w) X.A (spliced (backTo pos (starEach es X.env))) (AP X pins σ Q) X.xe s
noncomputable def wpS(st:Stmt):TS:=fun D σ H=>∀ (pins:List (Addr×Obj)) (s:Shared),Inv X pins σ H s->wpAny (model X.prog X.w) X.A (exec st X.env) (SP X pins D) X.xe s
noncomputable def wpB(st:List Stmt):TS:=fun D σ H=>∀ (pins:List (Addr×Obj)) (s:Shared),Inv X pins σ H s->wpAny (model X.prog X.w) X.A (execs st X.env) (SP X pins D) X.xe s
noncomputable def wpG(tg:Expr):TG:=fun v σ H Q=>∀ (pins:List (Addr×Obj)) (s:Shared) (u:Value),Inv X pins σ H s->RelV v u->wpAny (model X.prog X.w) X.A (assign tg X.env u) (fun _ s'=>∃ σ' H',Inv X pins σ' H' s'/\Q σ' H') X.xe s
noncomputable def wpF(ifs:List Expr):TT:=fun σ H Q=>∀ (pins:List (Addr×Obj)) (s:Shared),Inv X pins σ H s ->
 wpAny (model X.prog X.w) X.A (forIn ifs true fun c r=>if r=true then do let ok<-isTrue c X.env (eval c X.env);pure (ForInStep.yield ok) else pure (ForInStep.yield r)) (TP X pins σ Q) X.xe s
noncomputable def wpI(tg iter:Expr):TI:=fun σ H R=>∀ (pins:List (Addr×Obj)) (s:Shared),Inv X pins σ H s ->
  wpAny (model X.prog X.w) X.A (eval iter X.env) (fun v s1=>wpAny (model X.prog X.w) X.A (pyIter v) (PIE X pins σ tg R) X.xe s1) X.xe s
end
section
variable {X:Cx} {e:Expr} {es:List Expr} {st:Stmt} {sts:List Stmt} {tg iter:Expr} {σ:St} {H:Hp}
theorem zb:PE X e (wpE X e):=fun pins s σ H Q I h=>h pins s I
theorem qi:PT X e (wpT X e):=fun pins s σ H Q I h=>h pins s I
theorem Yt:PW X e (wpW X e):=fun wh pins s σ H Q I h=>h wh pins s I
theorem jn:PA X es (wpA X es):=fun pos pins s σ H Q I h=>h pos pins s I
theorem Ys:PS X st (wpS X st):=fun pins s σ H D I h=>h pins s I
theorem zV:PSs X sts (wpB X sts):=fun pins s σ H D I h=>h pins s I
theorem vT:PG X tg (wpG X tg):=fun pins s σ H v u Q I r h=>h pins s u I r
theorem Qa:PI X tg iter (wpI X tg iter):=fun pins s σ H R I h=>h pins s I
theorem PE.wp{t:TE}{Q:VK}(h:PE X e t)(q:t σ H Q):wpE X e σ H Q:=fun pins s I=>h pins s σ H Q I q
theorem PT.wp{t:TT}{Q:Bool->Hp->Prop}(h:PT X e t)(q:t σ H Q):wpT X e σ H Q:=fun pins s I=>h pins s σ H Q I q
theorem PW.wp{t:TT}{Q:Bool->Hp->Prop}(h:PW X e t)(q:t σ H Q):wpW X e σ H Q:=fun wh pins s I=>h wh pins s σ H Q I q
theorem PA.wp{t:TA}{Q:List V->Hp->Prop}(h:PA X es t)(q:t σ H Q):wpA X es σ H Q:=fun pos pins s I=>h pos pins s σ H Q I q
theorem PS.wp{t:TS}{D:qf}(h:PS X st t)(q:t D σ H):wpS X st D σ H:=fun pins s I=>h pins s σ H D I q
theorem PSs.wp{t:TS}{D:qf}(h:PSs X sts t)(q:t D σ H):wpB X sts D σ H:=fun pins s I=>h pins s σ H D I q
theorem PG.wp{t:TG}{v:V}{Q:St->Hp->Prop}(h:PG X tg t)(q:t v σ H Q):wpG X tg v σ H Q:=fun pins s u I r=>h pins s σ H v u Q I r q
theorem PF.wp{ifs:List Expr}{t:TT}{Q:Bool->Hp->Prop}(h:PF X ifs t)(q:t σ H Q):wpF X ifs σ H Q:=fun pins s I=>h pins s σ H Q I q
theorem PI.wp{t:TI}{R:It->Hp->Prop}(h:PI X tg iter t)(q:t σ H R):wpI X tg iter σ H R:=fun pins s I=>h pins s σ H R I q
theorem wpE.mono{Q Q':VK}(h:wpE X e σ H Q)(k:∀ v H',Q v H'->Q' v H'):wpE X e σ H Q':=fun pins s I=>thn (h pins s I) fun u s' ⟨v,H',a,b,c⟩=>⟨v,H',a,b,k v H' c⟩
theorem wpA.mono{Q Q':List V->Hp->Prop}(h:wpA X es σ H Q)(k:∀ v H',Q v H'->Q' v H'):wpA X es σ H Q':=fun pos pins s I=>thn (h pos pins s I) fun u s' ⟨v,H',a,b,c⟩=>⟨v,H',a,b,k v H' c⟩
end
noncomputable def Al(M:Addr->Prop)(H:Hp):Prop:=∀ a,M a->H a≠none
inductive Ent where
 |d (x:PyData)
 |v (x:V)
noncomputable abbrev Ge:=List (Option Ent)
structure RS(M:Addr->Prop)(Γ:Ge)(σ:St)(H:Hp):Prop where
 al:Al M H
 at':∀ (i:Nat) (d:PyData),Γ[i]?=some (some (.d d))->∃ v,σ[i]?=some (some v)/\Rep M H v d
 av:∀ (i:Nat) (v:V),Γ[i]?=some (some (.v v))->σ[i]?=some (some v)
noncomputable def zgf(M:Addr->Prop)(H:Hp)(v:V):Ent->Prop
 |.d d=>Rep M H v d
 |.v u=>v=u
theorem RS.setE{M:Addr->Prop}{Γ:Ge}{σ:St}{H:Hp}{v:V}{z:Ent}{i:Nat}(h:RS M Γ σ H)(r:zgf M H v z)(hi:i<σ.length):RS M (Γ.set i (some z)) (σ.set i (some v)) H:=⟨h.al,fun j d' e=>by
 by_cases hj:j=i
 ·subst hj
  by_cases hl:j<Γ.length
  ·rw[xi hl]at e
   cases e
   exact⟨v,by rw[xi hi],r⟩
  ·rw[xo (by simpa using hl)]at e;cases e
 ·rw[xg (Ne.symm hj)]at e |-
  exact h.at' j d' e,fun j d' e=>by
 by_cases hj:j=i
 ·subst hj
  by_cases hl:j<Γ.length
  ·rw[xi hl]at e
   cases e
   rw[xi hi];exact congrArg (fun x=>some (some x)) r
  ·rw[xo (by simpa using hl)]at e;cases e
 ·rw[xg (Ne.symm hj)]at e |-
  exact h.av j d' e⟩
theorem RS.setV{M:Addr->Prop}{Γ:Ge}{σ:St}{H:Hp}{v:V}{i:Nat}(h:RS M Γ σ H)(hi:i<σ.length):RS M (Γ.set i (some (.v v))) (σ.set i (some v)) H:=h.setE rfl hi
section
variable {X:Cx} {Γ:Ge} {pos p:Pos} {a b c:Expr} {es:List Expr} {d d1 d2:PyData} {ds:List PyData}
theorem zr{H:Hp}{p:Addr}{o:HO}(n:H p=none):Same H (upd H p o):=fun b u e=>by rw[zc (zw e n)];exact e
theorem kq(hu:∀ n,n<=60->X.A.units+n<cLine):OpR X (compareOp .Eq) (fun x y H Q=>∃ M M' d1 d2,Rep M H x d1/\Rep M' H y d2/\d1.canLay0=true/\d2.canLay0=true/\min d1.depth d2.depth<=60/\Q (.bl (PyData.eqv d1 d2)) H):=by
 intro pins s σ H x y v u Q I rx ry h
 obtain⟨M,M',d1,d2,r1,r2,c1,c2,hd,q⟩:=h
 obtain⟨as,z1⟩:=r1.reads I.hok c1 rx
 obtain⟨bs,z2⟩:=r2.reads I.hok c2 ry
 exact SeqAt.compareEq_reads z1 z2 c1 c2 (hu _ hd) ⟨.bl _,H,I,rfl,q⟩
theorem kt(hu:∀ n,n<=60->X.A.units+n<cLine):OpR X (compareOp .NotEq) (fun x y H Q=>∃ M M' d1 d2,Rep M H x d1/\Rep M' H y d2/\d1.canLay0=true/\d2.canLay0=true/\min d1.depth d2.depth<=60/\Q (.bl (!PyData.eqv d1 d2)) H):=by
 intro pins s σ H x y v u Q I rx ry h
 obtain⟨M,M',d1,d2,r1,r2,c1,c2,hd,q⟩:=h
 obtain⟨as,z1⟩:=r1.reads I.hok c1 rx
 obtain⟨bs,z2⟩:=r2.reads I.hok c2 ry
 exact SeqAt.compareNe_reads z1 z2 c1 c2 (hu _ hd) ⟨.bl _,H,I,rfl,q⟩
theorem Room.u60{k:Nat}{A:Around}(r:Room k A):∀ n,n<=60->A.units+n<cLine:=fun n h=>by have:=r.units;omega
end
end L2
namespace PySem
open PySem.AutoSeq1 (wpAny_loadPart')
theorem V5(l:Addr)(items:Array Value)(n:Nat)(dd:Option Addr)(sl:Array (Option Value))(x:Int)(u:Tok)(hb1:¬ (decide (x< -(2 ^ 63))||decide (x≥2 ^ 63))=true)(hc0:¬ (items.isEmpty||x==1)=true)(hc1:¬ (decide (x<=0)||items.isEmpty)=true)(hc2:¬ (items.size:Int)*x>(2 ^ 63-1) / 8)(hc3:¬ Builtin.Tuple.tupleTooMany ((items.size:Int)*x)=true)(hsz:((List.replicate x.toNat items).foldl (·++·) #[]).size<=sizeLine) :
  Meets (Builtin.«tuple.__mul__» ⟨[.ref l,.int x u],[]⟩) (fun _ R s=>s.heap.get? l=some { cls:=.type "tuple",dict:=dd,data:=.seq items n,slots:=sl }/\R (.ok (.ret (Value.ref s.heap.objs.size))) { s with heap:=s.heap.push { cls:=Value.type "tuple",data:=Data.seq ((List.replicate x.toNat items).foldl (·++·) #[]) },toks:=s.toks }) :=
 .of_wp fun prog w A R s h=>by
  obtain⟨hp,g,d,tk,os⟩:=s;obtain⟨hl,h⟩:=h
  have f1:=AutoSeq1.idx_int
  wp_walk using wpAny_loadPart' hl
  refine wpAny_ite_false (decide_eq_false hb1) ?_
  wp_walk using wpAny_loadPart' hl
  first | (refine wpAny_ite_false (decide_eq_false hc2) ?_;wp_walk using wpAny_loadPart' hl) | skip
  first | (refine wpAny_ite_false (decide_eq_false (Nat.not_lt.mpr hsz)) ?_;wp_walk using wpAny_loadPart' hl) | skip
  exact⟨_,rfl,h⟩
theorem V3(l:Addr)(items:Array Value)(n:Nat)(dd:Option Addr)(sl:Array (Option Value))(x:Int)(u:Tok)(hb1:¬ (decide (x< -(2 ^ 63))||decide (x≥2 ^ 63))=true)(hc0:(items.isEmpty||x==1)=true) :
  Meets (Builtin.«tuple.__mul__» ⟨[.ref l,.int x u],[]⟩) (fun _ R s=>s.heap.get? l=some { cls:=.type "tuple",dict:=dd,data:=.seq items n,slots:=sl }/\R (.ok (.ret (Value.ref l))) { s with heap:=s.heap,toks:=s.toks }) :=
 .of_wp fun prog w A R s h=>by
  obtain⟨hp,g,d,tk,os⟩:=s;obtain⟨hl,h⟩:=h
  have f1:=AutoSeq1.idx_int
  wp_walk using wpAny_loadPart' hl
  refine wpAny_ite_false (decide_eq_false hb1) ?_
  wp_walk using wpAny_loadPart' hl
  exact⟨_,rfl,h⟩
theorem V4(l:Addr)(items:Array Value)(n:Nat)(dd:Option Addr)(sl:Array (Option Value))(x:Int)(u:Tok)(hb1:¬ (decide (x< -(2 ^ 63))||decide (x≥2 ^ 63))=true)(hc0:¬ (items.isEmpty||x==1)=true)(hc1:(decide (x<=0)||items.isEmpty)=true) :
  Meets (Builtin.«tuple.__mul__» ⟨[.ref l,.int x u],[]⟩) (fun _ R s=>s.heap.get? l=some { cls:=.type "tuple",dict:=dd,data:=.seq items n,slots:=sl }/\R (.ok (.ret (Value.ref s.heap.objs.size))) { s with heap:=s.heap.push { cls:=Value.type "tuple",data:=Data.seq #[] },toks:=s.toks }) :=
 .of_wp fun prog w A R s h=>by
  obtain⟨hp,g,d,tk,os⟩:=s;obtain⟨hl,h⟩:=h
  have f1:=AutoSeq1.idx_int
  wp_walk using wpAny_loadPart' hl
  refine wpAny_ite_false (decide_eq_false hb1) ?_
  wp_walk using wpAny_loadPart' hl
  exact⟨_,rfl,h⟩
theorem Z9:fillsNumberSlot (.type "tuple") "mul" =pure false :=
 fillsNumberSlot_seq (id:= "tuple.__mul__") (r:=some (.builtin "tuple.__rmul__")) F.slot_tuple_mul.lookup (by decide +kernel) F.slot_tuple_rmul.lookup (by decide +kernel)
theorem Wu:seqRepeat? (.type "tuple")=pure (some (.builtin "tuple.__mul__")):=by
 unfold seqRepeat?
 rw[seqSlot_of (T:= "tuple") (name:= "__mul__") (id:= "tuple.__mul__") F.slot_tuple_mul.lookup (by decide +kernel),seqSlot_of (T:= "tuple") (name:= "__rmul__") (id:= "tuple.__rmul__") F.slot_tuple_rmul.lookup (by decide +kernel)]
 rfl
theorem JQ(a:Int)(t:Tok)(l:Addr)(items:Array Value)(n:Nat)(dd:Option Addr)(sl:Array (Option Value)) :
  Meets (Builtin.«int.__rmul__» ⟨[.int a t,.ref l],[]⟩) (fun _ R s=>s.heap.get? l=some { cls:=.type "tuple",dict:=dd,data:=.seq items n,slots:=sl }/\R (.ok (.ret Value.notImplemented)) s) :=
 .of_wp fun prog w A R s h=>by obtain⟨hp,g,d,tk,os⟩:=s;obtain⟨hl,h⟩:=h;wp_walk using wpAny_loadPart' hl;exact⟨_,rfl,h⟩
end PySem
namespace L2
open PySem PySem.Spec PyProof.Rows
variable [Cs]
section
variable {X:Cx}
noncomputable def zgO(K:PySem.W.Frag):R2:=fun x y H Q=>∃ l k xs,x=.ref l/\y=.int k/\SqT K H l xs/\ -(2 ^ 63)<=k/\k<2 ^ 63/\xs.length*k.toNat<=sizeLine /\
 ((xs= []∨k=1)->Q (.ref l) H)/\∀ p,H p=none->Q (.ref p) (upd H p (.tup (List.replicate k.toNat xs).flatten))
theorem zcF:OpR X (binaryOp .Mult) (zgO X.K):=by
 intro pins s σ H x y v u Q I rx ry h
 obtain⟨l,k,xs,rfl,rfl,hH,h1,h2,hz,qs,q⟩:=h
 cases rx
 obtain⟨t,rfl⟩:=ry
 obtain⟨its,r,hit,hzz⟩:=I.tuple hH
 have hl:=r.length
 obtain⟨⟨cls,dd,data,sl⟩,ho,hc,n,hd⟩:=id hit
 simp only at hc hd
 subst hc hd
 have hb1:¬ (decide (k< -(2 ^ 63))||decide (k≥2 ^ 63))=true:=by
  simp only[xD,decide_eq_true_eq];omega
 have hnew:List.foldl (fun x1 x2=>x1++x2) #[] (List.replicate k.toNat its.toArray)=(List.replicate k.toNat its).flatten.toArray:=by
  have:=Jb its k.toNat []
  rw[List.nil_append]at this
  exact this
 refine wpAny_binaryOp_repeat_ref (T:= "tuple") (U:= "int") (by decide) ⟨_,ho,rfl⟩ (fun s'=>typeIs_int s' k t) Z9 F.fills_int_mul F.slot_int_rmul Wu F.slot_int_index.lookup
  (call_meets F.slot_int_rmul (typeIs_int s k t) F.entry_int_rmul (F.args_int_rmul_2 _ _) (JQ k t l its.toArray n dd sl) ⟨ho,rfl,⟨_,ho,rfl⟩,?_⟩)
 by_cases hc0:(its.toArray.isEmpty||k==1)=true
 ·refine call_meets F.slot_tuple_mul ⟨_,ho,rfl⟩ F.entry_tuple_mul (F.args_tuple_mul_2 _ _) (V3 l its.toArray n dd sl k t hb1 hc0) ⟨ho,?_⟩
  refine⟨.ref l,H,I,rfl,qs ?_⟩
  simp only[xD,beq_iff_eq]at hc0
  rcases hc0 with z | z
  ·left
   have:its= []:=by simpa using z
   subst this
   exact List.eq_nil_of_length_eq_zero hl
  ·exact .inr z
 ·by_cases hc1:(decide (k<=0)||its.toArray.isEmpty)=true
  ·refine call_meets F.slot_tuple_mul ⟨_,ho,rfl⟩ F.entry_tuple_mul (F.args_tuple_mul_2 _ _) (V4 l its.toArray n dd sl k t hb1 hc0 hc1) ⟨ho,?_⟩
   have e0:(List.replicate k.toNat xs).flatten= []:=by
    simp only[xD,decide_eq_true_eq]at hc1
    rcases hc1 with z | z
    ·rw[show k.toNat=0 by omega];rfl
    ·exact absurd (by simp[z]) hc0
   refine⟨.ref s.heap.objs.size,_,I.laid (t':=s.toks) (o:=.tup []) (fun b u e=>Heap.get?_push_of_some _ e) (xh _) ?_,rfl,by have:=q _ (I.hok.fresh (xh _));rw[e0]at this;exact this⟩
   exact⟨xT _,[],.nil,⟨_,Heap.get?_push_size _ rfl,rfl,_,rfl⟩⟩
  ·have hlen:its.length*k.toNat<=sizeLine:=by rw[<- hl];exact hz
   have hk0:0<k:=by
    simp only[xD,decide_eq_true_eq]at hc1;omega
   have hm:((its.toArray.size:Int)*k)=((its.length*k.toNat:Nat):Int):=by
    rw[xn]
    have:k=(k.toNat:Int):=by omega
    rw[Int.natCast_mul,<- this]
   have hsl:(sizeLine:Nat)<=(2 ^ 63-1) / 8:=by decide
   have hc2:¬ (its.toArray.size:Int)*k>(2 ^ 63-1) / 8:=by
    rw[hm]
    have h63:((2 ^ 63-1) / 8:Int)=(((2 ^ 63-1) / 8:Nat):Int):=by decide
    rw[h63]
    intro z
    have:=Int.ofNat_lt.mp z
    omega
   have hc3:¬ Builtin.Tuple.tupleTooMany ((its.toArray.size:Int)*k)=true:=by
    unfold Builtin.Tuple.tupleTooMany
    rw[hm,decide_eq_true_eq]
    intro z
    have:=Int.ofNat_lt.mp z
    omega
   refine call_meets F.slot_tuple_mul ⟨_,ho,rfl⟩ F.entry_tuple_mul (F.args_tuple_mul_2 _ _) (V5 l its.toArray n dd sl k t hb1 hc0 hc1 hc2 hc3 (by rw[hnew,xn,vL,Nat.mul_comm];exact hlen)) ⟨ho,?_⟩
   rw[hnew]
   refine⟨.ref s.heap.objs.size,_,I.laid (t':=s.toks) (o:=.tup (List.replicate k.toNat xs).flatten) (fun b u e=>Heap.get?_push_of_some _ e) (xh _) ?_,rfl,q _ (I.hok.fresh (xh _))⟩
   exact⟨by rw[vL,Nat.mul_comm];exact hz,_,r.rep k.toNat,⟨_,Heap.get?_push_size _ rfl,rfl,_,rfl⟩⟩
theorem RepL.rep{M:Addr->Prop}{H:Hp}{vs:List V}{ds:List PyData}(h:RepL M H vs ds):∀ k:Nat,RepL M H (List.replicate k vs).flatten (List.replicate k ds).flatten
 |0=>.nil
 |k+1=>by rw[xM,xM,xU,xU];exact h.append (RepL.rep h k)
theorem Rep.tup_inv{M:Addr->Prop}{H:Hp}{v:V}{ds:List PyData}(r:Rep M H v (.tuple ds)):∃ a vs,v=.ref a/\H a=some (.tup vs)/\RepL M H vs ds:=by
 cases r with
 |tuple e q=>exact⟨_,_,rfl,e,q⟩
theorem Rep.lst_inv{M:Addr->Prop}{H:Hp}{v:V}{ds:List PyData}(r:Rep M H v (.list ds)):∃ a vs,v=.ref a/\H a=some (.lst vs)/\¬ M a/\RepL M H vs ds:=by
 cases r with
 |list e n q=>exact⟨_,_,rfl,e,n,q⟩
variable {Γ:Ge} {pos p p2:Pos} {a b c:Expr} {es:List Expr} {d d1 d2:PyData} {ds ds1 ds2:List PyData}
noncomputable def zfu(K:PySem.W.Frag):R2:=fun x y H Q=>∃ a b xs ys,x=.ref a/\y=.ref b/\SqT K H a xs/\SqT K H b ys/\xs.length+ys.length<=sizeLine/\(xs= []->Q (.ref b) H)/\(ys= []->Q (.ref a) H)/\∀ p,H p=none->Q (.ref p) (upd H p (.tup (xs++ys)))
theorem zak:OpR X (binaryOp .Add) (zfu X.K):=by
 intro pins s σ H x y v u Q I rx ry h
 obtain⟨a,b,xs,ys,rfl,rfl,ha,hb,hz,q0,q1,q⟩:=h
 cases rx
 cases ry
 obtain⟨its,r,hit,_⟩:=I.tuple ha
 obtain⟨its2,r2,hit2,_⟩:=I.tuple hb
 by_cases hv:its= []
 ·obtain⟨⟨cls,dd,data,sl⟩,ho,hc,n,hd⟩:=id hit
  obtain⟨⟨cls2,dd2,data2,sl2⟩,ho2,hc2,n2,hd2⟩:=id hit2
  simp only at hc hd hc2 hd2
  subst hc hd hc2 hd2
  refine concat_meets ⟨_,ho,rfl⟩ ⟨_,ho2,rfl⟩ noFill_tuple_add seq_tuple_add PySem.F.slot_tuple_add PySem.F.entry_tuple_add (PySem.F.args_tuple_add_2 _ _)
   (tuple_addW0 a b its.toArray its2.toArray n n2 dd dd2 sl sl2 (by simp[hv])) ⟨ho,ho2,⟨.ref b,H,I,rfl,q0 ?_⟩⟩
  exact r.nil_iff.mp hv
 ·refine HT.cat_tup hit hit2 hv (fun hw=>⟨.ref a,H,I,rfl,q1 (r2.nil_iff.mp hw)⟩) (fun _=>?_) (by rw[<- r.length,<- r2.length];exact hz)
  refine⟨.ref s.heap.objs.size,_,I.laid (t':=s.toks) (o:=.tup (xs++ys)) (fun b u e=>Heap.get?_push_of_some _ e) (xh _) ?_,rfl,q _ (I.hok.fresh (xh _))⟩
  exact⟨by rw[xK];exact hz,_,r.append r2,⟨_,Heap.get?_push_size _ rfl,rfl,_,rfl⟩⟩
theorem vf{M:Addr->Prop}{H:Hp}{vs:List V}{ds:List PyData}{i:Int}{d:PyData}(r:RepL M H vs ds)(h:atI ds i=some d):∃ v,atI vs i=some v/\Rep M H v d:=by
 unfold atI at h |-
 rw[r.length]
 cases e:ixN ds.length i with
 |none=>rw[e]at h;cases h
 |some j=>
  rw[e]at h
  exact r.get' h
end
noncomputable def tyD:PyData->String
 |.none=> "NoneType"
 |.bool _=> "bool"
 |.int _=> "int"
 |.str _=> "str"
 |.list _=> "list"
 |.tuple _=> "tuple"
 |.dict _=> "dict"
theorem Rep.ty {K:PySem.W.Frag}{M:Addr->Prop}{H:Hp}{v:V}{d:PyData}(r:Rep M H v d) (hd:tyD d≠ "dict"):ZY K H v (.type (tyD d)):=by
 cases r with
 |none=>exact .non
 |bool b=>exact .bl b
 |int i=>exact .int i
 |str x=>exact .str x
 |list e n q=>exact .lst e
 |tuple e q=>exact .tup e
 |dict _ _ _ _=>exact absurd rfl hd
 |inst _ _ _ _=>exact absurd rfl hd
section
variable {X:Cx}
theorem KB:jv X (.builtin "isinstance") (fun xs H Q=>∃ x T t k,xs= [x,.ty T]/\ZY X.K H x t/\PySem.W.kitOne X.K t (.type T)=some k/\Q (.bl k) H):=by
 intro pins s σ H xs us Q I r h
 obtain⟨x,T,t,k,rfl,ty,e,q⟩:=h
 obtain⟨u,w',rfl,rx,rc⟩:=zhg r
 cases (show w'=Value.type T from rc)
 exact Y7 I rx ty e fun tk=>⟨.bl k,H,I.tok tk,rfl,q⟩
variable {Γ:Ge} {pos p p2:Pos} {a b c:Expr} {es:List Expr} {d d1 d2:PyData} {ds ds1 ds2:List PyData}
theorem kF(bs:List Bool):(List.range bs.length).all (fun i=>(bs[i]?).getD false)=bs.all id:=by
 have e:(List.range bs.length).map (fun i=>(bs[i]?).getD false)=bs:=by
  apply List.ext_getElem
  ·simp
  ·intro i h1 h2
   simp[h2]
 have h:=congrArg (fun l=>List.all l id) e
 rw[List.all_map]at h
 exact h
theorem zdQ{bs:List Bool}{its:List Value}(rv:Vals (bs.map V.bl) its){i:Nat}{v:Value}(e:its[i]?=some v):∃ b,bs[i]?=some b/\v=.bool b:=by
 have hi:i<its.length:=(xb.mp e).1
 have hl:=rv.length
 rw[xr]at hl
 have hb:i<bs.length:=by omega
 obtain⟨u,hu,ru⟩:=rv.get (i:=i) (x:=V.bl bs[i]) (by simp[hb])
 rw[e]at hu;cases hu
 exact⟨bs[i],by simp[hb],ru⟩
theorem YT (hc:X.calm=true):jv X (.builtin "all") (fun xs H Q=>∃ (p:Addr) (bs:List Bool),xs= [.ref p]/\SqL X.K H p (bs.map V.bl)/\Q (.bl (bs.all id)) H):=by
 intro pins s σ H xs us Q I r h
 obtain⟨p,bs,rfl,hq,q⟩:=h
 obtain⟨u,rfl,rx⟩:=Qg r
 cases rx
 obtain⟨its,rv,pl,hz⟩:=I.list hq
 have hne:p≠s.heap.objs.size:=by
  obtain⟨o,n,e,_⟩:=pl
  exact xj (Heap.lt_size e)
 have hl:=rv.length
 rw[xr]at hl
 refine call_all_walk (wpAny_pyIter_list pl.isList ⟨s.heap.objs.size,_,_,_,_,_,fun i=>(bs[i]?).getD false,rfl,Walks.list (A:=X.A.in1) (show X.A.in1.handled=none from I.ok.hd hc) s.heap.objs.size p hne its.toArray,
  ⟨⟨_,Heap.get?_push_size _ rfl,rfl,rfl⟩,pl.isList.at fun o e=>Heap.get?_push_of_some _ e⟩,fun i v s' Q' E' hP hQ=>?_,fun h' tk hk=>?_⟩)
 ·obtain⟨b,hb,rfl⟩:=zdQ rv (by simpa using hP)
  dsimp only at hQ;rw[hb]at hQ
  exact wpAny_truthy_bool hQ
 ·rw[xn,<- hl,kF]
  refine⟨.bl _,H,I.kept (t':=tk) fun b o e=>hk b o ?_ (Heap.get?_push_of_some _ e),rfl,q⟩
  intro z
  rw[List.mem_singleton]at z
  exact absurd (Heap.lt_size e) (by rw[z];exact xO _)
theorem RepL.bls{M:Addr->Prop}{H:Hp}:∀ {vs:List V}{bs:List Bool},RepL M H vs (bs.map PyData.bool)->vs=bs.map V.bl
 |_,[],.nil=>rfl
 |_,b::bs,.cons q t=>by cases q;rw[xu,<- RepL.bls t]
theorem YO:bootBuiltins "all" =some (.builtin "all"):=by decide +kernel
theorem ZI:bootBuiltins "list" =some (.type "list"):=by decide +kernel
theorem Vo:bootBuiltins "tuple" =some (.type "tuple"):=by decide +kernel
theorem YQ:bootBuiltins "int" =some (.type "int"):=by decide +kernel
theorem ym:bootBuiltins "bool" =some (.type "bool"):=by decide +kernel
end
section
variable {X:Cx} {Γ:Ge} {tg iter a b:Expr} {ds:List PyData} {p pos:Pos}
noncomputable def zm(n:Nat):List PyData:=(List.range n).map fun (i:Nat)=>PyData.int (i:Int)
theorem zo(n:Nat):(zm n).length=n:=by simp[zm]
theorem jo{n i:Nat}{d:PyData}(h:(zm n)[i]?=some d):i<n/\d=.int (i:Int):=by
 unfold zm at h
 rw[xt]at h
 have hi:i<n:=by
  cases e:(List.range n)[i]? with
  |none=>rw[e]at h;cases h
  |some j=>simpa using (xb.mp e).1
 rw[ub hi]at h
 exact⟨hi,(Option.some.inj h).symm⟩
end
noncomputable def zf8(X:Cx)(ts:List Expr):TGs:=fun vs σ H Q=>∀ (pins:List (Addr×Obj)) (s:Shared) (us:List Value),Inv X pins σ H s->Vals vs us ->
  wpAny (model X.prog X.w) X.A (assignInOrder ((assignEach ts X.env).map (·.2)) us) (fun _ s'=>∃ σ' H',Inv X pins σ' H' s'/\Q σ' H') X.xe s
theorem wS{X:Cx}{ts:List Expr}:PGs X ts (zf8 X ts):=fun pins s σ H vs us Q I r h=>h pins s us I r
theorem PGs.wp{X:Cx}{ts:List Expr}{t:TGs}{vs:List V}{σ:St}{H:Hp}{Q:St->Hp->Prop}(h:PGs X ts t)(q:t vs σ H Q):zf8 X ts vs σ H Q:=fun pins s us I r=>h pins s σ H vs us Q I r q
section
variable {X:Cx} {k:Nat} {Γ Γ1 Γ2:Ge} {tg:Expr} {ts:List Expr} {d:PyData} {ds:List PyData} {pos:Pos}
end
theorem Ky{k:Nat}{ix:List Nat}{σ:St}{j i0:Nat}{v:V}(q:ix[j]?=some i0)(h:σ[i0]?=some (some v)):(cS k ix σ)[k+j]?=some (some v):=by
 unfold cS
 rw[xf (by simp),xX,Nat.add_sub_cancel_left,xt,q]
 simp[h]
section
variable {X:Cx} {elt tg iter:Expr} {ifs:List Expr} {scope:Scope} {pos:Pos} {N':List Str} {k:Nat} {ix:List Nat} {Γ:Ge} {ds:List PyData} {M:Addr->Prop} {σ:St} {H:Hp} {Q:VK}
noncomputable def gU(X:Cx)(N':List Str)(scope:Scope)(tg:Expr):TG:=fun v σ H Q=>∀ cl C s2 H2 fp,wpG (X.comp N' scope cl C s2 H2 fp) tg v σ H Q
noncomputable def fU(X:Cx)(N':List Str)(scope:Scope)(ifs:List Expr):TT:=fun σ H Q=>∀ cl C s2 H2 fp,wpF (X.comp N' scope cl C s2 H2 fp) ifs σ H Q
noncomputable def eU(X:Cx)(N':List Str)(scope:Scope)(elt:Expr):TE:=fun σ H Q=>∀ cl C s2 H2 fp,wpE (X.comp N' scope cl C s2 H2 fp) elt σ H Q
theorem VS(hcalm:X.calm=true)(S:CSc X.env.scope X.N scope N' k ix)(hf:∀ x,foldedSetIterable iter X.env x=pure x:=by intro _;rfl) :
    PE X (.ListComp elt [⟨tg,iter,ifs,0⟩] scope pos) (W5 k ix (wpI X tg iter) (gU X N' scope tg) (fU X N' scope ifs) (eU X N' scope elt)) :=
  zcK hcalm S Qa (fun cl C s2 H2 fp pins s σ H v u Q I r h=>h cl C s2 H2 fp pins s u I r) (fun cl C s2 H2 fp pins s σ H Q I h=>h cl C s2 H2 fp pins s I)
    (fun cl C s2 H2 fp pins s σ H Q I h=>h cl C s2 H2 fp pins s I) hf
theorem zcR{i:Nat}{x:Str}{pos' spos:Pos}(hN:X.N.Nodup)(hi':X.N[i]?=some x)(hx:Loc X.env.scope x)(hcalm:X.calm=true)(S:CSc X.env.scope X.N scope N' k ix)
  (hsw:swapsWith (.ListComp elt [⟨tg,iter,ifs,0⟩] scope pos) (some (.Name x pos')) spos.line X.env=pure true) (hs:∀ x,foldedSetIterable iter X.env x=pure x:=by intro _;rfl)
  (hf:X.fn x=true∨X.env.scope.names.lookup x=some .local:=by first | exact .inl rfl | exact .inr rfl | assumption) :
  PS X (.Assign [.Name x pos'] (.ListComp elt [⟨tg,iter,ifs,0⟩] scope pos) spos) (Va (W5 k ix (wpI X tg iter) (gU X N' scope tg) (fU X N' scope ifs) (eU X N' scope elt)) (wB i)) :=
 zcQ hN hi' hx hcalm S Qa (fun cl C s2 H2 fp pins s σ H v u Q I r h=>h cl C s2 H2 fp pins s u I r) (fun cl C s2 H2 fp pins s σ H Q I h=>h cl C s2 H2 fp pins s I)
  (fun cl C s2 H2 fp pins s σ H Q I h=>h cl C s2 H2 fp pins s I) hsw hs hf
end
inductive Out where
 |next (Γ:Ge)
 |ret (d:PyData)
 |new (ds:List PyData)
section
variable {X:Cx} {Γ Γ1:Ge} {st:Stmt} {sts body els:List Stmt} {o:Out} {d:PyData} {e c tg:Expr} {pos:Pos}
end
structure Kn(P:Program)(w:World)(K:PySem.W.Frag)(mg:Str->Option Value)(base:Heap)(CX:CXT)(x:Str)(k:Nat)(sp:Sp):Prop where
 ex:∃ (f:Addr) (fd:FuncData) (ps:List Str),FnOk P w K mg base CX k f fd ps sp/\mg x=some (.ref f)/\PySem.W.keepIn K (.ref f)=true/\Binds K fd ps []
section
variable {X:Cx} {Γ:Ge} {x:Str} {k:Nat} {CX:CXT} {E:XK} {n:Nat} {pre:List PyData->Prop} {e:Expr} {es:List Expr} {ds:List PyData} {p pos:Pos}
theorem zdS {sp:Sp}{σ:St}{H:Hp}{Q:VK}(kn:Kn X.prog X.w X.K X.mg X.base CX x k sp) (hr:Room k X.A) (hg:Gl X x) (hx:W9 CX X E) (h:wpA X (e::es) σ H fun vs H1=>sp vs H1 Q E) (hdb:(x==("__debug__" :Str))=false:=by decide)
    (he:starEach (e::es) X.env=(false,eval e X.env)::starEach es X.env:=by rfl) (hpl:(backTo pos (starEach es X.env)).any (·.1)=false:=by rfl):wpE X (.Call (.Name x p) (e::es) [] pos) σ H Q:=by
  obtain⟨f,fd,ps,F,hm,hk,hb⟩:=kn.ex
  refine (zcI F hr hg hm hk hb .nil hx jn hdb he hpl).wp (h.mono fun vs H1 q=>?_)
  show sp (vs++ []) H1 Q E
  rw[xL];exact q
end
theorem v9{N:List Str}{vs:List V}(h:vs.length<=N.length):(start N vs).length=N.length:=by
 unfold start;simp;omega
structure Df(K:PySem.W.Frag)(mg:Str->Option Value)(x:Str)(st:Stmt)(ps:List Str):Prop where
 ex:∃ f fd,Fun K x x st f fd/\mg x=some (.ref f)/\Binds K fd ps []
section
variable {P:Program} {w:World} {K:PySem.W.Frag} {mg:Str->Option Value} {base:Heap} {x:Str} {st:Stmt} {N ps:List Str} {k:Nat}
theorem Df.kn{sp:Sp}(D:Df K mg x st ps)(S:qw N ps (defScope st))(len:∀ vs H Q E,sp vs H Q E->vs.length=ps.length)
  (hbody:∀ (f:Addr) (cdv:Value) (A:Around) (outer:List Env) (s:Shared) (H:Hp) (vs:List V) (Q:VK) (E:XK),Room k (A.deeper (envOfC x (defScope st) s.heap.objs.size f cdv))->sp vs H Q E ->
   wpB (ZK CX0 P w K mg base N x (defScope st) f cdv A outer s H E).nox (defBody st) { nx:=fun _ H'=>Q .non H',rt:=Q } (start N vs) H):Kn P w K mg base CX0 x (k+1) sp:=by
 obtain⟨f,fd,F,hm,hb⟩:=D.ex
 exact⟨f,fd,ps,F.ok S len (fun cdv A outer s H vs Q E hr h=>⟨_,zV,hbody f cdv A outer s H vs Q E hr h⟩),hm,F.kp,hb⟩
end
section
variable {X:Cx} {M:Addr->Prop} {Γ Γ1:Ge} {σ:St} {H:Hp} {D:qf} {st:Stmt} {sts body els:List Stmt} {o:Out} {d:PyData} {e c tg:Expr} {pos pos':Pos} {x:Str}
theorem zhh(i:Nat){Q:VK}(hN:X.N.Nodup)(h:wpE X e σ H Q)(k:∀ v H',Q v H'->wpB X sts D (σ.set i (some v)) H')(hi:X.N[i]?=some x:=by rfl)(hx:Loc X.env.scope x:=by first | exact Or.inl rfl | exact Or.inr rfl)(hs:swapsWith e (some (.Name x pos')) pos.line X.env=pure false:=by rfl)
    (hf:X.fn x=true∨X.env.scope.names.lookup x=some .local:=by first | exact .inl rfl | exact .inr rfl | assumption):wpB X (.Assign [.Name x pos'] e pos::sts) D σ H :=
  (jH (ZT hN hi hx zb hs hf) zV).wp (h.mono k)
end
section
variable {X:Cx} {M:Addr->Prop} {Γ Γ1:Ge} {σ:St} {H:Hp} {D:qf} {sts:List Stmt} {e:Expr} {ds:List PyData} {d:PyData} {pos pos':Pos} {x:Str}
end
mutual
/-- no list within -/
noncomputable def noL:PyData->Bool
 |.list _=>false
 |.tuple ds=>zcw ds
 |.dict _=>false
 |_=>true
noncomputable def zcw:List PyData->Bool
 |[]=>true
 |d::ds=>noL d&&zcw ds
end
mutual
theorem Rep.free{M M':Addr->Prop}{H:Hp}:∀ {v:V}{d:PyData},noL d=true->Rep M H v d->Rep M' H v d
 |_,_,_,.none=>.none
 |_,_,_,.bool b=>.bool b
 |_,_,_,.int i=>.int i
 |_,_,_,.str x=>.str x
 |_,_,h,.list e n r=>by simp[noL]at h
 |_,_,h,.tuple e r=>.tuple e (RepL.free (by simpa [noL] using h) r)
 |_,_,h,.dict e n k r=>by cases h
 |_,_,h,.inst e n k r=>by cases h
theorem RepL.free{M M':Addr->Prop}{H:Hp}:∀ {vs:List V}{ds:List PyData},zcw ds=true->RepL M H vs ds->RepL M' H vs ds
 |_,_,_,.nil=>.nil
 |_,_,h,.cons r t=>by
  rw[zcw,xa]at h
  exact .cons (Rep.free h.1 r) (RepL.free h.2 t)
end
section
variable {X:Cx} {M:Addr->Prop} {Γ Γ1:Ge} {σ:St} {H:Hp} {D:qf} {sts:List Stmt} {e:Expr} {ds:List PyData} {d:PyData} {pos pos' p2 p3:Pos} {x:Str} {l:Addr} {vs:List V}
end
theorem Df.of{K:PySem.W.Frag}{mg:Str->Option Value}{h:Heap}{x:Str}{st:Stmt}{ps:List Str}{f:Addr}{oc:Value}{od an:Option Addr}{sl:Array (Option Value)}{kV dc pm cd ct:Value}(X:K.In h)(G:h.Ns mainGlobals mg)
  (a:PySem.W.nsIn K mainGlobals x=some (some (.ref f))) (l:K.lookup f=some ⟨oc,od,.func (PySem.W.fnOf x x (zM st) (defBody st) (defScope st) .none kV dc pm an cd ct),sl⟩) (c:PySem.W.codeIn K cd x=true) (k:PySem.W.keepIn K (.ref f)=true)
  (hb:∀ (kV doc pm:Value) (an:Option Addr) (cdv ct:Value) (us:List Value),us.length=ps.length->bindArgs (PySem.W.fnOf x x (zM st) (defBody st) (defScope st) .none kV doc pm an cdv ct) ⟨us,[]⟩=pure (ps.zip us)):Df K mg x st ps :=
 ⟨f,_,ZO (st:=st) l c k,PySem.W.mg_of X G a,(ZO (st:=st) l c k).binds hb⟩
structure Dl(K:PySem.W.Frag)(x:Str)(st:Stmt)(fa:Addr)(p:Str):Prop where
 ex:∃ fd:FuncData,Fun K x x st fa fd/\∀ (s:Shared) (u:Value),BindsTo s fd ⟨[u],[]⟩ [(p,u)]
theorem Dl.of{K:PySem.W.Frag}{mg:Str->Option Value}{h:Heap}{x p:Str}{st:Stmt}{f fa:Addr}{oc:Value}{od an:Option Addr}{sl:Array (Option Value)}{kV dc pm cd ct:Value}(X:K.In h)(G:h.Ns mainGlobals mg)(hfa:mg x=some (.ref fa))
  (a:PySem.W.nsIn K mainGlobals x=some (some (.ref f))) (l:K.lookup f=some ⟨oc,od,.func (PySem.W.fnOf x x (zM st) (defBody st) (defScope st) .none kV dc pm an cd ct),sl⟩) (c:PySem.W.codeIn K cd x=true) (k:PySem.W.keepIn K (.ref f)=true)
  (hb:∀ (s:Shared) (u:Value),BindsTo s (PySem.W.fnOf x x (zM st) (defBody st) (defScope st) .none kV dc pm an cd ct) ⟨[u],[]⟩ [(p,u)]):Dl K x st fa p:=by
 have e:=hfa.symm.trans (PySem.W.mg_of X G a)
 cases e
 exact⟨_,ZO (st:=st) l c k,hb⟩
noncomputable def Yx(K:PySem.W.Frag):Sp:=fun vs H Q _=>∃ (a:Addr) (ns:List Int),vs= [.ref a]/\SqL K H a (ns.map V.int)/\ns.length<=63/\∀ H',Q (.bl true) H'
theorem Fun.law{P:Program}{w:World}{K:PySem.W.Frag}{mg:Str->Option Value}{base:Heap}{x p:Str}{st:Stmt}{N:List Str}{k:Nat}{f:Addr}{fd:FuncData}(F:Fun K x x st f fd)(S:qw N [p] (defScope st))
  (hbody:∀ (cdv:Value) (A:Around) (outer:List Env) (s:Shared) (H:Hp) (Q:VK) (E:XK) (a:Addr) (ns:List Int),Room k (A.deeper (envOfC x (defScope st) s.heap.objs.size f cdv))->SqL K H a (ns.map V.int)->ns.length<=63->(∀ H',Q (.bl true) H') ->
   wpB (ZK CX0 P w K mg base N x (defScope st) f cdv A outer s H E).nox (defBody st) { nx:=fun _ H'=>Q .non H',rt:=Q } (start N [.ref a]) H):FnOk P w K mg base CX0 (k+1) f fd [p] (Yx K) :=
 F.ok S (fun vs H Q E ⟨a,ns,e,_⟩=>by rw[e];rfl) fun cdv A outer s H vs Q E hr ⟨a,ns,e,hS,hlen,kk⟩=>⟨_,zV,by subst e;exact hbody cdv A outer s H Q E a ns hr hS hlen kk⟩
theorem walkL{l:PySem.W.OpenLaw}{q:Program}{loose:List Str}{XP:(Str->Option Value)->Heap->Prop}{YP:World->Heap->Prop}{d:DefRec}{K:Params->PySem.W.Frag}{k:Nat}{st:Stmt}(hn:l.most=some 63)(hdf:d.params.defaults= [])(hk:Room k callerA)
  (hY:∀ (w:World) (h:Heap),YP w h->(K w.params).In h)
  (F:∀ (w:World) (mg:Str->Option Value) (fa:Addr) (h:Heap),(K w.params).In h->h.Ns mainGlobals mg->mg d.name=some (.ref fa) ->
   Dl (K w.params) "law" st fa "_law_script" /\∀ (fd:FuncData),Fun (K w.params) "law" "law" st fa fd->∀ base:Heap,FnOk l.prog w (K w.params) mg base CX0 k fa fd ["_law_script"] (Yx (K w.params))) :
  PySem.W.WalkO q loose XP YP l.row.toRowW d [] (fun f vs=>PySem.call f vs) :=
 L2.walk_of (n:=63) (k:=k) (x:= "_law_script") (CX:=fun _=>CX0) (sp:=fun w=>Yx (K w.params)) hn (by decide) hdf hk hY (fun w mg fa h KX G hm=>by
  obtain⟨⟨fd,Ff,hb⟩,hF⟩:=F w mg fa h KX G hm
  exact⟨fd,hb,fun base _ _=>hF fd Ff base⟩) (fun _ _ a ns hl _ hS=>⟨a,ns,rfl,hS,hl,fun _=>rfl⟩) fun _ _ _ _ _ z=>z
noncomputable def CX1(P:Program)(w:World):CXT:=fun outer H s E e s'=>∃ (ea:Addr) (c a0:Value) (B h0:Heap) (H':Hp),e=.ref ea/\s'.os=s.os/\AllBare s'.gens/\Heap.FlyingW B outer ea c a0 s'.heap/\h0.UpToSlots s'.heap /\
 (∀ h6,B.StaysIn h6->h0.UpToSlots h6->Un (frs outer) [] H H' s.heap h6/\HOk P w H' h6)/\E c none H'
section
variable {X:Cx} {pins:List (Addr×Obj)} {σ:St} {H:Hp} {s:Shared}
theorem Inv.flies(I:Inv X pins σ H s)(hx:X.ex= [])(hst:X.stack=X.env::X.outer)(hf:X.env.frame=some X.env.locals){h6:Heap}
  (k1:(PySem.W.hideAll s.heap (frs X.stack)).StaysIn h6) (k2:s.heap.UpToSlots h6):Un (frs X.outer) [] X.H₀ H X.s₀.heap h6/\HOk X.prog X.w H h6:=by
 have nex:∀ b,b∉X.ex:=fun b z=>by rw[hx]at z;cases z
 have kk:∀ b o,s.heap.get? b=some o->b∉frs X.stack->h6.get? b=some o:=fun b o e n=>k1 b o (PySem.W.hideAll_get _ e n)
 have fr:∀ b,b∈frs X.stack->∀ o,s.heap.get? b=some o->∃ sl,h6.get? b=some { o with slots:=sl }:=fun b hb o e=>by
  obtain⟨_,o',e',hn⟩:=I.stack.mem hb
  rw[e]at e'
  cases e'
  exact k2 b o e hn
 have hsub:∀ b,b∈frs X.outer->b∈frs X.stack:=fun b hb=>by
  rw[hst]
  unfold frs at hb |-
  rw[ua,hf]
  exact xk _ hb
 have hsup:∀ b,b∈frs X.stack->b=X.env.locals∨b∈frs X.outer:=fun b hb=>by
  rw[hst]at hb
  unfold frs at hb |-
  rw[ua,hf]at hb
  exact xv.mp hb
 have hL:∀ b o,X.s₀.heap.get? b=some o->b≠X.env.locals:=fun b o e z=>by
  have h1:=Heap.lt_size e
  have h2:=I.ok.above
  rw[z]at h1
  exact absurd (xl h1 h2) (xO _)
 refine⟨⟨fun b o e n hb _=>?_,fun b o e n hb _=>?_,fun b o e n _=>I.base.free b o e n (nex b),fun b o e _=>?_,I.base.tups,I.base.frzs,I.base.tbls⟩,fun a o e=>?_⟩
 ·refine kk b o (I.base.keep b o e n hb (nex b)) fun z=>?_
  rcases hsup b z with z | z
  ·exact hL b o e z
  ·exact hb z
 ·obtain⟨sl,e1⟩:=I.base.slot b o e n hb (nex b)
  obtain⟨sl2,e2⟩:=fr b (hsub b hb) _ e1
  exact⟨sl2,e2⟩
 ·obtain⟨o1,e1⟩:=I.base.there b o e (nex b)
  by_cases hb:b∈frs X.stack
  ·obtain⟨sl,e2⟩:=fr b hb _ e1
   exact⟨_,e2⟩
  ·exact⟨o1,kk b o1 e1 hb⟩
 ·refine (I.hok a o e).stay (fun b u hb q=>kk b u q fun z=>?_) (fun _ q=>q) fun _ _ q=>q
  have hn:=I.stkFree b z
  rcases hb with hb | hb
  ·subst hb;rw[e]at hn;cases hn
  ·rw[hb]at hn;cases hn
theorem VJ(I:Inv X pins σ H s)(hx:X.ex= [])(hst:X.stack=X.env::X.outer)(hf:X.env.frame=some X.env.locals){h':Heap}{ea:Addr}{c:Value}{args:List Value}
  (hm:Heap.MadeExcOf s.heap h' ea c args) {E:XK} (q:E c none H) {E':Value->Shared->Prop} :
  wpAny (model X.prog X.w) X.A (leaving X.env (.ref ea)) (fun _ s''=>CX1 X.prog X.w X.outer X.H₀ X.s₀ E (.ref ea) s'') E' { s with heap:=h' }:=by
 have hfr:X.A.frames=some (X.env::X.outer):=by rw[<- hst];exact I.ok.frames
 have hst':=I.stack
 rw[hst]at hst'
 refine wpAny_leaves_madeW (base:=PySem.W.hideAll s.heap (frs X.stack)) (h:=s.heap) hfr hf (fun b o e=>PySem.W.of_hideAll _ e) (PySem.W.funFrames_hide hst' fun env he a ha=>?_) hm fun h'' t f1 f2 f3 f4=>?_
 ·rw[hst];exact List.mem_filterMap.mpr ⟨env,he,ha⟩
 ·exact⟨ea,c,.ref t,_,s.heap,H,rfl,I.os,I.bare,f1,(Heap.UpToSlots.of_keeps hm.keeps).trans f4,fun h6 k1 k2=>I.flies hx hst hf k1 k2,q⟩
end
noncomputable abbrev bmV:List Value:= [.type "ValueError",.type "Exception",.type "BaseException",.type "object"]
noncomputable def mroIn(K:PySem.W.Frag)(C:Addr):List Value:=match K.lookup C with
 |some ⟨_,_,.cls cd,_⟩=>cd.mro
 |_=> []
theorem vE {K:PySem.W.Frag}{h:Heap}{C:Addr}(X:K.In h) (q:PySem.W.excIn K C bmV "ValueError.__new__" =true) :
  ∃ bm N nm qn bs hdct sn sub ab col dd k0 k1 k2 k3 k5 mN,h.get? C=some (excClassObj nm qn C N bs bm hdct sn sub ab col dd k0 k1 k2 k3 k5 "ValueError.__new__")/\h.Ns N mN/\mN "__init__" =none/\OwnTail h bmV bm/\mroIn K C=Value.ref C::bm:=by
 unfold PySem.W.excIn at q
 unfold mroIn
 split at q
 ·rename_i d0 c0 s0 e0
  rw[e0]
  dsimp only
  split at q
  ·rename_i C1 bm z0 z1 z2 z3 n1 z5 e1 e2
   rw[xa,xa,xa,xa,xa]at q
   obtain⟨⟨⟨⟨⟨q1,q2⟩,q3⟩,q4⟩,q5⟩,q6⟩:=q
   have r1:C1=C:=eq_of_beq q1
   have r2:n1= "ValueError.__new__" :=eq_of_beq q2
   have r3:c0.hasDel=false:=by simpa using q3
   have r6:PySem.W.nsIn K c0.ns "__init__" =some none:=eq_of_beq q6
   subst r1 r2
   have r5:s0=#[z0,z1,z2,z3,some (.builtin "ValueError.__new__"),z5]:=by
    cases s0 with
    |mk l=>exact congrArg Array.mk e2
   cases c0 with
   |mk a1 a2 a3 a4 a5 a6 a7 a8 a9 a10 a11=>
    dsimp only at e1 r3 q5 r6
    subst e1 r3 r5
    exact⟨_,_,_,_,_,_,_,_,_,_,_,_,_,_,_,_,_,X _ _ e0,.of_isNs (PySem.W.isNs_of_in X q5),PySem.W.nsMap_none_of_in X q5 r6,PySem.W.tail_of_in X q4,rfl⟩
  ·cases q
 ·cases q
structure YJ(X:Cx)(x:Str)(C:Addr):Prop where
 gl:Gl X x
 mg:X.mg x=some (.ref C)
 ex:PySem.W.excIn X.K C bmV "ValueError.__new__" =true
 d:(x==("__debug__" :Str))=false
section
variable {X:Cx} {x:Str} {C:Addr} {np cpos pos cp:Pos} {z:Str} {cj:Nat} {σ:St} {H:Hp} {D:qf}
theorem VD {h:Heap}{bm:List Value}(T:OwnTail h bmV bm):bm.contains (.type "BaseException")=true:=(T.hasType (by decide +kernel))
theorem zbM(k:YJ X x C)(hcalm:X.calm=true)
  (h:∀ pins s,Inv X pins σ H s->∀ h' ea args,Heap.MadeExcOf s.heap h' ea (.ref C) args->X.xe (.ref ea) { s with heap:=h' }) :
  wpS X (.Raise (some (.Call (.Name x np) [.Constant (.str z) cj cp] [] cpos)) none pos) D σ H:=fun pins s I=>by
 obtain⟨bm,N,nm,qn,bs,hdct,sn,sub,ab,col,dd,k0,k1,k2,k3,k5,mN,hC,hN,hi,T,_⟩:=vE I.mod.kin k.ex
 refine wpAny_Raise_call_subT (C:=C) (nm:=nm) (q:=qn) (N:=N) (bs:=bs) (bm:=bm) (hdct:=hdct) (sn:=sn) (sub:=sub) (ab:=ab) (col:=col) (dd:=dd) (k0:=k0) (k1:=k1) (k2:=k2) (k3:=k3) (k5:=k5) (mN:=mN) PySem.F.excBase_ValueError (VD T) (I.ok.hd hcalm) rfl hi (qz I k.gl k.mg ⟨rfl,?_⟩ k.d)
 refine Calls.evalArgs_plain ?_
 have hz:wpE X (.Constant (.str z) cj cp) σ H fun v H'=>v=.str z/\H'=H:=pe_str.wp ⟨rfl,rfl⟩
 have hA:wpA X [.Constant (.str z) cj cp] σ H fun vs H'=>vs= [.str z]/\H'=H:=(zk zb pa_nil rfl).wp (hz.mono fun v H' ⟨e1,e2⟩=>⟨by rw[e1],e2⟩)
 refine wpAny_mono (hA cpos pins s I) (fun vs s1 hq=>?_) fun _ _ y=>y
 obtain⟨ws,H1,I1,r,e,eH⟩:=hq
 subst eH
 have hlen:vs.length=1:=by rw[<- r.length,e];rfl
 exact⟨rfl,by have:=sizeLine_eq;show vs.length<=sizeLine;omega,I1.bk _ _ hC,hN.keeps I1.bk,T.keeps I1.bk,fun h' ea hm=>h pins s1 I1 h' ea vs hm⟩
end
noncomputable abbrev Cx.marked(X:Cx)(e:Value):Cx:={ X with A:=X.A.mark (some e),calm:=false,xe:=fun _ _=>False }
noncomputable abbrev Cx.tried(X:Cx)(pins:List (Addr×Obj))(E:Value->Shared->Prop):Cx:={ X with pn:=X.pn++pins,xe:=E }
section
variable {X:Cx} {pins:List (Addr×Obj)} {σ:St} {H:Hp} {s:Shared} {e:Value} {E:Value->Shared->Prop} {D:qf} {f:Flow}
theorem Cx.Ok.marked(ok:X.Ok)(e:Value):(X.marked e).Ok :=
 ⟨ok.mod,ok.kind,ok.glob,ok.blt,ok.above,ok.inj,ok.has,ok.cab,(fun z=>by cases z),ok.frames,ok.stk,ok.exf,ok.bs,ok.bsz,ok.noex,ok.exfs,ok.funs,ok.frf⟩
theorem Cx.Ok.tried(ok:X.Ok):(X.tried pins E).Ok :=
 ⟨ok.mod,ok.kind,ok.glob,ok.blt,ok.above,ok.inj,ok.has,ok.cab,ok.hd,ok.frames,ok.stk,ok.exf,ok.bs,ok.bsz,ok.noex,ok.exfs,ok.funs,ok.frf⟩
theorem Inv.marked(I:Inv X pins σ H s)(e:Value):Inv (X.marked e) pins σ H s:=⟨I.ok.marked e,I.os,I.bare,I.base,I.loc,I.cell,I.free,I.freeC,I.pin,I.hok,I.len⟩
theorem Inv.unmarked(ok:X.Ok)(I:Inv (X.marked e) pins σ H s):Inv X pins σ H s:=⟨ok,I.os,I.bare,I.base,I.loc,I.cell,I.free,I.freeC,I.pin,I.hok,I.len⟩
theorem Inv.tried(I:Inv X pins σ H s)(E:Value->Shared->Prop):Inv (X.tried pins E) [] σ H s:=⟨I.ok.tried,I.os,I.bare,I.base,I.loc,I.cell,I.free,I.freeC,fun p hp=>I.pin p (by simpa using hp),I.hok,I.len⟩
theorem Inv.untried{pins':List (Addr×Obj)}(ok:X.Ok)(I:Inv (X.tried pins E) pins' σ H s):Inv X pins σ H s:=⟨ok,I.os,I.bare,I.base,I.loc,I.cell,I.free,I.freeC,fun p hp=>I.pin p (xY _ hp),I.hok,I.len⟩
theorem SP.unmarked(ok:X.Ok)(h:SP (X.marked e) pins D f s):SP X pins D f s:=by
 cases f with
 |next=>obtain⟨σ',H',I,q⟩:=h;exact⟨σ',H',I.unmarked ok,q⟩
 |brk=>obtain⟨σ',H',I,q⟩:=h;exact⟨σ',H',I.unmarked ok,q⟩
 |cont=>obtain⟨σ',H',I,q⟩:=h;exact⟨σ',H',I.unmarked ok,q⟩
 |ret u=>obtain⟨v,σ',H',I,r,q⟩:=h;exact⟨v,σ',H',I.unmarked ok,r,q⟩
theorem SP.untried(ok:X.Ok)(h:SP (X.tried pins E) [] D f s):SP X pins D f s:=by
 cases f with
 |next=>obtain⟨σ',H',I,q⟩:=h;exact⟨σ',H',I.untried ok,q⟩
 |brk=>obtain⟨σ',H',I,q⟩:=h;exact⟨σ',H',I.untried ok,q⟩
 |cont=>obtain⟨σ',H',I,q⟩:=h;exact⟨σ',H',I.untried ok,q⟩
 |ret u=>obtain⟨v,σ',H',I,r,q⟩:=h;exact⟨v,σ',H',I.untried ok,r,q⟩
end
theorem VL{M:Model}{A:Around}{E:Value->Shared->Prop}{h:Heap}{g:Array GenState}{d:Drawn}{t:Nat}{os:OsState}{e:Addr}{oe:Obj}{Q:Bool->Shared->Prop}{b:Bool}{newId newId2:String}
  {nm q:Str} {C N:Addr} {bs bm:List Value} {hdct:Bool} {sn:List Str} {sub:List Value} {ab:Bool} {col:Option Bool} {dd:Option Addr} {k0 k1 k2 k3 k5:Option Value}
  {nm2 q2:Str} {C2 N2:Addr} {bs2 bm2:List Value} {hdct2:Bool} {sn2:List Str} {sub2:List Value} {ab2:Bool} {col2:Option Bool} {dd2:Option Addr} {j0 j1 j2 j3 j5:Option Value}
  (hC:h.get? C=some (excClassObj nm q C N bs bm hdct sn sub ab col dd k0 k1 k2 k3 k5 newId)) (hC2:h.get? C2=some (excClassObj nm2 q2 C2 N2 bs2 bm2 hdct2 sn2 sub2 ab2 col2 dd2 j0 j1 j2 j3 j5 newId2))
  (he:h.get? e=some oe) (hcls:oe.cls=.ref C) (hbase:bm2.contains (.type "BaseException")=true) (hb:(Value.ref C::bm).contains (.ref C2)=b) (hq:Q b ⟨h,g,d,t,os⟩) :
  wpAny M A (excMatches (.ref e) (.ref C2)) Q E ⟨h,g,d,t,os⟩:=by
 have g1:(Value.ref C2::bm2).contains (.type "BaseException")=true:=by rw[List.contains_cons,hbase,Bool.or_true]
 have g2:=tc_notTuple
 unfold excMatches
 cases b with
 |true=>
  repeat (first | (with_reducible refine wpAny_loadPart_at he ?_;rw[hcls]) | with_reducible refine wpAny_loadPart_at hC2 ?_ | (with_reducible refine wpAny_isSubtype_exc hC2 ?_;rw[g1]) | (with_reducible refine wpAny_isSubtype_exc hC ?_;rw[hb]) | wp_step)
  exact hq
 |false=>
  repeat (first | (with_reducible refine wpAny_loadPart_at he ?_;rw[hcls]) | with_reducible refine wpAny_loadPart_at hC2 ?_ | (with_reducible refine wpAny_isSubtype_exc hC2 ?_;rw[g1]) | (with_reducible refine wpAny_isSubtype_exc hC ?_;rw[hb]) | wp_step)
  exact hq
inductive HC where
 |s (z:Str)
 |b (c:Bool)
noncomputable def HC.V:HC->L2.V
 |.s z=>.str z
 |.b c=>.bl c
noncomputable def HC.D:HC->PyData
 |.s z=>.str z
 |.b c=>.bool c
noncomputable def HC.C:HC->Const
 |.s z=>.str z
 |.b c=>.bool c
theorem zgJ{X:Cx}{v:HC}{j:Nat}{pos:Pos}:PE X (.Constant v.C j pos) (tC v.V):=by
 cases v with
 |s z=>exact pe_str
 |b c=>exact pe_bl
structure HdK(X:Cx)(hd:ExceptHandler)(C:Addr)(t:Nat)(v:HC):Prop where
 ex:∃ x np y py cj pc pa hp,hd=.ExceptHandler (some (.Name x np)) none [.Assign [.Name y py] (.Constant v.C cj pc) pa] hp/\YJ X x C/\X.N[t]?=some y/\Loc X.env.scope y/\(X.fn y=true∨X.env.scope.names.lookup y=some .local)
inductive yg(X:Cx):List ExceptHandler->List (Addr×Nat×HC)->Prop
 |nil:yg X [] []
 |cons {hd:ExceptHandler} {hs:List ExceptHandler} {C:Addr} {t:Nat} {v:HC} {zs:List (Addr×Nat×HC)}:HdK X hd C t v->yg X hs zs->yg X (hd::hs) ((C,t,v)::zs)
noncomputable def wT(K:PySem.W.Frag)(C:Addr):List (Addr×Nat×HC)->Option (Nat×HC)
 |[]=>none
 | (C2,t,v)::r=>if (mroIn K C).contains (.ref C2) then some (t,v) else wT K C r
section
variable {X:Cx} {pins:List (Addr×Obj)} {σ:St} {H:Hp} {s:Shared} {E:Value->Shared->Prop} {D:qf} {B:Heap} {ea C:Addr} {a0:Value}
theorem wF (hN:X.N.Nodup) (hC0:PySem.W.excIn X.K C bmV "ValueError.__new__" =true) (ok:X.Ok):∀ {hs:List ExceptHandler}{zs:List (Addr×Nat×HC)}{t:Nat}{v:HC},yg X hs zs->wT X.K C zs=some (t,v) ->
  Heap.FlyingW B X.stack ea (.ref C) a0 s.heap->Inv X pins σ H s->(∀ h6,B.StaysIn h6->s.heap.UpToSlots h6->Inv X pins σ H { s with heap:=h6 })->D.nx (σ.set t (some v.V)) H ->
  wpAny (model X.prog X.w) X.A (handleBy (.ref ea) X.env hs) (SP X pins D) E s
 |_,_,_,_,.nil,e,_,_,_,_=>by cases e
 |_,_,t,v,.cons (C:=C2) (t:=t2) (v:=v2) (zs:=zs) (hs:=hs) hk ht,e,hfl,I,hcl,hd=>by
  obtain⟨x,np,y,py,cj,pc,pa,hpz,rfl,k,h1,h2,h3⟩:=hk.ex
  obtain⟨ob,hob,hobc⟩:=hfl.there
  have Im:=I.marked (.ref ea)
  refine wpAny_handleBy_cons (codeAny_handlers_test (qz (X:=X.marked (.ref ea)) Im k.gl k.mg ?_ k.d)) (by intro q;cases q)
  obtain⟨bm,N,nm,qn,bs,hdct,sn,sub,ab,col,dd,k0,k1,k2,k3,k5,mN,gC,gN,gi,T,gm⟩:=vE I.kIn hC0
  obtain⟨bm2,N2,nm2,qn2,bs2,hdct2,sn2,sub2,ab2,col2,dd2,j0,j1,j2,j3,j5,mN2,gC2,gN2,gi2,T2,gm2⟩:=vE I.kIn k.ex
  unfold wT at e
  rw[gm]at e
  refine VL (h:=s.heap) (g:=s.gens) (d:=s.drawn) (t:=s.toks) (os:=s.os) gC gC2 hob hobc (VD T2) rfl ?_
  cases hb:(Value.ref C::bm).contains (Value.ref C2) with
  |true=>
   rw[hb,if_pos rfl]at e
   cases e
   refine codeAny_handlers_suite (lands_againW hfl fun h6 hfl6 hsm6=>?_)
   have I6:=(hcl h6 hfl6.1 hsm6).marked (.ref ea)
   have w:wpB (X.marked (.ref ea)) [.Assign [.Name y py] (.Constant v.C cj pc) pa] { nx:=D.nx,rt:=D.rt,bk:=D.bk,ct:=D.ct } σ H:=(Qb (ZT (X:=X.marked (.ref ea)) hN h1 h2 zgJ (by cases v<;>rfl) h3)).wp hd
   refine wpAny_mono (w pins _ I6) (fun fl s2 q=>?_) fun _ _ z=>z.elim
   exact SP.unmarked ok q
  |false=>
   rw[hb,if_neg (by decide)]at e
   exact wF hN hC0 ok ht e hfl I hcl hd
end
section
variable {X:Cx} {pins:List (Addr×Obj)} {σ:St} {H:Hp} {s s':Shared} {D:qf} {e:Value}
theorem zeA(I:Inv X pins σ H s)(hst:X.stack=X.env::X.outer)(hf:X.env.frame=some X.env.locals)(hN:X.N.Nodup){hs:List ExceptHandler}{zs:List (Addr×Nat×HC)}(hh:yg X hs zs){E:XK}
  (hx:CX1 X.prog X.w X.stack H s E e s') (hE:∀ c H',E c none H'->∃ C t v,c=.ref C/\PySem.W.excIn X.K C bmV "ValueError.__new__" =true/\wT X.K C zs=some (t,v)/\D.nx (σ.set t (some v.V)) H') {E':Value->Shared->Prop} :
  wpAny (model X.prog X.w) X.A (noteFrame e X.env) (fun _ s₂=>wpAny (model X.prog X.w) X.A (setFlight e none) (fun _ s₃=>wpAny (model X.prog X.w) X.A (handleBy e X.env hs) (SP X pins D) E' s₃) E' s₂) E' s':=by
 obtain⟨ea,c,a0,B,h0,H',rfl,os,bare,hfl,up,hk,q⟩:=hx
 obtain⟨C,t,v,rfl,hC0,hp,hd⟩:=hE c H' q
 have hfr:X.A.frames=some (X.env::X.outer):=by rw[<- hst];exact I.ok.frames
 have inv:∀ h6,B.StaysIn h6->h0.UpToSlots h6->Inv X pins σ H' { s' with heap:=h6 }:=fun h6 k1 k2=>by
  obtain⟨un,hok⟩:=hk h6 k1 k2
  exact I.call' (s':={ s' with heap:=h6 }) os un hok bare fun b z=>nomatch z
 rw[hst]at hfl
 refine wpAny_looks_onW hfr hf hfl fun h4 hheld4 up4=>wpAny_landsW hheld4 fun h5 hfl5 up5=>?_
 have up5':=(up.trans up4).trans up5
 rw[<- hst]at hfl5
 exact wF hN hC0 I.ok hh hp hfl5 (inv h5 hfl5.1 up5') (fun h6 k1 k2=>inv h6 k1 (up5'.trans k2)) hd
noncomputable def zbm(X:Cx)(pins:List (Addr×Obj))(D:qf)(hs:List ExceptHandler):Value->Shared->Prop:=fun e s₁=>
 wpAny (model X.prog X.w) X.A (noteFrame e X.env) (fun _ s₂=>wpAny (model X.prog X.w) X.A (setFlight e none) (fun _ s₃=>wpAny (model X.prog X.w) X.A (handleBy e X.env hs) (SP X pins D) X.xe s₃) X.xe s₂) X.xe s₁
theorem zf9{body:List Stmt}{h₀:ExceptHandler}{hs:List ExceptHandler}{pos:Pos}(h:∀ pins,wpB (X.tried pins (zbm X pins D (h₀::hs))) body D σ H):wpS X (.Try body (h₀::hs) [] [] pos) D σ H:=fun pins s I=>by
 refine wpAny_Try_except (wpAny_mono (h pins [] s (I.tried _)) (fun f s1 q=>?_) fun e s1 q=>q)
 have q':=SP.untried I.ok q
 cases f with
 |next=>
  obtain⟨σ',H',I',d⟩:=q'
  have w:wpB X [] D σ' H':=pss_nil.wp d
  exact w pins s1 I'
 |brk=>exact q'
 |cont=>exact q'
 |ret u=>exact q'
theorem zbJ{CX:CXT}{E:XK}{sp:Sp}{Q:VK}{x:Str}{k:Nat}{e:Expr}{es:List Expr}{p pos:Pos}(kn:Kn X.prog X.w X.K X.mg X.base CX x k sp)(hr:Room k X.A)(hg:Gl X x)
  (hx:∀ pins H s e s',Inv X pins σ H s->CX X.stack H s E e s'->X.xe e s') (h:wpA X (e::es) σ H fun vs H1=>sp vs H1 Q E) (hdb:(x==("__debug__" :Str))=false)
  (he:starEach (e::es) X.env=(false,eval e X.env)::starEach es X.env) (hpl:(backTo pos (starEach es X.env)).any (·.1)=false):wpE X (.Call (.Name x p) (e::es) [] pos) σ H Q:=fun pins s I=>by
 obtain⟨f,fd,ps,F,hm,hk,hb⟩:=kn.ex
 refine wpAny_Call_Name_kw (qz I hg hm ?_ hdb)
 refine PySem.W.callWith_K (h₀:=X.base) I.ok.mod.kin hk (thn (h pos pins s I) fun us s1 ⟨vs,H1,I1,r,q⟩=>⟨I1.kIn,?_⟩) he hpl
 have hl:us.length=ps.length:=by rw[<- r.length];exact F.len _ _ _ _ q
 have hb':=hb s1 us I1.kIn (by simpa using hl)
 rw[xL]at hb'
 refine wpAny_call (codeAny_mono (F.run X.A X.stack s1 H1 ⟨us,[]⟩ us vs Q E hr I1.env0 hb' r q) fun r s' hq=>?_)
 cases r with
 |error e=>exact hx pins H1 s1 e s' I1 hq
 |ok fl=>
  cases fl with
  |ret u=>exact I1.after hq
  |next=>exact False.elim hq
  |brk=>exact False.elim hq
  |cont=>exact False.elim hq
theorem Kb{CX:CXT}{E:XK}{sp:Sp}{Q:VK}{x:Str}{k:Nat}{p pos:Pos}(kn:Kn X.prog X.w X.K X.mg X.base CX x k sp)(hr:Room k X.A)(hg:Gl X x)
  (hx:∀ pins H s e s',Inv X pins σ H s->CX X.stack H s E e s'->X.xe e s') (h:sp [] H Q E) (hdb:(x==("__debug__" :Str))=false):wpE X (.Call (.Name x p) [] [] pos) σ H Q:=fun pins s I=>by
 obtain⟨f,fd,ps,F,hm,hk,hb⟩:=kn.ex
 refine wpAny_Call_Name_kw (qz I hg hm ?_ hdb)
 refine PySem.W.callWith_K0 I.kIn hk ?_
 have hl:([]:List Value).length=ps.length:=F.len _ _ _ _ h
 have hb':=hb s [] I.kIn (by simpa using hl)
 rw[xL]at hb'
 refine wpAny_call (codeAny_mono (F.run X.A X.stack s H ⟨[],[]⟩ [] [] Q E hr I.env0 hb' .nil h) fun r s' hq=>?_)
 cases r with
 |error e=>exact hx pins H s e s' I hq
 |ok fl=>
  cases fl with
  |ret u=>exact I.after hq
  |next=>exact False.elim hq
  |brk=>exact False.elim hq
  |cont=>exact False.elim hq
end
section
variable {P:Program} {w:World} {K:PySem.W.Frag} {mg:Str->Option Value} {base:Heap} {x:Str} {st:Stmt} {N ps:List Str} {k:Nat}
end
section
variable {prog:Program} {w:World} {A:Around} {E:Value->Shared->Prop} {s:Shared}
theorem zbg{l:Addr}{x:Value}{xs:List Value}{Q:List Value->Shared->Prop}(hl:s.heap.IsList l (x::xs).toArray)(hh:A.handled=none)(hz:(x::xs).length<=sizeLine)
  (k:∀ (h2:Heap) (tk:Nat),(∀ b o,s.heap.get? b=some o->h2.get? b=some o)->Q [x,.ref h2.objs.size] { s with heap:=h2.push { cls:=.type "list",data:=.seq xs.toArray },toks:=tk }) :
  wpAny (model prog w) A (unpackItems (.ref l) 2 (some 1)) Q E s:=by
 obtain⟨ol,hol,hcl,hdl⟩:=id hl
 have hlt:=Heap.lt_size hol
 have hne:l≠s.heap.objs.size:=xj hlt
 unfold unpackItems notIterableAtAll
 refine wpAny_bind (wpAny_bind (wpAny_specialOf hl.typeIs PySem.F.slot_list_iter.lookup (wpAny_pure ?_)))
 simp only[um,if_false]
 refine wpAny_bind (wpAny_holding (wpAny_pyIter_list hl ?_))
 refine wpAny_bind (wpAny_holding (PySem.W.kun_draw hne 1 0 _ _ ⟨_,Heap.get?_push_size _ rfl,rfl,rfl⟩ (hl.push _) (by simp) fun h1 it1 sb1=>?_))
 have hl1:h1.IsList l (x::xs).toArray:=(hl.push _).extBut sb1.extBut hne
 obtain⟨oi,hoi,_⟩:=id it1
 obtain⟨o1,ho1,_⟩:=id hl1
 have hfst:(((x::xs).toArray.toList.drop 0).take 1)= [x]:=rfl
 rw[hfst]
 rw[if_neg (show ¬ ([x].length<1) by simp)]
 refine wpAny_bind (wpAny_holding (PySem.W.kun_collect (s:={ s with heap:=h1 }) (T:= "list_iterator") (.inr (.inr (.inl rfl))) (Walks.list (A:=A.in1) hh s.heap.objs.size l hne (x::xs).toArray) (fun j u st=>st.1.typeIs) (k:=1) (by simp) ⟨it1,hl1⟩ (Heap.lt_size hoi) (Heap.lt_size ho1) (fun h2 tk hk=>?_) (by simpa using hz)))
 have hdr:(x::xs).toArray.toList.drop 1=xs:=rfl
 rw[hdr]
 show wpAny _ _ (if xs.length<2-1-1 then _ else _) _ _ _
 rw[if_neg (by omega)]
 have keep:∀ b o,s.heap.get? b=some o->h2.get? b=some o:=fun b o e=>by
  have hb:b≠s.heap.objs.size:=xj (Heap.lt_size e)
  exact hk b o hb (sb1.extBut b o hb (Heap.get?_push_of_some _ e))
 show wpAny _ _ (newList (xs.take (xs.length-(2-1-1))) >>= fun d=>pure ([x]++ [d]++xs.drop (xs.length-(2-1-1)))) _ _ _
 have h0:xs.length-(2-1-1)=xs.length:=by omega
 rw[h0,List.take_length,uh]
 refine wpAny_bind (wpAny_newList (s:={ s with heap:=h2,toks:=tk }) (wpAny_pure ?_) (by simp at hz;omega))
 exact k h2 tk keep
theorem kM{l:Addr}{x:Value}{xs:List Value}{Q:List Value->Shared->Prop}(hl:IsTup s.heap l (x::xs).toArray)(hh:A.handled=none)(hz:(x::xs).length<=sizeLine)
  (k:∀ (h2:Heap) (tk:Nat),(∀ b o,s.heap.get? b=some o->h2.get? b=some o)->Q [x,.ref h2.objs.size] { s with heap:=h2.push { cls:=.type "list",data:=.seq xs.toArray },toks:=tk }) :
  wpAny (model prog w) A (unpackItems (.ref l) 2 (some 1)) Q E s:=by
 obtain⟨ol,hol,_⟩:=id hl
 have hlt:=Heap.lt_size hol
 have hne:l≠s.heap.objs.size:=xj hlt
 unfold unpackItems notIterableAtAll
 refine wpAny_bind (wpAny_bind (wpAny_specialOf hl.typeIs PySem.F.slot_tuple_iter.lookup (wpAny_pure ?_)))
 simp only[um,if_false]
 refine wpAny_bind (wpAny_holding (iter_tuple hl ?_))
 refine wpAny_bind (wpAny_holding (draw_tuple hne 1 0 _ _ ⟨_,Heap.get?_push_size _ rfl,rfl,rfl⟩ (hl.push _) (by simp) fun h1 it1 sb1=>?_))
 have hl1:IsTup h1 l (x::xs).toArray:=(hl.push _).extBut sb1.extBut hne
 obtain⟨oi,hoi,_⟩:=id it1
 obtain⟨o1,ho1,_⟩:=id hl1
 have hfst:(((x::xs).toArray.toList.drop 0).take 1)= [x]:=rfl
 rw[hfst]
 rw[if_neg (show ¬ ([x].length<1) by simp)]
 refine wpAny_bind (wpAny_holding (PySem.W.kun_collect (s:={ s with heap:=h1 }) (T:= "tuple_iterator") (.inr (.inr (.inr rfl))) (Walks.tuple (A:=A.in1) hh s.heap.objs.size l hne (x::xs).toArray) (fun j u st=>st.1.typeIs) (k:=1) (by simp) ⟨it1,hl1⟩ (Heap.lt_size hoi) (Heap.lt_size ho1) (fun h2 tk hk=>?_) (by simpa using hz)))
 have hdr:(x::xs).toArray.toList.drop 1=xs:=rfl
 rw[hdr]
 show wpAny _ _ (if xs.length<2-1-1 then _ else _) _ _ _
 rw[if_neg (by omega)]
 have keep:∀ b o,s.heap.get? b=some o->h2.get? b=some o:=fun b o e=>by
  have hb:b≠s.heap.objs.size:=xj (Heap.lt_size e)
  exact hk b o hb (sb1.extBut b o hb (Heap.get?_push_of_some _ e))
 show wpAny _ _ (newList (xs.take (xs.length-(2-1-1))) >>= fun d=>pure ([x]++ [d]++xs.drop (xs.length-(2-1-1)))) _ _ _
 have h0:xs.length-(2-1-1)=xs.length:=by omega
 rw[h0,List.take_length,uh]
 refine wpAny_bind (wpAny_newList (s:={ s with heap:=h2,toks:=tk }) (wpAny_pure ?_) (by simp at hz;omega))
 exact k h2 tk keep
end
section
variable {M:Model} {A:Around} {E:Value->Shared->Prop} {s:Shared}
end
section
variable {X:Cx}
noncomputable def zd3(K:PySem.W.Frag)(i j:Nat):TG:=fun v σ H Q=>∃ l y ys,v=.ref l/\(SqL K H l (y::ys)∨SqT K H l (y::ys))/\∀ p,H p=none->Q ((σ.set i (some y)).set j (some (.ref p))) (upd H p (.lst ys))
theorem zcM{i j:Nat}{x y:Str}{k:Nat}{px py ps pos:Pos}(hc:X.calm=true)(hN:X.N.Nodup)(hi:X.N[i]?=some x)(hx:Loc X.env.scope x)(hfx:X.fn x=true∨X.env.scope.names.lookup x=some .local)(hj:X.N[j]?=some y)(hy:Loc X.env.scope y)(hfy:X.fn y=true∨X.env.scope.names.lookup y=some .local) :
  PG X (.Tuple [.Name x px,.Starred (.Name y py) ps] k pos) (zd3 X.K i j):=by
 intro pins s σ H v u Q I r h
 obtain⟨l,z,zs,rfl,hq,q⟩:=h
 cases r
 have fin:∀ {w:Value} {ws:List Value} {h2:Heap} {tk:Nat},RelV z w->Vals zs ws->zs.length+1<=sizeLine->(∀ b o,s.heap.get? b=some o->h2.get? b=some o)->wpAny (model X.prog X.w) X.A (assignInOrder ((assignEach [.Name x px,.Starred (.Name y py) ps] X.env).map (·.2)) [w,.ref h2.objs.size]) (fun _ s'=>∃ σ' H',Inv X pins σ' H' s'/\Q σ' H') X.xe { s with heap:=h2.push { cls:=.type "list",data:=.seq ws.toArray },toks:=tk }:=fun {w ws h2 tk} r1 r2 hz keep=>by
  have I2:Inv X pins σ H { s with heap:=h2,toks:=tk }:=I.kept (t':=tk) keep
  have I3:=I2.lnew (t':=tk) r2 (by omega)
  refine assignInOrder_cons (wpAny_assign_Name (Qd I3 hN hi hx r1 (fun s4 I4=>?_) hfx))
  refine assignInOrder_cons (wpAny_assign_Name (Qd (v:=.ref h2.objs.size) I4 hN hj hy rfl (fun s5 I5=>?_) hfy))
  exact assignInOrder_nil ⟨_,_,I5,q _ I2.fresh⟩
 rw[assign_Tuple]
 refine wpAny_bind (wpAny_standAt ?_)
 unfold unpack
 rcases hq with hq | hq
 ·obtain⟨its,rv,pl,hz⟩:=I.list hq
  cases rv with
  |cons r1 r2=>
   rename_i w ws
   exact wpAny_bind (wpAny_holding (zbg (x:=w) (xs:=ws) pl.isList (I.ok.hd hc) (by have:=r2.length;simp at hz |-;omega) fun h2 tk keep=>fin r1 r2 (by simpa using hz) keep))
 ·obtain⟨its,rv,pl,hz⟩:=I.tuple hq
  cases rv with
  |cons r1 r2=>
   rename_i w ws
   exact wpAny_bind (wpAny_holding (kM (x:=w) (xs:=ws) pl (I.ok.hd hc) (by have:=r2.length;simp at hz |-;omega) fun h2 tk keep=>fin r1 r2 (by simpa using hz) keep))
noncomputable def zgu(K:PySem.W.Frag)(n:Nat)(t:TGs):TG:=fun v σ H Q=>∃ a xs,v=.ref a/\SqL K H a xs/\xs.length=n/\t xs σ H Q
theorem zcN{es:List Expr}{k:Nat}{t:TGs}{n:Nat}{pos:Pos}(hc:X.calm=true)(h:PGs X es t)(hn:(assignEach es X.env).length=n)(hst:(assignEach es X.env).findIdx? (·.1)=none):PG X (.Tuple es k pos) (zgu X.K n t):=by
 intro pins s σ H v u Q I r hw
 obtain⟨a,xs,e1,hq,hl,hw⟩:=hw
 subst e1
 cases r
 obtain⟨its,rv,pl,hz⟩:=I.list hq
 rw[assign_Tuple]
 refine wpAny_bind (wpAny_standAt ?_)
 unfold unpack
 have hsz:(assignEach es X.env).length=its.toArray.size:=by rw[hn,<- hl,rv.length,xn]
 rw[hst,hsz]
 refine wpAny_bind (wpAny_holding (PySem.W.kun_itemsOf (I.ok.hd hc) pl.isList fun h' hx=>?_))
 have I1:Inv X pins σ H { s with heap:=h' }:=I.kept (t':=s.toks) fun b o e=>hx b o (xj (Heap.lt_size e)) e
 exact h pins _ σ H xs _ Q I1 (by simpa using rv) hw
end
end L2
namespace L3
open PySem PySem.Spec PyProof.Rows L2
inductive OV where
 |d (x:PyData)
 |l (xs:List OV)
 |t (xs:List OV)
 |m (kvs:List (Str×PyData))
 |o (c:Str) (ns:List Str) (xs:List OV)
noncomputable abbrev Gv:=List (Option OV)
mutual
noncomputable def OV.view:OV->PyData
 |.d x=>x
 |.l xs=>.list (OV.views xs)
 |.t xs=>.tuple (OV.views xs)
 |.m kvs=>.dict (kvs.map dK)
 |.o c ns xs=>.dict ((.none,.str c)::(ns.zip (OV.views xs)).map dK)
noncomputable def OV.views:List OV->List PyData
 |[]=> []
 |x::xs=>x.view::OV.views xs
end
theorem OV.views_d(xs:List PyData):OV.views (xs.map .d)=xs:=by
 induction xs with
 |nil=>rfl
 |cons x xs ih=>simp[OV.views,OV.view,ih]
theorem OV.views_map(xs:List OV):OV.views xs=xs.map OV.view:=by
 induction xs with
 |nil=>rfl
 |cons x xs ih=>simp[OV.views,ih]
variable [Cs]
mutual
/-- v stands for the value;its own lists lie at A -/
inductive OR(M:Addr->Prop)(H:Hp):V->OV->List Addr->Prop
 |d {v:V} {x:PyData}:Rep M H v x->OR M H v (.d x) []
 |l {a:Addr} {vs:List V} {xs:List OV} {A:List Addr}:H a=some (.lst vs)->ORL M H vs xs A->OR M H (.ref a) (.l xs) (a::A)
 |t {a:Addr} {vs:List V} {xs:List OV} {A:List Addr}:H a=some (.tup vs)->ORL M H vs xs A->OR M H (.ref a) (.t xs) A
 |m {a:Addr} {kvs:List (Str×V)} {ds:List (Str×PyData)}:H a=some (.dK (kvs.map kK))->kvs.map (·.1)=ds.map (·.1)->RepL M H (kvs.map (·.2)) (ds.map (·.2))->OR M H (.ref a) (.m ds) [a]
 |o {a dx:Addr} {c:Str} {fs:List (Str×V)} {ns:List Str} {xs:List OV} {A:List Addr}:H a=some (.ins (Cs.adr c) dx fs)->fs.map (·.1)=ns->ORL M H (fs.map (·.2)) xs A->OR M H (.ref a) (.o c ns xs) (a::A)
inductive ORL(M:Addr->Prop)(H:Hp):List V->List OV->List Addr->Prop
 |nil:ORL M H [] [] []
 |cons {v:V} {vs:List V} {x:OV} {xs:List OV} {A B:List Addr}:OR M H v x A->ORL M H vs xs B->ORL M H (v::vs) (x::xs) (A++B)
end
noncomputable abbrev zu:Addr->Prop:=fun _=>False
theorem qZ{M M':Addr->Prop}{H H':Hp}(hr:∀ v d,Rep M H v d->Rep M' H' v d):∀ {vs:List V}{ds:List PyData},RepL M H vs ds->RepL M' H' vs ds
 |_,_,.nil=>.nil
 |_,_,.cons r t=>.cons (hr _ _ r) (qZ hr t)
theorem OV.views_len(xs:List OV):(OV.views xs).length=xs.length:=by rw[OV.views_map,xr]
theorem ORL.length{M:Addr->Prop}{H:Hp}:∀ {vs:List V}{os:List OV}{A:List Addr},ORL M H vs os A->vs.length=os.length
 |_,_,_,.nil=>rfl
 |_,_,_,.cons _ t=>by rw[xp,xp,ORL.length t]
theorem zdU{α β:Type}:∀ {ns:List α}{xs:List β},ns.length=xs.length->(ns.zip xs).map (·.1)=ns:=fun {ns xs} h=>by rw[List.map_fst_zip (Nat.le_of_eq h)]
theorem zdV{α β:Type}:∀ {ns:List α}{xs:List β},ns.length=xs.length->(ns.zip xs).map (·.2)=xs:=fun {ns xs} h=>by rw[List.map_snd_zip (Nat.le_of_eq h.symm)]
mutual
theorem OR.go{M M':Addr->Prop}{H H':Hp}(hr:∀ v d,Rep M H v d->Rep M' H' v d)(ht:∀ b xs,H b=some (.tup xs)->H' b=some (.tup xs)):∀ {v:V}{o:OV}{A:List Addr},(∀ a∈A,H' a=H a)->OR M H v o A->OR M' H' v o A
 |_,_,_,_,.d r=>.d (hr _ _ r)
 |_,_,_,h,.l e r=>.l (by rw[h _ xm];exact e) (ORL.go hr ht (fun a ha=>h a (xk _ ha)) r)
 |_,_,_,h,.t e r=>.t (ht _ _ e) (ORL.go hr ht h r)
 |_,_,_,h,.m e k r=>.m (by rw[h _ xm];exact e) k (qZ hr r)
 |_,_,_,h,.o e k r=>.o (by rw[h _ xm];exact e) k (ORL.go hr ht (fun a ha=>h a (xk _ ha)) r)
theorem ORL.go{M M':Addr->Prop}{H H':Hp}(hr:∀ v d,Rep M H v d->Rep M' H' v d)(ht:∀ b xs,H b=some (.tup xs)->H' b=some (.tup xs)):∀ {v:List V}{o:List OV}{A:List Addr},(∀ a∈A,H' a=H a)->ORL M H v o A->ORL M' H' v o A
 |_,_,_,_,.nil=>.nil
 |_,_,_,h,.cons r t=>   .cons (OR.go hr ht (fun a ha=>h a (xY _ ha)) r) (ORL.go hr ht (fun a ha=>h a (xw _ ha)) t)
end
mutual
/-- given up: it is data from now on -/
theorem OR.rep{M M':Addr->Prop}{H:Hp}(hm:∀ b,M' b->M b):∀ {v:V}{o:OV}{A:List Addr},(∀ a∈A,¬ M' a)->OR M H v o A->Rep M' H v o.view
 |_,_,_,_,.d r=>r.less fun b hb _=>hm b hb
 |_,_,_,h,.l e r=>.list e (h _ xm) (ORL.rep hm (fun a ha=>h a (xk _ ha)) r)
 |_,_,_,h,.t e r=>.tuple e (ORL.rep hm h r)
 |_,_,_,h,.m e k r=>.dict (.inl e) (h _ xm) k (qZ (fun _ _ x=>x.less fun b hb _=>hm b hb) r)
 |_,_,_,h,.o (fs:=fs) (ns:=ns) (xs:=xs) e k r=>by
  have hl:ns.length=(OV.views xs).length:=by rw[OV.views_len,<- r.length,<- k,xr,xr]
  refine .inst e (h _ xm) (by rw[zdU hl];exact k) ?_
  rw[zdV hl]
  exact ORL.rep hm (fun a ha=>h a (xk _ ha)) r
theorem ORL.rep{M M':Addr->Prop}{H:Hp}(hm:∀ b,M' b->M b):∀ {v:List V}{o:List OV}{A:List Addr},(∀ a∈A,¬ M' a)->ORL M H v o A->RepL M' H v (OV.views o)
 |_,_,_,_,.nil=>.nil
 |_,_,_,h,.cons r t=>.cons (OR.rep hm (fun a ha=>h a (xY _ ha)) r) (ORL.rep hm (fun a ha=>h a (xw _ ha)) t)
end
theorem OR.weak{M:Addr->Prop}{H:Hp}{v:V}{o:OV}{A:List Addr}(r:OR M H v o A):Rep zu H v o.view:=r.rep (fun _ h=>h.elim) fun _ _ h=>h
mutual
theorem OR.laid{M:Addr->Prop}{H:Hp}:∀ {v:V}{o:OV}{A:List Addr},OR M H v o A->∀ a∈A,∃ vs,H a=some vs
 |_,_,_,.d _,a,h=>by cases h
 |_,_,_,.l e r,a,h=>by
  rcases xv.mp h with rfl | h
  ·exact⟨_,e⟩
  ·exact ORL.laid r a h
 |_,_,_,.t e r,a,h=>ORL.laid r a h
 |_,_,_,.m e k r,a,h=>by
  rcases xv.mp h with rfl | h
  ·exact⟨_,e⟩
  ·cases h
 |_,_,_,.o e k r,a,h=>by
  rcases xv.mp h with rfl | h
  ·exact⟨_,e⟩
  ·exact ORL.laid r a h
theorem ORL.laid{M:Addr->Prop}{H:Hp}:∀ {v:List V}{o:List OV}{A:List Addr},ORL M H v o A->∀ a∈A,∃ vs,H a=some vs
 |_,_,_,.nil,a,h=>by cases h
 |_,_,_,.cons r t,a,h=>by
  rcases xQ.mp h with h | h
  ·exact OR.laid r a h
  ·exact ORL.laid t a h
end
theorem ORL.data{M:Addr->Prop}{H:Hp}:∀ {vs:List V}{ds:List PyData},RepL M H vs ds->ORL M H vs (ds.map .d) []
 |_,_,.nil=>.nil
 |_,_,.cons r t=>.cons (A:= []) (.d r) (ORL.data t)
noncomputable abbrev Fp:=Nat->List Addr
noncomputable def fset(F:Fp)(i:Nat)(A:List Addr):Fp:=fun j=>if j=i then A else F j
theorem zd{F:Fp}{i:Nat}{A:List Addr}:fset F i A i=A:=by unfold fset;rw[if_pos rfl]
theorem zf{F:Fp}{i j:Nat}{A:List Addr}(h:j≠i):fset F i A j=F j:=by unfold fset;rw[if_neg h]
noncomputable def MM(M0:Addr->Prop)(F:Fp):Addr->Prop:=fun a=>M0 a∨∃ i,a∈F i
noncomputable abbrev Nu:=List (Option V)
structure RS(M0:Addr->Prop)(F:Fp)(Γ:Gv)(ν:Nu)(H:Hp):Prop where
 al0:∀ a,M0 a->H a≠none
 dis0:∀ i a,a∈F i->¬ M0 a
 nd:∀ i,(F i).Nodup
 dis:∀ i j a,a∈F i->a∈F j->i=j
 at':∀ i o,Γ[i]?=some (some o)->∃ v,ν[i]?=some (some v)/\OR (MM M0 F) H v o (F i)
 emp:∀ i,(∀ o,Γ[i]?≠some (some o))->F i= []
 len:ν.length=Γ.length
structure Stp(F:Fp)(H:Hp)(F':Fp)(H':Hp):Prop where
 keep:∀ b o,H b=some o->(∀ i,b∉F i)->H' b=some o/\∀ i,b∉F' i
 tups:∀ b xs,H b=some (.tup xs)->H' b=some (.tup xs)
 stay:∀ b,H b≠none->H' b≠none
theorem Stp.refl(F:Fp)(H:Hp):Stp F H F H:=⟨fun _ _ e n=>⟨e,n⟩,fun _ _ e=>e,fun _ h=>h⟩
theorem Stp.trans{F F1 F2:Fp}{H H1 H2:Hp}(a:Stp F H F1 H1)(b:Stp F1 H1 F2 H2):Stp F H F2 H2 :=
 ⟨fun c o e n=>let ⟨e1,n1⟩:=a.keep c o e n;b.keep c o e1 n1,fun c xs e=>b.tups c xs (a.tups c xs e),fun c h=>b.stay c (a.stay c h)⟩
theorem Stp.same{F:Fp}{H H':Hp}(s:Same H H'):Stp F H F H':=⟨fun b o e n=>⟨s b o e,n⟩,fun b xs e=>s b _ e,fun b h=>by
 cases q:H b with
 |none=>exact absurd q h
 |some o=>rw[s b o q];exact fun z=>nomatch z⟩
section
variable {M0:Addr->Prop} {F F':Fp} {Γ Γ':Gv} {ν ν':Nu} {H H':Hp}
theorem RS.laidF(r:RS M0 F Γ ν H){i:Nat}{a:Addr}(h:a∈F i):∃ vs,H a=some vs:=by
 by_cases q:∃ o,Γ[i]?=some (some o)
 ·obtain⟨o,q⟩:=q
  obtain⟨v,_,z⟩:=r.at' i o q
  exact z.laid a h
 ·rw[r.emp i fun o e=>q ⟨o,e⟩]at h;cases h
theorem RS.al(r:RS M0 F Γ ν H):Al (MM M0 F) H:=fun a h=>by
 rcases h with h | ⟨i,h⟩
 ·exact r.al0 a h
 ·obtain⟨vs,e⟩:=r.laidF h
  rw[e];exact fun z=>nomatch z
mutual
/-- data goes through a step -/
theorem zi(s:Stp F H F' H')(h0:∀ a,M0 a->H a≠none):∀ {v:V}{d:PyData},Rep (MM M0 F) H v d->Rep (MM M0 F') H' v d
 |_,_,.none=>.none
 |_,_,.bool b=>.bool b
 |_,_,.int i=>.int i
 |_,_,.str x=>.str x
 |_,_,.list (a:=a) e n q=>by
  have hn:∀ i,a∉F i:=fun i h=>n (.inr ⟨i,h⟩)
  obtain⟨e',n'⟩:=s.keep a _ e hn
  refine .list e' ?_ (zx s h0 q)
  rintro (h | ⟨i,h⟩)
  ·exact n (.inl h)
  ·exact n' i h
 |_,_,.tuple e q=>.tuple (s.tups _ _ e) (zx s h0 q)
 |_,_,.dict (a:=a) e n k q=>by
  have hn:∀ i,a∉F i:=fun i h=>n (.inr ⟨i,h⟩)
  have:∃ o,H a=some o:=by rcases e with e | ⟨o,e⟩<;>exact⟨_,e⟩
  obtain⟨o,eo⟩:=this
  obtain⟨_,n'⟩:=s.keep a _ eo hn
  refine .dict (e.imp (fun z=>(s.keep a _ z hn).1) fun ⟨o,z⟩=>⟨o,(s.keep a _ z hn).1⟩) ?_ k (zx s h0 q)
  rintro (h | ⟨i,h⟩)
  ·exact n (.inl h)
  ·exact n' i h
 |_,_,.inst (a:=a) e n k q=>by
  obtain⟨e',n'⟩:=s.keep a _ e fun i h=>n (.inr ⟨i,h⟩)
  refine .inst e' ?_ k (zx s h0 q)
  rintro (h | ⟨i,h⟩)
  ·exact n (.inl h)
  ·exact n' i h
theorem zx(s:Stp F H F' H')(h0:∀ a,M0 a->H a≠none):∀ {vs:List V}{ds:List PyData},RepL (MM M0 F) H vs ds->RepL (MM M0 F') H' vs ds
 |_,_,.nil=>.nil
 |_,_,.cons r t=>.cons (zi s h0 r) (zx s h0 t)
end
theorem RS.same(r:RS M0 F Γ ν H)(s:Same H H'):RS M0 F Γ ν H' where
 al0 a h:=by
  have:=r.al0 a h
  cases q:H a with
  |none=>exact absurd q this
  |some o=>rw[s a o q];exact fun z=>nomatch z
 dis0:=r.dis0
 nd:=r.nd
 dis:=r.dis
 at' i o e:=by
  obtain⟨v,e1,q⟩:=r.at' i o e
  exact⟨v,e1,q.go (fun v d x=>x.grow s.grow) (fun b xs e=>s b _ e) fun a ha=>by
   obtain⟨vs,z⟩:=q.laid a ha
   rw[z,s a _ z]⟩
 emp:=r.emp
 len:=r.len
theorem RS.put{i:Nat}{o:OV}{v:V}{A:List Addr}(r:RS M0 F Γ ν H)(s:Stp F H (fset F i A) H')(hF:∀ j,j≠i->∀ a∈F j,H' a=H a)
  (hm:∀ a,M0 a->H' a≠none) (hA0:∀ a∈A,¬ M0 a) (hAn:A.Nodup) (hAd:∀ j,j≠i->∀ a∈A,a∉F j) (hi:i<Γ.length)
  (q:OR (MM M0 (fset F i A)) H' v o A):RS M0 (fset F i A) (Γ.set i (some o)) (ν.set i (some v)) H' where
 al0:=hm
 dis0 j a h:=by
  by_cases hj:j=i
  ·subst hj;rw[zd]at h;exact hA0 a h
  ·rw[zf hj]at h;exact r.dis0 j a h
 nd j:=by
  by_cases hj:j=i
  ·subst hj;rw[zd];exact hAn
  ·rw[zf hj];exact r.nd j
 dis j k a h1 h2:=by
  by_cases hj:j=i
  ·by_cases hk:k=i
   ·rw[hj,hk]
   ·subst hj;rw[zd]at h1;rw[zf hk]at h2;exact absurd h2 (hAd k hk a h1)
  ·by_cases hk:k=i
   ·subst hk;rw[zd]at h2;rw[zf hj]at h1;exact absurd h1 (hAd j hj a h2)
   ·rw[zf hj]at h1;rw[zf hk]at h2;exact r.dis j k a h1 h2
 at' j p e:=by
  by_cases hj:j=i
  ·subst hj
   rw[xi hi]at e
   cases e
   refine⟨v,by rw[xi (by rw[r.len];exact hi)],?_⟩
   rw[zd];exact q
  ·rw[xg (Ne.symm hj)]at e |-
   obtain⟨u,e1,z⟩:=r.at' j p e
   refine⟨u,e1,?_⟩
   rw[zf hj]
   exact z.go (fun v d x=>zi s r.al0 x) s.tups (hF j hj)
 emp j h:=by
  by_cases hj:j=i
  ·subst hj
   rw[xi hi]at h
   exact absurd rfl (h o)
  ·rw[zf hj]
   refine r.emp j fun p e=>h p ?_
   rw[xg (Ne.symm hj)];exact e
 len:=by rw[xG,xG];exact r.len
theorem RS.setD{i:Nat}{d:PyData}{v:V}(r:RS M0 F Γ ν H)(q:Rep (MM M0 F) H v d)(hi:i<Γ.length):∃ F',RS M0 F' (Γ.set i (some (.d d))) (ν.set i (some v)) H/\Stp F H F' H:=by
 have s:Stp F H (fset F i []) H:=⟨fun b o e n=>⟨e,fun j=>by
  by_cases hj:j=i
  ·subst hj;rw[zd];exact fun z=>nomatch z
  ·rw[zf hj];exact n j⟩,fun _ _ e=>e,fun _ h=>h⟩
 exact⟨_,r.put s (fun _ _ _ _=>rfl) r.al0 (fun _ h=>nomatch h) .nil (fun _ _ _ h=>nomatch h) hi (.d (zi s r.al0 q)),s⟩
noncomputable def Ja(F:Fp)(n:Nat):Fp:=fun j=>if j<n then F j else []
theorem vF{n j:Nat}(h:j<n):Ja F n j=F j:=by unfold Ja;rw[if_pos h]
theorem Yj{n j:Nat}(h:¬ j<n):Ja F n j= []:=by unfold Ja;rw[if_neg h]
theorem qq{n j:Nat}{a:Addr}(h:a∈Ja F n j):j<n/\a∈F j:=by
 unfold Ja at h
 split at h
 ·exact⟨by assumption,h⟩
 ·cases h
theorem jp(h:∀ j a,a∈F' j->∃ k,a∈F k):Stp F H F' H:=⟨fun b o e n=>⟨e,fun j hj=>let ⟨k,hk⟩:=h j b hj;n k hk⟩,fun _ _ e=>e,fun _ h=>h⟩
theorem RS.cut(r:RS M0 F Γ ν H)(n:Nat):RS M0 (Ja F n) (Γ.take n) (ν.take n) H/\Stp F H (Ja F n) H:=by
 have s:Stp F H (Ja F n) H:=jp fun j a h=>⟨j,(qq h).2⟩
 refine⟨⟨r.al0,fun j a h=>r.dis0 j a (qq h).2,fun j=>?_,fun j k a h1 h2=>r.dis j k a (qq h1).2 (qq h2).2,fun j o e=>?_,fun j h=>?_,?_⟩,s⟩
 ·by_cases hj:j<n
  ·rw[vF hj];exact r.nd j
  ·rw[Yj hj];exact .nil
 ·have hj:j<n:=by
   by_cases hj:j<n
   ·exact hj
   ·rw[xo (by rw[xH];omega)]at e;cases e
  rw[xF hj]at e |-
  obtain⟨v,e1,q⟩:=r.at' j o e
  exact⟨v,e1,by rw[vF hj];exact q.go (fun _ _ x=>zi s r.al0 x) s.tups fun _ _=>rfl⟩
 ·by_cases hj:j<n
  ·rw[vF hj]
   refine r.emp j fun o e=>h o ?_
   rw[xF hj];exact e
  ·exact Yj hj
 ·rw[xH,xH,r.len]
theorem RS.ext(r:RS M0 F Γ ν H)(k:Nat):RS M0 F (Γ++List.replicate k none) (ν++List.replicate k none) H:=by
 have get:∀ {α:Type} (l:List (Option α)) (j:Nat) (o:α),(l++List.replicate k none)[j]?=some (some o)->l[j]?=some (some o):=fun {α} l j o e=>by
  by_cases hj:j<l.length
  ·rw[xc hj]at e;exact e
  ·rw[xf (by omega),xz]at e
   split at e<;>cases e
 have put:∀ {α:Type} (l:List (Option α)) (j:Nat) (o:α),l[j]?=some (some o)->(l++List.replicate k none)[j]?=some (some o):=fun {α} l j o e=>by
  rw[xc (xb.mp e).1];exact e
 exact⟨r.al0,r.dis0,r.nd,r.dis,fun j o e=>let ⟨v,e1,q⟩:=r.at' j o (get _ _ _ e);⟨v,put _ _ _ e1,q⟩,fun j h=>r.emp j fun o e=>h o (put _ _ _ e),by simp[r.len]⟩
theorem q8{α:Type}(l:List (Option α))(x:α):(l++List.replicate 1 none).set l.length (some x)=l++ [some x]:=by
 rw[uf _ _ (xh _)];simp
theorem RS.newO{p:Addr}{vs:List V}{ds:List PyData}(r:RS M0 F Γ ν H)(n:H p=none)(q:RepL (MM M0 F) H vs ds) :
  RS M0 (fset F Γ.length [p]) (Γ++ [some (.l (ds.map .d))]) (ν++ [some (.ref p)]) (upd H p (.lst vs))/\Stp F H (fset F Γ.length [p]) (upd H p (.lst vs)):=by
 have hp:∀ i,p∉F i:=fun i h=>by
  obtain⟨vs,e⟩:=r.laidF h
  rw[n]at e;cases e
 have he:F Γ.length= []:=r.emp _ fun o e=>by
  rw[xo (xh _)]at e;cases e
 have s:Stp F H (fset F Γ.length [p]) (upd H p (.lst vs)):=⟨fun b o e nb=>⟨zr n b o e,fun j h=>by
  by_cases hj:j=Γ.length
  ·subst hj;rw[zd]at h
   have e':b=p:=by simpa using h
   subst e';rw[n]at e;cases e
  ·rw[zf hj]at h;exact nb j h⟩,fun b xs e=>zr n b _ e,fun b h=>by
   by_cases e:b=p
   ·subst e;exact absurd n h
   ·rw[zc e];exact h⟩
 have r1:=(r.ext 1).put (i:=Γ.length) (o:=.l (ds.map .d)) (v:=.ref p) (A:= [p]) (H':=upd H p (.lst vs)) s (fun j _ a ha=>zc (fun e=>hp j (by rw[<- e];exact ha)))
  (fun a h=>s.stay a (r.al0 a h)) (fun a ha h=>by
   have e:a=p:=by simpa using ha
   subst e;exact r.al0 a h n) (xy.mpr ⟨(fun z=>nomatch z),.nil⟩) (fun j _ a ha=>by
   have e:a=p:=by simpa using ha
   subst e;exact hp j) (by simp) (.l ze (ORL.data (zx s r.al0 q)))
 rw[q8]at r1
 have e2:(ν++List.replicate 1 none).set Γ.length (some (V.ref p))=ν++ [some (V.ref p)]:=by rw[<- r.len,q8]
 rw[e2]at r1
 exact⟨r1,s⟩
theorem RS.move{i:Nat}{o:OV}{v:V}(r:RS M0 F (Γ++ [some o]) (ν++ [some v]) H)(hi:i<Γ.length):∃ F',RS M0 F' (Γ.set i (some o)) (ν.set i (some v)) H/\Stp F H F' H:=by
 have hl:ν.length=Γ.length:=by have:=r.len;simp at this;exact this
 have hni:Γ.length≠i:=ug hi
 let F':Fp:=fun j=>if j=i then F Γ.length else if j<Γ.length then F j else []
 have hFi:F' i=F Γ.length:=by show (if i=i then _ else _)=_;rw[if_pos rfl]
 have hFj:∀ j,j≠i->j<Γ.length->F' j=F j:=fun j h1 h2=>by show (if j=i then _ else _)=_;rw[if_neg h1,if_pos h2]
 have hFo:∀ j,j≠i->¬ j<Γ.length->F' j= []:=fun j h1 h2=>by show (if j=i then _ else _)=_;rw[if_neg h1,if_neg h2]
 have sub:∀ j a,a∈F' j->(j=i/\a∈F Γ.length)∨(j≠i/\j<Γ.length/\a∈F j):=fun j a h=>by
  by_cases h1:j=i
  ·subst h1;rw[hFi]at h;exact .inl ⟨rfl,h⟩
  ·by_cases h2:j<Γ.length
   ·rw[hFj j h1 h2]at h;exact .inr ⟨h1,h2,h⟩
   ·rw[hFo j h1 h2]at h;cases h
 have s:Stp F H F' H:=jp fun j a h=>by
  rcases sub j a h with ⟨_,h⟩ | ⟨_,_,h⟩
  ·exact⟨_,h⟩
  ·exact⟨_,h⟩
 refine⟨F',⟨r.al0,fun j a h=>?_,fun j=>?_,fun j k a h1 h2=>?_,fun j p e=>?_,fun j h=>?_,by simp[hl]⟩,s⟩
 ·rcases sub j a h with ⟨_,h⟩ | ⟨_,_,h⟩
  ·exact r.dis0 _ a h
  ·exact r.dis0 _ a h
 ·by_cases h1:j=i
  ·subst h1;rw[hFi];exact r.nd _
  ·by_cases h2:j<Γ.length
   ·rw[hFj j h1 h2];exact r.nd _
   ·rw[hFo j h1 h2];exact .nil
 ·rcases sub j a h1 with ⟨e1,z1⟩ | ⟨n1,l1,z1⟩
  ·rcases sub k a h2 with ⟨e2,z2⟩ | ⟨n2,l2,z2⟩
   ·rw[e1,e2]
   ·have:=r.dis _ _ a z1 z2;omega
  ·rcases sub k a h2 with ⟨e2,z2⟩ | ⟨n2,l2,z2⟩
   ·have:=r.dis _ _ a z1 z2;omega
   ·exact r.dis _ _ a z1 z2
 ·by_cases hj:j=i
  ·subst hj
   rw[xi hi]at e
   cases e
   obtain⟨u,e1,q⟩:=r.at' Γ.length o (by rw[xf (xh _)];simp)
   rw[xf (by omega),hl]at e1
   simp at e1
   subst e1
   refine⟨v,by rw[xi (by omega)],?_⟩
   rw[hFi];exact q.go (fun _ _ x=>zi s r.al0 x) s.tups fun _ _=>rfl
  ·rw[xg (Ne.symm hj)]at e |-
   have hjl:j<Γ.length:=(xb.mp e).1
   obtain⟨u,e1,q⟩:=r.at' j p (by rw[xc hjl];exact e)
   rw[xc (by omega)]at e1
   exact⟨u,e1,by rw[hFj j hj hjl];exact q.go (fun _ _ x=>zi s r.al0 x) s.tups fun _ _=>rfl⟩
 ·by_cases hj:j=i
  ·subst hj;rw[xi hi]at h;exact absurd rfl (h o)
  ·by_cases h2:j<Γ.length
   ·rw[hFj j hj h2]
    refine r.emp j fun p e=>h p ?_
    rw[xc h2]at e
    rw[xg (Ne.symm hj)];exact e
   ·exact hFo j hj h2
theorem RS.dropD{o:OV}{v:V}(r:RS M0 F (Γ++ [some o]) (ν++ [some v]) H):∃ F',RS M0 F' Γ ν H/\Stp F H F' H/\Rep (MM M0 F') H v o.view:=by
 have hl:ν.length=Γ.length:=by have:=r.len;simp at this;exact this
 obtain⟨r1,s⟩:=r.cut Γ.length
 have e1:(Γ++ [some o]).take Γ.length=Γ:=by simp
 have e2:(ν++ [some v]).take Γ.length=ν:=by rw[<- hl];simp
 rw[e1,e2]at r1
 refine⟨_,r1,s,?_⟩
 obtain⟨u,e,q⟩:=r.at' Γ.length o (by rw[xf (xh _)];simp)
 rw[xf (by omega),hl]at e
 simp at e
 subst e
 refine q.rep (fun b hb=>?_) (fun a ha hb=>?_)
 ·rcases hb with hb | ⟨j,hb⟩
  ·exact .inl hb
  ·exact .inr ⟨j,(qq hb).2⟩
 ·rcases hb with hb | ⟨j,hb⟩
  ·exact r.dis0 _ a ha hb
  ·have:=r.dis _ _ a ha (qq hb).2
   have:=(qq hb).1
   omega
theorem RS.frz{i:Nat}{o:OV}(r:RS M0 F Γ ν H)(e:Γ[i]?=some (some o)):∃ F' v,ν[i]?=some (some v)/\RS M0 F' (Γ.set i (some (.d o.view))) ν H/\Stp F H F' H/\Rep (MM M0 F') H v o.view:=by
 obtain⟨v,ev,q⟩:=r.at' i o e
 have hi:=(xb.mp e).1
 have s:Stp F H (fset F i []) H:=jp fun j a h=>by
  by_cases hj:j=i
  ·subst hj;rw[zd]at h;cases h
  ·rw[zf hj]at h;exact⟨j,h⟩
 have hq:Rep (MM M0 (fset F i [])) H v o.view:=q.rep (fun b hb=>by
  rcases hb with hb | ⟨j,hb⟩
  ·exact .inl hb
  ·by_cases hj:j=i
   ·subst hj;rw[zd]at hb;cases hb
   ·rw[zf hj]at hb;exact .inr ⟨j,hb⟩) (fun a ha hb=>by
  rcases hb with hb | ⟨j,hb⟩
  ·exact r.dis0 _ a ha hb
  ·by_cases hj:j=i
   ·subst hj;rw[zd]at hb;cases hb
   ·rw[zf hj]at hb;exact hj (r.dis _ _ a hb ha))
 have r1:=r.put (i:=i) (A:= []) s (fun _ _ _ _=>rfl) r.al0 (fun _ h=>nomatch h) .nil (fun _ _ _ h=>nomatch h) hi (.d hq)
 have e2:ν.set i (some v)=ν:=by
  apply xI
  intro j
  by_cases hj:i=j
  ·subst hj;rw[xi (xb.mp ev).1,ev]
  ·rw[xg hj]
 rw[e2]at r1
 exact⟨_,v,ev,r1,s,hq⟩
theorem RS.mut{i:Nat}{xs xs':List OV}{a:Addr}{vs:List V}(r:RS M0 F Γ ν H)(e:Γ[i]?=some (some (.l xs)))(ev:ν[i]?=some (some (.ref a)))
  (h:∀ us A,H a=some (.lst us)->ORL (MM M0 F) H us xs A->F i=a::A->∃ A',(∀ b∈A',b∈A)/\A'.Nodup/\ORL (MM M0 F) H vs xs' A') :
  ∃ F',RS M0 F' (Γ.set i (some (.l xs'))) ν (upd H a (.lst vs))/\Stp F H F' (upd H a (.lst vs)):=by
 obtain⟨v,ev',q⟩:=r.at' i _ e
 rw[ev]at ev';cases ev'
 have hi:=(xb.mp e).1
 generalize hA:F i=Ai at q
 cases q with
 |l ea qa=>
  rename_i us A
  obtain⟨A',sub,nd',q'⟩:=h us A ea qa hA
  have nd:=r.nd i
  rw[hA]at nd
  have hnA:a∉A:=(xy.mp nd).1
  have inF:∀ b,b∈(a::A')->b∈F i:=fun b hb=>by
   rw[hA]
   rcases xv.mp hb with z | z
   ·rw[z];exact xm
   ·exact xk _ (sub b z)
  have s:Stp F H (fset F i (a::A')) (upd H a (.lst vs)):=⟨fun b o eb nb=>⟨by rw[zc (fun z=>nb i (by rw[hA,z];exact xm))];exact eb,fun j hj=>by
   by_cases z:j=i
   ·subst z;rw[zd]at hj;exact nb j (inF b hj)
   ·rw[zf z]at hj;exact nb j hj⟩,fun b xs eb=>by rw[zc (zd5 eb ea (by intro z;cases z))];exact eb,fun b hb=>by
   by_cases z:b=a
   ·subst z;rw[ze];exact fun w=>nomatch w
   ·rw[zc z];exact hb⟩
  have r1:=r.put (i:=i) (o:=.l xs') (v:=.ref a) (A:=a::A') s (fun j hj b hb=>by
    rw[zc]
    intro z
    subst z
    exact hj (r.dis j i b hb (by rw[hA];exact xm))) (fun b hb=>s.stay b (r.al0 b hb)) (fun b hb=>r.dis0 i b (inF b hb)) (xy.mpr ⟨fun z=>hnA (sub a z),nd'⟩)
   (fun j hj b hb hbj=>hj (r.dis j i b hbj (inF b hb))) hi (.l ze (q'.go (fun _ _ x=>zi s r.al0 x) s.tups fun b hb=>by
    rw[zc];intro z;subst z;exact hnA (sub b hb)))
  have e2:ν.set i (some (V.ref a))=ν:=by
   apply xI
   intro j
   by_cases hj:i=j
   ·subst hj;rw[xi (xb.mp ev).1,ev]
   ·rw[xg hj]
  rw[e2]at r1
  exact⟨_,r1,s⟩
end
theorem ORL.setD{M:Addr->Prop}{H:Hp}{v:V}{d:PyData}(q:Rep M H v d):∀ {vs:List V}{os:List OV}{A:List Addr}{j:Nat}{x:PyData},ORL M H vs os A->os[j]?=some (.d x)->ORL M H (vs.set j v) (os.set j (.d d)) A
 |_,_,_,_,_,.nil,e=>by simp at e
 |_,_,_,0,x,.cons r t,e=>by
  simp at e
  subst e
  cases r
  exact .cons (A:= []) (.d q) t
 |_,_,_,j+1,x,.cons r t,e=>.cons r (ORL.setD (j:=j) q t (by simpa using e))
theorem ORL.get{M:Addr->Prop}{H:Hp}:∀ {vs:List V}{os:List OV}{A:List Addr}{j:Nat}{x:PyData},ORL M H vs os A->os[j]?=some (.d x)->∃ v,vs[j]?=some v/\Rep M H v x
 |_,_,_,_,_,.nil,e=>by simp at e
 |_,_,_,0,x,.cons r t,e=>by
  simp at e
  subst e
  cases r with
  |d r=>exact⟨_,rfl,r⟩
 |_,_,_,j+1,x,.cons r t,e=>by
  obtain⟨v,e1,q⟩:=ORL.get (j:=j) t (by simpa using e)
  exact⟨v,by simpa using e1,q⟩
noncomputable abbrev St:=L2.St
structure Exc where
 cls:Str
 pay:PyData
inductive R(α:Type) where
 |ok (a:α)
 |exc (x:Exc) (Γ:Gv)
 |bad
noncomputable def R.bind{α β:Type}(r:R α)(f:α->R β):R β:=match r with
 |.ok a=>f a
 |.exc x Γ=>.exc x Γ
 |.bad=>.bad
noncomputable abbrev EM(α:Type):=Gv->R (α×Gv)
inductive FV where
 |dat (x:PyData)
 |own (i:Nat)
noncomputable def derf(Γ:Gv):FV->Option PyData
 |.dat x=>some x
 |.own i=>match Γ[i]? with
  |some (some o)=>some o.view
  |_=>none
noncomputable def derS(Γ:Gv):FV->Option PyData
 |.dat x=>some x
 |.own i=>match Γ[i]? with
  |some (some (.d x))=>some x
  |_=>none
noncomputable def leaves:List OV->Option (List PyData)
 |[]=>some []
 |.d x::r=>(leaves r).map (x::·)
 |.l _::_=>none
 |.t _::_=>none
 |.m _::_=>none
 |.o _ _ _::_=>none
theorem zad(xs:List PyData):leaves (xs.map .d)=some xs:=by
 induction xs with
 |nil=>rfl
 |cons x r ih=>simp[leaves,ih]
noncomputable def derL(Γ:Gv):FV->Option (List PyData)
 |.dat (.list xs)=>some xs
 |.own i=>match Γ[i]? with
  |some (some (.l xs))=>leaves xs
  |some (some (.d (.list xs)))=>some xs
  |_=>none
 |_=>none
noncomputable abbrev XPT:=Exc->Gv->Fp->Nu->St->Hp->Prop
noncomputable def Sees(mp:List Nat)(ν:Nu)(σ:St):Prop:=∀ (s i:Nat) (v:V),mp[s]?=some i->ν[i]?=some (some v)->σ[s]?=some (some v)
noncomputable def EPost{α:Type}(M0:Addr->Prop)(F:Fp)(ν:Nu)(σ:St)(H:Hp)(XP:XPT)(P:Fp->Gv->Hp->α->Prop)(r:R (α×Gv)):Prop:=match r with
 |.ok (a,Γ')=>∀ F' H',RS M0 F' Γ' ν H'->Stp F H F' H'->P F' Γ' H' a
 |.exc x Γ'=>∀ F' H',RS M0 F' Γ' ν H'->Stp F H F' H'->XP x Γ' F' ν σ H'
 |.bad=>False
section
variable {α β:Type} {M0:Addr->Prop} {F:Fp} {Γ:Gv} {ν:Nu} {σ:St} {H:Hp} {XP:XPT}
theorem EPost.mono{P P':Fp->Gv->Hp->α->Prop}{r:R (α×Gv)}(h:EPost M0 F ν σ H XP P r)(k:∀ F' Γ' H' a,RS M0 F' Γ' ν H'->Stp F H F' H'->P F' Γ' H' a->P' F' Γ' H' a):EPost M0 F ν σ H XP P' r:=by
 cases r with
 |ok a=>exact fun F' H' rs s=>k F' _ H' _ rs s (h F' H' rs s)
 |exc x Γ'=>exact h
 |bad=>exact h
theorem EPost.seq{P:Fp->Gv->Hp->β->Prop}{r:R (α×Gv)}{k:α×Gv->R (β×Gv)}(h:EPost M0 F ν σ H XP P (r.bind k)) :
  EPost M0 F ν σ H XP (fun F1 Γ1 H1 a=>EPost M0 F1 ν σ H1 XP P (k (a,Γ1))) r:=by
 cases r with
 |ok a=>
  obtain⟨a,Γ1⟩:=a
  intro F1 H1 rs1 s1
  have h':EPost M0 F ν σ H XP P (k (a,Γ1)):=h
  revert h'
  generalize k (a,Γ1)=r2
  intro h'
  cases r2 with
  |ok b=>exact fun F' H' rs s=>h' F' H' rs (s1.trans s)
  |exc x Γ'=>exact fun F' H' rs s=>h' F' H' rs (s1.trans s)
  |bad=>exact h'
 |exc x Γ'=>exact h
 |bad=>exact h
theorem EPost.step{P:Fp->Gv->Hp->α->Prop}{r:R (α×Gv)}{F1:Fp}{H1:Hp}(h:EPost M0 F ν σ H XP P r)(s1:Stp F H F1 H1):EPost M0 F1 ν σ H1 XP P r:=by
 cases r with
 |ok b=>exact fun F' H' rs s=>h F' H' rs (s1.trans s)
 |exc x Γ'=>exact fun F' H' rs s=>h F' H' rs (s1.trans s)
 |bad=>exact h
end
noncomputable def FOk(M0:Addr->Prop)(F:Fp)(ν:Nu)(H:Hp)(v:V):FV->Prop
 |.dat x=>Rep (MM M0 F) H v x
 |.own i=>ν[i]?=some (some v)
section
variable {M0:Addr->Prop} {F F':Fp} {Γ:Gv} {ν:Nu} {H H':Hp} {v:V} {u:FV} {x:PyData}
theorem FOk.stp(h:FOk M0 F ν H v u)(s:Stp F H F' H')(h0:∀ a,M0 a->H a≠none):FOk M0 F' ν H' v u:=by
 cases u with
 |dat x=>exact zi s h0 h
 |own i=>exact h
theorem FOk.weak(h:FOk M0 F ν H v u)(rs:RS M0 F Γ ν H)(e:derf Γ u=some x):Rep zu H v x:=by
 cases u with
 |dat y=>cases e;exact Rep.less (fun _ z _=>z.elim) h
 |own i=>
  dsimp only [derf]at e
  split at e
  ·rename_i o q
   cases e
   obtain⟨w,e1,r⟩:=rs.at' i o q
   have h':ν[i]?=some (some v):=h
   rw[h']at e1;cases e1
   exact r.weak
  ·cases e
theorem FOk.strong(h:FOk M0 F ν H v u)(rs:RS M0 F Γ ν H)(e:derS Γ u=some x):Rep (MM M0 F) H v x:=by
 cases u with
 |dat y=>cases e;exact h
 |own i=>
  dsimp only [derS]at e
  split at e
  ·rename_i y q
   cases e
   obtain⟨w,e1,r⟩:=rs.at' i _ q
   have h':ν[i]?=some (some v):=h
   rw[h']at e1;cases e1
   generalize F i=A at r
   cases r with
   |d r=>exact r
  ·cases e
theorem ORL.leaf{M:Addr->Prop}:∀ {vs:List V}{os:List OV}{A:List Addr}{ds:List PyData},ORL M H vs os A->leaves os=some ds->RepL M H vs ds/\A= []
 |_,_,_,_,.nil,e=>by cases e;exact⟨.nil,rfl⟩
 |_,_,_,_,.cons (x:=.d x) r t,e=>by
  unfold leaves at e
  rename_i vs xs A B
  cases q:leaves xs with
  |none=>rw[q]at e;cases e
  |some ys=>
   rw[q]at e;cases e
   obtain⟨h1,h2⟩:=ORL.leaf t q
   cases r with
   |d r=>exact⟨.cons r h1,by rw[h2];rfl⟩
 |_,_,_,_,.cons (x:=.l x) r t,e=>by cases e
 |_,_,_,_,.cons (x:=.t x) r t,e=>by cases e
 |_,_,_,_,.cons (x:=.m x) r t,e=>by cases e
 |_,_,_,_,.cons (x:=.o _ _ x) r t,e=>by cases e
theorem FOk.list{ds:List PyData}(h:FOk M0 F ν H v u)(rs:RS M0 F Γ ν H)(e:derL Γ u=some ds):∃ a vs,v=.ref a/\H a=some (.lst vs)/\RepL (MM M0 F) H vs ds:=by
 unfold derL at e
 split at e
 ·cases e
  obtain⟨a,vs,rfl,e1,_,r⟩:=Rep.lst_inv h
  exact⟨a,vs,rfl,e1,r⟩
 ·rename_i i
  have h':ν[i]?=some (some v):=h
  split at e
  ·rename_i q
   obtain⟨w,e1,r⟩:=rs.at' i _ q
   rw[h']at e1;cases e1
   generalize F i=A at r
   cases r with
   |l ea qa=>exact⟨_,_,rfl,ea,(ORL.leaf qa e).1⟩
  ·rename_i q
   cases e
   obtain⟨w,e1,r⟩:=rs.at' i _ q
   rw[h']at e1;cases e1
   generalize F i=A at r
   cases r with
   |d r=>
    obtain⟨a,vs,rfl,e1,_,r⟩:=Rep.lst_inv r
    exact⟨a,vs,rfl,e1,r⟩
  ·cases e
 ·cases e
end
noncomputable def SE(X:Cx)(XP:XPT)(mp:List Nat)(e:Expr)(f:EM FV):Prop:=∀ (M0:Addr->Prop) (F:Fp) (Γ:Gv) (ν:Nu) (σ:St) (H:Hp) (Q:VK),RS M0 F Γ ν H->Sees mp ν σ ->
 EPost M0 F ν σ H XP (fun F' Γ' H' u=>∀ v,FOk M0 F' ν H' v u->Q v H') (f Γ)->wpE X e σ H Q
noncomputable def SN(X:Cx)(XP:XPT)(mp:List Nat)(e:Expr)(f:EM (List PyData)):Prop:=∀ (M0:Addr->Prop) (F:Fp) (Γ:Gv) (ν:Nu) (σ:St) (H:Hp) (Q:VK),RS M0 F Γ ν H->Sees mp ν σ ->
 EPost M0 F ν σ H XP (fun F' Γ' H' ds=>∀ vs p,RepL (MM M0 F') H' vs ds->H' p=none->Q (.ref p) (upd H' p (.lst vs))) (f Γ)->wpE X e σ H Q
noncomputable def ST(X:Cx)(XP:XPT)(mp:List Nat)(e:Expr)(f:EM Bool):Prop:=∀ (M0:Addr->Prop) (F:Fp) (Γ:Gv) (ν:Nu) (σ:St) (H:Hp) (Q:Bool->Hp->Prop),RS M0 F Γ ν H->Sees mp ν σ ->
 EPost M0 F ν σ H XP (fun F' Γ' H' b=>Q b H') (f Γ)->wpT X e σ H Q
noncomputable def SW(X:Cx)(XP:XPT)(mp:List Nat)(e:Expr)(f:EM Bool):Prop:=∀ (M0:Addr->Prop) (F:Fp) (Γ:Gv) (ν:Nu) (σ:St) (H:Hp) (Q:Bool->Hp->Prop),RS M0 F Γ ν H->Sees mp ν σ ->
 EPost M0 F ν σ H XP (fun F' Γ' H' b=>Q b H') (f Γ)->wpW X e σ H Q
section
variable {X:Cx} {XP:XPT} {mp:List Nat} {a b c e:Expr} {es:List Expr} {pos p p2:Pos} {fa fb fc:EM FV} {ta tb:EM Bool} {na nb:EM (List PyData)}
section
variable {β:Type} {M0:Addr->Prop} {F:Fp} {Γ:Gv} {ν:Nu} {σ:St} {H:Hp} {P:Fp->Gv->Hp->β->Prop}
theorem SE.run{Q:VK}{k:FV×Gv->R (β×Gv)}(ha:SE X XP mp a fa)(rs:RS M0 F Γ ν H)(hs:Sees mp ν σ)(h:EPost M0 F ν σ H XP P ((fa Γ).bind k))
  (kk:∀ F1 Γ1 H1 u v,RS M0 F1 Γ1 ν H1->Stp F H F1 H1->FOk M0 F1 ν H1 v u->EPost M0 F1 ν σ H1 XP P (k (u,Γ1))->Q v H1):wpE X a σ H Q :=
 ha M0 F Γ ν σ H Q rs hs (h.seq.mono fun F1 Γ1 H1 u rs1 s1 h1 v hv=>kk F1 Γ1 H1 u v rs1 s1 hv h1)
theorem SN.run{Q:VK}{k:List PyData×Gv->R (β×Gv)}(ha:SN X XP mp a na)(rs:RS M0 F Γ ν H)(hs:Sees mp ν σ)(h:EPost M0 F ν σ H XP P ((na Γ).bind k))
  (kk:∀ F1 Γ1 H1 ds vs p,RS M0 F1 Γ1 ν H1->Stp F H F1 H1->RepL (MM M0 F1) H1 vs ds->H1 p=none->EPost M0 F1 ν σ H1 XP P (k (ds,Γ1))->Q (.ref p) (upd H1 p (.lst vs))):wpE X a σ H Q :=
 ha M0 F Γ ν σ H Q rs hs (h.seq.mono fun F1 Γ1 H1 u rs1 s1 h1 vs p r n=>kk F1 Γ1 H1 u vs p rs1 s1 r n h1)
theorem ST.run{Q:Bool->Hp->Prop}{k:Bool×Gv->R (β×Gv)}(ha:ST X XP mp a ta)(rs:RS M0 F Γ ν H)(hs:Sees mp ν σ)(h:EPost M0 F ν σ H XP P ((ta Γ).bind k))
  (kk:∀ F1 Γ1 H1 u,RS M0 F1 Γ1 ν H1->Stp F H F1 H1->EPost M0 F1 ν σ H1 XP P (k (u,Γ1))->Q u H1):wpT X a σ H Q :=
 ha M0 F Γ ν σ H Q rs hs (h.seq.mono fun F1 Γ1 H1 u rs1 s1 h1=>kk F1 Γ1 H1 u rs1 s1 h1)
end
noncomputable def fNew(n:EM (List PyData)):EM FV:=fun Γ=>(n Γ).bind fun (ds,Γ1)=>.ok (.dat (.list ds),Γ1)
theorem SN.se(h:SN X XP mp a na):SE X XP mp a (fNew na):=fun M0 F Γ ν σ H Q rs hs hp=>
 h.run rs hs hp fun F1 Γ1 H1 ds vs p rs1 s1 r n h1=>by
  have s2:Same H1 (upd H1 p (.lst vs)):=zr n
  exact h1 F1 _ (rs1.same s2) (.same s2) _ (Rep.list ze (fun z=>rs1.al p z n) (r.grow s2.grow))
noncomputable def fVar(i:Nat):EM FV:=fun Γ=>match Γ[i]? with
 |some (some (.d x))=>.ok (.dat x,Γ)
 |some (some (.l _))=>.ok (.own i,Γ)
 |some (some (.t _))=>.ok (.own i,Γ)
 |some (some (.m _))=>.ok (.own i,Γ)
 |some (some (.o _ _ _))=>.ok (.own i,Γ)
 |_=>.bad
theorem zfH {s i:Nat}{x:Str}(hN:X.N[s]?=some x) (hv:Vis X.env.scope x) (hm:mp[s]?=some i) (hd:(x==("__debug__" :Str))=false) (hcd:(x==("__classdict__" :Str))=false) :
  SE X XP mp (.Name x pos) (fVar i):=fun M0 F Γ ν σ H Q rs hs hp=>by
 unfold fVar at hp
 split at hp
 ·rename_i y q
  obtain⟨v,e1,r⟩:=rs.at' i _ q
  generalize hA:F i=A at r
  cases r with
  |d r=>exact (zz hN hv hd hcd).wp ⟨v,hs s i v hm e1,hp F H rs (.refl F H) v r⟩
 ·rename_i y q
  obtain⟨v,e1,r⟩:=rs.at' i _ q
  exact (zz hN hv hd hcd).wp ⟨v,hs s i v hm e1,hp F H rs (.refl F H) v e1⟩
 ·rename_i y q
  obtain⟨v,e1,r⟩:=rs.at' i _ q
  exact (zz hN hv hd hcd).wp ⟨v,hs s i v hm e1,hp F H rs (.refl F H) v e1⟩
 ·rename_i y q
  obtain⟨v,e1,r⟩:=rs.at' i _ q
  exact (zz hN hv hd hcd).wp ⟨v,hs s i v hm e1,hp F H rs (.refl F H) v e1⟩
 ·rename_i y _ _ q
  obtain⟨v,e1,r⟩:=rs.at' i _ q
  exact (zz hN hv hd hcd).wp ⟨v,hs s i v hm e1,hp F H rs (.refl F H) v e1⟩
 ·exact hp.elim
noncomputable def fFrz(i:Nat):EM FV:=fun Γ=>match Γ[i]? with
 |some (some o)=>.ok (.dat o.view,Γ.set i (some (.d o.view)))
 |_=>.bad
theorem zfB {s i:Nat}{x:Str}(hN:X.N[s]?=some x) (hv:Vis X.env.scope x) (hm:mp[s]?=some i) (hd:(x==("__debug__" :Str))=false) (hcd:(x==("__classdict__" :Str))=false) :
  SE X XP mp (.Name x pos) (fFrz i):=fun M0 F Γ ν σ H Q rs hs hp=>by
 unfold fFrz at hp
 split at hp
 ·rename_i o q
  obtain⟨F',v,e1,rs1,s1,r⟩:=rs.frz q
  exact (zz hN hv hd hcd).wp ⟨v,hs s i v hm e1,hp F' H rs1 s1 v r⟩
 ·exact hp.elim
noncomputable def fC(x:PyData):EM FV:=fun Γ=>.ok (.dat x,Γ)
theorem zfC{i j}:SE X XP mp (.Constant (.int i) j pos) (fC (.int i)):=fun M0 F Γ ν σ H Q rs hs hp=>pe_int.wp (hp F H rs (.refl F H) _ (Rep.int i))
theorem zc1{x j}:SE X XP mp (.Constant (.bool x) j pos) (fC (.bool x)):=fun M0 F Γ ν σ H Q rs hs hp=>pe_bl.wp (hp F H rs (.refl F H) _ (Rep.bool x))
theorem zfF{x j}:SE X XP mp (.Constant (.str x) j pos) (fC (.str x)):=fun M0 F Γ ν σ H Q rs hs hp=>pe_str.wp (hp F H rs (.refl F H) _ (Rep.str x))
theorem zc7 {x:Str}{i:Int}(hg:Gl X x) (hm:∃ t,X.mg x=some (.int i t)) (hd:(x==("__debug__" :Str))=false):SE X XP mp (.Name x pos) (fC (.int i)):=fun M0 F Γ ν σ H Q rs hs hp=>by
 obtain⟨t,hm⟩:=hm
 exact (Yp (v:=.int i) hg hm ⟨t,rfl⟩ hd).wp (hp F H rs (.refl F H) _ (Rep.int i))
theorem zc8 {x:Str}{i:Str}(hg:Gl X x) (hm:∃ t,X.mg x=some (.str i t)) (hd:(x==("__debug__" :Str))=false):SE X XP mp (.Name x pos) (fC (.str i)):=fun M0 F Γ ν σ H Q rs hs hp=>by
 obtain⟨t,hm⟩:=hm
 exact (Yp (v:=.str i) hg hm ⟨t,rfl⟩ hd).wp (hp F H rs (.refl F H) _ (Rep.str i))
noncomputable def OpS(X:Cx)(f:Value->Value->Sem Value)(g:PyData->PyData->Option PyData):Prop:=∀ x y z,g x y=some z->∃ r:R2,OpR X f r/\∀ (M:Addr->Prop) (H:Hp) (v u:V) (Q:VK),
 Al M H->Rep M H v x->Rep M H u y->(∀ w H',Same H H'->Rep M H' w z->Q w H')->r v u H Q
noncomputable def fBin(g:PyData->PyData->Option PyData)(fa fb:EM FV):EM FV:=fun Γ=>(fa Γ).bind fun (u,Γ1)=>(fb Γ1).bind fun (w,Γ2)=>match derS Γ2 u,derS Γ2 w with
 |some x,some y=>match g x y with
  |some z=>.ok (.dat z,Γ2)
  |none=>.bad
 |_,_=>.bad
theorem zfA{op:Operator}{g:PyData->PyData->Option PyData}(ho:OpS X (binaryOp op) g)(ha:SE X XP mp a fa)(hb:SE X XP mp b fb):SE X XP mp (.BinOp a op b pos) (fBin g fa fb):=fun M0 F Γ ν σ H Q rs hs hp=>by
 have key:∀ x y z,g x y=some z->∃ r:R2,OpR X (binaryOp op) r/\∀ (M:Addr->Prop) (H:Hp) (v u:V) (Q:VK),Al M H->Rep M H v x->Rep M H u y->(∀ w H',Same H H'->Rep M H' w z->Q w H')->r v u H Q:=ho
 refine (W2 (r:=fun v u H Q=>∃ M x y z,g x y=some z/\Al M H/\Rep M H v x/\Rep M H u y/\∀ w H',Same H H'->Rep M H' w z->Q w H') ?_ zb zb).wp
  (ha.run rs hs hp fun F1 Γ1 H1 u v rs1 s1 o1 h1=>hb.run rs1 hs h1 fun F2 Γ2 H2 w v2 rs2 s2 o2 h2=>?_)
 ·rintro pins s σ H x y v u Q I rx ry ⟨M,dx,dy,dz,e,al,r1,r2,k⟩
  obtain⟨r,hr,hh⟩:=ho dx dy dz e
  exact hr pins s σ H x y v u Q I rx ry (hh M H x y Q al r1 r2 k)
 ·dsimp only at h2
  split at h2
  ·rename_i x y e1 e2
   split at h2
   ·rename_i z e3
    exact⟨MM M0 F2,x,y,z,e3,rs2.al,(o1.stp s2 rs1.al0).strong rs2 e1,o2.strong rs2 e2,fun w' H3 s3 r3=>h2 F2 H3 (rs2.same s3) (.same s3) w' r3⟩
   ·exact h2.elim
  ·exact h2.elim
noncomputable def J3(X:Cx)(op:CmpOp)(g:PyData->PyData->Option Bool):Prop:=∀ x y z,g x y=some z->∃ r:R2,OpR X (compareOp op) r/\∀ (H:Hp) (v u:V) (Q:VK),
 Rep zu H v x->Rep zu H u y->Q (.bl z) H->r v u H Q
noncomputable def fCmp(g:PyData->PyData->Option Bool)(fa fb:EM FV):EM Bool:=fun Γ=>(fa Γ).bind fun (u,Γ1)=>(fb Γ1).bind fun (w,Γ2)=>match derf Γ2 u,derf Γ2 w with
 |some x,some y=>match g x y with
  |some z=>.ok (z,Γ2)
  |none=>.bad
 |_,_=>.bad
noncomputable def fB(t:EM Bool):EM FV:=fun Γ=>(t Γ).bind fun (b,Γ1)=>.ok (.dat (.bool b),Γ1)
theorem Zs{op:CmpOp}{g:PyData->PyData->Option Bool}(ho:J3 X op g):OpR X (compareOp op) (fun v u H Q=>∃ x y z,g x y=some z/\Rep zu H v x/\Rep zu H u y/\Q (.bl z) H):=by
 rintro pins s σ H x y v u Q I rx ry ⟨dx,dy,dz,e,r1,r2,k⟩
 obtain⟨r,hr,hh⟩:=ho dx dy dz e
 exact hr pins s σ H x y v u Q I rx ry (hh H x y Q r1 r2 k)
section
variable {M0:Addr->Prop} {F:Fp} {Γ:Gv} {ν:Nu} {σ:St} {H:Hp} {β:Type} {P:Fp->Gv->Hp->β->Prop}
theorem Yg{g:PyData->PyData->Option Bool}{k:Bool×Gv->R (β×Gv)}{Q:VK}(ha:SE X XP mp a fa)(hb:SE X XP mp b fb)(rs:RS M0 F Γ ν H)(hs:Sees mp ν σ)(hp:EPost M0 F ν σ H XP P ((fCmp g fa fb Γ).bind k))
  (kk:∀ F2 Γ2 H2 z,RS M0 F2 Γ2 ν H2->Stp F H F2 H2->EPost M0 F2 ν σ H2 XP P (k (z,Γ2))->Q (.bl z) H2) :
  wpE X a σ H fun v H1=>wpE X b σ H1 fun u H2=>∃ x y z,g x y=some z/\Rep zu H2 v x/\Rep zu H2 u y/\Q (.bl z) H2:=by
 have hp':EPost M0 F ν σ H XP P ((fa Γ).bind fun (u,Γ1)=>(fb Γ1).bind fun (w,Γ2)=>(match derf Γ2 u,derf Γ2 w with
  |some x,some y=>match g x y with
   |some z=>R.ok (z,Γ2)
   |none=>.bad
  |_,_=>.bad).bind k):=by
  have e:((fCmp g fa fb Γ).bind k)=((fa Γ).bind fun (u,Γ1)=>(fb Γ1).bind fun (w,Γ2)=>(match derf Γ2 u,derf Γ2 w with
   |some x,some y=>match g x y with
    |some z=>R.ok (z,Γ2)
    |none=>.bad
   |_,_=>.bad).bind k):=by
   unfold fCmp
   cases fa Γ with
   |ok a=>
    obtain⟨a,Γ1⟩:=a
    simp only[R.bind]
    cases fb Γ1<;>rfl
   |exc x y=>rfl
   |bad=>rfl
  rw[<- e];exact hp
 refine ha.run rs hs hp' fun F1 Γ1 H1 u v rs1 s1 o1 h1=>hb.run rs1 hs h1 fun F2 Γ2 H2 w v2 rs2 s2 o2 h2=>?_
 dsimp only at h2
 split at h2
 ·rename_i x y e1 e2
  split at h2
  ·rename_i z e3
   exact⟨x,y,z,e3,(o1.stp s2 rs1.al0).weak rs2 e1,o2.weak rs2 e2,kk F2 Γ2 H2 z rs2 (s1.trans s2) h2⟩
  ·exact h2.elim
 ·exact h2.elim
end
theorem R.bind_ok{α:Type}(r:R α):r.bind .ok=r:=by cases r<;>rfl
theorem v5{op:CmpOp}{g:PyData->PyData->Option Bool}(ho:J3 X op g)(ha:SE X XP mp a fa)(hb:SE X XP mp b fb)(hm:behindInMarks op b=false):SE X XP mp (.Compare a [op] [b] pos) (fB (fCmp g fa fb)):=fun M0 F Γ ν σ H Q rs hs hp=>
 (zcJ (Zs ho) zb zb hm).wp (Yg ha hb rs hs hp fun F2 Γ2 H2 z rs2 s2 h2=>h2 F2 H2 rs2 (.refl _ _) _ (Rep.bool z))
theorem v8{op:CmpOp}{g:PyData->PyData->Option Bool}(ho:J3 X op g)(ha:SE X XP mp a fa)(hb:SE X XP mp b fb)(hm:behindInMarks op b=false):ST X XP mp (.Compare a [op] [b] pos) (fCmp g fa fb):=fun M0 F Γ ν σ H Q rs hs hp=>
 (zcS (Zs ho) zb zb hm).wp (Yg (k:=.ok) (Q:=fun v H'=>∃ k,v=.bl k/\Q k H') ha hb rs hs (by rw[R.bind_ok];exact hp) fun F2 Γ2 H2 z rs2 s2 h2=>⟨z,rfl,h2 F2 H2 rs2 (.refl _ _)⟩)
end
noncomputable def truD:PyData->Option Bool
 |.none=>some false
 |.bool b=>some b
 |.int i=>some (i !=0)
 |.list xs=>some (!xs.isEmpty)
 |.tuple xs=>some (!xs.isEmpty)
 |_=>none
theorem VE{M:Addr->Prop}{H:Hp}{vs:List V}{ds:List PyData}(r:RepL M H vs ds):(!vs.isEmpty)= !ds.isEmpty:=by cases r<;>rfl
theorem YA{K:PySem.W.Frag}{M:Addr->Prop}{H:Hp}{v:V}{x:PyData}{k:Bool}(r:Rep M H v x)(e:truD x=some k):zbS K v H k:=by
 cases r with
 |none=>cases e;rfl
 |bool b=>cases e;rfl
 |int i=>cases e;rfl
 |str x=>cases e
 |list ea n q=>cases e;exact .inl ⟨_,SqL.of ea,(VE q).symm⟩
 |tuple ea q=>cases e;exact .inr (.inl ⟨_,SqT.of ea,(VE q).symm⟩)
 |dict _ _ _ _=>cases e
 |inst _ _ _ _=>cases e
section
variable {X:Cx} {XP:XPT} {mp:List Nat} {a b c e:Expr} {es:List Expr} {pos p p2:Pos} {fa fb fc:EM FV} {ta tb:EM Bool} {na nb:EM (List PyData)}
noncomputable def fTru(fa:EM FV):EM Bool:=fun Γ=>(fa Γ).bind fun (u,Γ1)=>match (derf Γ1 u).bind truD with
 |some k=>.ok (k,Γ1)
 |none=>.bad
theorem zbe(ha:SE X XP mp a fa)(he:∀ whole,isTrue a X.env whole=(do let v<-whole;standAt a.pos;holding [v] (truthy v))):ST X XP mp a (fTru fa):=fun M0 F Γ ν σ H Q rs hs hp=>
 (VU zb he).wp (ha.run rs hs hp fun F1 Γ1 H1 u v rs1 s1 o1 h1=>by
  dsimp only at h1
  split at h1
  ·rename_i k ek
   cases ex:derf Γ1 u with
   |none=>rw[ex]at ek;cases ek
   |some x=>
    rw[ex]at ek
    exact⟨k,YA (o1.weak rs1 ex) ek,h1 F1 H1 rs1 (.refl _ _)⟩
  ·exact h1.elim)
noncomputable def fNotT(ta:EM Bool):EM Bool:=fun Γ=>(ta Γ).bind fun (b,Γ1)=>.ok (!b,Γ1)
theorem zfW(h:ST X XP mp a ta):ST X XP mp (.UnaryOp .Not a pos) (fNotT ta):=fun M0 F Γ ν σ H Q rs hs hp=>
 (zfp qi).wp (h.run rs hs hp fun F1 Γ1 H1 b rs1 s1 h1=>h1 F1 H1 rs1 (.refl _ _))
theorem SW.st(h:SW X XP mp a ta):ST X XP mp a ta:=fun M0 F Γ ν σ H Q rs hs hp pins s I=>h M0 F Γ ν σ H Q rs hs hp _ pins s I
theorem zdD(h:ST X XP mp a ta):SW X XP mp (.BoolOp .And [a] pos) ta:=fun M0 F Γ ν σ H Q rs hs hp=>(zcT qi).wp (h M0 F Γ ν σ H Q rs hs hp)
theorem zdE(h:ST X XP mp a ta):SW X XP mp (.BoolOp .Or [a] pos) ta:=fun M0 F Γ ν σ H Q rs hs hp=>(zfr qi).wp (h M0 F Γ ν σ H Q rs hs hp)
noncomputable def fAndT(ta tb:EM Bool):EM Bool:=fun Γ=>(ta Γ).bind fun (b,Γ1)=>if b then tb Γ1 else .ok (false,Γ1)
noncomputable def fOrT(ta tb:EM Bool):EM Bool:=fun Γ=>(ta Γ).bind fun (b,Γ1)=>if b then .ok (true,Γ1) else tb Γ1
theorem zbh(ha:ST X XP mp a ta)(hb:SW X XP mp (.BoolOp .And (b::es) pos) tb):SW X XP mp (.BoolOp .And (a::b::es) pos) (fAndT ta tb):=fun M0 F Γ ν σ H Q rs hs hp=>
 (zfq qi Yt).wp (ha.run rs hs hp fun F1 Γ1 H1 b rs1 s1 h1=>by
  cases b with
  |true=>exact Wt (hb M0 F1 Γ1 ν σ H1 Q rs1 hs h1)
  |false=>exact Ws (h1 F1 H1 rs1 (.refl _ _)))
theorem zef(ha:ST X XP mp a ta)(hb:SW X XP mp (.BoolOp .Or (b::es) pos) tb):SW X XP mp (.BoolOp .Or (a::b::es) pos) (fOrT ta tb):=fun M0 F Γ ν σ H Q rs hs hp=>
 (zgM qi Yt).wp (ha.run rs hs hp fun F1 Γ1 H1 b rs1 s1 h1=>by
  cases b with
  |true=>exact Wt (h1 F1 H1 rs1 (.refl _ _))
  |false=>exact Ws (hb M0 F1 Γ1 ν σ H1 Q rs1 hs h1))
noncomputable def fAndV(fa fb:EM FV):EM FV:=fun Γ=>(fa Γ).bind fun (u,Γ1)=>match derf Γ1 u with
 |some (.bool true)=>fb Γ1
 |some (.bool false)=>.ok (.dat (.bool false),Γ1)
 |_=>.bad
noncomputable def fOrV(fa fb:EM FV):EM FV:=fun Γ=>(fa Γ).bind fun (u,Γ1)=>match derf Γ1 u with
 |some (.bool true)=>.ok (.dat (.bool true),Γ1)
 |some (.bool false)=>fb Γ1
 |_=>.bad
theorem zaT{op}(h:SE X XP mp a fa):SE X XP mp (.BoolOp op [a] pos) fa:=fun M0 F Γ ν σ H Q rs hs hp=>(zfh zb).wp (h M0 F Γ ν σ H Q rs hs hp)
theorem zaP(ha:SE X XP mp a fa)(hb:SE X XP mp (.BoolOp .And (b::es) pos) fb):SE X XP mp (.BoolOp .And (a::b::es) pos) (fAndV fa fb):=fun M0 F Γ ν σ H Q rs hs hp=>
 (zff zb zb).wp (ha.run rs hs hp fun F1 Γ1 H1 u v rs1 s1 o1 h1=>by
  dsimp only at h1
  split at h1
  ·rename_i ex
   cases o1.weak rs1 ex
   exact⟨true,rfl,Wt (hb M0 F1 Γ1 ν σ H1 Q rs1 hs h1)⟩
  ·rename_i ex
   cases o1.weak rs1 ex
   exact⟨false,rfl,Ws (h1 F1 H1 rs1 (.refl _ _) _ (Rep.bool false))⟩
  ·exact h1.elim)
theorem zea(ha:SE X XP mp a fa)(hb:SE X XP mp (.BoolOp .Or (b::es) pos) fb):SE X XP mp (.BoolOp .Or (a::b::es) pos) (fOrV fa fb):=fun M0 F Γ ν σ H Q rs hs hp=>
 (zgK zb zb).wp (ha.run rs hs hp fun F1 Γ1 H1 u v rs1 s1 o1 h1=>by
  dsimp only at h1
  split at h1
  ·rename_i ex
   cases o1.weak rs1 ex
   exact⟨true,rfl,Wt (h1 F1 H1 rs1 (.refl _ _) _ (Rep.bool true))⟩
  ·rename_i ex
   cases o1.weak rs1 ex
   exact⟨false,rfl,Ws (hb M0 F1 Γ1 ν σ H1 Q rs1 hs h1)⟩
  ·exact h1.elim)
theorem zdO:UnR X (unaryOp .Not) (fun x H Q=>∃ k,zbS X.K x H k/\Q (.bl (!k)) H):=by
 intro pins s σ H x v Q I rx h
 obtain⟨k,hk,q⟩:=h
 exact not_of (thn (zbl pins s σ H x v _ I rx ⟨k,hk,q⟩) fun b s' ⟨H',I',q'⟩=>⟨.bl (!b),H',I',rfl,q'⟩)
theorem zfD(ha:SE X XP mp a fa):SE X XP mp (.UnaryOp .Not a pos) (fB (fNotT (fTru fa))):=fun M0 F Γ ν σ H Q rs hs hp=>by
 refine (zd7 zdO zb).wp (ha.run (k:=fun (u,Γ1)=>match (derf Γ1 u).bind truD with
  |some k=>R.ok (FV.dat (.bool (!k)),Γ1)
  |none=>.bad) (P:=fun F' Γ' H' u=>∀ (v:V),FOk M0 F' ν H' v u->Q v H') rs hs ?_ fun F1 Γ1 H1 u v rs1 s1 o1 h1=>?_)
 ·have e:fB (fNotT (fTru fa)) Γ=(fa Γ).bind fun (u,Γ1)=>match (derf Γ1 u).bind truD with
   |some k=>.ok (.dat (.bool (!k)),Γ1)
   |none=>.bad:=by
   unfold fB fNotT fTru
   cases fa Γ with
   |ok a=>
    obtain⟨u,Γ1⟩:=a
    simp only[R.bind]
    cases (derf Γ1 u).bind truD<;>rfl
   |exc x y=>rfl
   |bad=>rfl
  rw[<- e];exact hp
 ·dsimp only at h1
  split at h1
  ·rename_i k ek
   cases ex:derf Γ1 u with
   |none=>rw[ex]at ek;cases ek
   |some x=>
    rw[ex]at ek
    exact⟨k,YA (o1.weak rs1 ex) ek,h1 F1 H1 rs1 (.refl _ _) _ (Rep.bool (!k))⟩
  ·exact h1.elim
noncomputable def fIf(t:EM Bool)(fa fb:EM FV):EM FV:=fun Γ=>(t Γ).bind fun (b,Γ1)=>if b then fa Γ1 else fb Γ1
theorem zgW(hc:ST X XP mp c ta)(ha:SE X XP mp a fa)(hb:SE X XP mp b fb):SE X XP mp (.IfExp c a b pos) (fIf ta fa fb):=fun M0 F Γ ν σ H Q rs hs hp=>
 (zas qi zb zb).wp (hc.run rs hs hp fun F1 Γ1 H1 b rs1 s1 h1=>by
  cases b with
  |true=>exact Wt (ha M0 F1 Γ1 ν σ H1 Q rs1 hs h1)
  |false=>exact Ws (hb M0 F1 Γ1 ν σ H1 Q rs1 hs h1))
noncomputable def fChain(g g':PyData->PyData->Option Bool)(fa fb fc:EM FV):EM Bool:=fun Γ=>(fa Γ).bind fun (u,Γ1)=>(fb Γ1).bind fun (w,Γ2)=>match derf Γ2 u,derf Γ2 w with
 |some x,some y=>match g x y with
  |some true=>(fc Γ2).bind fun (t,Γ3)=>match derf Γ3 w,derf Γ3 t with
   |some y,some z=>match g' y z with
    |some k=>.ok (k,Γ3)
    |none=>.bad
   |_,_=>.bad
  |some false=>.ok (false,Γ2)
  |none=>.bad
 |_,_=>.bad
theorem R.bind_assoc{α β γ:Type}(r:R α)(f:α->R β)(g:β->R γ):(r.bind f).bind g=r.bind fun a=>(f a).bind g:=by cases r<;>rfl
section
variable {M0:Addr->Prop} {F:Fp} {Γ:Gv} {ν:Nu} {σ:St} {H:Hp} {β:Type} {P:Fp->Gv->Hp->β->Prop}
theorem WN{g g':PyData->PyData->Option Bool}{k:Bool×Gv->R (β×Gv)}{Q:VK}(ha:SE X XP mp a fa)(hb:SE X XP mp b fb)(hc:SE X XP mp c fc)(rs:RS M0 F Γ ν H)(hs:Sees mp ν σ)(hp:EPost M0 F ν σ H XP P ((fChain g g' fa fb fc Γ).bind k))
  (kk:∀ F2 Γ2 H2 z,RS M0 F2 Γ2 ν H2->EPost M0 F2 ν σ H2 XP P (k (z,Γ2))->Q (.bl z) H2) :
  yV (fun v u H Q=>∃ x y z,g x y=some z/\Rep zu H v x/\Rep zu H u y/\Q (.bl z) H) (fun v u H Q=>∃ x y z,g' x y=some z/\Rep zu H v x/\Rep zu H u y/\Q (.bl z) H) (wpE X a) (wpE X b) (wpE X c) σ H Q:=by
 unfold fChain at hp
 rw[R.bind_assoc]at hp
 refine ha.run rs hs hp fun F1 Γ1 H1 u v rs1 s1 o1 h1=>?_
 dsimp only at h1
 rw[R.bind_assoc]at h1
 refine hb.run rs1 hs h1 fun F2 Γ2 H2 w v2 rs2 s2 o2 h2=>?_
 dsimp only at h2
 split at h2
 ·rename_i x y e1 e2
  split at h2
  ·rename_i e3
   refine⟨x,y,true,e3,(o1.stp s2 rs1.al0).weak rs2 e1,o2.weak rs2 e2,true,rfl,Wt ?_⟩
   rw[R.bind_assoc]at h2
   refine hc.run rs2 hs h2 fun F3 Γ3 H3 t v3 rs3 s3 o3 h3=>?_
   dsimp only at h3
   split at h3
   ·rename_i y' z e4 e5
    split at h3
    ·rename_i kz e6
     exact⟨y',z,kz,e6,(o2.stp s3 rs2.al0).weak rs3 e4,o3.weak rs3 e5,kk F3 Γ3 H3 kz rs3 h3⟩
    ·exact h3.elim
   ·exact h3.elim
  ·rename_i e3
   exact⟨x,y,false,e3,(o1.stp s2 rs1.al0).weak rs2 e1,o2.weak rs2 e2,false,rfl,Ws (kk F2 Γ2 H2 false rs2 h2)⟩
  ·exact h2.elim
 ·exact h2.elim
end
theorem zaR{op op':CmpOp}{g g':PyData->PyData->Option Bool}(ho:J3 X op g)(ho':J3 X op' g')(ha:SE X XP mp a fa)(hb:SE X XP mp b fb)(hc:SE X XP mp c fc)(hm:lastMarks [op,op'] [b,c]=false) :
  SE X XP mp (.Compare a [op,op'] [b,c] pos) (fB (fChain g g' fa fb fc)):=fun M0 F Γ ν σ H Q rs hs hp=>
 (zao (Zs ho) (Zs ho') zb zb zb hm).wp (WN ha hb hc rs hs hp fun F2 Γ2 H2 z rs2 h2=>h2 F2 H2 rs2 (.refl _ _) _ (Rep.bool z))
theorem zbd{op op':CmpOp}{g g':PyData->PyData->Option Bool}(ho:J3 X op g)(ho':J3 X op' g')(ha:SE X XP mp a fa)(hb:SE X XP mp b fb)(hc:SE X XP mp c fc)(hm:lastMarks [op,op'] [b,c]=false) :
  ST X XP mp (.Compare a [op,op'] [b,c] pos) (fChain g g' fa fb fc):=fun M0 F Γ ν σ H Q rs hs hp=>
 (zaF (Zs ho) (Zs ho') zb zb zb hm).wp (WN (k:=.ok) (Q:=fun v H'=>∃ k,v=.bl k/\Q k H') ha hb hc rs hs (by rw[R.bind_ok];exact hp) fun F2 Γ2 H2 z rs2 h2=>⟨z,rfl,h2 F2 H2 rs2 (.refl _ _)⟩)
inductive FOks(M0:Addr->Prop)(F:Fp)(ν:Nu)(H:Hp):List V->List FV->Prop
 |nil:FOks M0 F ν H [] []
 |cons {v:V} {vs:List V} {u:FV} {us:List FV}:FOk M0 F ν H v u->FOks M0 F ν H vs us->FOks M0 F ν H (v::vs) (u::us)
noncomputable def derSs(Γ:Gv):List FV->Option (List PyData)
 |[]=>some []
 |u::us=>match derS Γ u,derSs Γ us with
  |some x,some xs=>some (x::xs)
  |_,_=>none
theorem FOks.strong{M0:Addr->Prop}{F:Fp}{Γ:Gv}{ν:Nu}{H:Hp}(rs:RS M0 F Γ ν H):∀ {vs:List V}{us:List FV}{ds:List PyData},FOks M0 F ν H vs us->derSs Γ us=some ds->RepL (MM M0 F) H vs ds
 |_,_,_,.nil,e=>by cases e;exact .nil
 |_,_,_,.cons h t,e=>by
  unfold derSs at e
  split at e
  ·rename_i e1 e2
   cases e
   exact .cons (h.strong rs e1) (FOks.strong rs t e2)
  ·cases e
theorem FOks.length{M0:Addr->Prop}{F:Fp}{ν:Nu}{H:Hp}:∀ {vs:List V}{us:List FV},FOks M0 F ν H vs us->vs.length=us.length
 |_,_,.nil=>rfl
 |_,_,.cons _ t=>by rw[xp,xp,FOks.length t]
noncomputable def SL(X:Cx)(XP:XPT)(mp:List Nat)(es:List Expr)(f:EM (List FV)):Prop:=∀ (M0:Addr->Prop) (F:Fp) (Γ:Gv) (ν:Nu) (σ:St) (H:Hp) (Q:List V->Hp->Prop),RS M0 F Γ ν H->Sees mp ν σ ->
 EPost M0 F ν σ H XP (fun F' Γ' H' us=>∀ vs,FOks M0 F' ν H' vs us->Q vs H') (f Γ)->wpA X es σ H Q
theorem SL.run{β:Type}{M0:Addr->Prop}{F:Fp}{Γ:Gv}{ν:Nu}{σ:St}{H:Hp}{P:Fp->Gv->Hp->β->Prop}{fl:EM (List FV)}{Q:List V->Hp->Prop}{k:List FV×Gv->R (β×Gv)}(ha:SL X XP mp es fl)(rs:RS M0 F Γ ν H)(hs:Sees mp ν σ)(h:EPost M0 F ν σ H XP P ((fl Γ).bind k))
  (kk:∀ F1 Γ1 H1 us vs,RS M0 F1 Γ1 ν H1->Stp F H F1 H1->FOks M0 F1 ν H1 vs us->EPost M0 F1 ν σ H1 XP P (k (us,Γ1))->Q vs H1):wpA X es σ H Q :=
 ha M0 F Γ ν σ H Q rs hs (h.seq.mono fun F1 Γ1 H1 u rs1 s1 h1 v hv=>kk F1 Γ1 H1 u v rs1 s1 hv h1)
noncomputable def fNil:EM (List FV):=fun Γ=>.ok ([],Γ)
noncomputable def fCons(fa:EM FV)(fl:EM (List FV)):EM (List FV):=fun Γ=>(fa Γ).bind fun (u,Γ1)=>(fl Γ1).bind fun (us,Γ2)=>.ok (u::us,Γ2)
theorem zfN:SL X XP mp [] fNil:=fun M0 F Γ ν σ H Q rs hs hp=>pa_nil.wp (hp F H rs (.refl _ _) [] .nil)
theorem zdi{fl:EM (List FV)}(ha:SE X XP mp a fa)(hl:SL X XP mp es fl)(hst:starEach (a::es) X.env=(false,eval a X.env)::starEach es X.env):SL X XP mp (a::es) (fCons fa fl):=fun M0 F Γ ν σ H Q rs hs hp=>
 (zk zb jn hst).wp (ha.run rs hs hp fun F1 Γ1 H1 u v rs1 s1 o1 h1=>hl.run rs1 hs h1 fun F2 Γ2 H2 us vs rs2 s2 o2 h2=>h2 F2 H2 rs2 (.refl _ _) _ (.cons (o1.stp s2 rs1.al0) o2))
theorem sz6{n:Nat}(h:n<=1000000):n<=sizeLine:=by have:=sizeLine_eq;omega
noncomputable def fTup(fl:EM (List FV)):EM FV:=fun Γ=>(fl Γ).bind fun (us,Γ1)=>match derSs Γ1 us with
 |some ds=>if us.length<=1000000 then .ok (.dat (.tuple ds),Γ1) else .bad
 |none=>.bad
noncomputable def fLst(fl:EM (List FV)):EM (List PyData):=fun Γ=>(fl Γ).bind fun (us,Γ1)=>match derSs Γ1 us with
 |some ds=>if us.length<=1000000 then .ok (ds,Γ1) else .bad
 |none=>.bad
theorem zfG{fl:EM (List FV)}{x1}(h:SL X XP mp es fl):SE X XP mp (.Tuple es x1 pos) (fTup fl):=fun M0 F Γ ν σ H Q rs hs hp=>
 (zav jn).wp (h.run rs hs hp fun F1 Γ1 H1 us vs rs1 s1 o1 h1=>by
  dsimp only at h1
  split at h1
  ·rename_i ds e
   split at h1
   ·rename_i hz
    exact⟨by rw[o1.length];exact sz6 hz,fun p n=>h1 F1 _ (rs1.same (zr n)) (.same (zr n)) _ (Rep.tuple ze ((o1.strong rs1 e).grow (zr n).grow))⟩
   ·exact h1.elim
  ·exact h1.elim)
theorem zfO{fl:EM (List FV)}(h:SL X XP mp es fl):SN X XP mp (.List es pos) (fLst fl):=fun M0 F Γ ν σ H Q rs hs hp=>
 (zau jn).wp (h.run rs hs hp fun F1 Γ1 H1 us vs rs1 s1 o1 h1=>by
  dsimp only at h1
  split at h1
  ·rename_i ds e
   split at h1
   ·rename_i hz
    exact⟨by rw[o1.length];exact sz6 hz,fun p n=>h1 F1 H1 rs1 (.refl _ _) vs p (o1.strong rs1 e) n⟩
   ·exact h1.elim
  ·exact h1.elim)
noncomputable def itemF(Γ:Gv)(u:FV)(i:Int):Option PyData:=match u with
 |.dat (.list xs)=>atI xs i
 |.dat (.tuple xs)=>atI xs i
 |.own k=>match Γ[k]? with
  |some (some (.l xs))=>match atI xs i with
   |some (.d x)=>some x
   |_=>none
  |some (some (.d (.list xs)))=>atI xs i
  |_=>none
 |_=>none
theorem zbV{α:Type}{xs:List α}{i:Int}{x:α}(h:atI xs i=some x):∃ j,ixN xs.length i=some j/\xs[j]?=some x:=by
 unfold atI at h
 cases e:ixN xs.length i with
 |none=>rw[e]at h;cases h
 |some j=>rw[e]at h;exact⟨j,rfl,h⟩
theorem zen{α:Type}{xs:List α}{i:Int}{x:α}{j:Nat}(h:ixN xs.length i=some j)(h2:xs[j]?=some x):atI xs i=some x:=by
 unfold atI;rw[h];exact h2
theorem FOk.item{M0:Addr->Prop}{F:Fp}{Γ:Gv}{ν:Nu}{H:Hp}{v:V}{u:FV}{i:Int}{x:PyData}{K:PySem.W.Frag}(h:FOk M0 F ν H v u)(rs:RS M0 F Γ ν H)(e:itemF Γ u i=some x) :
  ∃ l vs w,v=.ref l/\(SqL K H l vs∨SqT K H l vs)/\atI vs i=some w/\Rep (MM M0 F) H w x:=by
 unfold itemF at e
 split at e
 ·obtain⟨a,vs,rfl,e1,_,r⟩:=Rep.lst_inv h
  obtain⟨w,ew,rw'⟩:=vf r e
  exact⟨a,vs,w,rfl,.inl (SqL.of e1),ew,rw'⟩
 ·obtain⟨a,vs,rfl,e1,r⟩:=Rep.tup_inv h
  obtain⟨w,ew,rw'⟩:=vf r e
  exact⟨a,vs,w,rfl,.inr (SqT.of e1),ew,rw'⟩
 ·rename_i k
  have h':ν[k]?=some (some v):=h
  split at e
  ·rename_i q
   split at e
   ·rename_i y eo
    cases e
    obtain⟨w,e1,r⟩:=rs.at' k _ q
    rw[h']at e1;cases e1
    generalize F k=A at r
    cases r with
    |l ea qa=>
     obtain⟨j,ej,exj⟩:=zbV eo
     obtain⟨w,ew,r⟩:=qa.get exj
     rw[<- qa.length]at ej
     exact⟨_,_,w,rfl,.inl (SqL.of ea),zen ej ew,r⟩
   ·cases e
  ·rename_i q
   obtain⟨w,e1,r⟩:=rs.at' k _ q
   rw[h']at e1;cases e1
   generalize F k=A at r
   cases r with
   |d r=>
    obtain⟨a,vs,rfl,e1,_,r⟩:=Rep.lst_inv r
    obtain⟨w,ew,rw'⟩:=vf r e
    exact⟨a,vs,w,rfl,.inl (SqL.of e1),ew,rw'⟩
  ·cases e
 ·cases e
noncomputable def fIx(fa fb:EM FV):EM FV:=fun Γ=>(fa Γ).bind fun (u,Γ1)=>(fb Γ1).bind fun (w,Γ2)=>match derf Γ2 w with
 |some (.int i)=>match itemF Γ2 u i with
  |some x=>.ok (.dat x,Γ2)
  |none=>.bad
 |_=>.bad
theorem zgX(ha:SE X XP mp a fa)(hb:SE X XP mp b fb)(hx:JY b):SE X XP mp (.Subscript a b pos) (fIx fa fb):=fun M0 F Γ ν σ H Q rs hs hp=>
 (zat (ix_list.or zeR) zb zb hx).wp (ha.run rs hs hp fun F1 Γ1 H1 u v rs1 s1 o1 h1=>hb.run rs1 hs h1 fun F2 Γ2 H2 w v2 rs2 s2 o2 h2=>by
  dsimp only at h2
  split at h2
  ·rename_i i e1
   split at h2
   ·rename_i x e2
    obtain⟨l,vs,z,rfl,hq,ez,rz⟩:=(o1.stp s2 rs1.al0).item (K:=X.K) rs2 e2
    cases o2.weak rs2 e1
    rcases hq with hq | hq
    ·exact .inl ⟨l,vs,i,z,rfl,rfl,hq,ez,h2 F2 H2 rs2 (.refl _ _) z rz⟩
    ·exact .inr ⟨l,vs,i,z,rfl,rfl,hq,ez,h2 F2 H2 rs2 (.refl _ _) z rz⟩
   ·exact h2.elim
  ·exact h2.elim)
noncomputable def SOp(X:Cx)(XP:XPT)(mp:List Nat)(e:Option Expr)(f:EM (Option Int)):Prop:=∃ t:TO,PO X e t/\∀ (M0:Addr->Prop) (F:Fp) (Γ:Gv) (ν:Nu) (σ:St) (H:Hp) (Q:Option Int->Hp->Prop),RS M0 F Γ ν H->Sees mp ν σ ->
 EPost M0 F ν σ H XP (fun F' Γ' H' b=>Q b H') (f Γ)->t σ H Q
noncomputable def zgp:EM (Option Int):=fun Γ=>.ok (none,Γ)
noncomputable def zgo(fa:EM FV):EM (Option Int):=fun Γ=>(fa Γ).bind fun (u,Γ1)=>match derf Γ1 u with
 |some (.int i)=>.ok (some i,Γ1)
 |_=>.bad
theorem zdp:SOp X XP mp none zgp:=⟨_,vV,fun M0 F Γ ν σ H Q rs hs hp=>hp F H rs (.refl _ _)⟩
theorem zdq(ha:SE X XP mp a fa):SOp X XP mp (some a) (zgo fa):=⟨_,vW zb,fun M0 F Γ ν σ H Q rs hs hp=>ha.run rs hs hp fun F1 Γ1 H1 u v rs1 s1 o1 h1=>by
 dsimp only at h1
 split at h1
 ·rename_i i e1
  cases o1.weak rs1 e1
  exact⟨i,rfl,h1 F1 H1 rs1 (.refl _ _)⟩
 ·exact h1.elim⟩
structure BiK(X:Cx)(x:Str)(val:Value):Prop where
 gl:Gl X x
 mg:X.mg x=none
 bt:bootBuiltins x=some val
 n:x≠ "__name__"
 d:(x==("__debug__" :Str))=false
noncomputable def lenD:PyData->Option Nat
 |.list xs=>some xs.length
 |.tuple xs=>some xs.length
 |_=>none
noncomputable def f1(g:PyData->Option PyData)(fa:EM FV):EM FV:=fun Γ=>(fa Γ).bind fun (u,Γ1)=>match (derf Γ1 u).bind g with
 |some y=>.ok (.dat y,Γ1)
 |none=>.bad
noncomputable def Ve(X:Cx)(f:Value)(g:PyData->Option PyData):Prop:=∀ x z,g x=some z->noL z=true/\∃ r,jv X f r/\∀ (H:Hp) (v:V) (Q:VK),
 Rep zu H v x->(∀ w,Rep zu H w z->Q w H)->r [v] H Q
theorem KA{f:Value}{g:PyData->Option PyData}(ho:Ve X f g):jv X f (fun vs H Q=>∃ v x z,vs= [v]/\g x=some z/\Rep zu H v x/\∀ w,Rep zu H w z->Q w H):=by
 rintro pins s σ H xs us Q I r ⟨v,x,z,rfl,e,rv,k⟩
 obtain⟨_,r',hr,hh⟩:=ho x z e
 exact hr pins s σ H [v] us Q I r (hh H v Q rv k)
theorem zeH{M0:Addr->Prop}{F:Fp}{Γ:Gv}{ν:Nu}{σ:St}{H:Hp}{g:PyData->Option PyData}{Q:VK}(hz:∀ x z,g x=some z->noL z=true)(ha:SE X XP mp a fa)(rs:RS M0 F Γ ν H)(hs:Sees mp ν σ)(hst:starEach [a] X.env= [(false,eval a X.env)])
  (hp:EPost M0 F ν σ H XP (fun F' Γ' H' u=>∀ v,FOk M0 F' ν H' v u->Q v H') (f1 g fa Γ)):wpA X [a] σ H fun vs H1=>∃ v x z,vs= [v]/\g x=some z/\Rep zu H1 v x/\∀ w,Rep zu H1 w z->Q w H1 :=
 (zk zb pa_nil hst).wp (ha.run rs hs hp fun F1 Γ1 H1 u v rs1 s1 o1 h1=>by
  dsimp only at h1
  split at h1
  ·rename_i y ey
   cases ex:derf Γ1 u with
   |none=>rw[ex]at ey;cases ey
   |some x=>
    rw[ex]at ey
    exact⟨v,x,y,rfl,ey,o1.weak rs1 ex,fun w rw'=>h1 F1 H1 rs1 (.refl _ _) w (Rep.free (hz x y ey) rw')⟩
  ·exact h1.elim)
theorem zaQ{x:Str}{id:String}{g:PyData->Option PyData}(ho:Ve X (.builtin id) g)(B:BiK X x (.builtin id))(ha:SE X XP mp a fa)(hst:starEach [a] X.env= [(false,eval a X.env)]):SE X XP mp (.Call (.Name x p) [a] [] pos) (f1 g fa):=fun M0 F Γ ν σ H Q rs hs hp=>
 (jG (KA ho) B.gl B.mg B.bt jn B.n B.d hst rfl).wp (zeH (fun x z e=>(ho x z e).1) ha rs hs hst hp)
noncomputable def gLen(x:PyData):Option PyData:=(lenD x).map fun n=>.int n
theorem zeE:Ve X (.builtin "len") gLen:=fun x z e=>by
 cases x with
 |list xs=>cases e;exact⟨rfl,_,jf,fun H v Q r k=>by
   obtain⟨l,vs,rfl,el,_,rl⟩:=r.lst_inv
   exact⟨l,vs,rfl,.inl (SqL.of el),by rw[rl.length];exact k _ (.int _)⟩⟩
 |tuple xs=>cases e;exact⟨rfl,_,jf,fun H v Q r k=>by
   obtain⟨l,vs,rfl,el,rl⟩:=r.tup_inv
   exact⟨l,vs,rfl,.inr (SqT.of el),by rw[rl.length];exact k _ (.int _)⟩⟩
 |_=>cases e
noncomputable def zI:List PyData->Option (List Bool)
 |[]=>some []
 |.bool b::r=>(zI r).map (b::·)
 |_=>none
theorem Vm(bs:List Bool):zI (bs.map .bool)=some bs:=by
 induction bs with
 |nil=>rfl
 |cons b r ih=>simp[zI,ih]
theorem wf:∀ {ds:List PyData}{bs:List Bool},zI ds=some bs->ds=bs.map .bool
 |[],bs,e=>by cases e;rfl
 |.bool b::r,bs,e=>by
  unfold zI at e
  cases q:zI r with
  |none=>rw[q]at e;cases e
  |some l=>rw[q]at e;cases e;rw[wf q];rfl
 |.none::r,bs,e=>by cases e
 |.int _::r,bs,e=>by cases e
 |.str _::r,bs,e=>by cases e
 |.list _::r,bs,e=>by cases e
 |.tuple _::r,bs,e=>by cases e
 |.dict _::r,bs,e=>by cases e
noncomputable def gAll:PyData->Option PyData
 |.list xs=>(zI xs).map fun bs=>.bool (bs.all id)
 |_=>none
theorem zeD (hc:X.calm=true):Ve X (.builtin "all") gAll:=fun x z e=>by
 cases x with
 |list xs=>
  dsimp only [gAll]at e
  cases q:zI xs with
  |none=>rw[q]at e;cases e
  |some bs=>
   rw[q]at e;cases e
   exact⟨rfl,_,YT hc,fun H v Q r k=>by
    obtain⟨l,vs,rfl,el,_,rl⟩:=r.lst_inv
    rw[wf q]at rl
    rw[rl.bls]at el
    exact⟨l,bs,rfl,SqL.of el,k _ (.bool _)⟩⟩
 |_=>cases e
noncomputable def w9(Γ:Gv)(u:FV):Option (List PyData):=match u with
 |.dat (.tuple xs)=>some xs
 |u=>derL Γ u
theorem FOk.seq{M0:Addr->Prop}{F:Fp}{Γ:Gv}{ν:Nu}{H:Hp}{v:V}{u:FV}{ds:List PyData}{K:PySem.W.Frag}(h:FOk M0 F ν H v u)(rs:RS M0 F Γ ν H)(e:w9 Γ u=some ds) :
  ∃ l vs,v=.ref l/\(SqL K H l vs∨SqT K H l vs)/\RepL (MM M0 F) H vs ds:=by
 unfold w9 at e
 split at e
 ·cases e
  obtain⟨a,vs,rfl,e1,r⟩:=Rep.tup_inv h
  exact⟨a,vs,rfl,.inr (SqT.of e1),r⟩
 ·obtain⟨a,vs,rfl,e1,r⟩:=h.list rs e
  exact⟨a,vs,rfl,.inl (SqL.of e1),r⟩
noncomputable def fListC(fa:EM FV):EM (List PyData):=fun Γ=>(fa Γ).bind fun (u,Γ1)=>match w9 Γ1 u with
 |some ds=>.ok (ds,Γ1)
 |none=>.bad
theorem zdk {x:Str}(B:BiK X x (.type "list")) (ha:SE X XP mp a fa) (hst:starEach [a] X.env= [(false,eval a X.env)]):SN X XP mp (.Call (.Name x p) [a] [] pos) (fListC fa):=fun M0 F Γ ν σ H Q rs hs hp=>
 (Ji Z4 B.gl B.mg B.bt (zk zb pa_nil hst) B.n B.d hst rfl).wp (ha.run rs hs hp fun F1 Γ1 H1 u v rs1 s1 o1 h1=>by
  dsimp only at h1
  split at h1
  ·rename_i ds e
   obtain⟨l,vs,rfl,hq,r⟩:=o1.seq (K:=X.K) rs1 e
   exact⟨l,vs,rfl,hq,fun p n=>h1 F1 H1 rs1 (.refl _ _) vs p r n⟩
  ·exact h1.elim)
noncomputable def isiB (a T:String):Option Bool:=if (T= "int" ∨T= "bool" ∨T= "list" ∨T= "tuple" ∨T= "str")/\¬ a= "dict" then some (a==T||(a== "bool" &&T== "int")) else none
theorem zeO{K:PySem.W.Frag}{x:PyData}{T:String}{k:Bool}(h:isiB (tyD x) T=some k):PySem.W.kitOne K (.type (tyD x)) (.type T)=some k:=by
 unfold isiB at h
 split at h
 ·rename_i hT
  cases h
  rcases hT.1 with rfl | rfl | rfl | rfl | rfl<;>cases x<;>kernel_rfl
 ·cases h
theorem zeN {x:PyData}{T:String}{k:Bool}(h:isiB (tyD x) T=some k):tyD x≠ "dict" :=by
 unfold isiB at h
 split at h
 ·rename_i hT;exact hT.2
 ·cases h
noncomputable def fIsi(T:String)(fa:EM FV):EM FV:=fun Γ=>(fa Γ).bind fun (u,Γ1)=>match (derf Γ1 u).bind fun x=>isiB (tyD x) T with
 |some k=>.ok (.dat (.bool k),Γ1)
 |none=>.bad
theorem w6 {x y:Str}{T:String}(B:BiK X x (.builtin "isinstance")) (BT:BiK X y (.type T)) (ha:SE X XP mp a fa) (hst:starEach [a,.Name y p2] X.env=(false,eval a X.env)::starEach [.Name y p2] X.env) :
  SE X XP mp (.Call (.Name x p) [a,.Name y p2] [] pos) (fIsi T fa):=fun M0 F Γ ν σ H Q rs hs hp=>
 (jG KB B.gl B.mg B.bt (zk zb (zk (zcH (v:=.ty T) BT.gl BT.mg BT.bt rfl BT.n BT.d) pa_nil rfl) hst) B.n B.d hst rfl).wp (ha.run rs hs hp fun F1 Γ1 H1 u v rs1 s1 o1 h1=>by
  dsimp only at h1
  split at h1
  ·rename_i k ek
   cases ex:derf Γ1 u with
   |none=>rw[ex]at ek;cases ek
   |some z=>
    rw[ex]at ek
    exact⟨v,T,_,k,rfl,(o1.weak rs1 ex).ty (zeN ek),zeO ek,h1 F1 H1 rs1 (.refl _ _) _ (Rep.bool k)⟩
  ·exact h1.elim)
open Classical in
noncomputable def binD(op:Operator)(x y:PyData):Option PyData:=match op,x,y with
 |.Add,.int i,.int j=>some (.int (i+j))
 |.Sub,.int i,.int j=>some (.int (i-j))
 |.Mult,.int i,.int j=>if (-(2 ^ 64)<i/\i<2 ^ 64)∨(-(2 ^ 64)<j/\j<2 ^ 64) then some (.int (i*j)) else none
 |.Mod,.int i,.int j=>if 0<j then some (.int (i % j)) else none
 |.FloorDiv,.int i,.int j=>if 0<j/\j<1073741824 then some (.int (i / j)) else none
 |.Pow,.int i,.int j=>if 0<=j/\j<=1000000/\i.natAbs<2 ^ 64 then some (.int (i ^ j.toNat)) else none
 |.LShift,.int i,.int j=>if 0<=j/\j<=1000000/\i.natAbs<2 ^ 64 then some (.int (i*2 ^ j.toNat)) else none
 |.RShift,.int i,.int j=>if 0<=j then some (.int (i / 2 ^ j.toNat)) else none
 |.BitAnd,.int i,.int j=>some (.int (Builtin.bitAnd i j))
 |.Add,.tuple a,.tuple b=>if a.length+b.length<=1000000 then some (.tuple (a++b)) else none
 |.Mult,.tuple a,.int n=>if 0<=n/\n<1000000/\a.length*n.toNat<=1000000 then some (.tuple (List.replicate n.toNat a).flatten) else none
 |_,_,_=>none
theorem Zt{op:Operator}{x y z:PyData}{i j k:Int}{C:Int->Int->Prop}{f:Int->Int->Int}(hc:C i j)(ho:OpR X (binaryOp op) (rI C fun i j=>.int (f i j))) :
  ∃ r:R2,OpR X (binaryOp op) r/\∀ (M:Addr->Prop) (H:Hp) (v u:V) (Q:VK),Al M H->Rep M H v (.int i)->Rep M H u (.int j)->(∀ w H',Same H H'->Rep M H' w (.int (f i j))->Q w H')->r v u H Q :=
 ⟨_,ho,fun M H v u Q _ r1 r2 k=>by cases r1;cases r2;exact⟨i,j,rfl,rfl,hc,k _ H (Same.refl H) (.int _)⟩⟩
theorem wG{op:Operator}{i j:Int}{f:Int->Int->Int}(ho:OpR X (binaryOp op) (rI0 fun i j=>.int (f i j))) :
  ∃ r:R2,OpR X (binaryOp op) r/\∀ (M:Addr->Prop) (H:Hp) (v u:V) (Q:VK),Al M H->Rep M H v (.int i)->Rep M H u (.int j)->(∀ w H',Same H H'->Rep M H' w (.int (f i j))->Q w H')->r v u H Q :=
 ⟨_,ho,fun M H v u Q _ r1 r2 k=>by cases r1;cases r2;exact⟨i,j,rfl,rfl,k _ H (Same.refl H) (.int _)⟩⟩
theorem zep(op:Operator):OpS X (binaryOp op) (binD op):=fun x y z e=>by
 unfold binD at e
 split at e
 ·cases e;exact wG yJ
 ·cases e;exact wG zfe
 ·split at e
  ·rename_i h;cases e;exact Zt (x:=.none) (y:=.none) (z:=.none) (k:=0) h zan
  ·cases e
 ·split at e
  ·rename_i h;cases e;exact Zt (x:=.none) (y:=.none) (z:=.none) (k:=0) h zam
  ·cases e
 ·split at e
  ·rename_i h;cases e;exact Zt (x:=.none) (y:=.none) (z:=.none) (k:=0) h zcC
  ·cases e
 ·split at e
  ·rename_i h;cases e;exact Zt (x:=.none) (y:=.none) (z:=.none) (k:=0) h zfa
  ·cases e
 ·split at e
  ·rename_i h;cases e;exact Zt (x:=.none) (y:=.none) (z:=.none) (k:=0) h zfb
  ·cases e
 ·split at e
  ·rename_i h;cases e;exact Zt (x:=.none) (y:=.none) (z:=.none) (k:=0) (C:=fun _ j=>0<=j) h zfc
  ·cases e
 ·cases e;exact wG ze7
 ·split at e
  ·rename_i h
   cases e
   exact⟨_,zak,fun M H v u Q _ q1 q2 k=>by
    obtain⟨l,vs,rfl,e,r⟩:=q1.tup_inv
    obtain⟨l2,vs2,rfl,e2,r2⟩:=q2.tup_inv
    refine⟨l,l2,vs,vs2,rfl,rfl,SqT.of e,SqT.of e2,by rw[r.length,r2.length];exact sz6 h,fun z=>k _ H (Same.refl H) ?_,fun z=>k _ H (Same.refl H) ?_,fun p np=>k _ _ (zr np) (.tuple ze ((r.append r2).grow (zr np).grow))⟩
    ·subst z
     cases r
     exact q2
    ·subst z
     cases r2
     rw[xL];exact q1⟩
  ·cases e
 ·split at e
  ·rename_i h
   cases e
   exact⟨_,zcF,fun M H v u Q _ q1 q2 k=>by
    obtain⟨l,vs,rfl,e,r⟩:=q1.tup_inv
    cases q2
    refine⟨l,_,vs,rfl,rfl,SqT.of e,by omega,by omega,by rw[r.length];exact sz6 h.2.2,fun hs=>k _ H (Same.refl H) ?_,fun p np=>k _ _ (zr np) (.tuple ze ((r.rep _).grow (zr np).grow))⟩
    rcases hs with z | z
    ·subst z
     cases r
     rename_i n _
     have:(List.replicate n.toNat ([]:List PyData)).flatten= []:=by simp
     rw[this];exact q1
    ·subst z
     have key:∀ l:List PyData,(List.replicate (1:Int).toNat l).flatten=l:=fun l=>by simp
     rw[key];exact q1⟩
  ·cases e
 ·cases e
noncomputable def lay:Nat->PyData->Bool
 |_,.none=>true
 |_,.bool _=>true
 |_,.int _=>true
 |_,.str x=>PyData.strOk x
 |n+1,.list xs=>xs.all (lay n)
 |n+1,.tuple xs=>xs.all (lay n)
 |_,_=>false
theorem ji{n:Nat}(ih:∀ d,lay n d=true->d.canLay0=true/\d.depth<=n):∀ xs:List PyData,xs.all (lay n)=true->PyData.canLayAll0 xs=true/\PyData.depthAll xs<=n
 |[],_=>⟨rfl,xT _⟩
 |x::r,h=>by
  rw[xW,xa]at h
  obtain⟨a,b⟩:=ih x h.1
  obtain⟨c,d⟩:=ji ih r h.2
  exact⟨by simp[PyData.canLayAll0,a,c],by simp only[PyData.depthAll];omega⟩
theorem zG:∀ (n:Nat) (d:PyData),lay n d=true->d.canLay0=true/\d.depth<=n
 |n,.none,_=>⟨rfl,xT _⟩
 |n,.bool _,_=>⟨rfl,xT _⟩
 |n,.int _,_=>⟨rfl,xT _⟩
 |n,.str _,h=>⟨by simpa [PyData.canLay0,lay] using h,xT _⟩
 |n+1,.list xs,h=>by
  obtain⟨a,b⟩:=ji (zG n) xs (by simpa [lay] using h)
  exact⟨by simpa [PyData.canLay0] using a,by simp only[PyData.depth];omega⟩
 |n+1,.tuple xs,h=>by
  obtain⟨a,b⟩:=ji (zG n) xs (by simpa [lay] using h)
  exact⟨by simpa [PyData.canLay0] using a,by simp only[PyData.depth];omega⟩
 |0,.list _,h=>by simp[lay]at h
 |0,.tuple _,h=>by simp[lay]at h
 |0,.dict _,h=>by simp[lay]at h
 |n+1,.dict _,h=>by simp[lay]at h
noncomputable def isN:PyData->Bool
 |.none=>true
 |_=>false
noncomputable def inD(x:PyData)(ys:List PyData):Bool:=ys.any fun y=>PyData.eqv y x
noncomputable def cmpD(op:CmpOp)(x y:PyData):Option Bool:=match op,x,y with
 |.Eq,x,y=>if lay 20 x&&lay 20 y then some (PyData.eqv x y) else none
 |.NotEq,x,y=>if lay 20 x&&lay 20 y then some (!PyData.eqv x y) else none
 |.Lt,.int i,.int j=>some (decide (i<j))
 |.LtE,.int i,.int j=>some (decide (i<=j))
 |.Gt,.int i,.int j=>some (decide (j<i))
 |.GtE,.int i,.int j=>some (decide (j<=i))
 |.In,x,.list ys=>if lay 20 x&&ys.all (lay 20) then some (inD x ys) else none
 |.In,x,.tuple ys=>if lay 20 x&&ys.all (lay 20) then some (inD x ys) else none
 |.NotIn,x,.list ys=>if lay 20 x&&ys.all (lay 20) then some (!inD x ys) else none
 |.NotIn,x,.tuple ys=>if lay 20 x&&ys.all (lay 20) then some (!inD x ys) else none
 |.Is,x,.none=>some (isN x)
 |.IsNot,x,.none=>some (!isN x)
 |_,_,_=>none
end
section
variable {X:Cx}
open Classical in
/-- is the value w equal to the data? -/
noncomputable def eqW(h:Heap)(dx:PyData)(w:Value):Bool:=if ∃ d as,Reads h w d as/\d.canLay0=true/\PyData.eqv d dx=true then true else false
theorem KQ{h:Heap}{dx d:PyData}{w:Value}{as:List Addr}(r:Reads h w d as)(hl:d.canLay0=true):eqW h dx w=PyData.eqv d dx:=by
 unfold eqW
 cases e:PyData.eqv d dx with
 |true=>rw[if_pos ⟨d,as,r,hl,e⟩]
 |false=>
  rw[if_neg]
  rintro⟨d',as',r',hl',e'⟩
  have:=SeqAt.Reads.unique d d' w as as' hl r r'
  rw[<- this,e]at e';cases e'
theorem ZZ{h:Heap}{dx:PyData}:∀ {us:List Value}{ys:List PyData}{as:List Addr},ReadsAll h us ys as->ys.all (lay 20)=true->us.any (eqW h dx)=inD dx ys
 |_,_,_,.nil,_=>rfl
 |_,_,_,.cons r t,hl=>by
  rw[xW,xa]at hl
  unfold inD
  rw[xP,xP,KQ r (zG 20 _ hl.1).1,ZZ t hl.2];rfl
theorem Z7{A:Around}{s:Shared}{dx:PyData}{v:Value}{bs:List Addr}(rx:Reads s.heap v dx bs)(hx:lay 20 dx=true)(hu:∀ n,n<=60->A.units+n<cLine):∀ {us:List Value}{ys:List PyData}{as:List Addr},ReadsAll s.heap us ys as->ys.all (lay 20)=true->∀ u∈us,SeqAt.EqAt A s u v (eqW s.heap dx u)
 |_,_,_,.nil,_=>fun u hu=>by cases hu
 |_,_,_,.cons (d:=d) r t,hl=>fun u' hu'=>by
  rw[xW,xa]at hl
  rcases xv.mp hu' with rfl | hu'
  ·rw[KQ r (zG 20 _ hl.1).1]
   have h1:=zG 20 _ hl.1
   have h2:=zG 20 _ hx
   exact SeqAt.eqAt_reads _ _ _ _ _ _ _ _ r rx h1.1 h2.1 (hu _ (xE (Nat.min_le_left _ _) (by omega)))
  ·exact Z7 rx hx hu t hl.2 u' hu'
noncomputable def zgN(K:PySem.W.Frag)(neg:Bool):R2:=fun x y H Q=>∃ M M' dx ys p vs,Rep M H x dx/\y=.ref p/\(SqL K H p vs∨SqT K H p vs)/\RepL M' H vs ys/\lay 20 dx=true/\ys.all (lay 20)=true/\Q (.bl (if neg then !inD dx ys else inD dx ys)) H
theorem zal(hr:Room 1 X.A):OpR X (compareOp .In) (zgN X.K false):=by
 intro pins s σ H x y v u Q I rx ry h
 obtain⟨M,M',dx,ys,p,vs,r1,rfl,hq,r2,l1,l2,q⟩:=h
 cases ry
 obtain⟨bs,z1⟩:=r1.reads I.hok (zG 20 _ l1).1 rx
 have hu:∀ n,n<=60->X.A.in1.units+n<cLine:=(hr.in1).u60
 rcases hq with hq | hq
 ·obtain⟨its,r,pl,hz⟩:=I.list hq
  obtain⟨as,z2⟩:=r2.reads I.hok (ji (zG 20) _ l2).1 r
  refine SeqAt.in_listAt (eqW s.heap dx) pl.isList (fun w hw=>Z7 z1 l1 hu z2 l2 w (by simpa using hw)) ⟨.bl _,H,I,rfl,?_⟩
  rw[show its.toArray.any (eqW s.heap dx)=its.any (eqW s.heap dx) by simp,ZZ z2 l2]
  exact q
 ·obtain⟨its,r,pl,hz⟩:=I.tuple hq
  obtain⟨as,z2⟩:=r2.reads I.hok (ji (zG 20) _ l2).1 r
  refine SeqAt.in_tupleAt (eqW s.heap dx) pl (fun w hw=>Z7 z1 l1 hu z2 l2 w (by simpa using hw)) ⟨.bl _,H,I,rfl,?_⟩
  rw[show its.toArray.any (eqW s.heap dx)=its.any (eqW s.heap dx) by simp,ZZ z2 l2]
  exact q
theorem W0(hr:Room 1 X.A):OpR X (compareOp .NotIn) (zgN X.K true):=by
 intro pins s σ H x y v u Q I rx ry h
 obtain⟨M,M',dx,ys,p,vs,r1,rfl,hq,r2,l1,l2,q⟩:=h
 cases ry
 obtain⟨bs,z1⟩:=r1.reads I.hok (zG 20 _ l1).1 rx
 have hu:∀ n,n<=60->X.A.in1.units+n<cLine:=(hr.in1).u60
 rcases hq with hq | hq
 ·obtain⟨its,r,pl,hz⟩:=I.list hq
  obtain⟨as,z2⟩:=r2.reads I.hok (ji (zG 20) _ l2).1 r
  refine SeqAt.notIn_listAt (eqW s.heap dx) pl.isList (fun w hw=>Z7 z1 l1 hu z2 l2 w (by simpa using hw)) ⟨.bl _,H,I,rfl,?_⟩
  rw[show its.toArray.any (eqW s.heap dx)=its.any (eqW s.heap dx) by simp,ZZ z2 l2]
  exact q
 ·obtain⟨its,r,pl,hz⟩:=I.tuple hq
  obtain⟨as,z2⟩:=r2.reads I.hok (ji (zG 20) _ l2).1 r
  refine SeqAt.notIn_tupleAt (eqW s.heap dx) pl (fun w hw=>Z7 z1 l1 hu z2 l2 w (by simpa using hw)) ⟨.bl _,H,I,rfl,?_⟩
  rw[show its.toArray.any (eqW s.heap dx)=its.any (eqW s.heap dx) by simp,ZZ z2 l2]
  exact q
theorem wX{M:Addr->Prop}{H:Hp}{v:V}{x:PyData}(r:Rep M H v x):decide (v=.non)=isN x:=by
 cases r<;>rfl
theorem Q7(hr:Room 1 X.A)(op:CmpOp):J3 X op (cmpD op):=fun x y z e=>by
 have h60:∀ n,n<=60->X.A.units+n<cLine:=hr.u60
 unfold cmpD at e
 split at e
 ·split at e
  ·rename_i h
   cases e
   rw[xa]at h
   have h1:=zG 20 _ h.1
   have h2:=zG 20 _ h.2
   exact⟨_,kq h60,fun H v u Q r1 r2 k=>⟨_,_,_,_,r1,r2,h1.1,h2.1,xE (Nat.min_le_left _ _) (by omega),k⟩⟩
  ·cases e
 ·split at e
  ·rename_i h
   cases e
   rw[xa]at h
   have h1:=zG 20 _ h.1
   have h2:=zG 20 _ h.2
   exact⟨_,kt h60,fun H v u Q r1 r2 k=>⟨_,_,_,_,r1,r2,h1.1,h2.1,xE (Nat.min_le_left _ _) (by omega),k⟩⟩
  ·cases e
 ·cases e;exact⟨_,zgG,fun H v u Q r1 r2 k=>by cases r1;cases r2;exact⟨_,_,rfl,rfl,k⟩⟩
 ·cases e;exact⟨_,zgF,fun H v u Q r1 r2 k=>by cases r1;cases r2;exact⟨_,_,rfl,rfl,k⟩⟩
 ·cases e;exact⟨_,zgE,fun H v u Q r1 r2 k=>by cases r1;cases r2;exact⟨_,_,rfl,rfl,k⟩⟩
 ·cases e;exact⟨_,zgD,fun H v u Q r1 r2 k=>by cases r1;cases r2;exact⟨_,_,rfl,rfl,k⟩⟩
 ·split at e
  ·rename_i h
   cases e
   rw[xa]at h
   exact⟨_,zal hr,fun H v u Q r1 r2 k=>by
    obtain⟨l,vs,rfl,el,_,rl⟩:=r2.lst_inv
    exact⟨_,_,_,_,l,vs,r1,rfl,.inl (SqL.of el),rl,h.1,h.2,k⟩⟩
  ·cases e
 ·split at e
  ·rename_i h
   cases e
   rw[xa]at h
   exact⟨_,zal hr,fun H v u Q r1 r2 k=>by
    obtain⟨l,vs,rfl,el,rl⟩:=r2.tup_inv
    exact⟨_,_,_,_,l,vs,r1,rfl,.inr (SqT.of el),rl,h.1,h.2,k⟩⟩
  ·cases e
 ·split at e
  ·rename_i h
   cases e
   rw[xa]at h
   exact⟨_,W0 hr,fun H v u Q r1 r2 k=>by
    obtain⟨l,vs,rfl,el,_,rl⟩:=r2.lst_inv
    exact⟨_,_,_,_,l,vs,r1,rfl,.inl (SqL.of el),rl,h.1,h.2,k⟩⟩
  ·cases e
 ·split at e
  ·rename_i h
   cases e
   rw[xa]at h
   exact⟨_,W0 hr,fun H v u Q r1 r2 k=>by
    obtain⟨l,vs,rfl,el,rl⟩:=r2.tup_inv
    exact⟨_,_,_,_,l,vs,r1,rfl,.inr (SqT.of el),rl,h.1,h.2,k⟩⟩
  ·cases e
 ·cases e
  exact⟨_,ze9,fun H v u Q r1 r2 k=>by cases r2;exact⟨rfl,by rw[wX r1];exact k⟩⟩
 ·cases e
  exact⟨_,zcE,fun H v u Q r1 r2 k=>by
   cases r2
   refine⟨rfl,?_⟩
   rw[wX r1];exact k⟩
 ·cases e
end
mutual
inductive IT where
 |nm (s i:Nat)
 |tp (ts:ITs)
inductive ITs where
 |nil
 |cons (t:IT) (ts:ITs)
end
mutual
/-- what a store makes of the frame -/
noncomputable def tgF:IT->PyData->Gv->Option Gv
 |.nm _ i,x,Γ=>if i<Γ.length then some (Γ.set i (some (.d x))) else none
 |.tp ts,.tuple xs,Γ=>tgFs ts xs Γ
 |.tp ts,.list xs,Γ=>tgFs ts xs Γ
 |_,_,_=>none
noncomputable def tgFs:ITs->List PyData->Gv->Option Gv
 |.nil,[],Γ=>some Γ
 |.cons t ts,x::xs,Γ=>(tgF t x Γ).bind fun Γ=>tgFs ts xs Γ
 |_,_,_=>none
end
noncomputable def ITs.len:ITs->Nat
 |.nil=>0
 |.cons _ ts=>ts.len+1
theorem Wf:∀ {ts:ITs}{ds:List PyData}{Γ Γ':Gv},tgFs ts ds Γ=some Γ'->ds.length=ts.len
 |.nil,[],_,_,_=>rfl
 |.nil,_::_,_,_,e=>by simp[tgFs]at e
 |.cons t ts,[],_,_,e=>by simp[tgFs]at e
 |.cons t ts,d::ds,Γ,Γ',e=>by
  rw[tgFs]at e
  cases q:tgF t d Γ with
  |none=>rw[q]at e;cases e
  |some Γ1=>rw[q]at e;rw[xp,Wf (ts:=ts) e];rfl
theorem We(t:IT):∀ (d:PyData) (Γ Γ':Gv),tgF t d Γ=some Γ'->Γ'.length=Γ.length:=by
 refine IT.rec (motive_1:=fun t=>∀ (d:PyData) (Γ Γ':Gv),tgF t d Γ=some Γ'->Γ'.length=Γ.length) (motive_2:=fun ts=>∀ (ds:List PyData) (Γ Γ':Gv),tgFs ts ds Γ=some Γ'->Γ'.length=Γ.length) ?_ ?_ ?_ ?_ t
 ·intro s i d Γ Γ' e
  rw[tgF]at e
  split at e
  ·cases e;simp
  ·cases e
 ·intro ts ih d Γ Γ' e
  cases d with
  |tuple xs=>rw[tgF]at e;exact ih _ _ _ e
  |list xs=>rw[tgF]at e;exact ih _ _ _ e
  |_=>simp[tgF]at e
 ·intro ds Γ Γ' e
  cases ds with
  |nil=>simp[tgFs]at e;rw[e]
  |cons=>simp[tgFs]at e
 ·intro t ts ih1 ih2 ds Γ Γ' e
  cases ds with
  |nil=>simp[tgFs]at e
  |cons d ds=>
   rw[tgFs]at e
   cases q:tgF t d Γ with
   |none=>rw[q]at e;cases e
   |some Γ1=>rw[q]at e;rw[ih2 _ _ _ e,ih1 _ _ _ q]
noncomputable def SG(X:Cx)(mp:List Nat)(kp:Nat->Prop)(tg:Expr)(t:IT):Prop:=∀ (M0:Addr->Prop) (F:Fp) (Γ Γ':Gv) (ν:Nu) (σ:St) (H:Hp) (v:V) (d:PyData) (Q:St->Hp->Prop),RS M0 F Γ ν H->Sees mp ν σ->σ.length=X.N.length->Rep (MM M0 F) H v d ->
 tgF t d Γ=some Γ'->(∀ F' ν' σ',RS M0 F' Γ' ν' H->Stp F H F' H->Sees mp ν' σ'->σ'.length=X.N.length->(∀ i:Nat,kp i->ν'[i]?=ν[i]?)->(∀ s i:Nat,mp[s]?=some i->kp i->σ'[s]?=σ[s]?)->Q σ' H)->wpG X tg v σ H Q
noncomputable def SGs(X:Cx)(mp:List Nat)(kp:Nat->Prop)(tgs:List Expr)(ts:ITs):Prop:=∀ (M0:Addr->Prop) (F:Fp) (Γ Γ':Gv) (ν:Nu) (σ:St) (H:Hp) (vs:List V) (ds:List PyData) (Q:St->Hp->Prop),RS M0 F Γ ν H->Sees mp ν σ->σ.length=X.N.length->RepL (MM M0 F) H vs ds ->
 tgFs ts ds Γ=some Γ'->(∀ F' ν' σ',RS M0 F' Γ' ν' H->Stp F H F' H->Sees mp ν' σ'->σ'.length=X.N.length->(∀ i:Nat,kp i->ν'[i]?=ν[i]?)->(∀ s i:Nat,mp[s]?=some i->kp i->σ'[s]?=σ[s]?)->Q σ' H)->zf8 X tgs vs σ H Q
section
variable {X:Cx} {mp:List Nat} {kp:Nat->Prop} {tg:Expr} {tgs:List Expr} {t:IT} {ts:ITs} {pos:Pos}
theorem Sees.set{ν:Nu}{σ:St}{s i:Nat}{v:V}(h:Sees mp ν σ)(hn:mp.Nodup)(hm:mp[s]?=some i)(hs:s<σ.length):Sees mp (ν.set i (some v)) (σ.set s (some v)):=fun s' j w e1 e2=>by
 by_cases hj:i=j
 ·subst hj
  have:s'=s:=by
   have h1:=(xb.mp e1).1
   have h2:=(xb.mp hm).1
   exact (List.getElem?_inj h1 hn).mp (by rw[e1,hm])
  subst this
  rw[xi hs]
  by_cases hl:i<ν.length
  ·rw[xi hl]at e2;rw[e2]
  ·rw[xo (by simpa using hl)]at e2;cases e2
 ·rw[xg hj]at e2
  have:s'≠s:=fun z=>hj (by subst z;rw[hm]at e1;exact Option.some.inj e1)
  rw[xg (Ne.symm this)]
  exact h s' j w e1 e2
theorem zdc{s i:Nat}{x:Str}(hN:X.N.Nodup)(hn:mp.Nodup)(hi:X.N[s]?=some x)(hm:mp[s]?=some i)(hlo:¬ kp i)(hx:Loc X.env.scope x)(hf:X.fn x=true∨X.env.scope.names.lookup x=some .local):SG X mp kp (.Name x pos) (.nm s i) :=
 fun M0 F Γ Γ' ν σ H v d Q rs hs hl r e k=>by
  rw[tgF]at e
  split at e
  ·rename_i hi'
   cases e
   have hsl:s<σ.length:=by rw[hl];exact (xb.mp hi).1
   obtain⟨F',rs',s'⟩:=rs.setD r hi'
   refine (Yq hN hi hx hf).wp (k F' _ _ rs' s' (hs.set hn hm hsl) (by simpa using hl) (fun j hj=>?_) (fun s2 j e2 hj=>?_))
   ·rw[xg (fun z=>hlo (by rw[z];exact hj))]
   ·rw[xg]
    intro z
    subst z
    rw[hm]at e2
    cases e2
    exact hlo hj
  ·cases e
theorem zdd:SGs X mp kp [] .nil:=fun M0 F Γ Γ' ν σ H vs ds Q rs hs hl r e k=>by
 cases r with
 |nil=>
  simp[tgFs]at e
  subst e
  exact pgs_nil.wp ⟨rfl,k F ν σ rs (.refl _ _) hs hl (fun _ _=>rfl) (fun _ _ _ _=>rfl)⟩
 |cons r rr=>simp[tgFs]at e
theorem zaW(h1:SG X mp kp tg t)(h2:SGs X mp kp tgs ts)(hst:(assignEach (tg::tgs) X.env).map (·.2)=assign tg X.env::(assignEach tgs X.env).map (·.2)):SGs X mp kp (tg::tgs) (.cons t ts):=fun M0 F Γ Γ' ν σ H vs ds Q rs hs hl r e k=>by
 cases r with
 |nil=>simp[tgFs]at e
 |cons r rr=>
  rename_i v vs d ds
  rw[tgFs]at e
  cases e1:tgF t d Γ with
  |none=>rw[e1]at e;cases e
  |some Γ1=>
   rw[e1]at e
   refine (zay vT wS hst).wp ⟨v,vs,rfl,h1 M0 F Γ Γ1 ν σ H v d _ rs hs hl r e1 fun F1 ν1 σ1 rs1 s1 hs1 hl1 n1 m1=>?_⟩
   exact h2 M0 F1 Γ1 Γ' ν1 σ1 H vs ds _ rs1 hs1 hl1 (zx s1 rs.al0 rr) e fun F2 ν2 σ2 rs2 s2 hs2 hl2 n2 m2=>k F2 ν2 σ2 rs2 (s1.trans s2) hs2 hl2 (fun i hi=>(n2 i hi).trans (n1 i hi)) (fun s i e hi=>(m2 s i e hi).trans (m1 s i e hi))
theorem zfK{n:Nat}(hc:X.calm=true)(h:SGs X mp kp tgs ts)(hl:ts.len=(assignEach tgs X.env).length)(hst:(assignEach tgs X.env).findIdx? (·.1)=none):SG X mp kp (.Tuple tgs n pos) (.tp ts):=fun M0 F Γ Γ' ν σ H v d Q rs hs hl' r e k=>by
 cases d with
 |tuple ds=>
  rw[tgF]at e
  obtain⟨a,vs,rfl,ea,rr⟩:=r.tup_inv
  exact (zfk hc wS rfl hst).wp ⟨a,vs,rfl,SqT.of ea,by rw[rr.length,Wf e,hl],h M0 F Γ Γ' ν σ H vs ds Q rs hs hl' rr e k⟩
 |list ds=>
  rw[tgF]at e
  obtain⟨a,vs,rfl,ea,_,rr⟩:=r.lst_inv
  exact (zcN hc wS rfl hst).wp ⟨a,vs,rfl,SqL.of ea,by rw[rr.length,Wf e,hl],h M0 F Γ Γ' ν σ H vs ds Q rs hs hl' rr e k⟩
 |_=>simp[tgF]at e
end
noncomputable def JI(M0:Addr->Prop)(F:Fp)(J:It)(ds:List PyData)(H1:Hp):Prop:=∀ (i:Nat) (F':Fp) (H':Hp),Stp F H1 F' H'->(∀ a,M0 a->H1 a≠none) ->
 (∀ d,ds[i]?=some d->J.go i H'/\∀ x H2,J.yld i H' x H2->Same H' H2/\Rep (MM M0 F') H2 x d)/\(ds.length<=i->J.stop i H')
noncomputable def SI(X:Cx)(XP:XPT)(mp:List Nat)(tg iter:Expr)(f:EM (List PyData)):Prop:=∀ (M0:Addr->Prop) (F:Fp) (Γ:Gv) (ν:Nu) (σ:St) (H:Hp) (R:It->Hp->Prop),RS M0 F Γ ν H->Sees mp ν σ ->
 EPost M0 F ν σ H XP (fun F' Γ' H' ds=>∀ J,JI M0 F' J ds H'->R J H') (f Γ)->wpI X tg iter σ H R
section
variable {X:Cx} {XP:XPT} {mp:List Nat} {a b c e tg iter elt:Expr} {es ifs:List Expr} {pos p p2:Pos} {fa fb fc:EM FV} {ta tb:EM Bool} {na nb:EM (List PyData)}
noncomputable def fSeqL(fa:EM FV):EM (List PyData):=fun Γ=>(fa Γ).bind fun (u,Γ1)=>match derS Γ1 u with
 |some (.list ds)=>.ok (ds,Γ1)
 |_=>.bad
noncomputable def fSeqT(fa:EM FV):EM (List PyData):=fun Γ=>(fa Γ).bind fun (u,Γ1)=>match derS Γ1 u with
 |some (.tuple ds)=>.ok (ds,Γ1)
 |_=>.bad
theorem VG{M0:Addr->Prop}{F:Fp}{K:PySem.W.Frag}{H1:Hp}{l:Addr}{ds:List PyData}{vs:List V}(e:H1 l=some (.lst vs))(n:∀ j,l∉F j)(r:RepL (MM M0 F) H1 vs ds):JI M0 F (Itl K l) ds H1:=fun i F' H' s h0=>by
 have e':H' l=some (.lst vs):=(s.keep l _ e n).1
 refine⟨fun d hd=>?_,fun hl=>⟨vs,SqL.of e',by rw[r.length];exact hl⟩⟩
 obtain⟨v,hv,rv⟩:=r.get' hd
 exact⟨⟨vs,v,SqL.of e',hv⟩,fun x H2 ⟨e2,y⟩=>by
  subst e2
  have:=y vs (SqL.of e')
  rw[hv]at this;cases this
  exact⟨Same.refl _,zi s h0 rv⟩⟩
theorem zcr{M0:Addr->Prop}{F:Fp}{K:PySem.W.Frag}{H1:Hp}{l:Addr}{ds:List PyData}{vs:List V}(e:H1 l=some (.lst vs))(n:¬ MM M0 F l)(r:RepL (MM M0 F) H1 vs ds):JI M0 F (Itl K l) ds H1:=VG e (fun j hj=>n (.inr ⟨j,hj⟩)) r
theorem zeT{M0:Addr->Prop}{F:Fp}{K:PySem.W.Frag}{H1:Hp}{l:Addr}{ds:List PyData}{vs:List V}(e:H1 l=some (.tup vs))(r:RepL (MM M0 F) H1 vs ds):JI M0 F (Itt K l) ds H1:=fun i F' H' s h0=>by
 have e':H' l=some (.tup vs):=s.tups l _ e
 refine⟨fun d hd=>?_,fun hl=>⟨vs,SqT.of e',by rw[r.length];exact hl⟩⟩
 obtain⟨v,hv,rv⟩:=r.get' hd
 exact⟨⟨vs,v,SqT.of e',hv⟩,fun x H2 ⟨e2,y⟩=>by
  subst e2
  have:=y vs (SqT.of e')
  rw[hv]at this;cases this
  exact⟨Same.refl _,zi s h0 rv⟩⟩
theorem zdf(ha:SE X XP mp iter fa):SI X XP mp tg iter (fSeqL fa):=fun M0 F Γ ν σ H R rs hs hp=>
 (vU zb).wp (ha.run rs hs hp fun F1 Γ1 H1 u v rs1 s1 o1 h1=>by
  dsimp only at h1
  split at h1
  ·rename_i ds eu
   obtain⟨l,vs,rfl,e,n,r⟩:=(o1.strong rs1 eu).lst_inv
   exact⟨l,rfl,⟨vs,SqL.of e⟩,h1 F1 H1 rs1 (.refl _ _) _ (zcr e n r)⟩
  ·exact h1.elim)
theorem zfL(ha:SE X XP mp iter fa):SI X XP mp tg iter (fSeqT fa):=fun M0 F Γ ν σ H R rs hs hp=>
 (zfm zb).wp (ha.run rs hs hp fun F1 Γ1 H1 u v rs1 s1 o1 h1=>by
  dsimp only at h1
  split at h1
  ·rename_i ds eu
   obtain⟨l,vs,rfl,e,r⟩:=(o1.strong rs1 eu).tup_inv
   exact⟨l,rfl,⟨vs,SqT.of e⟩,h1 F1 H1 rs1 (.refl _ _) _ (zeT e r)⟩
  ·exact h1.elim)
noncomputable def fRange(fa:EM FV):EM (List PyData):=fun Γ=>(fa Γ).bind fun (u,Γ1)=>match derf Γ1 u with
 |some (.int n)=>if -1000000<=n/\n<=1000000 then .ok (zm n.toNat,Γ1) else .bad
 |_=>.bad
theorem zaa{M0:Addr->Prop}{F:Fp}(n:Nat)(H1:Hp):JI M0 F (Itr 0 n) (zm n) H1:=fun i F' H' s h0=>by
 refine⟨fun d hd=>?_,fun hl=>?_⟩
 ·obtain⟨hi,rfl⟩:=jo hd
  exact⟨hi,fun x H2 ⟨e,y⟩=>by subst e y;exact⟨Same.refl _,by rw[show (0:Int)+(i:Int)=i by omega];exact .int _⟩⟩
 ·show n<=i
  simpa [zo] using hl
theorem zaY {x:Str}(B:BiK X x (.type "range")) (ex:x= "range") (ha:SE X XP mp a fa) (hst:starEach [a] X.env= [(false,eval a X.env)]):SI X XP mp tg (.Call (.Name x p) [a] [] pos) (fRange fa):=fun M0 F Γ ν σ H R rs hs hp=>by
 subst ex
 exact (kB B.gl B.mg (zk zb pa_nil hst) hst).wp (ha.run rs hs hp fun F1 Γ1 H1 u v rs1 s1 o1 h1=>by
  dsimp only at h1
  split at h1
  ·rename_i n eu
   split at h1
   ·rename_i hn
    cases o1.weak rs1 eu
    exact⟨n,rfl,by omega,by omega,h1 F1 H1 rs1 (.refl _ _) _ (zaa n.toNat H1)⟩
   ·exact h1.elim
  ·exact h1.elim)
noncomputable def SF(X:Cx)(XP:XPT)(mp:List Nat)(ifs:List Expr)(f:EM Bool):Prop:=∀ (M0:Addr->Prop) (F:Fp) (Γ:Gv) (ν:Nu) (σ:St) (H:Hp) (Q:Bool->Hp->Prop),RS M0 F Γ ν H->Sees mp ν σ ->
 EPost M0 F ν σ H XP (fun F' Γ' H' b=>Q b H') (f Γ)->wpF X ifs σ H Q
noncomputable def fYes:EM Bool:=fun Γ=>.ok (true,Γ)
theorem zfI:SF X XP mp [] fYes:=fun M0 F Γ ν σ H Q rs hs hp=>pf_nil.wp (hp F H rs (.refl _ _))
theorem zfJ(h:ST X XP mp c ta):SF X XP mp [c] ta:=fun M0 F Γ ν σ H Q rs hs hp=>(zfi qi).wp (h M0 F Γ ν σ H Q rs hs hp)
noncomputable def zK(k:Nat)(t:IT)(cond:EM Bool)(elt:EM FV):List PyData->List PyData->Gv->R (List PyData×Gv)
 |[],ys,Γ=>.ok (ys,Γ)
 |d::ds,ys,Γ=>match tgF t d (Γ++List.replicate k none) with
  |none=>.bad
  |some Γ2=>match cond Γ2 with
   |.ok (true,Γ3)=>match elt Γ3 with
    |.ok (u,Γ4)=>match derS Γ4 u with
     |some y=>zK k t cond elt ds (ys++ [y]) (Γ4.take Γ.length)
     |none=>.bad
    |_=>.bad
   |.ok (false,Γ3)=>zK k t cond elt ds ys (Γ3.take Γ.length)
   |_=>.bad
noncomputable def fComp(n k:Nat)(t:IT)(src:EM (List PyData))(cond:EM Bool)(elt:EM FV):EM (List PyData):=fun Γ=>(src Γ).bind fun (ds,Γ1)=>if ds.length<=1000000/\Γ1.length=n then zK k t cond elt ds [] Γ1 else .bad
noncomputable abbrev XP0:XPT:=fun _ _ _ _ _ _=>False
noncomputable def mpC(mp:List Nat)(n k:Nat)(ix:List Nat):List Nat:=(List.range k).map (n+·)++ix.map fun i=>mp.getD i 0
theorem zag{mp:List Nat}{n k:Nat}{ix:List Nat}{s:Nat}(h:s<k):(mpC mp n k ix)[s]?=some (n+s):=by
 unfold mpC
 rw[xc (by simpa using h),xt,ub h];rfl
theorem vM{mp:List Nat}{n k:Nat}{ix:List Nat}{j:Nat}:(mpC mp n k ix)[k+j]?=(ix[j]?).map fun i=>mp.getD i 0:=by
 unfold mpC
 rw[xf (by simp),xt]
 simp
theorem VI{N':List Str}{scope:Scope}{n k:Nat}{ix:List Nat}{t:IT}{cond:EM Bool}{el:EM FV}{M0:Addr->Prop}{F1:Fp}{ν:Nu}{σ:St}{H1:Hp}{J:It}{ds:List PyData}{P:Fp->Gv->Hp->List PyData->Prop}{Γ1:Gv}{Q:List V->Hp->Prop}
  (hm:∀ j i:Nat,ix[j]?=some i->∃ m,mp[i]?=some m/\m<n) (hN':N'.length=k+ix.length)
  (hg:∀ cl C s2 H2 fp,SG (X.comp N' scope cl C s2 H2 fp) (mpC mp n k ix) (·<n) tg t) (hc:∀ cl C s2 H2 fp,SF (X.comp N' scope cl C s2 H2 fp) XP0 (mpC mp n k ix) ifs cond) (he:∀ cl C s2 H2 fp,SE (X.comp N' scope cl C s2 H2 fp) XP0 (mpC mp n k ix) elt el)
  (rs1:RS M0 F1 Γ1 ν H1) (hs:Sees mp ν σ) (hJ:JI M0 F1 J ds H1) (hd:ds.length<=1000000) (hn:Γ1.length=n) (hp:EPost M0 F1 ν σ H1 XP P (zK k t cond el ds [] Γ1))
  (fin:∀ F' Γ' H' ys vs,RS M0 F' Γ' ν H'->RepL (MM M0 F') H' vs ys->P F' Γ' H' ys->Q vs H') :
  Wj Km k ix (gU X N' scope tg) (fU X N' scope ifs) (eU X N' scope elt) σ J H1 Q:=by
 have hνn:ν.length=n:=by rw[rs1.len,hn]
 refine⟨fun i m vs H=>m=ds.length-i/\i<=ds.length/\∃ F' Γ' ys,RS M0 F' Γ' ν H/\Stp F1 H1 F' H/\RepL (MM M0 F') H vs ys/\Γ'.length=n/\ys.length<=i/\EPost M0 F' ν σ H XP P (zK k t cond el (ds.drop i) ys Γ'),⟨ds.length,by simp,xT _,F1,Γ1,[],rs1,.refl _ _,.nil,hn,xh _,hp⟩,?_⟩
 rintro i m vs H ⟨rfl,hil,F',Γ',ys,rs,st,rv,hln,hyl,hp⟩
 have hsz:=sizeLine_eq
 refine⟨show vs.length<sizeLine by rw[rv.length];omega,?_⟩
 obtain⟨jgo,jst⟩:=hJ i F' H st rs1.al0
 by_cases hlt:i<ds.length
 ·obtain⟨go,yl⟩:=jgo ds[i] (by simp[hlt])
  refine .inr ⟨go,fun vs' H'=>∃ F'' Γ'' ys',RS M0 F'' Γ'' ν H'/\Stp F1 H1 F'' H'/\RepL (MM M0 F'') H' vs' ys'/\Γ''.length=n/\ys'.length<=i+1/\EPost M0 F'' ν σ H' XP P (zK k t cond el (ds.drop (i+1)) ys' Γ''),fun vs' H' h=>⟨ds.length-(i+1),by omega,rfl,hlt,h⟩,fun x H2 hy=>?_⟩
  obtain⟨s2,rx⟩:=yl x H2 hy
  rw[uj hlt,zK]at hp
  have rs2:=(rs.same s2).ext k
  have hcl:(cS k ix σ).length=N'.length:=by unfold cS;simp[hN']
  have hsee:Sees (mpC mp n k ix) (ν++List.replicate k none) (cS k ix σ):=fun s j v e1 e2=>by
   by_cases hsk:s<k
   ·rw[zag hsk]at e1
    cases e1
    rw[xf (by omega),xz]at e2
    split at e2<;>cases e2
   ·obtain⟨j',rfl⟩:∃ j',s=k+j':=⟨s-k,by omega⟩
    rw[vM]at e1
    cases q:ix[j']? with
    |none=>rw[q]at e1;cases e1
    |some i0=>
     rw[q]at e1
     obtain⟨m,hm1,hm2⟩:=hm j' i0 q
     have:mp.getD i0 0=m:=by rw[xS,hm1];rfl
     have ej:m=j:=by
      have e3:some (mp.getD i0 0)=some j:=e1
      rw[this]at e3;exact Option.some.inj e3
     subst ej
     rw[xc (by omega)]at e2
     exact Ky q (hs i0 m v hm1 e2)
  cases et:tgF t ds[i] (Γ'++List.replicate k none) with
  |none=>rw[et]at hp;exact hp.elim
  |some Γ2=>
   rw[et]at hp
   intro cl C s2' H2' fp
   refine hg cl C s2' H2' fp M0 F' _ Γ2 _ (cS k ix σ) H2 x ds[i] _ rs2 hsee hcl rx et fun F3 ν3 σ3 rs3 s3 hs3 hl3 n3 m3=>⟨?_,fun cl C s2' H2' fp=>?_⟩
   ·apply xI
    intro j
    rw[List.getElem?_drop,List.getElem?_drop]
    by_cases hj:j<ix.length
    ·obtain⟨m,hm1,hm2⟩:=hm j ix[j] (by simp[hj])
     refine m3 (k+j) m ?_ hm2
     rw[vM,xB hj]
     show some (mp.getD ix[j] 0)=some m
     rw[xS,hm1];rfl
    ·have hl3':σ3.length=N'.length:=hl3
     rw[xo (by omega),xo (by omega)]
   ·have stA:Stp F1 H1 F3 H2:=(st.trans (.same s2)).trans s3
    have back:∀ {F4:Fp} {Γ4:Gv} {H4:Hp},RS M0 F4 Γ4 ν3 H4->RS M0 (Ja F4 n) (Γ4.take n) ν H4/\Stp F4 H4 (Ja F4 n) H4:=fun {F4 Γ4 H4} r4=>by
     obtain⟨r5,s5⟩:=r4.cut n
     have:ν3.take n=ν:=by
      apply xI
      intro j
      by_cases hj:j<n
      ·rw[xF hj,n3 j hj,xc (by omega)]
      ·rw[xo (by rw[xH];omega),xo (by omega)]
     rw[this]at r5
     exact⟨r5,s5⟩
    have hlen3:Γ2.length=n+k:=by
     rw[We _ _ _ _ et,xK,xX,hln]
    have lenOf:∀ {F4:Fp} {Γ4:Gv} {H4:Hp},RS M0 F4 Γ4 ν3 H4->(Γ4.take n).length=n:=fun {F4 Γ4 H4} r4=>by
     have h1:=r4.len
     have h2:=rs3.len
     rw[xH];omega
    refine hc cl C s2' H2' fp M0 F3 Γ2 ν3 σ3 H2 _ rs3 hs3 ?_
    dsimp only at hp
    cases ec:cond Γ2 with
    |bad=>rw[ec]at hp;exact hp.elim
    |exc xx yy=>rw[ec]at hp;exact hp.elim
    |ok z=>
     obtain⟨bb,Γ3⟩:=z
     rw[ec]at hp
     intro F4 H4 rs4 s4
     cases bb with
     |false=>
      refine Ws ?_
      obtain⟨r5,s5⟩:=back rs4
      have stB:=(stA.trans s4).trans s5
      rw[hln]at hp
      refine⟨_,_,ys,r5,stB,?_,lenOf rs4,by omega,?_⟩
      ·exact zx s5 rs4.al0 (zx s4 rs3.al0 (zx s3 (rs.same s2).al0 (rv.grow s2.grow)))
      ·exact hp.step ((((Stp.same s2).trans s3).trans s4).trans s5)
     |true=>
      refine Wt fun cl C s2' H2' fp=>?_
      refine he cl C s2' H2' fp M0 F4 Γ3 ν3 σ3 H4 _ rs4 hs3 ?_
      dsimp only at hp
      cases ee:el Γ3 with
      |bad=>rw[ee]at hp;exact hp.elim
      |exc xx yy=>rw[ee]at hp;exact hp.elim
      |ok z=>
       obtain⟨u,Γ4⟩:=z
       rw[ee]at hp
       intro F5 H5 rs5 s5 v hv
       dsimp only at hp
       cases ed:derS Γ4 u with
       |none=>rw[ed]at hp;exact hp.elim
       |some y=>
        rw[ed]at hp
        dsimp only at hp
        obtain⟨r6,s6⟩:=back rs5
        have stB:=((stA.trans s4).trans s5).trans s6
        rw[hln]at hp
        refine⟨_,_,ys++ [y],r6,stB,?_,lenOf rs5,by simp;omega,?_⟩
        ·refine RepL.append ?_ (.cons (zi s6 rs5.al0 (hv.strong rs5 ed)) .nil)
         exact zx s6 rs5.al0 (zx s5 rs4.al0 (zx s4 rs3.al0 (zx s3 (rs.same s2).al0 (rv.grow s2.grow))))
        ·exact hp.step (((((Stp.same s2).trans s3).trans s4).trans s5).trans s6)
 ·have e:i=ds.length:=by omega
  subst e
  rw[uh,zK]at hp
  exact .inl ⟨jst (xh _),fin F' Γ' H ys vs rs rv (hp F' H rs (.refl _ _))⟩
noncomputable def SNt(XP:XPT)(mp:List Nat)(t:TE)(f:EM (List PyData)):Prop:=∀ (M0:Addr->Prop) (F:Fp) (Γ:Gv) (ν:Nu) (σ:St) (H:Hp) (Q:VK),RS M0 F Γ ν H->Sees mp ν σ ->
 EPost M0 F ν σ H XP (fun F' Γ' H' ds=>∀ vs p,RepL (MM M0 F') H' vs ds->H' p=none->Q (.ref p) (upd H' p (.lst vs))) (f Γ)->t σ H Q
theorem VW{N':List Str}{scope:Scope}{n k:Nat}{ix:List Nat}{t:IT}{src:EM (List PyData)}{cond:EM Bool}{el:EM FV}(S:CSc X.env.scope X.N scope N' k ix)(hm:∀ j i:Nat,ix[j]?=some i->∃ m,mp[i]?=some m/\m<n)
  (hi:SI X XP mp tg iter src) (hg:∀ cl C s2 H2 fp,SG (X.comp N' scope cl C s2 H2 fp) (mpC mp n k ix) (·<n) tg t) (hc:∀ cl C s2 H2 fp,SF (X.comp N' scope cl C s2 H2 fp) XP0 (mpC mp n k ix) ifs cond) (he:∀ cl C s2 H2 fp,SE (X.comp N' scope cl C s2 H2 fp) XP0 (mpC mp n k ix) elt el) :
  SNt XP mp (W5 k ix (wpI X tg iter) (gU X N' scope tg) (fU X N' scope ifs) (eU X N' scope elt)) (fComp n k t src cond el):=fun M0 F Γ ν σ H Q rs hs hp=>by
 refine hi M0 F Γ ν σ H _ rs hs (hp.seq.mono fun F1 Γ1 H1 ds rs1 s1 h1 J hJ=>?_)
 dsimp only at h1
 split at h1
 ·rename_i hh
  exact VI hm S.len hg hc he rs1 hs hJ hh.1 hh.2 h1 fun F' Γ' H' ys vs rs' rv hP p hp'=>hP vs p rv hp'
 ·exact h1.elim
theorem zdj{N':List Str}{scope:Scope}{n k:Nat}{ix:List Nat}{t:IT}{src:EM (List PyData)}{cond:EM Bool}{el:EM FV}(hcalm:X.calm=true)(S:CSc X.env.scope X.N scope N' k ix)(hm:∀ j i:Nat,ix[j]?=some i->∃ m,mp[i]?=some m/\m<n)
  (hi:SI X XP mp tg iter src) (hg:∀ cl C s2 H2 fp,SG (X.comp N' scope cl C s2 H2 fp) (mpC mp n k ix) (·<n) tg t) (hc:∀ cl C s2 H2 fp,SF (X.comp N' scope cl C s2 H2 fp) XP0 (mpC mp n k ix) ifs cond) (he:∀ cl C s2 H2 fp,SE (X.comp N' scope cl C s2 H2 fp) XP0 (mpC mp n k ix) elt el)
  (hf:∀ x,foldedSetIterable iter X.env x=pure x):SN X XP mp (.ListComp elt [⟨tg,iter,ifs,0⟩] scope pos) (fComp n k t src cond el):=fun M0 F Γ ν σ H Q rs hs hp=>
 (VS hcalm S hf).wp (VW S hm hi hg hc he M0 F Γ ν σ H Q rs hs hp)
end
end L3
namespace L2
open PySem PySem.Spec PyProof.Rows
variable [Cs]
section
variable {X:Cx} {pins:List (Addr×Obj)} {σ:St} {H:Hp} {s s':Shared} {e:Value}
theorem Vp(I:Inv X pins σ H s)(hx:X.ex= [])(hst:X.stack=X.env::X.outer)(hf:X.env.frame=some X.env.locals){E E':XK}(hc:CX1 X.prog X.w X.stack H s E e s')(hE:∀ c H',E c none H'->E' c none H'){Ez:Value->Shared->Prop} :
  wpAny (model X.prog X.w) X.A (leaving X.env e) (fun _ s''=>CX1 X.prog X.w X.outer X.H₀ X.s₀ E' e s'') Ez s':=by
 obtain⟨ea,c,a0,B,h0,H',rfl,os,bare,hfl,up,hk,q⟩:=hc
 have hfr:X.A.frames=some (X.env::X.outer):=by rw[<- hst];exact I.ok.frames
 rw[hst]at hfl
 refine wpAny_leaves_onW hfr hf hfl fun h' f1 f4=>⟨ea,c,a0,B,h0,H',rfl,os.trans I.os,bare,f1,up.trans f4,fun h6 k1 k2=>?_,hE _ _ q⟩
 obtain⟨un,hok⟩:=hk h6 k1 k2
 have I6:=I.call' (s':={ s' with heap:=h6 }) os un hok bare fun b z=>nomatch z
 exact I6.flies hx hst hf (fun b o e=>PySem.W.of_hideAll _ e) (Heap.UpToSlots.of_keeps fun _ _ e=>e)
end
theorem Ka{X:Cx}{CX:CXT}{E:XK}{sp:Sp}{σ:St}{H:Hp}{Q:VK}{r x:Str}{k i:Nat}{b:Addr}{e:Expr}{es:List Expr}{p pos:Pos}(kn:Kn X.prog X.w X.K X.mg X.base CX x k sp)(hb0:X.mg x=some (.ref b))(hr:Room k X.A)
  (hN:X.N[i]?=some r) (hv:Vis X.env.scope r) (hd:(r==("__debug__" :Str))=false) (hcd:(r==("__classdict__" :Str))=false) (hσ:σ[i]?=some (some (.ref b)))
  (hx:∀ pins H s e s',Inv X pins σ H s->CX X.stack H s E e s'->X.xe e s') (h:wpA X (e::es) σ H fun vs H1=>sp vs H1 Q E)
  (he:starEach (e::es) X.env=(false,eval e X.env)::starEach es X.env) (hpl:(backTo pos (starEach es X.env)).any (·.1)=false):wpE X (.Call (.Name r p) (e::es) [] pos) σ H Q:=fun pins s I=>by
 obtain⟨f,fd,ps,F,hm,hk,hb⟩:=kn.ex
 rw[hb0]at hm;cases hm
 refine wpAny_Call_Name_kw (thn (zz (X:=X) hN hv hd hcd pins s σ H (fun v H'=>v=.ref b/\H'=H) I ⟨_,hσ,rfl,rfl⟩) fun u s1 ⟨v,H1,I1,r1,e1,e2⟩=>?_)
 subst e1 e2
 cases r1
 refine PySem.W.callWith_K (h₀:=X.base) I1.ok.mod.kin hk (thn (h pos pins s1 I1) fun us s1 ⟨vs,H1,I1,r,q⟩=>⟨I1.kIn,?_⟩) he hpl
 have hl:us.length=ps.length:=by rw[<- r.length];exact F.len _ _ _ _ q
 have hb':=hb s1 us I1.kIn (by simpa using hl)
 rw[xL]at hb'
 refine wpAny_call (codeAny_mono (F.run X.A X.stack s1 H1 ⟨us,[]⟩ us vs Q E hr I1.env0 hb' r q) fun r s' hq=>?_)
 cases r with
 |error e=>exact hx pins H1 s1 e s' I1 hq
 |ok fl=>
  cases fl with
  |ret u=>exact I1.after hq
  |next=>exact False.elim hq
  |brk=>exact False.elim hq
  |cont=>exact False.elim hq
end L2
namespace L3
open PySem PySem.Spec PyProof.Rows L2
variable [Cs]
inductive AV where
 |v (u:FV)
 |io (i:Nat)
inductive AOks(M0:Addr->Prop)(F:Fp)(ν:Nu)(H:Hp):List V->List AV->Prop
 |nil:AOks M0 F ν H [] []
 |v {v:V} {vs:List V} {u:FV} {as:List AV}:FOk M0 F ν H v u->AOks M0 F ν H vs as->AOks M0 F ν H (v::vs) (.v u::as)
 |io {v:V} {vs:List V} {i:Nat} {as:List AV}:ν[i]?=some (some v)->AOks M0 F ν H vs as->AOks M0 F ν H (v::vs) (.io i::as)
noncomputable def APost(M0:Addr->Prop)(F:Fp)(ν:Nu)(σ:St)(H:Hp)(XP:XPT)(P:Fp->Gv->Nu->Hp->List AV->Prop)(r:R (List AV×Gv)):Prop:=match r with
 |.ok (as,Γ')=>∀ F' ν' H',RS M0 F' Γ' ν' H'->ν <+: ν'->Stp F H F' H'->P F' Γ' ν' H' as
 |.exc x Γ'=>∀ F' H',RS M0 F' Γ' ν H'->Stp F H F' H'->XP x Γ' F' ν σ H'
 |.bad=>False
noncomputable def OPost(M0:Addr->Prop)(F:Fp)(ν:Nu)(σ:St)(H:Hp)(XP:XPT)(P:Fp->Gv->Hp->OV->V->Prop)(r:R (OV×Gv)):Prop:=match r with
 |.ok (o,Γ')=>∀ F' H' v,RS M0 F' (Γ'++ [some o]) (ν++ [some v]) H'->Stp F H F' H'->P F' Γ' H' o v
 |.exc x Γ'=>∀ F' H',RS M0 F' Γ' ν H'->Stp F H F' H'->XP x Γ' F' ν σ H'
 |.bad=>False
noncomputable def SA(X:Cx)(XP:XPT)(mp:List Nat)(es:List Expr)(f:EM (List AV)):Prop:=∀ (M0:Addr->Prop) (F:Fp) (Γ:Gv) (ν:Nu) (σ:St) (H:Hp) (Q:List V->Hp->Prop),RS M0 F Γ ν H->Sees mp ν σ ->
 APost M0 F ν σ H XP (fun F' Γ' ν' H' as=>∀ vs,AOks M0 F' ν' H' vs as->Q vs H') (f Γ)->wpA X es σ H Q
noncomputable def SO(X:Cx)(XP:XPT)(mp:List Nat)(e:Expr)(f:EM OV):Prop:=∀ (M0:Addr->Prop) (F:Fp) (Γ:Gv) (ν:Nu) (σ:St) (H:Hp) (Q:VK),RS M0 F Γ ν H->Sees mp ν σ ->
 OPost M0 F ν σ H XP (fun F' Γ' H' o v=>Q v H') (f Γ)->wpE X e σ H Q
section
variable {M0:Addr->Prop} {F:Fp} {Γ:Gv} {ν:Nu} {σ:St} {H:Hp} {XP:XPT} {α:Type}
theorem APost.seq{P:Fp->Gv->Nu->Hp->List AV->Prop}{r:R (α×Gv)}{k:α×Gv->R (List AV×Gv)}(h:APost M0 F ν σ H XP P (r.bind k)):EPost M0 F ν σ H XP (fun F1 Γ1 H1 a=>APost M0 F1 ν σ H1 XP P (k (a,Γ1))) r:=by
 cases r with
 |ok a=>
  obtain⟨a,Γ1⟩:=a
  intro F1 H1 rs1 s1
  have h':APost M0 F ν σ H XP P (k (a,Γ1)):=h
  revert h'
  generalize k (a,Γ1)=r2
  intro h'
  cases r2 with
  |ok b=>exact fun F' ν' H' rs hn s=>h' F' ν' H' rs hn (s1.trans s)
  |exc x Γ'=>exact fun F' H' rs s=>h' F' H' rs (s1.trans s)
  |bad=>exact h'
 |exc x Γ'=>exact h
 |bad=>exact h
theorem APost.mono{P P':Fp->Gv->Nu->Hp->List AV->Prop}{r:R (List AV×Gv)}(h:APost M0 F ν σ H XP P r)(k:∀ F' Γ' ν' H' as,RS M0 F' Γ' ν' H'->ν <+: ν'->Stp F H F' H'->P F' Γ' ν' H' as->P' F' Γ' ν' H' as):APost M0 F ν σ H XP P' r:=by
 cases r with
 |ok a=>exact fun F' ν' H' rs hn s=>k F' _ ν' H' _ rs hn s (h F' ν' H' rs hn s)
 |exc x Γ'=>exact h
 |bad=>exact h
theorem OPost.seq{P:Fp->Gv->Hp->OV->V->Prop}{r:R (α×Gv)}{k:α×Gv->R (OV×Gv)}(h:OPost M0 F ν σ H XP P (r.bind k)):EPost M0 F ν σ H XP (fun F1 Γ1 H1 a=>OPost M0 F1 ν σ H1 XP P (k (a,Γ1))) r:=by
 cases r with
 |ok a=>
  obtain⟨a,Γ1⟩:=a
  intro F1 H1 rs1 s1
  have h':OPost M0 F ν σ H XP P (k (a,Γ1)):=h
  revert h'
  generalize k (a,Γ1)=r2
  intro h'
  cases r2 with
  |ok b=>exact fun F' H' v rs s=>h' F' H' v rs (s1.trans s)
  |exc x Γ'=>exact fun F' H' rs s=>h' F' H' rs (s1.trans s)
  |bad=>exact h'
 |exc x Γ'=>exact h
 |bad=>exact h
theorem OPost.mono{P P':Fp->Gv->Hp->OV->V->Prop}{r:R (OV×Gv)}(h:OPost M0 F ν σ H XP P r)(k:∀ F' Γ' H' o v,RS M0 F' (Γ'++ [some o]) (ν++ [some v]) H'->Stp F H F' H'->P F' Γ' H' o v->P' F' Γ' H' o v):OPost M0 F ν σ H XP P' r:=by
 cases r with
 |ok a=>exact fun F' H' v rs s=>k F' _ H' _ v rs s (h F' H' v rs s)
 |exc x Γ'=>exact h
 |bad=>exact h
end
section
variable {X:Cx} {XP:XPT} {mp:List Nat} {a b c e:Expr} {es:List Expr} {pos p p2:Pos} {fa fb fc:EM FV} {ta tb:EM Bool} {na nb:EM (List PyData)} {fl:EM (List AV)} {fo:EM OV}
noncomputable def fOwn(n:EM (List PyData)):EM OV:=fun Γ=>(n Γ).bind fun (ds,Γ1)=>.ok (.l (ds.map .d),Γ1)
theorem SN.so(h:SN X XP mp a na):SO X XP mp a (fOwn na):=fun M0 F Γ ν σ H Q rs hs hp=>
 h M0 F Γ ν σ H Q rs hs (hp.seq.mono fun F1 Γ1 H1 ds rs1 s1 h1 vs p r n=>by
  obtain⟨r2,s2⟩:=rs1.newO n r
  exact h1 _ _ _ r2 s2)
noncomputable def fOD(f:EM OV):EM FV:=fun Γ=>(f Γ).bind fun (o,Γ1)=>.ok (.dat o.view,Γ1)
theorem SO.se(h:SO X XP mp a fo):SE X XP mp a (fOD fo):=fun M0 F Γ ν σ H Q rs hs hp=>
 h M0 F Γ ν σ H Q rs hs (by
  have hp':EPost M0 F ν σ H XP (fun F' Γ' H' u=>∀ v,FOk M0 F' ν H' v u->Q v H') ((fo Γ).bind fun (o,Γ1)=>.ok (.dat o.view,Γ1)):=hp
  revert hp'
  generalize fo Γ=r
  intro hp'
  cases r with
  |ok z=>
   obtain⟨o,Γ1⟩:=z
   intro F' H' v rs' s'
   obtain⟨F2,rs2,s2,r2⟩:=rs'.dropD
   exact hp' F2 H' rs2 (s'.trans s2) v r2
  |exc x y=>exact hp'
  |bad=>exact hp')
theorem FOk.ext{M0:Addr->Prop}{F:Fp}{ν ν':Nu}{H:Hp}{v:V}{u:FV}(h:FOk M0 F ν H v u)(hn:ν <+: ν'):FOk M0 F ν' H v u:=by
 cases u with
 |dat x=>exact h
 |own i=>
  have h':ν[i]?=some (some v):=h
  obtain⟨t,rfl⟩:=hn
  show (ν++t)[i]?=_
  rw[xc (xb.mp h').1];exact h'
noncomputable def aNil:EM (List AV):=fun Γ=>.ok ([],Γ)
noncomputable def aCons(fa:EM FV)(fl:EM (List AV)):EM (List AV):=fun Γ=>(fa Γ).bind fun (u,Γ1)=>(fl Γ1).bind fun (as,Γ2)=>.ok (.v u::as,Γ2)
noncomputable def aIo(i:Nat)(fl:EM (List AV)):EM (List AV):=fun Γ=>match Γ[i]? with
 |some (some _)=>(fl Γ).bind fun (as,Γ2)=>.ok (.io i::as,Γ2)
 |_=>.bad
noncomputable def zgj(n:EM (List PyData)):EM (List AV):=fun Γ=>(n Γ).bind fun (ds,Γ1)=>.ok ([.io Γ1.length],Γ1++ [some (.l (ds.map .d))])
theorem zfw:SA X XP mp [] aNil:=fun M0 F Γ ν σ H Q rs hs hp=>pa_nil.wp (hp F ν H rs (uw _) (.refl _ _) [] .nil)
theorem APost.tail{M0:Addr->Prop}{F:Fp}{ν:Nu}{σ:St}{H:Hp}{P:Fp->Gv->Nu->Hp->List AV->Prop}{r:R (List AV×Gv)}{f:List AV->List AV}(h:APost M0 F ν σ H XP P (r.bind fun (as,Γ2)=>.ok (f as,Γ2))) :
  APost M0 F ν σ H XP (fun F' Γ' ν' H' as=>P F' Γ' ν' H' (f as)) r:=by
 cases r with
 |ok a=>exact h
 |exc x Γ'=>exact h
 |bad=>exact h
theorem zcW(ha:SE X XP mp a fa)(hl:SA X XP mp es fl)(hst:starEach (a::es) X.env=(false,eval a X.env)::starEach es X.env):SA X XP mp (a::es) (aCons fa fl):=fun M0 F Γ ν σ H Q rs hs hp=>
 (zk zb jn hst).wp (ha M0 F Γ ν σ H _ rs hs (hp.seq.mono fun F1 Γ1 H1 u rs1 s1 h1 v o1=>
  hl M0 F1 Γ1 ν σ H1 _ rs1 hs (h1.tail.mono fun F2 Γ2 ν2 H2 as rs2 hn s2 h2 vs oks=>h2 (v::vs) (.v ((o1.stp s2 rs1.al0).ext hn) oks))))
theorem zgV {s i:Nat}{x:Str}(hN:X.N[s]?=some x) (hv:Vis X.env.scope x) (hm:mp[s]?=some i) (hd:(x==("__debug__" :Str))=false) (hcd:(x==("__classdict__" :Str))=false) (hl:SA X XP mp es fl) (hst:starEach (.Name x pos::es) X.env=(false,eval (.Name x pos) X.env)::starEach es X.env) :
  SA X XP mp (.Name x pos::es) (aIo i fl):=fun M0 F Γ ν σ H Q rs hs hp=>by
 unfold aIo at hp
 split at hp
 ·rename_i o q
  obtain⟨v,e1,r⟩:=rs.at' i _ q
  exact (zk (zz hN hv hd hcd) jn hst).wp ⟨v,hs s i v hm e1,hl M0 F Γ ν σ H _ rs hs (hp.tail.mono fun F2 Γ2 ν2 H2 as rs2 hn s2 h2 vs oks=>h2 (v::vs) (.io (by
   obtain⟨t,rfl⟩:=hn
   rw[xc (xb.mp e1).1];exact e1) oks))⟩
 ·exact hp.elim
theorem zfx(h:SN X XP mp a na)(hst:starEach [a] X.env= [(false,eval a X.env)]):SA X XP mp [a] (zgj na):=fun M0 F Γ ν σ H Q rs hs hp=>
 (zk zb pa_nil hst).wp (h M0 F Γ ν σ H _ rs hs (hp.seq.mono fun F1 Γ1 H1 ds rs1 s1 h1 vs p r n=>by
  obtain⟨r2,s2⟩:=rs1.newO n r
  exact h1 _ _ _ r2 (List.prefix_append _ _) s2 _ (.io (by rw[<- rs1.len];simp) .nil)))
inductive RF where
 |ok (r:OV) (outs:List (Option OV))
 |exc (x:Exc) (outs:List (Option OV))
 |bad
noncomputable def spX(mg:Str->Option Value)(n:Nat)(run:List OV->RF):Sp:=fun vs H Q E=>vs.length=n/\∃ (M0:Addr->Prop) (F:Fp) (args:List OV),RS M0 F (args.map some) (vs.map some) H/\match run args with
 |.ok r outs=>∀ F' v H',RS M0 F' (outs++ [some r]) (vs.map some++ [some v]) H'->Stp F H F' H'->Q v H'
 |.exc x outs=>∀ C,mg x.cls=some (.ref C)->∀ F' H',RS M0 F' (outs++ [some (.d .none)]) (vs.map some++ [some .non]) H'->Stp F H F' H'->E (.ref C) none H'
 |.bad=>False
noncomputable def J6(X:Cx)(XP:XPT):Prop:=∀ (σ:St) (pins:List (Addr×Obj)) (H:Hp) (s:Shared) (e:Value) (s':Shared) (E:XK),(∀ c H',E c none H'->∃ (x:Exc) (Γ:Gv) (F:Fp) (ν:Nu) (C:Addr),X.mg x.cls=some (.ref C)/\c=.ref C/\XP x Γ F ν σ H') ->
 Inv X pins σ H s->CX1 X.prog X.w X.stack H s E e s'->X.xe e s'
theorem Yu{X:Cx}:J6 X XP0:=fun σ pins H s e s' E h I hc=>by
 obtain⟨ea,c,a0,B,h0,H',rfl,os,bare,hfl,up,hk,q⟩:=hc
 obtain⟨x,Γ,F,ν,C,_,_,z⟩:=h c H' q
 exact z.elim
noncomputable abbrev EX(X:Cx)(XP:XPT)(σ:St):XK:=fun c _ H'=>∃ (x:Exc) (Γ:Gv) (F:Fp) (ν:Nu) (C:Addr),X.mg x.cls=some (.ref C)/\c=.ref C/\XP x Γ F ν σ H'
noncomputable def toArg(Γ:Gv):AV->Option OV
 |.v u=>(derS Γ u).map .d
 |.io i=>match Γ[i]? with
  |some (some o)=>some o
  |_=>none
noncomputable def toArgs(Γ:Gv):List AV->Option (List OV)
 |[]=>some []
 |a::as=>match toArg Γ a,toArgs Γ as with
  |some o,some os=>some (o::os)
  |_,_=>none
noncomputable def ios:List AV->List Nat
 |[]=> []
 |.v _::as=>ios as
 |.io i::as=>i::ios as
noncomputable def putBack:List AV->List (Option OV)->Gv->Option Gv
 |[],_,Γ=>some Γ
 |.v _::as,_::os,Γ=>putBack as os Γ
 |.io i::as,some o::os,Γ=>if i<Γ.length then putBack as os (Γ.set i (some o)) else none
 |_,_,_=>none
theorem mem_ios{as:List AV}{i:Nat}:i∈ios as↔∃ j:Nat,as[j]?=some (.io i):=by
 induction as with
 |nil=>simp[ios]
 |cons a as ih=>
  cases a with
  |v u=>
   rw[ios,ih]
   constructor
   ·rintro⟨j,h⟩;exact⟨j+1,by simpa using h⟩
   ·rintro⟨j,h⟩
    cases j with
    |zero=>simp at h
    |succ j=>exact⟨j,by simpa using h⟩
  |io k=>
   rw[ios,xv,ih]
   constructor
   ·rintro (rfl | ⟨j,h⟩)
    ·exact⟨0,rfl⟩
    ·exact⟨j+1,by simpa using h⟩
   ·rintro⟨j,h⟩
    cases j with
    |zero=>simp at h;exact .inl h.symm
    |succ j=>exact .inr ⟨j,by simpa using h⟩
theorem J2:∀ {as:List AV}{i j k:Nat},(ios as).Nodup->as[j]?=some (.io i)->as[k]?=some (.io i)->j=k
 |[],_,_,_,_,h,_=>by simp at h
 |.v u::as,i,j,k,nd,h1,h2=>by
  cases j with
  |zero=>simp at h1
  |succ j=>
   cases k with
   |zero=>simp at h2
   |succ k=>exact congrArg (·+1) (J2 (as:=as) (i:=i) (by rw[ios]at nd;exact nd) (by simpa using h1) (by simpa using h2))
 |.io m::as,i,j,k,nd,h1,h2=>by
  rw[ios,xy]at nd
  cases j with
  |zero=>
   cases k with
   |zero=>rfl
   |succ k=>
    simp at h1;subst h1
    exact absurd (mem_ios.mpr ⟨k,by simpa using h2⟩) nd.1
  |succ j=>
   cases k with
   |zero=>
    simp at h2;subst h2
    exact absurd (mem_ios.mpr ⟨j,by simpa using h1⟩) nd.1
   |succ k=>exact congrArg (·+1) (J2 (as:=as) (i:=i) nd.2 (by simpa using h1) (by simpa using h2))
section
variable {M0:Addr->Prop} {F:Fp} {Γ:Gv} {ν:Nu} {H:Hp}
theorem AOks.get:∀ {vs:List V}{as:List AV}{args:List OV}{j:Nat}{o:OV},AOks M0 F ν H vs as->toArgs Γ as=some args->args[j]?=some o ->
  ∃ v,vs[j]?=some v/\((∃ u x,as[j]?=some (.v u)/\derS Γ u=some x/\o=.d x/\FOk M0 F ν H v u)∨∃ i,as[j]?=some (.io i)/\ν[i]?=some (some v)/\Γ[i]?=some (some o))
 |_,_,_,j,o,.nil,e,h=>by cases e;simp at h
 |_,_,_,j,o,.v (u:=u) (as:=as) h1 t,e,h=>by
  unfold toArgs at e
  split at e
  ·rename_i o' os e1 e2
   cases e
   cases j with
   |zero=>
    simp at h;subst h
    simp only[toArg,ur]at e1
    obtain⟨x,ex,rfl⟩:=e1
    exact⟨_,rfl,.inl ⟨u,x,rfl,ex,rfl,h1⟩⟩
   |succ j=>
    obtain⟨v,ev,q⟩:=AOks.get (j:=j) t e2 (by simpa using h)
    exact⟨v,by simpa using ev,by simpa using q⟩
  ·cases e
 |_,_,_,j,o,.io (i:=i) (as:=as) h1 t,e,h=>by
  unfold toArgs at e
  split at e
  ·rename_i o' os e1 e2
   cases e
   cases j with
   |zero=>
    simp at h;subst h
    simp only[toArg]at e1
    split at e1
    ·rename_i q
     cases e1
     exact⟨_,rfl,.inr ⟨i,rfl,h1,q⟩⟩
    ·cases e1
   |succ j=>
    obtain⟨v,ev,q⟩:=AOks.get (j:=j) t e2 (by simpa using h)
    exact⟨v,by simpa using ev,by simpa using q⟩
  ·cases e
theorem AOks.len:∀ {vs:List V}{as:List AV},AOks M0 F ν H vs as->vs.length=as.length
 |_,_,.nil=>rfl
 |_,_,.v _ t=>by rw[xp,xp,AOks.len t]
 |_,_,.io _ t=>by rw[xp,xp,AOks.len t]
theorem z7:∀ {as:List AV}{args:List OV},toArgs Γ as=some args->args.length=as.length
 |[],_,e=>by cases e;rfl
 |a::as,_,e=>by
  unfold toArgs at e
  split at e
  ·rename_i e1 e2
   cases e
   rw[xp,xp,z7 e2]
  ·cases e
noncomputable def cM(M0:Addr->Prop)(F:Fp)(as:List AV):Addr->Prop:=fun a=>M0 a∨∃ i,i∉ios as/\a∈F i
noncomputable def cF(F:Fp)(as:List AV):Fp:=fun j=>match as[j]? with
 |some (.io i)=>F i
 |_=> []
theorem zdX{as:List AV}{j i:Nat}(h:as[j]?=some (.io i)):cF F as j=F i:=by unfold cF;rw[h]
theorem QK{as:List AV}{j:Nat}{a:Addr}(h:a∈cF F as j):∃ i,as[j]?=some (.io i)/\a∈F i:=by
 unfold cF at h
 split at h
 ·rename_i i e;exact⟨i,e,h⟩
 ·cases h
theorem cMM{as:List AV}:MM (cM M0 F as) (cF F as)=MM M0 F:=by
 funext a
 apply propext
 constructor
 ·rintro ((h | ⟨i,_,h⟩) | ⟨j,h⟩)
  ·exact .inl h
  ·exact .inr ⟨i,h⟩
  ·obtain⟨i,_,h⟩:=QK h;exact .inr ⟨i,h⟩
 ·rintro (h | ⟨i,h⟩)
  ·exact .inl (.inl h)
  ·by_cases hi:i∈ios as
   ·obtain⟨j,hj⟩:=mem_ios.mp hi
    exact .inr ⟨j,by rw[zdX hj];exact h⟩
   ·exact .inl (.inr ⟨i,hi,h⟩)
theorem wj{vs:List V}{as:List AV}{args:List OV}(rs:RS M0 F Γ ν H)(oks:AOks M0 F ν H vs as)(e:toArgs Γ as=some args)(nd:(ios as).Nodup):RS (cM M0 F as) (cF F as) (args.map some) (vs.map some) H where
 al0 a h:=by
  rcases h with h | ⟨i,_,h⟩
  ·exact rs.al0 a h
  ·exact rs.al a (.inr ⟨i,h⟩)
 dis0 j a h:=by
  obtain⟨i,hi,ha⟩:=QK h
  rintro (h0 | ⟨i',hi',ha'⟩)
  ·exact rs.dis0 i a ha h0
  ·have:=rs.dis _ _ a ha ha'
   subst this
   exact hi' (mem_ios.mpr ⟨j,hi⟩)
 nd j:=by
  unfold cF
  split
  ·exact rs.nd _
  ·exact .nil
 dis j k a h1 h2:=by
  obtain⟨i,hi,ha⟩:=QK h1
  obtain⟨i',hi',ha'⟩:=QK h2
  have:=rs.dis _ _ a ha ha'
  subst this
  exact J2 nd hi hi'
 at' j o ej:=by
  rw[xt]at ej
  cases q:args[j]? with
  |none=>rw[q]at ej;cases ej
  |some o'=>
   rw[q]at ej
   have eo:o'=o:=by simpa using ej
   subst eo
   obtain⟨v,ev,h⟩:=oks.get e q
   refine⟨v,by rw[xt,ev];rfl,?_⟩
   rw[cMM]
   rcases h with ⟨u,x,ea,ex,rfl,ok⟩ | ⟨i,ea,en,eg⟩
   ·have:cF F as j= []:=by unfold cF;rw[ea]
    rw[this]
    exact .d (ok.strong rs ex)
   ·rw[zdX ea]
    obtain⟨v',ev',r⟩:=rs.at' i o' eg
    rw[en]at ev';cases ev'
    exact r
 emp j h:=by
  unfold cF
  split
  ·rename_i i ea
   exfalso
   have hj:j<args.length:=by rw[z7 e];exact (xb.mp ea).1
   exact h args[j] (by rw[xt,xB hj];rfl)
  ·rfl
 len:=by rw[xr,xr,oks.len,z7 e]
theorem qe:∀ {as:List AV}{outs:List (Option OV)}{Γ Γ2:Gv},putBack as outs Γ=some Γ2->(ios as).Nodup->Γ2.length=Γ.length/\(∀ i:Nat,i∉ios as->Γ2[i]?=Γ[i]?)/\∀ j i:Nat,as[j]?=some (.io i)->∃ o,outs[j]?=some (some o)/\Γ2[i]?=some (some o)/\i<Γ.length
 |[],_,Γ,_,e,_=>by
  have:some Γ=some _:=e
  cases this
  exact⟨rfl,fun _ _=>rfl,fun j i h=>by simp at h⟩
 |.v u::as,[],Γ,_,e,_=>by cases e
 |.v u::as,x::os,Γ,Γ2,e,nd=>by
  obtain⟨h0,h1,h2⟩:=qe (as:=as) (outs:=os) (Γ:=Γ) (Γ2:=Γ2) e (by rw[ios]at nd;exact nd)
  refine⟨h0,fun i hi=>h1 i (by rw[ios]at hi;exact hi),fun j i hj=>?_⟩
  cases j with
  |zero=>simp at hj
  |succ j=>
   obtain⟨o,a,b⟩:=h2 j i (by simpa using hj)
   exact⟨o,by simpa using a,b⟩
 |.io k::as,[],Γ,_,e,_=>by cases e
 |.io k::as,none::os,Γ,_,e,_=>by cases e
 |.io k::as,some o::os,Γ,Γ2,e,nd=>by
  rw[putBack]at e
  split at e
  ·rename_i hk
   rw[ios,xy]at nd
   obtain⟨h0,h1,h2⟩:=qe (as:=as) (outs:=os) e nd.2
   rw[xG]at h0
   refine⟨h0,fun i hi=>?_,fun j i hj=>?_⟩
   ·rw[ios,xv]at hi
    rw[h1 i (fun z=>hi (.inr z)),xg (fun z=>hi (.inl z.symm))]
   ·cases j with
    |zero=>
     have:k=i:=by simpa using hj
     subst this
     refine⟨o,rfl,?_,hk⟩
     rw[h1 k nd.1,xi hk]
    |succ j=>
     obtain⟨o',a,b,c⟩:=h2 j i (by simpa using hj)
     exact⟨o',by simpa using a,b,by simpa using c⟩
  ·cases e
open Classical in
theorem Zq{vs:List V}{as:List AV}{args:List OV}{outs:List (Option OV)}{r:OV}{v:V}{Γ2:Gv}{ν0:Nu}{Fc':Fp}{H':Hp}{n:Nat}(rs:RS M0 F Γ ν H)(oks:AOks M0 F ν H vs as)(e:toArgs Γ as=some args)(nd:(ios as).Nodup)
  (rc:RS (cM M0 F as) Fc' (outs++ [some r]) (vs.map some++ [some v]) H') (sc:Stp (cF F as) H Fc' H') (pb:putBack as outs Γ=some Γ2) (hν:ν0 <+: ν) (hn:ν0.length=n) :
  ∃ F',RS M0 F' (Γ2.take n++ [some r]) (ν0++ [some v]) H'/\Stp F H F' H':=by
 obtain⟨p0,p1,p2⟩:=qe pb nd
 have hol:outs.length=as.length:=by have:=rc.len;simp[oks.len]at this;omega
 obtain⟨tl,rfl⟩:=hν
 have hnl:n<=Γ.length:=by have:=rs.len;simp at this;omega
 have htl:(Γ2.take n).length=n:=by rw[xH];omega
 let F':Fp:=fun i=>if i<n then (if h:∃ j:Nat,as[j]?=some (.io i) then Fc' (Classical.choose h) else F i) else if i=n then Fc' as.length else []
 have f1:∀ (i j:Nat),i<n->as[j]?=some (.io i)->F' i=Fc' j:=fun i j hi hj=>by
  show (if i<n then _ else _)=_
  rw[if_pos hi]
  have hex:∃ j:Nat,as[j]?=some (.io i):=⟨j,hj⟩
  rw[dif_pos hex,J2 nd (Classical.choose_spec hex) hj]
 have f2:∀ (i:Nat),i<n->i∉ios as->F' i=F i:=fun i hi hj=>by
  show (if i<n then _ else _)=_
  rw[if_pos hi,dif_neg]
  rintro hex
  exact hj (mem_ios.mpr hex)
 have f3:F' n=Fc' as.length:=by show (if n<n then _ else _)=_;rw[if_neg (xO _),if_pos rfl]
 have f4:∀ i,n<i->F' i= []:=fun i hi=>by show (if i<n then _ else _)=_;rw[if_neg (by omega),if_neg (by omega)]
 have cls:∀ i a,a∈F' i->(∃ j,i<n/\as[j]?=some (.io i)/\a∈Fc' j)∨(i<n/\i∉ios as/\a∈F i)∨(i=n/\a∈Fc' as.length):=fun i a h=>by
  by_cases hi:i<n
  ·by_cases hj:i∈ios as
   ·obtain⟨j,hj⟩:=mem_ios.mp hj
    rw[f1 i j hi hj]at h
    exact .inl ⟨j,hi,hj,h⟩
   ·rw[f2 i hi hj]at h;exact .inr (.inl ⟨hi,hj,h⟩)
  ·by_cases hj:i=n
   ·subst hj;rw[f3]at h;exact .inr (.inr ⟨rfl,h⟩)
   ·rw[f4 i (by omega)]at h;cases h
 have keepF:∀ i,i∉ios as->∀ a∈F i,H' a=H a:=fun i hi a ha=>by
  obtain⟨us,ea⟩:=rs.laidF ha
  rw[ea]
  refine (sc.keep a _ ea fun j hj=>?_).1
  obtain⟨i',hi',ha'⟩:=QK hj
  have:=rs.dis _ _ a ha ha'
  subst this
  exact hi (mem_ios.mpr ⟨j,hi'⟩)
 have st:Stp F H F' H':=⟨fun b o eb nb=>by
  obtain⟨e1,n1⟩:=sc.keep b o eb fun j hj=>let ⟨i,_,ha⟩:=QK hj;nb i ha
  refine⟨e1,fun i hi=>?_⟩
  rcases cls i b hi with ⟨j,_,_,h⟩ | ⟨_,_,h⟩ | ⟨_,h⟩
  ·exact n1 j h
  ·exact nb i h
  ·exact n1 _ h,sc.tups,sc.stay⟩
 have sub:∀ b,MM M0 F' b->MM (cM M0 F as) Fc' b:=fun b hb=>by
  rcases hb with hb | ⟨i,hb⟩
  ·exact .inl (.inl hb)
  ·rcases cls i b hb with ⟨j,_,_,h⟩ | ⟨_,hi,h⟩ | ⟨_,h⟩
   ·exact .inr ⟨j,h⟩
   ·exact .inl (.inr ⟨i,hi,h⟩)
   ·exact .inr ⟨_,h⟩
 have conv:∀ {w:V} {o:OV} {A:List Addr},OR (MM (cM M0 F as) Fc') H' w o A->OR (MM M0 F') H' w o A:=fun {w o A} q=>q.go (fun v d x=>x.less fun b hb _=>sub b hb) (fun _ _ e=>e) fun _ _=>rfl
 have out:∀ (j:Nat) (a:Addr),a∈Fc' j->¬ M0 a/\∀ i,i∉ios as->a∉F i:=fun j a ha=>by
  have h:=rc.dis0 j a ha
  exact⟨fun z=>h (.inl z),fun i hi z=>h (.inr ⟨i,hi,z⟩)⟩
 refine⟨F',⟨fun a ha=>sc.stay a (rs.al0 a ha),fun i a ha=>?_,fun i=>?_,fun i k a h1 h2=>?_,fun i o ei=>?_,fun i hi=>?_,by simp[htl,hn]⟩,st⟩
 ·rcases cls i a ha with ⟨j,_,_,h⟩ | ⟨_,hi,h⟩ | ⟨_,h⟩
  ·exact (out j a h).1
  ·exact rs.dis0 i a h
  ·exact (out _ a h).1
 ·by_cases hi:i<n
  ·by_cases hj:i∈ios as
   ·obtain⟨j,hj⟩:=mem_ios.mp hj
    rw[f1 i j hi hj];exact rc.nd j
   ·rw[f2 i hi hj];exact rs.nd i
  ·by_cases hj:i=n
   ·subst hj;rw[f3];exact rc.nd _
   ·rw[f4 i (by omega)];exact .nil
 ·rcases cls i a h1 with ⟨j,hi,ej,z1⟩ | ⟨hi,ni,z1⟩ | ⟨rfl,z1⟩
  ·rcases cls k a h2 with ⟨j',hk,ej',z2⟩ | ⟨hk,nk,z2⟩ | ⟨rfl,z2⟩
   ·have:=rc.dis _ _ a z1 z2
    subst this
    rw[ej]at ej';cases ej';rfl
   ·exact absurd z2 ((out j a z1).2 k nk)
   ·have:=rc.dis _ _ a z1 z2
    subst this
    rw[xo (xh _)]at ej;cases ej
  ·rcases cls k a h2 with ⟨j',hk,ej',z2⟩ | ⟨hk,nk,z2⟩ | ⟨rfl,z2⟩
   ·exact absurd z1 ((out j' a z2).2 i ni)
   ·exact rs.dis _ _ a z1 z2
   ·exact absurd z1 ((out _ a z2).2 i ni)
  ·rcases cls k a h2 with ⟨j',hk,ej',z2⟩ | ⟨hk,nk,z2⟩ | ⟨rfl,z2⟩
   ·have:=rc.dis _ _ a z1 z2
    subst this
    rw[xo (xh _)]at ej';cases ej'
   ·exact absurd z2 ((out _ a z1).2 k nk)
   ·rfl
 ·by_cases hi:i<n
  ·rw[xc (by omega),xF hi]at ei
   rw[xc (by omega)]
   by_cases hj:i∈ios as
   ·obtain⟨j,hj⟩:=mem_ios.mp hj
    obtain⟨o',eo,eg,_⟩:=p2 j i hj
    rw[eg]at ei
    have eoo:o'=o:=by simpa using ei
    subst eoo
    have hjl:j<as.length:=(xb.mp hj).1
    obtain⟨w,ew,q⟩:=rc.at' j o' (by rw[xc (by omega)];exact eo)
    rw[xc (by rw[xr,oks.len];exact hjl),xt]at ew
    have hal:j<args.length:=by rw[z7 e];exact hjl
    obtain⟨v',ev',hh⟩:=oks.get e (xB hal)
    rw[ev']at ew
    have ew':v'=w:=by simpa using ew
    subst ew'
    rcases hh with ⟨u,x,ea,_⟩ | ⟨i',ea,en,_⟩
    ·rw[hj]at ea;cases ea
    ·rw[hj]at ea;cases ea
     rw[xc (by omega)]at en
     exact⟨v',en,by rw[f1 i j hi hj];exact conv q⟩
   ·rw[p1 i hj]at ei
    obtain⟨w,ew,q⟩:=rs.at' i o ei
    rw[xc (by omega)]at ew
    refine⟨w,ew,?_⟩
    rw[f2 i hi hj]
    exact q.go (fun v d x=>zi st rs.al0 x) st.tups (keepF i hj)
  ·have hin:i=n:=by
    have:=(xb.mp ei).1
    simp[htl]at this;omega
   subst hin
   rw[xf (by omega),htl]at ei
   have:r=o:=by simpa using ei
   subst this
   refine⟨v,by rw[xf (by omega),hn];simp,?_⟩
   rw[f3]
   obtain⟨w,ew,q⟩:=rc.at' as.length r (by rw[xf (by omega),hol];simp)
   rw[xf (by rw[xr,oks.len];exact xh _),xr,oks.len]at ew
   have:v=w:=by simpa using ew
   subst this
   exact conv q
 ·by_cases hlt:i<n
  ·have nj:i∉ios as:=fun hj=>by
    obtain⟨j,hj⟩:=mem_ios.mp hj
    obtain⟨o',eo,eg,_⟩:=p2 j i hj
    exact hi o' (by rw[xc (by omega),xF hlt];exact eg)
   rw[f2 i hlt nj]
   refine rs.emp i fun o eo=>hi o ?_
   rw[xc (by omega),xF hlt,p1 i nj];exact eo
  ·by_cases hin:i=n
   ·subst hin
    exact absurd (by rw[xf (by omega),htl];simp) (hi r)
   ·exact f4 i (by omega)
end
noncomputable def fCall(run:List OV->RF)(fl:EM (List AV)):EM OV:=fun Γ=>(fl Γ).bind fun (as,Γ1)=>match toArgs Γ1 as with
 |none=>.bad
 |some args=>if (ios as).Nodup then match run args with
  |.ok r outs=>match putBack as outs Γ1 with
   |some Γ2=>.ok (r,Γ2.take Γ.length)
   |none=>.bad
  |.exc x outs=>match putBack as outs Γ1 with
   |some Γ2=>.exc x (Γ2.take Γ.length)
   |none=>.bad
  |.bad=>.bad
  else .bad
theorem Zr{M0:Addr->Prop}{F:Fp}{Γ:Gv}{ν:Nu}{σ:St}{H:Hp}{run:List OV->RF}{n:Nat}{Q:VK}(rs:RS M0 F Γ ν H)(hrun:∀ args,run args≠ .bad->args.length=n)
  (hp:OPost M0 F ν σ H XP (fun F' Γ' H' o v=>Q v H') (fCall run fl Γ)):APost M0 F ν σ H XP (fun F1 Γ1 ν1 H1 as=>∀ vs,AOks M0 F1 ν1 H1 vs as->spX X.mg n run vs H1 Q (EX X XP σ)) (fl Γ):=by
 unfold fCall at hp
 generalize fl Γ=ra at hp
 cases ra with
 |bad=>exact hp
 |exc x y=>exact hp
 |ok z=>
  obtain⟨as,Γ1⟩:=z
  intro F1 ν1 H1 rs1 hn s1 vs oks
  simp only[R.bind]at hp
  split at hp
  ·exact hp.elim
  ·rename_i args ea
   split at hp
   ·rename_i nd
    have hl:vs.length=n:=by
     rw[oks.len,<- z7 ea]
     refine hrun args fun z=>?_
     rw[z]at hp;exact hp.elim
    refine⟨hl,cM M0 F1 as,cF F1 as,args,wj rs1 oks ea nd,?_⟩
    split at hp
    ·rename_i r outs er
     split at hp
     ·rename_i Γ2 eb
      intro F' v H' rc sc
      obtain⟨F2,rs2,s2⟩:=Zq (n:=Γ.length) rs1 oks ea nd rc sc eb hn rs.len
      exact hp F2 H' v rs2 (s1.trans s2)
     ·exact hp.elim
    ·rename_i x outs er
     split at hp
     ·rename_i Γ2 eb
      intro C hC F' H' rc sc
      obtain⟨F2,rs2,s2⟩:=Zq (n:=Γ.length) rs1 oks ea nd rc sc eb hn rs.len
      obtain⟨F3,rs3,s3,_⟩:=rs2.dropD
      exact⟨x,_,F3,ν,C,hC,rfl,hp F3 H' rs3 ((s1.trans s2).trans s3)⟩
     ·exact hp.elim
    ·exact hp.elim
   ·exact hp.elim
theorem zdl{x:Str}{k n:Nat}{run:List OV->RF}(px:J6 X XP)(kn:Kn X.prog X.w X.K X.mg X.base (CX1 X.prog X.w) x k (spX X.mg n run))(hr:Room k X.A)(hg:Gl X x)(hrun:∀ args,run args≠ .bad->args.length=n)(hl:SA X XP mp (a::es) fl)
  (hdb:(x==("__debug__" :Str))=false) (he:starEach (a::es) X.env=(false,eval a X.env)::starEach es X.env) (hpl:(backTo pos (starEach es X.env)).any (·.1)=false):SO X XP mp (.Call (.Name x p) (a::es) [] pos) (fCall run fl):=fun M0 F Γ ν σ H Q rs hs hp=>
 zbJ (E:=EX X XP σ) kn hr hg (fun pins H1 s1 e s' I hx=>px σ pins H1 s1 e s' _ (fun c H' q=>q) I hx) (hl M0 F Γ ν σ H _ rs hs (Zr rs hrun hp)) hdb he hpl
theorem za5{x:Str}{k n:Nat}{run:List OV->RF}(px:J6 X XP)(kn:Kn X.prog X.w X.K X.mg X.base (CX1 X.prog X.w) x k (spX X.mg n run))(hr:Room k X.A)(hg:Gl X x)(hrun:∀ args,run args≠ .bad->args.length=n)
  (hdb:(x==("__debug__" :Str))=false):SO X XP mp (.Call (.Name x p) [] [] pos) (fCall run aNil):=fun M0 F Γ ν σ H Q rs hs hp=>by
 have h:=Zr (X:=X) (n:=n) rs hrun hp F ν H rs (uw _) (.refl _ _) [] .nil
 exact Kb kn hr hg (fun pins H1 s1 e s' I hx=>px σ pins H1 s1 e s' _ (fun c H' q=>q) I hx) h hdb
end
inductive FL where
 |next
 |ret (o:OV)
 |brk
 |cnt
noncomputable abbrev SM:=Gv->R (FL×Gv)
noncomputable def SPost(M0:Addr->Prop)(F:Fp)(ν:Nu)(H:Hp)(XP:XPT)(mp:List Nat)(N:Nat)(io:List Nat)(D:qf)(r:R (FL×Gv)):Prop:=match r with
 |.ok (.next,Γ')=>∀ F' ν' σ' H',RS M0 F' Γ' ν' H'->Stp F H F' H'->Sees mp ν' σ'->σ'.length=N->(∀ i∈io,ν'[i]?=ν[i]?)->D.nx σ' H'
 |.ok (.brk,Γ')=>∀ F' ν' σ' H',RS M0 F' Γ' ν' H'->Stp F H F' H'->Sees mp ν' σ'->σ'.length=N->(∀ i∈io,ν'[i]?=ν[i]?)->D.bk σ' H'
 |.ok (.cnt,Γ')=>∀ F' ν' σ' H',RS M0 F' Γ' ν' H'->Stp F H F' H'->Sees mp ν' σ'->σ'.length=N->(∀ i∈io,ν'[i]?=ν[i]?)->D.ct σ' H'
 |.ok (.ret o,Γ')=>∀ F' ν' v H',RS M0 F' (Γ'++ [some o]) (ν'++ [some v]) H'->Stp F H F' H'->(∀ i∈io,ν'[i]?=ν[i]?)->D.rt v H'
 |.exc x Γ'=>∀ F' ν' σ' H',RS M0 F' Γ' ν' H'->Stp F H F' H'->Sees mp ν' σ'->σ'.length=N->(∀ i∈io,ν'[i]?=ν[i]?)->XP x Γ' F' ν' σ' H'
 |.bad=>False
noncomputable def SS(X:Cx)(XP:XPT)(mp:List Nat)(io:List Nat)(st:Stmt)(f:SM):Prop:=∀ (M0:Addr->Prop) (F:Fp) (Γ:Gv) (ν:Nu) (σ:St) (H:Hp) (D:qf),RS M0 F Γ ν H->Sees mp ν σ->σ.length=X.N.length ->
 SPost M0 F ν H XP mp X.N.length io D (f Γ)->wpS X st D σ H
noncomputable def SB(X:Cx)(XP:XPT)(mp:List Nat)(io:List Nat)(sts:List Stmt)(f:SM):Prop:=∀ (M0:Addr->Prop) (F:Fp) (Γ:Gv) (ν:Nu) (σ:St) (H:Hp) (D:qf),RS M0 F Γ ν H->Sees mp ν σ->σ.length=X.N.length ->
 SPost M0 F ν H XP mp X.N.length io D (f Γ)->wpB X sts D σ H
section
variable {M0:Addr->Prop} {F F1:Fp} {Γ:Gv} {ν ν1:Nu} {σ:St} {H H1:Hp} {XP:XPT} {mp:List Nat} {N:Nat} {io:List Nat} {D D':qf} {r:R (FL×Gv)}
theorem SPost.step(h:SPost M0 F ν H XP mp N io D r)(s1:Stp F H F1 H1)(hn:∀ i∈io,ν1[i]?=ν[i]?):SPost M0 F1 ν1 H1 XP mp N io D r:=by
 cases r with
 |ok z=>
  obtain⟨fl,Γ'⟩:=z
  cases fl with
  |next=>exact fun F' ν' σ' H' a b c d e=>h F' ν' σ' H' a (s1.trans b) c d fun i hi=>(e i hi).trans (hn i hi)
  |brk=>exact fun F' ν' σ' H' a b c d e=>h F' ν' σ' H' a (s1.trans b) c d fun i hi=>(e i hi).trans (hn i hi)
  |cnt=>exact fun F' ν' σ' H' a b c d e=>h F' ν' σ' H' a (s1.trans b) c d fun i hi=>(e i hi).trans (hn i hi)
  |ret o=>exact fun F' ν' v H' a b e=>h F' ν' v H' a (s1.trans b) fun i hi=>(e i hi).trans (hn i hi)
 |exc x Γ'=>exact fun F' ν' σ' H' a b c d e=>h F' ν' σ' H' a (s1.trans b) c d fun i hi=>(e i hi).trans (hn i hi)
 |bad=>exact h
theorem SPost.seq{α:Type}{r:R (α×Gv)}{k:α×Gv->R (FL×Gv)}(hs:Sees mp ν σ)(hl:σ.length=N)(h:SPost M0 F ν H XP mp N io D (r.bind k)):EPost M0 F ν σ H XP (fun F1 Γ1 H1 a=>SPost M0 F1 ν H1 XP mp N io D (k (a,Γ1))) r:=by
 cases r with
 |ok z=>
  obtain⟨a,Γ1⟩:=z
  intro F1 H1 rs1 s1
  have h':SPost M0 F ν H XP mp N io D (k (a,Γ1)):=h
  exact h'.step s1 fun _ _=>rfl
 |exc x Γ'=>exact fun F' H' rs s=>h F' ν σ H' rs s hs hl fun _ _=>rfl
 |bad=>exact h
theorem SPost.seqO{r:R (OV×Gv)}{k:OV×Gv->R (FL×Gv)}(hs:Sees mp ν σ)(hl:σ.length=N)(h:SPost M0 F ν H XP mp N io D (r.bind k)):OPost M0 F ν σ H XP (fun F1 Γ1 H1 o v=>SPost M0 F1 ν H1 XP mp N io D (k (o,Γ1))) r:=by
 cases r with
 |ok z=>
  obtain⟨a,Γ1⟩:=z
  intro F1 H1 v rs1 s1
  have h':SPost M0 F ν H XP mp N io D (k (a,Γ1)):=h
  exact h'.step s1 fun _ _=>rfl
 |exc x Γ'=>exact fun F' H' rs s=>h F' ν σ H' rs s hs hl fun _ _=>rfl
 |bad=>exact h
end
noncomputable def sNext:SM:=fun Γ=>.ok (.next,Γ)
noncomputable def sSeq(f g:SM):SM:=fun Γ=>match f Γ with
 |.ok (.next,Γ1)=>g Γ1
 |r=>r
section
variable {X:Cx} {XP:XPT} {mp io:List Nat} {a b c e tg iter:Expr} {es:List Expr} {pos p p2 pos':Pos} {fa fb fc:EM FV} {ta tb:EM Bool} {na nb:EM (List PyData)} {fo:EM OV} {st:Stmt} {sts body els:List Stmt} {f g:SM}
theorem zaM:SB X XP mp io [] sNext:=fun M0 F Γ ν σ H D rs hs hl hp=>pss_nil.wp (hp F ν σ H rs (.refl _ _) hs hl fun _ _=>rfl)
theorem zaU{M0:Addr->Prop}{F:Fp}{Γ:Gv}{ν:Nu}{H:Hp}{N:Nat}{D:qf}{nx:St->Hp->Prop}(hp:SPost M0 F ν H XP mp N io D (sSeq f g Γ))
  (hn:∀ F1 Γ1 ν1 σ1 H1,RS M0 F1 Γ1 ν1 H1->Sees mp ν1 σ1->σ1.length=N->SPost M0 F1 ν1 H1 XP mp N io D (g Γ1)->nx σ1 H1):SPost M0 F ν H XP mp N io { D with nx:=nx } (f Γ):=by
 unfold sSeq at hp
 generalize f Γ=r at hp
 cases r with
 |ok z=>
  obtain⟨fl,Γ'⟩:=z
  cases fl with
  |next=>exact fun F' ν' σ' H' a b c d e=>hn F' Γ' ν' σ' H' a c d (hp.step b e)
  |brk=>exact hp
  |cnt=>exact hp
  |ret o=>exact hp
 |exc x Γ'=>exact hp
 |bad=>exact hp
theorem vZ(h1:SS X XP mp io st f)(h2:SB X XP mp io sts g):SB X XP mp io (st::sts) (sSeq f g):=fun M0 F Γ ν σ H D rs hs hl hp=>
 (jH Ys zV).wp (h1 M0 F Γ ν σ H _ rs hs hl (zaU hp fun F1 Γ1 ν1 σ1 H1 rs1 hs1 hl1 h=>h2 M0 F1 Γ1 ν1 σ1 H1 D rs1 hs1 hl1 h))
theorem zdw:SS X XP mp io (.Pass pos) sNext:=fun M0 F Γ ν σ H D rs hs hl hp=>ps_pass.wp (hp F ν σ H rs (.refl _ _) hs hl fun _ _=>rfl)
noncomputable def zgT:SM:=fun _=>.bad
theorem zfR:SS X XP mp io st zgT:=fun M0 F Γ ν σ H D rs hs hl hp=>hp.elim
noncomputable def fD(fa:EM FV):EM OV:=fun Γ=>(fa Γ).bind fun (u,Γ1)=>match derS Γ1 u with
 |some x=>.ok (.d x,Γ1)
 |none=>.bad
theorem RS.newD{M0:Addr->Prop}{F:Fp}{Γ:Gv}{ν:Nu}{H:Hp}{v:V}{x:PyData}(r:RS M0 F Γ ν H)(q:Rep (MM M0 F) H v x):RS M0 F (Γ++ [some (.d x)]) (ν++ [some v]) H:=by
 have he:F Γ.length= []:=r.emp _ fun o e=>by
  rw[xo (xh _)]at e;cases e
 refine⟨r.al0,r.dis0,r.nd,r.dis,fun j o e=>?_,fun j h=>?_,by simp[r.len]⟩
 ·by_cases hj:j<Γ.length
  ·rw[xc hj]at e
   obtain⟨w,e1,z⟩:=r.at' j o e
   exact⟨w,by rw[xc (by rw[r.len];exact hj)];exact e1,z⟩
  ·have hj':j=Γ.length:=by
    have:=(xb.mp e).1
    simp at this;omega
   subst hj'
   rw[xf (xh _)]at e
   have:(OV.d x)=o:=by simpa using e
   subst this
   refine⟨v,by rw[xf (by rw[r.len];exact xh _),r.len];simp,?_⟩
   rw[he];exact .d q
 ·refine r.emp j fun o e=>h o ?_
  rw[xc (xb.mp e).1];exact e
theorem SE.so(h:SE X XP mp a fa):SO X XP mp a (fD fa):=fun M0 F Γ ν σ H Q rs hs hp=>
 h M0 F Γ ν σ H Q rs hs (hp.seq.mono fun F1 Γ1 H1 u rs1 s1 h1 v hv=>by
  dsimp only at h1
  split at h1
  ·rename_i x e
   exact h1 F1 H1 v (rs1.newD (hv.strong rs1 e)) (.refl _ _)
  ·exact h1.elim)
noncomputable def fMove(i:Nat):EM OV:=fun Γ=>match Γ[i]? with
 |some (some o)=>.ok (o,Γ.set i none)
 |_=>.bad
theorem RS.take{M0:Addr->Prop}{F:Fp}{Γ:Gv}{ν:Nu}{H:Hp}{i:Nat}{o:OV}(r:RS M0 F Γ ν H)(e:Γ[i]?=some (some o)):∃ F' v,ν[i]?=some (some v)/\RS M0 F' (Γ.set i none++ [some o]) (ν++ [some v]) H/\Stp F H F' H:=by
 obtain⟨v,ev,q⟩:=r.at' i o e
 have hi:=(xb.mp e).1
 let F':Fp:=fun j=>if j=i then [] else if j=Γ.length then F i else F j
 have g1:F' i= []:=by show (if i=i then _ else _)=_;rw[if_pos rfl]
 have g2:F' Γ.length=F i:=by show (if Γ.length=i then _ else _)=_;rw[if_neg (by omega),if_pos rfl]
 have g3:∀ j,j≠i->j≠Γ.length->F' j=F j:=fun j h1 h2=>by show (if j=i then _ else _)=_;rw[if_neg h1,if_neg h2]
 have cls:∀ j a,a∈F' j->(j=Γ.length/\a∈F i)∨(j≠i/\j≠Γ.length/\a∈F j):=fun j a h=>by
  by_cases h1:j=i
  ·subst h1;rw[g1]at h;cases h
  ·by_cases h2:j=Γ.length
   ·subst h2;rw[g2]at h;exact .inl ⟨rfl,h⟩
   ·rw[g3 j h1 h2]at h;exact .inr ⟨h1,h2,h⟩
 have st:Stp F H F' H:=jp fun j a h=>by
  rcases cls j a h with ⟨_,h⟩ | ⟨_,_,h⟩
  ·exact⟨_,h⟩
  ·exact⟨_,h⟩
 refine⟨F',v,ev,⟨r.al0,fun j a h=>?_,fun j=>?_,fun j k a h1 h2=>?_,fun j p ej=>?_,fun j h=>?_,by simp[r.len]⟩,st⟩
 ·rcases cls j a h with ⟨_,h⟩ | ⟨_,_,h⟩
  ·exact r.dis0 _ a h
  ·exact r.dis0 _ a h
 ·by_cases h1:j=i
  ·subst h1;rw[g1];exact .nil
  ·by_cases h2:j=Γ.length
   ·subst h2;rw[g2];exact r.nd _
   ·rw[g3 j h1 h2];exact r.nd _
 ·rcases cls j a h1 with ⟨e1,z1⟩ | ⟨n1,m1,z1⟩
  ·rcases cls k a h2 with ⟨e2,z2⟩ | ⟨n2,m2,z2⟩
   ·rw[e1,e2]
   ·exact absurd (r.dis _ _ a z2 z1) n2
  ·rcases cls k a h2 with ⟨e2,z2⟩ | ⟨n2,m2,z2⟩
   ·exact absurd (r.dis _ _ a z1 z2) n1
   ·exact r.dis _ _ a z1 z2
 ·have hsl:(Γ.set i none).length=Γ.length:=by simp
  by_cases hj:j<Γ.length
  ·rw[xc (by omega)]at ej
   by_cases hji:j=i
   ·subst hji;rw[xi hi]at ej;cases ej
   ·rw[xg (Ne.symm hji)]at ej
    obtain⟨w,ew,z⟩:=r.at' j p ej
    refine⟨w,by rw[xc (by rw[r.len];exact hj)];exact ew,?_⟩
    rw[g3 j hji (by omega)]
    exact z.go (fun _ _ x=>zi st r.al0 x) st.tups fun _ _=>rfl
  ·have hj':j=Γ.length:=by
    have:=(xb.mp ej).1
    simp at this;omega
   subst hj'
   rw[xf (by omega),hsl]at ej
   have:o=p:=by simpa using ej
   subst this
   refine⟨v,by rw[xf (by rw[r.len];exact xh _),r.len];simp,?_⟩
   rw[g2]
   exact q.go (fun _ _ x=>zi st r.al0 x) st.tups fun _ _=>rfl
 ·by_cases h1:j=i
  ·subst h1;exact g1
  ·by_cases h2:j=Γ.length
   ·subst h2
    exact absurd (by rw[xf (by simp)];simp) (h o)
   ·rw[g3 j h1 h2]
    refine r.emp j fun p ep=>h p ?_
    rw[xc (by simpa using (xb.mp ep).1),xg (Ne.symm h1)];exact ep
theorem zdo {s i:Nat}{x:Str}(hN:X.N[s]?=some x) (hv:Vis X.env.scope x) (hm:mp[s]?=some i) (hd:(x==("__debug__" :Str))=false) (hcd:(x==("__classdict__" :Str))=false) :
  SO X XP mp (.Name x pos) (fMove i):=fun M0 F Γ ν σ H Q rs hs hp=>by
 unfold fMove at hp
 split at hp
 ·rename_i o q
  obtain⟨F',v,e1,rs1,s1⟩:=rs.take q
  exact (zz hN hv hd hcd).wp ⟨v,hs s i v hm e1,hp F' H v rs1 s1⟩
 ·exact hp.elim
noncomputable def sRet(fo:EM OV):SM:=fun Γ=>(fo Γ).bind fun (o,Γ1)=>.ok (.ret o,Γ1)
theorem zfT(h:SO X XP mp e fo):SS X XP mp io (.Return (some e) pos) (sRet fo):=fun M0 F Γ ν σ H D rs hs hl hp=>
 (yO zb).wp (h M0 F Γ ν σ H _ rs hs ((SPost.seqO hs hl hp).mono fun F1 Γ1 H1 o v rs1 s1 h1=>h1 F1 ν v H1 rs1 (.refl _ _) fun _ _=>rfl))
noncomputable def SOt(XP:XPT)(mp:List Nat)(t:TE)(f:EM OV):Prop:=∀ (M0:Addr->Prop) (F:Fp) (Γ:Gv) (ν:Nu) (σ:St) (H:Hp) (Q:VK),RS M0 F Γ ν H->Sees mp ν σ ->
 OPost M0 F ν σ H XP (fun F' Γ' H' o v=>Q v H') (f Γ)->t σ H Q
theorem SNt.so{t:TE}(h:SNt XP mp t na):SOt XP mp t (fOwn na):=fun M0 F Γ ν σ H Q rs hs hp=>
 h M0 F Γ ν σ H Q rs hs (hp.seq.mono fun F1 Γ1 H1 ds rs1 s1 h1 vs p r n=>by
  obtain⟨r2,s2⟩:=rs1.newO n r
  exact h1 _ _ _ r2 s2)
theorem SNt.sd{t:TE}(h:SNt XP mp t na):SOt XP mp t (fD (fNew na)):=fun M0 F Γ ν σ H Q rs hs hp=>
 h M0 F Γ ν σ H Q rs hs (by
  have hp':OPost M0 F ν σ H XP (fun F' Γ' H' o v=>Q v H') ((na Γ).bind fun (ds,Γ1)=>.ok (.d (.list ds),Γ1)):=by
   have e:fD (fNew na) Γ=(na Γ).bind fun (ds,Γ1)=>.ok (.d (.list ds),Γ1):=by
    unfold fD fNew
    cases na Γ<;>rfl
   rw[<- e];exact hp
  exact hp'.seq.mono fun F1 Γ1 H1 ds rs1 s1 h1 vs p r n=>by
   have s2:Same H1 (upd H1 p (.lst vs)):=zr n
   exact h1 F1 _ _ ((rs1.same s2).newD (Rep.list ze (fun z=>rs1.al p z n) (r.grow s2.grow))) (.same s2))
noncomputable def sAsg(io:List Nat)(i:Nat)(fo:EM OV):SM:=fun Γ=>(fo Γ).bind fun (o,Γ1)=>if i<Γ1.length/\i∉io then .ok (.next,Γ1.set i (some o)) else .bad
theorem v7{s i:Nat}{t:TE}(hps:PS X st (Va t (wB s)))(hn:mp.Nodup)(hm:mp[s]?=some i)(hsl:s<X.N.length)(h:SOt XP mp t fo):SS X XP mp io st (sAsg io i fo):=fun M0 F Γ ν σ H D rs hs hl hp=>
 hps.wp (h M0 F Γ ν σ H _ rs hs ((SPost.seqO hs hl hp).mono fun F1 Γ1 H1 o v rs1 s1 h1=>by
  dsimp only at h1
  split at h1
  ·rename_i hh
   obtain⟨F2,rs2,s2⟩:=rs1.move hh.1
   exact h1 F2 _ _ H1 rs2 s2 (hs.set hn hm (by rw[hl];exact hsl)) (by simpa using hl) fun j hj=>by
    rw[xg (fun z=>hh.2 (by rw[z];exact hj))]
  ·exact h1.elim))
theorem zfQ{s i:Nat}{x:Str}(hN:X.N.Nodup)(hi:X.N[s]?=some x)(hx:Loc X.env.scope x)(hf:X.fn x=true∨X.env.scope.names.lookup x=some .local)(hn:mp.Nodup)(hm:mp[s]?=some i)(h:SO X XP mp e fo)
  (hsw:swapsWith e (some (.Name x pos')) pos.line X.env=pure false):SS X XP mp io (.Assign [.Name x pos'] e pos) (sAsg io i fo) :=
 v7 (ZT hN hi hx zb hsw hf) hn hm (xb.mp hi).1 h
noncomputable def sAsgT(t:IT)(fa:EM FV):SM:=fun Γ=>(fa Γ).bind fun (u,Γ1)=>match derS Γ1 u with
 |some x=>match tgF t x Γ1 with
  |some Γ2=>.ok (.next,Γ2)
  |none=>.bad
 |none=>.bad
theorem zba{t:IT}(ha:SE X XP mp e fa)(hg:SG X mp (·∈io) tg t)(hsw:swapsWithSole [tg] e pos.line X.env=pure false)(hw:swappedStores [tg] e X.env=pure none)
  (hps:PS X (.Assign [tg] e pos) (Va (wpE X e) (wpG X tg))):SS X XP mp io (.Assign [tg] e pos) (sAsgT t fa):=fun M0 F Γ ν σ H D rs hs hl hp=>
 hps.wp (ha M0 F Γ ν σ H _ rs hs ((SPost.seq hs hl hp).mono fun F1 Γ1 H1 u rs1 s1 h1 v hv=>by
  dsimp only at h1
  split at h1
  ·rename_i x ex
   split at h1
   ·rename_i Γ2 et
    exact hg M0 F1 Γ1 Γ2 ν σ H1 v x _ rs1 hs hl (hv.strong rs1 ex) et fun F2 ν2 σ2 rs2 s2 hs2 hl2 n2 m2=>h1 F2 ν2 σ2 H1 rs2 s2 hs2 hl2 n2
   ·exact h1.elim
  ·exact h1.elim))
noncomputable def sExpr(fa:EM FV):SM:=fun Γ=>(fa Γ).bind fun (_,Γ1)=>.ok (.next,Γ1)
theorem Yy(ha:SE X XP mp e fa)(hsw:swapsWith e none pos.line X.env=pure false):SS X XP mp io (.Expr e pos) (sExpr fa):=fun M0 F Γ ν σ H D rs hs hl hp=>
 (vX zb hsw).wp (ha M0 F Γ ν σ H _ rs hs ((SPost.seq hs hl hp).mono fun F1 Γ1 H1 u rs1 s1 h1 v hv=>h1 F1 ν σ H1 rs1 (.refl _ _) hs hl fun _ _=>rfl))
noncomputable def sIf(t:EM Bool)(f g:SM):SM:=fun Γ=>(t Γ).bind fun (b,Γ1)=>if b then f Γ1 else g Γ1
theorem zec(hc:ST X XP mp c ta)(ha:SB X XP mp io body f)(hb:SB X XP mp io els g):SS X XP mp io (.If c body els pos) (sIf ta f g):=fun M0 F Γ ν σ H D rs hs hl hp=>
 (zgL qi zV zV).wp (hc M0 F Γ ν σ H _ rs hs ((SPost.seq hs hl hp).mono fun F1 Γ1 H1 b rs1 s1 h1=>by
  cases b with
  |true=>exact Wt (ha M0 F1 Γ1 ν σ H1 D rs1 hs hl h1)
  |false=>exact Ws (hb M0 F1 Γ1 ν σ H1 D rs1 hs hl h1)))
noncomputable def Jv(t:IT)(body:SM):List PyData->Gv->R (FL×Gv)
 |[],Γ=>.ok (.next,Γ)
 |d::ds,Γ=>match tgF t d Γ with
  |none=>.bad
  |some Γ1=>match body Γ1 with
   |.ok (.next,Γ2)=>Jv t body ds Γ2
   |.ok (.cnt,Γ2)=>Jv t body ds Γ2
   |.ok (.brk,Γ2)=>.ok (.next,Γ2)
   |r=>r
noncomputable def sFor(t:IT)(src:EM (List PyData))(body:SM):SM:=fun Γ=>(src Γ).bind fun (ds,Γ1)=>Jv t body ds Γ1
theorem zfS{t:IT}{src:EM (List PyData)}(hpo:PassesOwn (model X.prog X.w) X.A X.env X.xe)(hc:X.calm=true)(hi:SI X XP mp tg iter src)(hg:SG X mp (·∈io) tg t)(hb:SB X XP mp io body f)
  (hf:∀ x,foldedSetIterable iter X.env x=pure x):SS X XP mp io (.For tg iter body [] pos) (sFor t src f):=fun M0 F Γ ν σ H D rs hs hl hp=>by
 refine (zaB hpo hc Qa vT zV hf).wp (hi M0 F Γ ν σ H _ rs hs ((SPost.seq hs hl hp).mono fun F1 Γ1 H1 ds rs1 s1 h1 J hJ=>?_))
 dsimp only at h1
 refine⟨fun i m σ' H'=>m=ds.length-i/\i<=ds.length/\∃ F' Γ' ν',RS M0 F' Γ' ν' H'/\Stp F1 H1 F' H'/\Sees mp ν' σ'/\σ'.length=X.N.length/\SPost M0 F' ν' H' XP mp X.N.length io D (Jv t f (ds.drop i) Γ'),⟨ds.length,by simp,xT _,F1,Γ1,ν,rs1,.refl _ _,hs,hl,h1⟩,?_⟩
 rintro i m σ' H' ⟨rfl,hil,F',Γ',ν',rs',st',hs',hl',hp'⟩
 obtain⟨jgo,jst⟩:=hJ i F' H' st' rs1.al0
 by_cases hlt:i<ds.length
 ·obtain⟨go,yl⟩:=jgo ds[i] (by simp[hlt])
  rw[uj hlt,Jv]at hp'
  refine .inr ⟨go,fun σ2 H2=>∃ F2 Γ2 ν2,RS M0 F2 Γ2 ν2 H2/\Stp F1 H1 F2 H2/\Sees mp ν2 σ2/\σ2.length=X.N.length/\SPost M0 F2 ν2 H2 XP mp X.N.length io D (Jv t f (ds.drop (i+1)) Γ2),fun σ2 H2 h=>⟨ds.length-(i+1),by omega,rfl,hlt,h⟩,fun x H2 hy=>?_⟩
  obtain⟨s2,rx⟩:=yl x H2 hy
  cases et:tgF t ds[i] Γ' with
  |none=>rw[et]at hp';exact hp'.elim
  |some Γ2=>
   rw[et]at hp'
   dsimp only at hp'
   refine hg M0 F' Γ' Γ2 ν' σ' H2 x ds[i] _ (rs'.same s2) hs' hl' rx et fun F3 ν3 σ3 rs3 s3 hs3 hl3 n3 m3=>?_
   have sA:Stp F' H' F3 H2:=(Stp.same s2).trans s3
   refine hb M0 F3 Γ2 ν3 σ3 H2 _ rs3 hs3 hl3 ?_
   cases ef:f Γ2 with
   |bad=>rw[ef]at hp';exact hp'.elim
   |exc xx yy=>
    rw[ef]at hp'
    exact hp'.step sA n3
   |ok z=>
    obtain⟨fl,Γ4⟩:=z
    rw[ef]at hp'
    cases fl with
    |next=>exact fun F4 ν4 σ4 H4 a b c d e=>⟨F4,Γ4,ν4,a,(st'.trans sA).trans b,c,d,hp'.step (sA.trans b) fun i hi=>(e i hi).trans (n3 i hi)⟩
    |cnt=>exact fun F4 ν4 σ4 H4 a b c d e=>⟨F4,Γ4,ν4,a,(st'.trans sA).trans b,c,d,hp'.step (sA.trans b) fun i hi=>(e i hi).trans (n3 i hi)⟩
    |brk=>exact fun F4 ν4 σ4 H4 a b c d e=>hp' F4 ν4 σ4 H4 a (sA.trans b) c d fun i hi=>(e i hi).trans (n3 i hi)
    |ret o=>exact fun F4 ν4 v4 H4 a b e=>hp' F4 ν4 v4 H4 a (sA.trans b) fun i hi=>(e i hi).trans (n3 i hi)
 ·have e:i=ds.length:=by omega
  subst e
  rw[uh,Jv]at hp'
  exact .inl ⟨jst (xh _),hp' F' ν' σ' H' rs' (.refl _ _) hs' hl' fun _ _=>rfl⟩
noncomputable def WW(t:EM Bool)(body:SM):Nat->Gv->R (FL×Gv)
 |0,_=>.bad
 |n+1,Γ=>(t Γ).bind fun (b,Γ1)=>if b then match body Γ1 with
   |.ok (.next,Γ2)=>WW t body n Γ2
   |.ok (.cnt,Γ2)=>WW t body n Γ2
   |.ok (.brk,Γ2)=>.ok (.next,Γ2)
   |r=>r
  else .ok (.next,Γ1)
noncomputable def zaL(n:Nat)(t:EM Bool)(body:SM):SM:=WW t body n
theorem zbc{n:Nat}(hpo:PassesOwn (model X.prog X.w) X.A X.env X.xe)(hc:ST X XP mp c ta)(hb:SB X XP mp io body f):SS X XP mp io (.While c body [] pos) (zaL n ta f):=fun M0 F Γ ν σ H D rs hs hl hp=>by
 refine (zaE hpo qi zV).wp ⟨fun m σ' H'=>∃ F' Γ' ν',RS M0 F' Γ' ν' H'/\Sees mp ν' σ'/\σ'.length=X.N.length/\SPost M0 F' ν' H' XP mp X.N.length io D (WW ta f m Γ'),⟨n,F,Γ,ν,rs,hs,hl,hp⟩,?_⟩
 rintro m σ' H' ⟨F',Γ',ν',rs',hs',hl',hp'⟩
 cases m with
 |zero=>exact hp'.elim
 |succ m=>
  rw[WW]at hp'
  refine hc M0 F' Γ' ν' σ' H' _ rs' hs' ((SPost.seq hs' hl' hp').mono fun F1 Γ1 H1 b rs1 s1 h1=>?_)
  dsimp only at h1
  cases b with
  |false=>exact Ws (h1 F1 ν' σ' H1 rs1 (.refl _ _) hs' hl' fun _ _=>rfl)
  |true=>
   refine Wt ⟨fun σ2 H2=>∃ F2 Γ2 ν2,RS M0 F2 Γ2 ν2 H2/\Sees mp ν2 σ2/\σ2.length=X.N.length/\SPost M0 F2 ν2 H2 XP mp X.N.length io D (WW ta f m Γ2),fun σ2 H2 h=>⟨m,uu _,h⟩,?_⟩
   rw[if_pos rfl]at h1
   refine hb M0 F1 Γ1 ν' σ' H1 _ rs1 hs' hl' ?_
   cases ef:f Γ1 with
   |bad=>rw[ef]at h1;exact h1.elim
   |exc xx yy=>rw[ef]at h1;exact h1
   |ok z=>
    obtain⟨fl,Γ4⟩:=z
    rw[ef]at h1
    cases fl with
    |next=>exact fun F4 ν4 σ4 H4 a b c d e=>⟨F4,Γ4,ν4,a,c,d,h1.step b e⟩
    |cnt=>exact fun F4 ν4 σ4 H4 a b c d e=>⟨F4,Γ4,ν4,a,c,d,h1.step b e⟩
    |brk=>exact h1
    |ret o=>exact h1
theorem yK{M0:Addr->Prop}{F:Fp}{Γ:Gv}{ν:Nu}{H:Hp}{i:Nat}{xs:List OV}(rs:RS M0 F Γ ν H)(e:Γ[i]?=some (some (.l xs))):∃ a vs A,ν[i]?=some (some (.ref a))/\H a=some (.lst vs)/\ORL (MM M0 F) H vs xs A/\F i=a::A/\A.Nodup:=by
 obtain⟨v,ev,q⟩:=rs.at' i _ e
 have nd:=rs.nd i
 generalize hA:F i=A at q
 rw[hA]at nd
 cases q with
 |l ea qa=>exact⟨_,_,_,ev,ea,qa,rfl,(xy.mp nd).2⟩
theorem ze2{M0:Addr->Prop}{F:Fp}{Γ:Gv}{ν:Nu}{H:Hp}{i:Nat}{xs xs':List OV}{a:Addr}{vs vs':List V}(rs:RS M0 F Γ ν H)(e:Γ[i]?=some (some (.l xs)))(en:ν[i]?=some (some (.ref a)))(eh:H a=some (.lst vs))
  (h:∀ A,ORL (MM M0 F) H vs xs A->ORL (MM M0 F) H vs' xs' A):∃ F',RS M0 F' (Γ.set i (some (.l xs'))) ν (upd H a (.lst vs'))/\Stp F H F' (upd H a (.lst vs')) :=
 rs.mut (xs':=xs') (vs:=vs') e en fun us A eu qa eF=>by
  rw[eh]at eu;cases eu
  have nd:=rs.nd i
  rw[eF]at nd
  exact⟨A,fun _ h=>h,(xy.mp nd).2,h A qa⟩
noncomputable def isOwn(Γ:Gv)(i:Nat):Bool:=match Γ[i]? with
 |some (some (.l _))=>true
 |_=>false
theorem K8{Γ:Gv}{i:Nat}(h:isOwn Γ i=true):∃ xs,Γ[i]?=some (some (.l xs)):=by
 unfold isOwn at h
 split at h
 ·rename_i xs e;exact⟨xs,e⟩
 ·cases h
structure NmK(X:Cx)(mp:List Nat)(s i:Nat)(x:Str):Prop where
 hN:X.N[s]?=some x
 hv:Vis X.env.scope x
 hm:mp[s]?=some i
 hd:(x==("__debug__" :Str))=false
 hcd:(x==("__classdict__" :Str))=false
noncomputable def sSet(i:Nat)(fi fv:EM FV):SM:=fun Γ=>(fv Γ).bind fun (u,Γ1)=>if isOwn Γ1 i then (fi Γ1).bind fun (w,Γ2)=>match derS Γ2 u,derf Γ2 w,Γ2[i]? with
 |some x,some (.int k),some (some (.l xs))=>match ixN xs.length k with
  |some j=>match xs[j]? with
   |some (.d _)=>.ok (.next,Γ2.set i (some (.l (xs.set j (.d x)))))
   |_=>.bad
  |none=>.bad
 |_,_,_=>.bad
 else .bad
theorem zfU{s i:Nat}{x:Str}(n:NmK X mp s i x)(hi:SE X XP mp b fb)(hv:SE X XP mp a fa)(hsw:swapsWithSole [.Subscript (.Name x p) b p2] a pos.line X.env=pure false)(hw:swappedStores [.Subscript (.Name x p) b p2] a X.env=pure none)
  (hps:∀ {te:TE} {g:TG},PE X a te->PG X (.Subscript (.Name x p) b p2) g->PS X (.Assign [.Subscript (.Name x p) b p2] a pos) (Va te g)) (hpg:∀ {to ti:TE} {t:zbR},PE X (.Name x p) to->PE X b ti->zel X t->PG X (.Subscript (.Name x p) b p2) (zgt to ti t)) :
  SS X XP mp io (.Assign [.Subscript (.Name x p) b p2] a pos) (sSet i fb fa):=fun M0 F Γ ν σ H D rs hs hl hp=>by
 refine (hps zb (hpg (zz n.hN n.hv n.hd n.hcd) zb zaV)).wp (hv M0 F Γ ν σ H _ rs hs ((SPost.seq hs hl hp).mono fun F1 Γ1 H1 u rs1 s1 h1 v ov=>?_))
 dsimp only at h1
 split at h1
 ·rename_i hw
  obtain⟨xs0,e0⟩:=K8 hw
  obtain⟨a0,vs0,A0,en0,eh0,q0,_,_⟩:=yK rs1 e0
  refine⟨.ref a0,hs s i _ n.hm en0,?_⟩
  refine hi M0 F1 Γ1 ν σ H1 _ rs1 hs ((SPost.seq hs hl h1).mono fun F2 Γ2 H2 w rs2 s2 h2 vi oi=>?_)
  dsimp only at h2
  split at h2
  ·rename_i y k xs ey ek ex
   split at h2
   ·rename_i j ej
    split at h2
    ·rename_i z ez
     obtain⟨a1,vs1,A1,en1,eh1,q1,_,_⟩:=yK rs2 ex
     rw[en0]at en1
     cases en1
     cases oi.weak rs2 ek
     refine⟨a0,vs1,k,j,rfl,rfl,eh1,by rw[q1.length];exact ej,?_⟩
     obtain⟨F3,rs3,s3⟩:=ze2 rs2 ex en0 eh1 fun A qa=>qa.setD ((ov.stp s2 rs1.al0).strong rs2 ey) ez
     exact h2 F3 ν σ _ rs3 s3 hs hl fun _ _=>rfl
    ·exact h2.elim
   ·exact h2.elim
  ·exact h2.elim
 ·exact h1.elim
end
end L3
namespace L2
open PySem PySem.Spec PyProof.Rows
variable [Cs]
section
variable {X:Cx} {pins:List (Addr×Obj)} {σ:List (Option V)} {H:Hp} {s:Shared} {h':Heap}
theorem Inv.turnedL{t':Nat}{ch:List Addr}(I:Inv X pins σ H s)(k:∀ b o,b∉ch->s.heap.get? b=some o->h'.get? b=some o)(there:∀ b o,b∈ch->s.heap.get? b=some o->∃ o',h'.get? b=some o')(hf:∀ b∈ch,Qh X pins H b):Inv X pins σ H { s with heap:=h',toks:=t' }:=by
 have nit:∀ b u,H b=some u->b∉ch:=fun b u e z=>by rw[(hf b z).1]at e;cases e
 refine I.step (g':=s.gens) (d':=s.drawn) (ch:=ch) (fun b hb=>?_) (fun b o _ _ hc e _=>k b o hc e) (fun b o _ _ hc e _=>⟨o.slots,k b o hc e⟩) (fun _ _ _ _ n=>n)
  (fun b o hc e=>⟨o,k b o hc e⟩) (fun _ _ e=>e) (fun _ _ _ e=>e) (fun b ps e=>⟨#[],by rw[e];simp⟩) (fun m hm=>?_) (fun b u e=>?_) I.bare
 ·obtain⟨f0,f1,f2,f3,f4,f5⟩:=hf b hb
  exact⟨f3,f1,f4,f5⟩
 ·obtain⟨o,es,ep,ho,r⟩:=hm
  exact⟨o,es,ep,k _ o (fun z=>(hf _ z).2.1 rfl) ho,r⟩
 ·refine (I.hok b u e).stay (fun c v hc q=>k c v ?_ q) (fun _ q=>q) fun _ _ q=>q
  rcases hc with z | z
  ·rw[z];exact nit b u e
  ·exact nit c _ z
end
noncomputable def Ite(K:PySem.W.Frag)(a:Addr):It :=
 ⟨fun i H=>∃ xs x,SqL K H a xs/\xs[i]?=some x,fun i H x H'=>∃ p y,H p=none/\H'=upd H p (.tup [.int i,y])/\x=.ref p/\∀ xs,SqL K H a xs->xs[i]?=some y,fun i H=>∃ xs,SqL K H a xs/\xs.length<=i⟩
theorem kP{P:Program}{w:World}{K:PySem.W.Frag}{elts:List Expr}{x1:Nat}{pos:Pos}(a e it:Addr)(hei:e≠it):J7 P w K (.Tuple elts x1 pos) (Ite K a) [e,it] e (fun i h=>(∃ old,IsEnum h e it i old)/\h.IsListIter it a i) where
 mem:=by simp
 obj:=fun i h st b hb=>by
  obtain⟨⟨old,he⟩,hit⟩:=st
  rcases xv.mp hb with rfl | hb
  ·exact⟨_,he,fun v z=>by cases z⟩
  ·have eb:b=it:=by simpa using hb
   subst eb
   obtain⟨o,e,c,d⟩:=hit
   exact⟨o,e,fun v z=>by rw[d]at z;cases z⟩
 keep:=fun i h h' st k=>by
  obtain⟨⟨old,he⟩,hit⟩:=st
  exact⟨⟨old,k e (by simp) _ he⟩,hit.at fun o q=>k it (by simp) o q⟩
 item:=by
  intro X hP hw hK hc i pins s σ H E I hf st hg
  subst hP hw hK
  obtain⟨⟨old,he⟩,hit⟩:=st
  obtain⟨xs,x,hq,hx⟩:=hg
  obtain⟨its,rv,p,hz⟩:=I.list hq
  obtain⟨u,hu,ru⟩:=rv.get hx
  have helt:e<s.heap.objs.size:=Heap.lt_size he
  have hilt:it<s.heap.objs.size:=by obtain⟨_,q,_⟩:=hit;exact Heap.lt_size q
  refine wpAny_pyNext_enum_item he hit p.isList (x:=u) (by simpa using hu) hei fun h1 ho hit1 hT hsz hk=>⟨.ref s.heap.objs.size,rfl,wpAny_letOwnedTupleGo_enum ho fun h2 he2 hs2=>?_⟩
  have keep2:∀ b o,b≠e->b≠it->s.heap.get? b=some o->h2.get? b=some o:=fun b o h1' h2' q=>(hs2.2 b h1').trans (hk b o h1' h2' q)
  have hit2:h2.IsListIter it a (i+1):=hit1.at fun o q=>(hs2.2 it (Ne.symm hei)).trans q
  have I1:Inv X pins σ H { s with heap:=h2,toks:=s.toks+1 }:=I.turnedL (ch:= [e,it]) (fun b o hb q=>keep2 b o (fun z=>hb (by simp[z])) (fun z=>hb (by simp[z])) q) (fun b o hb q=>by
   rcases xv.mp hb with rfl | hb
   ·exact⟨_,he2⟩
   ·have eb:b=it:=by simpa using hb
    subst eb
    obtain⟨o',q',_⟩:=hit2
    exact⟨o',q'⟩) hf
  have hTn:H s.heap.objs.size=none:=I.hok.fresh (xh _)
  have hT2:h2.get? s.heap.objs.size=some { cls:=.type "tuple",data:=.seq #[.int i s.toks,u] }:=(hs2.2 _ (ug helt)).trans hT
  have I2:Inv X pins σ (upd H s.heap.objs.size (.tup [.int i,x])) { s with heap:=h2,toks:=s.toks+1 }:=I1.track I.sz hTn (Ne.symm (xj I.lt)) (fun y c q=>by
    obtain⟨v,ob,hob,_⟩:=I.cell y c q
    exact xj (Heap.lt_size hob)) (fun q hq'=>xj (Heap.lt_size (I.pin q hq').1))
   ⟨by show 2<=sizeLine;decide,[.int i s.toks,u],.cons ⟨_,rfl⟩ (.cons ru .nil),⟨_,hT2,rfl,_,rfl⟩⟩
  refine⟨.ref s.heap.objs.size,_,I2,rfl,⟨_,x,hTn,rfl,rfl,fun ys hy=>by rw[I.list_inj hy hq];exact hx⟩,⟨⟨u,by simpa using he2⟩,hit2⟩,fun b hb=>?_⟩
  rw[zc]
  ·exact (hf b hb).1
  ·rcases xv.mp hb with rfl | hb
   ·exact xj helt
   ·have eb:b=it:=by simpa using hb
    subst eb;exact xj hilt
 done:=by
  intro X hP hw hK hc i pins s σ H E I hf st hg
  subst hP hw hK
  obtain⟨⟨old,he⟩,hit⟩:=st
  obtain⟨xs,hq,hx⟩:=hg
  obtain⟨its,rv,p,hz⟩:=I.list hq
  obtain⟨f0,f1,f2,f3,f4,f5⟩:=hf it (by simp)
  have hl:=rv.length
  exact wpAny_pyNext_enum_end (I.ok.hd hc) he hit p.isList (by simp;omega) fun h1 eb=>⟨rfl,I.turned (t':=s.toks) (fun b o hb q=>eb b o hb q) f0 f1 f3 f4 f5⟩
 self:=fun _ _ _ _ _ st h=>by
  obtain⟨⟨old,he⟩,_⟩:=st
  exact wpAny_pyIter_enum he h
theorem boot_enumW:bootBuiltins "enumerate" =some (.type "enumerate"):=by decide +kernel
section
variable {X:Cx}
noncomputable def zgw(K:PySem.W.Frag)(tl:TE):TI:=fun σ H R=>tl σ H fun x H1=>∃ a,x=.ref a/\(∃ xs,SqL K H1 a xs)/\R (Ite K a) H1
theorem zcO {elts:List Expr}{x1:Nat}{pt:Pos}{l:Expr}{p pos:Pos}(hg:Gl X "enumerate") (hm:X.mg "enumerate" =none) (hst:starEach [l] X.env= [(false,eval l X.env)]) :
  PI X (.Tuple elts x1 pt) (.Call (.Name "enumerate" p) [l] [] pos) (zgw X.K (wpE X l)):=by
 intro pins s σ H R I h
 have h':zbj (wpE X l) zfZ σ H (fun vs H1=>∃ v,vs= [v]/\∃ a,v=.ref a/\(∃ xs,SqL X.K H1 a xs)/\R (Ite X.K a) H1):=wpE.mono h fun v H1 q=>⟨v,rfl,q⟩
 refine Call_ (Jd I hg hm boot_enumW (PyProof.Rows.callWith_type1 (thn ((zk zb pa_nil hst) pos pins s σ H _ I h') fun us s1 ⟨vs,H1,I1,r1,q1⟩=>?_) hst rfl))
 obtain⟨v,rfl,a,rfl,⟨xs,hq⟩,q⟩:=q1
 obtain⟨u,rfl,ru⟩:=Qg r1
 cases ru
 obtain⟨its,rv,pl,hz⟩:=I1.list hq
 refine call_enumerate_list pl.isList fun h1 he hit hsz hk=>?_
 refine wpAny_pyIter_enum he ?_
 have I2:Inv X pins σ H1 { s1 with heap:=h1 }:=I1.kept (t':=s1.toks) hk
 refine⟨s1.heap.objs.size+1,[s1.heap.objs.size+1,s1.heap.objs.size],_,_,H1,rfl,I2,kP a _ _ (Nat.succ_ne_self _),⟨⟨_,he⟩,hit⟩,fun b hb=>?_,q⟩
 rcases xv.mp hb with rfl | hb
 ·exact I1.fpOk (Nat.le_succ _) (I1.hok.fresh (Nat.le_succ _))
 ·have eb:b=s1.heap.objs.size:=by simpa using hb
  subst eb
  exact I1.fpOk (xh _) (I1.hok.fresh (xh _))
end
end L2
namespace L3
open PySem PySem.Spec PyProof.Rows L2
variable [Cs]
noncomputable def qy(ds:List PyData):List PyData:=ds.zipIdx.map fun p=>PyData.tuple [.int p.2,p.1]
theorem Y0{ds:List PyData}{i:Nat}{d:PyData}(h:(qy ds)[i]?=some d):∃ x,ds[i]?=some x/\d=.tuple [.int i,x]:=by
 unfold qy at h
 rw[xt,List.getElem?_zipIdx]at h
 cases e:ds[i]? with
 |none=>rw[e]at h;cases h
 |some x=>rw[e]at h;simp at h;exact⟨x,rfl,h.symm⟩
theorem Y1(ds:List PyData):(qy ds).length=ds.length:=by simp[qy]
noncomputable def fEnum(fa:EM FV):EM (List PyData):=fun Γ=>(fa Γ).bind fun (u,Γ1)=>match derS Γ1 u with
 |some (.list ds)=>.ok (qy ds,Γ1)
 |_=>.bad
theorem zcq{M0:Addr->Prop}{F:Fp}{K:PySem.W.Frag}{H1:Hp}{l:Addr}{ds:List PyData}{vs:List V}(e:H1 l=some (.lst vs))(n:¬ MM M0 F l)(r:RepL (MM M0 F) H1 vs ds):JI M0 F (Ite K l) (qy ds) H1:=fun i F' H' s h0=>by
 have e':H' l=some (.lst vs):=(s.keep l _ e fun j hj=>n (.inr ⟨j,hj⟩)).1
 refine⟨fun d hd=>?_,fun hl=>⟨vs,SqL.of e',by rw[Y1]at hl;rw[r.length];exact hl⟩⟩
 obtain⟨x,hx,rfl⟩:=Y0 hd
 obtain⟨v,hv,rv⟩:=r.get' hx
 refine⟨⟨vs,v,SqL.of e',hv⟩,fun z H2 ⟨p,y,np,e2,ez,hy⟩=>?_⟩
 subst e2 ez
 have:=hy vs (SqL.of e')
 rw[hv]at this;cases this
 exact⟨zr np,.tuple ze (.cons (.int _) (.cons ((zi s h0 rv).grow (zr np).grow) .nil))⟩
section
variable {X:Cx} {XP:XPT} {mp:List Nat} {a:Expr} {p pos:Pos} {fa:EM FV}
theorem zde {x:Str}{elts:List Expr}{x1:Nat}{pt:Pos}(B:BiK X x (.type "enumerate")) (ex:x= "enumerate") (ha:SE X XP mp a fa) (hst:starEach [a] X.env= [(false,eval a X.env)]):SI X XP mp (.Tuple elts x1 pt) (.Call (.Name x p) [a] [] pos) (fEnum fa):=fun M0 F Γ ν σ H R rs hs hp=>by
 subst ex
 exact (zcO B.gl B.mg hst).wp (ha.run rs hs hp fun F1 Γ1 H1 u v rs1 s1 o1 h1=>by
  dsimp only at h1
  split at h1
  ·rename_i ds eu
   obtain⟨l,vs,rfl,e,n,r⟩:=(o1.strong rs1 eu).lst_inv
   exact⟨l,rfl,⟨vs,SqL.of e⟩,h1 F1 H1 rs1 (.refl _ _) _ (zcq e n r)⟩
  ·exact h1.elim)
end
end L3
namespace L2
open PySem PySem.Spec PyProof.Rows
variable [Cs]
structure zgc(M:Addr->Prop)(H:Hp)(b c:Addr)(cells:List Int)(i l t s:Int):Prop where
 mb:M b
 hb:H b=some (.lst [.ref c,.int i,.int l,.int t,.int s])
 hc:Rep M H (.ref c) (.list (cells.map PyData.int))
 hi:0<=i
noncomputable def BoxAt(M:Addr->Prop)(H:Hp)(b:Addr):Prop:=∃ c cells i l t s,zgc M H b c cells i l t s
theorem BoxAt.mem{M:Addr->Prop}{H:Hp}{b:Addr}(B:BoxAt M H b):M b:=let ⟨_,_,_,_,_,_,B⟩:=B;B.mb
theorem BoxAt.lst{M:Addr->Prop}{H:Hp}{b:Addr}(B:BoxAt M H b):∃ xs,H b=some (.lst xs):=let ⟨_,_,_,_,_,_,B⟩:=B;⟨_,B.hb⟩
noncomputable def za9(K:PySem.W.Frag):Sp:=fun vs H Q _=>∃ (a:Addr) (ns:List Int),vs= [.ref a]/\SqL K H a (ns.map V.int)/\ns.length<=63/\∀ b H',Same H H'->H b=none->H' b≠none->BoxAt (fun a=>a=b) H' b->Q (.ref b) H'
section
variable {X:Cx} {M:Addr->Prop} {Γ:Ge} {σ:St} {H:Hp} {D:qf} {sts:List Stmt} {e e1:Expr} {p pos pos':Pos} {x:Str} {k:Nat} {b:Addr} {n:Int} {Q:VK}
end
theorem WH{n i:Nat}{z:Ent}(e:(List.replicate n none:Ge)[i]?=some (some z)):False:=by
 rw[xz]at e
 split at e
 ·cases e
 ·cases e
theorem RS.blank{M:Addr->Prop}{σ:St}{H:Hp}(n:Nat)(al:Al M H):RS M (List.replicate n none) σ H:=⟨al,fun i d e=>(WH e).elim,fun i d e=>(WH e).elim⟩
section
variable {X:Cx} {H:Hp} {D:qf} {sts:List Stmt} {p pos pos' p2:Pos} {x:Str} {k:Nat} {Q:VK}
theorem zf7 {a:Addr}{ns:List Int}{N:List Str}(hN:X.N.Nodup) (kb:Kn X.prog X.w X.K X.mg X.base CX0 "_law_box" k (za9 X.K)) (hr:Room k X.A) (hS:SqL X.K H a (ns.map V.int)) (hlen:ns.length<=63)
  (kk:∀ b σ' H',Same H H'->H b=none->BoxAt (fun a=>a=b) H' b->RS (fun a=>a=b) ((List.replicate X.N.length none).set 1 (some (.v (.ref b)))) σ' H'->σ'.length=X.N.length->wpB X sts D σ' H')
  (hNe:X.N=N) (h0:N[0]?=some ("_law_script" :Str)) (hi:X.N[1]?=some x:=by rfl) (hv0:Vis X.env.scope "_law_script" :=by first | exact Or.inl rfl | exact Or.inr (Or.inl rfl) | exact Or.inr (Or.inr rfl)) (hx:Loc X.env.scope x:=by first | exact Or.inl rfl | exact Or.inr rfl)
  (hf:X.fn x=true∨X.env.scope.names.lookup x=some .local:=by first | exact .inl rfl | exact .inr rfl | assumption) (hg:Gl X "_law_box" :=by rfl)
  (hs:starEach [.Name "_law_script" p2] X.env= [(false,eval (.Name "_law_script" p2) X.env)]:=by rfl) (hpl:(backTo p (starEach [] X.env)).any (·.1)=false:=by rfl) {p3:Pos} :
  wpB X (.Assign [.Name x pos'] (.Call (.Name "_law_box" p3) [.Name "_law_script" p2] [] p) pos::sts) D (start N [.ref a]) H:=by
 have hl:1<N.length:=by rw[<- hNe];exact (xb.mp hi).1
 have hst:(start N [V.ref a]).length=N.length:=v9 (by simp;omega)
 refine zhh 1 (Q:=fun v H'=>∃ b,v=.ref b/\Same H H'/\H b=none/\BoxAt (fun a=>a=b) H' b) hN (zdS kb hr hg zgI ((zk (zz (by rw[hNe];exact h0) hv0) pa_nil hs).wp ⟨.ref a,by simp[start],a,ns,rfl,hS,hlen,fun b H' s' nb _ hB=>⟨b,rfl,s',nb,hB⟩⟩) (by decide) hs hpl) (fun v H1 ⟨b,ev,s1,nb,hB⟩=>?_) hi hx rfl hf
 subst ev
 refine kk b _ H1 s1 nb hB ((RS.blank X.N.length (fun c hc=>?_)).setV (by rw[hst];exact hl)) (by rw[xG,hst,hNe])
 subst hc
 obtain⟨xs,hx⟩:=hB.lst
 rw[hx]
 exact fun z=>nomatch z
end
theorem IntsAre.of:∀ {ns:List Int}{us:List Value},Vals (ns.map V.int) us->IntsAre us ns
 |[],_,.nil=>.nil
 |n::ns,_,.cons ⟨t,e⟩ r=>by subst e;exact .cons n t (IntsAre.of r)
section
variable {X:Cx}
end
end L2
namespace L3
open PySem PySem.Spec PyProof.Rows L2
variable [Cs]
noncomputable def vK:List PyData->Option (List Int)
 |[]=>some []
 |.int b::r=>(vK r).map (b::·)
 |_=>none
section
variable {X:Cx} {XP:XPT} {mp:List Nat} {a:Expr} {p pos:Pos} {fa:EM FV}
end
section
variable {X:Cx} {XP:XPT} {mp:List Nat} {a b:Expr} {p p2 pos:Pos} {fa fb:EM FV}
end
end L3
namespace Tab
open PySem PySem.SetTable
section
variable {prog:Program} {w:World} {A:Around} {E:Value->Shared->Prop} {s:Shared}
inductive Keys(prog:Program)(w:World):List (Int×Value)->List Int->Prop
 |nil:Keys prog w [] []
 |cons {k:Int} {t:Tok} {es ks}:Keys prog w es ks->Keys prog w (((intKind prog w).hash k,.int k t)::es) (k::ks)
end
section
variable {prog:Program} {w:World} {A:Around} {E:Value->Shared->Prop} {s:Shared}
end
section
variable {prog:Program} {w:World} {A:Around} {E:Value->Shared->Prop} {s:Shared}
end
section
variable {prog:Program} {w:World} {A:Around} {E:Value->Shared->Prop} {s:Shared}
end
end Tab
namespace L2
open PySem PySem.Spec PyProof.Rows
variable [Cs]
section
variable {X:Cx}
end
end L2
namespace L3
open PySem PySem.Spec PyProof.Rows L2
variable [Cs]
section
variable {X:Cx} {XP:XPT} {mp:List Nat} {a b:Expr} {fa fb:EM FV}
end
end L3
namespace L2
open PySem PySem.Spec PyProof.Rows
section
variable {X:Cx} {e:Expr} {te:TE} {st:Expr} {ts:TO} {pos p2:Pos}
end
variable [Cs]
noncomputable def Itv(K:PySem.W.Frag)(a:Addr)(n:Nat):It :=
 ⟨fun i H=>i<n/\∃ xs,SqL K H a xs/\xs.length=n,fun i H x H'=>H'=H/\∀ xs,SqL K H a xs->xs[n-1-i]?=some x,fun i _=>n<=i⟩
theorem zbn{P:Program}{w:World}{K:PySem.W.Frag}{tg:Expr}(a it:Addr)(n:Nat):J7 P w K tg (Itv K a n) [it] it (fun i h=>i<=n/\h.IsRevIter it a ((n:Int)-1-(i:Nat))) where
 mem:=by simp
 obj:=fun i h st b hb=>by
  have e:b=it:=by simpa using hb
  subst e
  obtain⟨_,o,e,c,d⟩:=st
  exact⟨o,e,fun v z=>by rw[d]at z;cases z⟩
 keep:=fun i h h' st k=>⟨st.1,st.2.at fun o e=>k it (by simp) o e⟩
 item:=by
  intro X hP hw hK hc i pins s σ H E I hf st hg
  subst hP hw hK
  obtain⟨hi,xs,hq,hx⟩:=hg
  obtain⟨its,rv,p,hz⟩:=I.list hq
  obtain⟨x,hx1⟩:∃ x,xs[n-1-i]?=some x:=⟨_,xB (by omega)⟩
  obtain⟨u,hu,ru⟩:=rv.get hx1
  obtain⟨f0,f1,f2,f3,f4,f5⟩:=hf it (by simp)
  have ei:(n:Int)-1-(i:Nat)=((n-1-i:Nat):Int):=by omega
  have st1:=st.2
  rw[ei]at st1
  refine wpAny_pyNext_rev_item st1 p.isList (x:=u) (by simpa using hu) fun h' st' sb=>?_
  have I1:Inv X pins σ H { s with heap:=h' }:=I.turned (t':=s.toks) (fun b o hb e=>(sb.2 b hb).trans e) f0 f1 f3 f4 f5
  obtain⟨o,e,c,d⟩:=id st'
  have e2:(((n-1-i:Nat):Int)-1)=(n:Int)-1-((i+1:Nat):Int):=by omega
  exact⟨u,rfl,VC (s:={ s with heap:=h' }) e c d (by decide) ⟨x,H,I1,ru,⟨rfl,fun ys hy=>by rw[I.list_inj hy hq];exact hx1⟩,⟨hi,by rw[<- e2];exact st'⟩,fun b hb=>(hf b hb).1⟩⟩
 done:=by
  intro X hP hw hK hc i pins s σ H E I hf st hg
  subst hP hw hK
  have hi:n<=i:=hg
  have e:i=n:=Nat.le_antisymm st.1 hi
  obtain⟨f0,f1,f2,f3,f4,f5⟩:=hf it (by simp)
  have ei:(n:Int)-1-(i:Nat)= -1:=by omega
  have st1:=st.2
  rw[ei]at st1
  exact wpAny_pyNext_rev_end (I.ok.hd hc) st1 fun h' eb=>⟨rfl,I.turned (t':=s.toks) (fun b o hb e=>eb b o hb e) f0 f1 f3 f4 f5⟩
 self:=fun _ _ _ _ _ st h=>wpAny_pyIter_revIter st.2 h
theorem boot_reversed:bootBuiltins "reversed" =some (.type "reversed"):=by decide +kernel
section
variable {X:Cx}
noncomputable def iRev(K:PySem.W.Frag)(tl:TE):TI:=fun σ H R=>tl σ H fun x H1=>∃ a xs,x=.ref a/\SqL K H1 a xs/\R (Itv K a xs.length) H1
theorem zfl {tg:Expr}{l:Expr}{p pos:Pos}(hg:Gl X "reversed") (hm:X.mg "reversed" =none) (hst:starEach [l] X.env= [(false,eval l X.env)]) :
  PI X tg (.Call (.Name "reversed" p) [l] [] pos) (iRev X.K (wpE X l)):=by
 intro pins s σ H R I h
 have h':zbj (wpE X l) zfZ σ H (fun vs H1=>∃ v,vs= [v]/\∃ a xs,v=.ref a/\SqL X.K H1 a xs/\R (Itv X.K a xs.length) H1):=wpE.mono h fun v H1 q=>⟨v,rfl,q⟩
 refine Call_ (Jd I hg hm boot_reversed (PyProof.Rows.callWith_type1 (thn ((zk zb pa_nil hst) pos pins s σ H _ I h') fun us s1 ⟨vs,H1,I1,r1,q1⟩=>?_) hst rfl))
 obtain⟨v,rfl,a,xs,rfl,hq,q⟩:=q1
 obtain⟨u,rfl,ru⟩:=Qg r1
 cases ru
 obtain⟨its,rv,pl,hz⟩:=I1.list hq
 refine call_reversed_list pl.isList ?_
 have hit:(s1.heap.push (revObj a ((its.toArray.size:Int)-1))).IsRevIter s1.heap.objs.size a ((its.toArray.size:Int)-1):=⟨_,Heap.get?_push_size _ rfl,rfl,rfl⟩
 refine wpAny_pyIter_revIter (s:={ s1 with heap:=s1.heap.push (revObj a ((its.toArray.size:Int)-1)) }) hit ?_
 have I2:Inv X pins σ H1 { s1 with heap:=s1.heap.push (revObj a ((its.toArray.size:Int)-1)) }:=I1.kept (t':=s1.toks) fun b ob q=>Heap.get?_push_of_some _ q
 refine⟨s1.heap.objs.size,[s1.heap.objs.size],_,_,H1,rfl,I2,zbn a _ xs.length,⟨xT _,?_⟩,fun b hb=>?_,q⟩
 ·have:((xs.length:Int)-1-((0:Nat):Int))=((its.toArray.size:Int)-1):=by
   have:=rv.length
   rw[xn];omega
  rw[this];exact hit
 ·have eb:b=s1.heap.objs.size:=by simpa using hb
  subst eb
  exact I1.fpOk (xh _) (I1.hok.fresh (xh _))
end
end L2
namespace L3
open PySem PySem.Spec PyProof.Rows L2
variable [Cs]
theorem zeS{M0:Addr->Prop}{F:Fp}{K:PySem.W.Frag}{H1:Hp}{l:Addr}{ds:List PyData}{vs:List V}(e:H1 l=some (.lst vs))(n:∀ j,l∉F j)(r:RepL (MM M0 F) H1 vs ds):JI M0 F (Itv K l vs.length) ds.reverse H1:=fun i F' H' s h0=>by
 have e':H' l=some (.lst vs):=(s.keep l _ e n).1
 have hl:=r.length
 refine⟨fun d hd=>?_,fun hi=>by rw[List.length_reverse]at hi;show vs.length<=i;omega⟩
 have hi:i<ds.length:=by
  rcases Nat.lt_or_ge i ds.length with h | h
  ·exact h
  ·rw[xo (by simpa using h)]at hd;cases hd
 rw[List.getElem?_reverse hi]at hd
 obtain⟨v,hv,rv⟩:=r.get' hd
 refine⟨⟨by omega,vs,SqL.of e',rfl⟩,fun z H2 ⟨e2,hy⟩=>?_⟩
 subst e2
 have:=hy vs (SqL.of e')
 rw[show vs.length-1-i=ds.length-1-i by omega,hv]at this;cases this
 exact⟨.refl _,zi s h0 rv⟩
section
variable {X:Cx} {XP:XPT} {mp:List Nat} {a st:Expr} {p p2 pos:Pos} {fa fs:EM FV}
end
section
variable {M0:Addr->Prop} {F F':Fp} {Γ Γ':Gv} {ν ν':Nu} {H H':Hp}
end
section
variable {X:Cx} {XP:XPT} {mp io:List Nat} {a b c e tg iter:Expr} {es:List Expr} {pos p p2 pos':Pos} {fa fb fc:EM FV} {ta tb:EM Bool} {na nb:EM (List PyData)} {fo:EM OV} {st:Stmt} {sts body els:List Stmt} {f g:SM}
end
theorem ORL.snocO{M:Addr->Prop}{H:Hp}{v:V}{o:OV}{B:List Addr}(q:OR M H v o B):∀ {vs:List V}{os:List OV}{A:List Addr},ORL M H vs os A->ORL M H (vs++ [v]) (os++ [o]) (A++B)
 |_,_,_,.nil=>by simpa using ORL.cons q .nil
 |_,_,_,.cons r t=>by rw[uq];exact .cons r (ORL.snocO q t)
section
variable {M0:Addr->Prop} {F F':Fp} {Γ Γ':Gv} {ν ν':Nu} {H H':Hp}
end
section
variable {M0:Addr->Prop} {F F':Fp} {Γ Γ':Gv} {ν ν':Nu} {H H':Hp}
end
section
variable {X:Cx} {XP:XPT} {mp io:List Nat} {a b c e tg iter:Expr} {es:List Expr} {pos p p2 pos' p3:Pos} {fa fb fc:EM FV} {ta tb:EM Bool} {na nb:EM (List PyData)} {fo:EM OV} {st:Stmt} {sts body els:List Stmt} {f g:SM}
end
inductive IW where
 |v (s i:Nat)
 |c (n:Int)
noncomputable def wD(Γ:Gv):IW->Option PyData
 |.v _ i=>match Γ[i]? with
  |some (some (.d x))=>some x
  |_=>none
 |.c n=>some (.int n)
noncomputable def WOk(X:Cx)(mp:List Nat)(a:Expr)(w:IW):Prop:=∀ (M0:Addr->Prop) (F:Fp) (Γ:Gv) (ν:Nu) (σ:St) (H:Hp) (x:PyData),RS M0 F Γ ν H->Sees mp ν σ->wD Γ w=some x->∃ v,Rep (MM M0 F) H v x/\∀ Q:VK,Q v H->wpE X a σ H Q
section
variable {X:Cx} {XP:XPT} {mp io:List Nat} {a b c e tg iter:Expr} {es:List Expr} {pos p p2 pos' p3 py pc pf:Pos} {fa fb fc:EM FV} {ta tb:EM Bool} {na nb:EM (List PyData)} {fo:EM OV} {st:Stmt} {sts body els:List Stmt} {f g:SM}
theorem zhj{s i:Nat}{x:Str}(n:NmK X mp s i x):WOk X mp (.Name x p) (.v s i):=fun M0 F Γ ν σ H y rs hs e=>by
 dsimp only [wD]at e
 split at e
 ·rename_i z q
  cases e
  obtain⟨v,e1,r⟩:=rs.at' i _ q
  generalize F i=A at r
  cases r with
  |d r=>exact⟨v,r,fun Q hq=>(zz n.hN n.hv n.hd n.hcd).wp ⟨v,hs s i v n.hm e1,hq⟩⟩
 ·cases e
theorem zhi{n:Int}{j:Nat}:WOk X mp (.Constant (.int n) j p) (.c n):=fun M0 F Γ ν σ H y rs hs e=>by
 cases e
 exact⟨.int n,.int n,fun Q hq=>pe_int.wp hq⟩
end
noncomputable def sRaise(x:Str):SM:=fun Γ=>.exc ⟨x,.none⟩ Γ
noncomputable def zgh(X:Cx)(XP:XPT):Prop:=∀ (x:Exc) (Γ:Gv) (F:Fp) (ν:Nu) (σ:St) (H:Hp),XP x Γ F ν σ H->∀ C,X.mg x.cls=some (.ref C)->∀ pins s,Inv X pins σ H s->∀ h' ea args,Heap.MadeExcOf s.heap h' ea (.ref C) args->X.xe (.ref ea) { s with heap:=h' }
section
variable {X:Cx} {XP:XPT} {mp io:List Nat} {x:Str} {C:Addr} {np cpos pos cp:Pos} {z:Str} {cj:Nat}
theorem zbb(k:YJ X x C)(hcalm:X.calm=true)(rz:zgh X XP):SS X XP mp io (.Raise (some (.Call (.Name x np) [.Constant (.str z) cj cp] [] cpos)) none pos) (sRaise x):=fun M0 F Γ ν σ H D rs hs hl hp=>
 zbM k hcalm fun pins s I h' ea args hm=>rz ⟨x,.none⟩ Γ F ν σ H (hp F ν σ H rs (.refl _ _) hs hl fun _ _=>rfl) C k.mg pins s I h' ea args hm
end
theorem HC.rep{M:Addr->Prop}{H:Hp}(v:HC):Rep M H v.V v.D:=by
 cases v with
 |s z=>exact .str z
 |b c=>exact .bool c
noncomputable def pickN(c:Str):List (Str×Nat×Nat×HC)->Option (Nat×Nat×HC)
 |[]=>none
 | (x,t,j,v)::r=>if x=c then some (t,j,v) else pickN c r
structure HdN(X:Cx)(L:Str->Addr->Prop)(mp:List Nat)(hd:ExceptHandler)(x:Str)(C:Addr)(t j:Nat)(v:HC):Prop where
 k:HdK X hd C t v
 e:YJ X x C
 l:L x C
 m:mp[t]?=some j
inductive HdNs(X:Cx)(L:Str->Addr->Prop)(mp:List Nat):List ExceptHandler->List (Str×Nat×Nat×HC)->List (Addr×Nat×HC)->Prop
 |nil:HdNs X L mp [] [] []
 |cons {hd:ExceptHandler} {hs:List ExceptHandler} {x:Str} {C:Addr} {t j:Nat} {v:HC} {ns:List (Str×Nat×Nat×HC)} {zs:List (Addr×Nat×HC)}:HdN X L mp hd x C t j v->HdNs X L mp hs ns zs->HdNs X L mp (hd::hs) ((x,t,j,v)::ns) ((C,t,v)::zs)
theorem HdNs.ks{X:Cx}{L:Str->Addr->Prop}{mp:List Nat}:∀ {hs:List ExceptHandler}{ns:List (Str×Nat×Nat×HC)}{zs:List (Addr×Nat×HC)},HdNs X L mp hs ns zs->yg X hs zs
 |_,_,_,.nil=>.nil
 |_,_,_,.cons h t=>.cons h.k t.ks
theorem HdNs.found{X:Cx}{L:Str->Addr->Prop}{mp:List Nat}{c:Str}{t j:Nat}{v:HC}:∀ {hs:List ExceptHandler}{ns:List (Str×Nat×Nat×HC)}{zs:List (Addr×Nat×HC)},HdNs X L mp hs ns zs->pickN c ns=some (t,j,v)->∃ C,YJ X c C/\L c C/\mp[t]?=some j
 |_,_,_,.nil,e=>by cases e
 |_,_,_,.cons (x:=x) (C:=C) h r,e=>by
  unfold pickN at e
  split at e
  ·rename_i q
   subst q
   cases e
   exact⟨C,h.e,h.l,h.m⟩
  ·exact r.found e
theorem HdNs.pick{X:Cx}{L:Str->Addr->Prop}{mp:List Nat}(mr:∀ x C y C2,L x C->L y C2->(mroIn X.K C).contains (.ref C2)=decide (x=y)){c:Str}{C:Addr}(hc:L c C){t j:Nat}{v:HC} :
  ∀ {hs:List ExceptHandler} {ns:List (Str×Nat×Nat×HC)} {zs:List (Addr×Nat×HC)},HdNs X L mp hs ns zs->pickN c ns=some (t,j,v)->wT X.K C zs=some (t,v)
 |_,_,_,.nil,e=>by cases e
 |_,_,_,.cons (x:=x) (C:=C2) h r,e=>by
  unfold pickN at e
  unfold wT
  rw[mr c C x C2 hc h.l]
  split at e
  ·rename_i q
   subst q
   cases e
   rw[if_pos (by simp)]
  ·rename_i q
   rw[if_neg (by simpa using fun z=>q z.symm)]
   exact r.pick mr hc e
theorem HdNs.lt{X:Cx}{L:Str->Addr->Prop}{mp:List Nat}{c:Str}{t j:Nat}{v:HC}:∀ {hs:List ExceptHandler}{ns:List (Str×Nat×Nat×HC)}{zs:List (Addr×Nat×HC)},HdNs X L mp hs ns zs->pickN c ns=some (t,j,v)->t<X.N.length
 |_,_,_,.nil,e=>by cases e
 |_,_,_,.cons h r,e=>by
  unfold pickN at e
  split at e
  ·cases e
   obtain⟨_,_,_,_,_,_,_,_,_,_,q,_⟩:=h.k.ex
   exact (xb.mp q).1
  ·exact r.lt e
noncomputable def sTry(io:List Nat)(b:SM)(hs:List (Str×Nat×Nat×HC)):SM:=fun Γ=>match b Γ with
 |.exc x Γ1=>match pickN x.cls hs with
  |some (_,j,v)=>if j<Γ1.length/\j∉io then .ok (.next,Γ1.set j (some (.d v.D))) else .bad
  |none=>.bad
 |r=>r
noncomputable def XPt (X:Cx) (zs:List (Addr×Nat×HC)) (D:qf):XPT:=fun x _ _ _ σ H=>∃ C t v,X.mg x.cls=some (.ref C)/\PySem.W.excIn X.K C bmV "ValueError.__new__" =true/\wT X.K C zs=some (t,v)/\D.nx (σ.set t (some v.V)) H
section
variable {X:Cx} {XP:XPT} {mp io:List Nat} {L:Str->Addr->Prop} {hs:List ExceptHandler} {ns:List (Str×Nat×Nat×HC)} {zs:List (Addr×Nat×HC)} {f:SM} {body:List Stmt} {hd:ExceptHandler} {pos:Pos}
theorem zft(hst:X.stack=X.env::X.outer)(hfr:X.env.frame=some X.env.locals)(hN:X.N.Nodup)(hh:yg X hs zs)(pins:List (Addr×Obj))(D:qf):J6 (X.tried pins (zbm X pins D hs)) (XPt X zs D):=fun σ pins' H s e s' E h I hc=>by
 have ok:X.Ok:=⟨I.ok.mod,I.ok.kind,I.ok.glob,I.ok.blt,I.ok.above,I.ok.inj,I.ok.has,I.ok.cab,I.ok.hd,I.ok.frames,I.ok.stk,I.ok.exf,I.ok.bs,I.ok.bsz,I.ok.noex,I.ok.exfs,I.ok.funs,I.ok.frf⟩
 refine zeA (I.untried ok) hst hfr hN hh hc fun c H' q=>?_
 obtain⟨x,Γ,F,ν,C,h1,rfl,C',t,v,h2,h3,h4,h5⟩:=h c H' q
 have h1':X.mg x.cls=some (.ref C):=h1
 rw[h2]at h1'
 cases h1'
 exact⟨_,t,v,rfl,h3,h4,h5⟩
theorem zfV (hn:mp.Nodup) (hh:HdNs X L mp (hd::hs) ns zs) (mr:∀ x C y C2,L x C->L y C2->(mroIn X.K C).contains (.ref C2)=decide (x=y)) (exL:∀ x C,L x C->X.mg x=some (.ref C)/\PySem.W.excIn X.K C bmV "ValueError.__new__" =true)
  (hb:∀ pins D,SB (X.tried pins (zbm X pins D (hd::hs))) (XPt X zs D) mp io body f):SS X XP mp io (.Try body (hd::hs) [] [] pos) (sTry io f ns):=fun M0 F Γ ν σ H D rs hs0 hsl hp=>by
 refine zf9 fun pins=>hb pins D M0 F Γ ν σ H D rs hs0 hsl ?_
 unfold sTry at hp
 generalize f Γ=r at hp
 cases r with
 |bad=>exact hp
 |ok z=>
  obtain⟨fl,Γ'⟩:=z
  cases fl<;>exact hp
 |exc x Γ1=>
  dsimp only at hp
  intro F' ν' σ' H' rs' s' hs' hl' hio
  split at hp
  ·rename_i t j v ep
   split at hp
   ·rename_i hj
    obtain⟨C,k,hcL,hmj⟩:=hh.found ep
    refine⟨C,t,v,(exL _ _ hcL).1,(exL _ _ hcL).2,hh.pick mr hcL ep,?_⟩
    obtain⟨F2,rs2,s2⟩:=rs'.setD (i:=j) (d:=v.D) (v:=v.V) (HC.rep v) hj.1
    have hl'':σ'.length=X.N.length:=hl'
    refine hp F2 _ _ H' rs2 (s'.trans s2) (hs'.set hn hmj (by rw[hl''];exact hh.lt ep)) (by rw[xG];exact hl') fun l hl2=>?_
    rw[xg (fun z=>hj.2 (by rw[z];exact hl2))]
    exact hio l hl2
   ·exact hp.elim
  ·exact hp.elim
end
end L3
namespace Tab
open PySem PySem.Spec PyProof.Rows
section
variable {prog:Program} {w:World} {A:Around} {E:Value->Shared->Prop} {s:Shared}
end
end Tab
namespace L2
open PySem PySem.Spec PyProof.Rows
variable [Cs]
section
variable {X:Cx}
end
end L2
namespace L3
open PySem PySem.Spec PyProof.Rows L2
variable [Cs]
section
variable {X:Cx} {XP:XPT} {mp:List Nat} {a b:Expr} {p1 p2 q1 q2:Pos} {fa fb:EM FV}
theorem Zz{M:Addr->Prop}{H:Hp}:∀ {vs:List V}{ds:List PyData}{ns:List Int},RepL M H vs ds->vK ds=some ns->vs=ns.map V.int
 |_,_,_,.nil,e=>by cases e;rfl
 |_,_,_,.cons (ds:=ds) (d:=d) r t,e=>by
  cases d with
  |int i=>
   unfold vK at e
   cases q:vK ds with
   |none=>rw[q]at e;cases e
   |some ms=>
    rw[q]at e
    cases e
    cases r
    rw[xu,Zz t q]
  |_=>cases e
end
end L3
namespace L2
open PySem PySem.Spec PyProof.Rows
variable [Cs]
section
variable {X:Cx}
end
end L2
namespace L3
open PySem PySem.Spec PyProof.Rows L2
variable [Cs]
section
variable {X:Cx} {XP:XPT} {mp io:List Nat} {a e:Expr} {p p1 p2 q1 q2 pos px py ps:Pos} {fa:EM FV}
noncomputable def sStar(io:List Nat)(i j:Nat)(fa:EM FV):SM:=fun Γ=>(fa Γ).bind fun (u,Γ1)=>match derS Γ1 u with
 |some (.list (d::ds))=>if i<Γ1.length/\j<Γ1.length/\i∉io/\j∉io then .ok (.next,(Γ1.set i (some (.d d))).set j (some (.d (.list ds)))) else .bad
 |some (.tuple (d::ds))=>if i<Γ1.length/\j<Γ1.length/\i∉io/\j∉io then .ok (.next,(Γ1.set i (some (.d d))).set j (some (.d (.list ds)))) else .bad
 |_=>.bad
theorem zdx{s i t j:Nat}{x y:Str}{k:Nat}(hc:X.calm=true)(hN:X.N.Nodup)(hn:mp.Nodup)(hi:X.N[s]?=some x)(hx:Loc X.env.scope x)(hfx:X.fn x=true∨X.env.scope.names.lookup x=some .local)(hm:mp[s]?=some i)(hj:X.N[t]?=some y)(hy:Loc X.env.scope y)(hfy:X.fn y=true∨X.env.scope.names.lookup y=some .local)(hmt:mp[t]?=some j)
  (ha:SE X XP mp a fa) (hsw:swapsWithSole [.Tuple [.Name x px,.Starred (.Name y py) ps] k p] a pos.line X.env=pure false) (hw:swappedStores [.Tuple [.Name x px,.Starred (.Name y py) ps] k p] a X.env=pure none) :
  SS X XP mp io (.Assign [.Tuple [.Name x px,.Starred (.Name y py) ps] k p] a pos) (sStar io i j fa):=fun M0 F Γ ν σ H D rs hs hl hp=>by
 have hsl:s<X.N.length:=(xb.mp hi).1
 have htl:t<X.N.length:=(xb.mp hj).1
 refine (yN zb (zcM hc hN hi hx hfx hj hy hfy) hsw hw).wp (ha M0 F Γ ν σ H _ rs hs ((SPost.seq hs hl hp).mono fun F1 Γ1 H1 u rs1 s1 h1 v hv=>?_))
 have go:∀ (d:PyData) (ds:List PyData) (l:Addr) (zs:List V),(SqL X.K H1 l zs∨SqT X.K H1 l zs)->v=.ref l->RepL (MM M0 F1) H1 zs (d::ds)->SPost M0 F1 ν H1 XP mp X.N.length io D (if i<Γ1.length/\j<Γ1.length/\i∉io/\j∉io then R.ok (FL.next,(Γ1.set i (some (.d d))).set j (some (.d (.list ds)))) else .bad)->zd3 X.K s t v σ H1 fun σ' H'=>D.nx σ' H':=fun d ds l zs hq hv r h1=>by
  subst hv
  split at h1
  ·rename_i hh
   obtain⟨k1,k2,k3,k4⟩:=hh
   cases r with
   |cons r1 r2=>
    rename_i w ws
    refine⟨l,w,ws,rfl,hq,fun q hq=>?_⟩
    have sm:Same H1 (upd H1 q (.lst ws)):=zr hq
    obtain⟨F2,rs2,s2⟩:=(rs1.same sm).setD (i:=i) (r1.grow sm.grow) k1
    have hnm:¬ MM M0 F1 q:=fun z=>rs1.al q z hq
    have rl:Rep (MM M0 F1) (upd H1 q (.lst ws)) (.ref q) (.list ds):=Rep.list ze hnm (r2.grow sm.grow)
    obtain⟨F3,rs3,s3⟩:=rs2.setD (i:=j) (zi s2 (rs1.same sm).al0 rl) (by simpa using k2)
    refine h1 F3 _ _ _ rs3 (((Stp.same sm).trans s2).trans s3) ((hs.set hn hm (by rw[hl];exact hsl)).set hn hmt (by rw[xG,hl];exact htl)) (by simpa using hl) fun z hz=>?_
    rw[xg (fun e=>k4 (by rw[e];exact hz)),xg (fun e=>k3 (by rw[e];exact hz))]
  ·exact h1.elim
 dsimp only at h1
 split at h1
 ·rename_i d ds ed
  obtain⟨l,zs,e,el,_,r⟩:=(hv.strong rs1 ed).lst_inv
  exact go d ds l zs (.inl (SqL.of el)) e r h1
 ·rename_i d ds ed
  obtain⟨l,zs,e,el,r⟩:=(hv.strong rs1 ed).tup_inv
  exact go d ds l zs (.inr (SqT.of el)) e r h1
 ·exact h1.elim
end
end L3
namespace L2
open PySem PySem.Spec PyProof.Rows
variable [Cs]
section
variable {X:Cx}
theorem zfd:OpR X (compareOp .In) (fun x y H Q=>∃ a b,x=.str a/\y=.str b/\Q (.bl (Txt.contains b a)) H):=by
 intro pins s σ H x y v u Q I rx ry h
 obtain⟨a,b,rfl,rfl,q⟩:=h
 obtain⟨t,rfl⟩:=rx
 obtain⟨t2,rfl⟩:=ry
 exact SB.contains ⟨.bl _,H,I,rfl,q⟩
theorem vh:jv X (.builtin "len") (fun xs H Q=>∃ a,xs= [.str a]/\a.length<=sizeLine/\Q (.int a.length) H):=by
 intro pins s σ H xs us Q I r h
 obtain⟨a,rfl,hz,q⟩:=h
 obtain⟨u,rfl,t,rfl⟩:=Qg r
 have:=sizeLine_eq
 exact PyProof.Rows.len_str (by omega) ⟨.int a.length,H,I.tok _,⟨_,rfl⟩,q⟩
theorem Wc:∀ {xs:List V}{us:List Value}{ys:List Str},Vals xs us->xs=ys.map .str->StrsAre us ys
 |_,_,[],.nil,_=>.nil
 |_,_,_::_,.nil,e=>by cases e
 |_,_,[],.cons _ _,e=>by cases e
 |_,_,y::ys,.cons r t,e=>by
  rw[xu,List.cons.injEq]at e
  obtain⟨e1,e2⟩:=e
  subst e1
  obtain⟨tk,rfl⟩:=r
  exact .cons y tk (Wc t e2)
theorem zcv:MtR X "str.join" (fun x xs H Q=>∃ (a:Str) (p:Addr) (ys:List Str),x=.str a/\xs= [.ref p]/\(SqL X.K H p (ys.map .str)∨SqT X.K H p (ys.map .str))/\a.length<=16/\(ys.map (·.length)).sum+ys.length<=1048576/\Q (.str (Txt.join a ys)) H):=by
 intro pins s σ H x xs v us Q I rx r h
 obtain⟨a,p,ys,rfl,rfl,hq,h16,hw,q⟩:=h
 obtain⟨t,rfl⟩:=rx
 obtain⟨u,rfl,ru⟩:=Qg r
 cases ru
 rcases hq with hq | hq
 ·obtain⟨its,r2,pl,hz⟩:=I.list hq
  exact join_listW pl.isList (by simpa using Wc r2 rfl) h16 hw fun t' k=>⟨.str _,H,I.tok k,⟨t',rfl⟩,q⟩
 ·obtain⟨its,r2,pl,hz⟩:=I.tuple hq
  exact join_tupleW pl (by simpa using Wc r2 rfl) h16 hw fun t' k=>⟨.str _,H,I.tok k,⟨t',rfl⟩,q⟩
end
end L2
namespace L3
open PySem PySem.Spec PyProof.Rows L2
variable [Cs]
section
variable {X:Cx} {XP:XPT} {mp:List Nat} {a b c e:Expr} {es:List Expr} {pos p p2:Pos} {fa fb fc:EM FV}
noncomputable def K1:PyData->PyData->Option Bool
 |.str x,.str y=>some (Txt.contains y x)
 |_,_=>none
theorem zaZ:J3 X .In K1:=fun x y z e=>by
 unfold K1 at e
 split at e
 ·cases e
  exact⟨_,zfd,fun H v u Q r1 r2 k=>by
   cases r1;cases r2
   exact⟨_,_,rfl,rfl,k⟩⟩
 ·cases e
noncomputable def VB:PyData->Option PyData
 |.str x=>if x.length<=1000000 then some (.int x.length) else none
 |_=>none
theorem zcg:Ve X (.builtin "len") VB:=fun x z e=>by
 unfold VB at e
 split at e
 ·split at e
  ·rename_i h
   cases e
   exact⟨rfl,_,vh,fun H v Q r k=>by cases r;exact⟨_,rfl,sz6 h,k _ (.int _)⟩⟩
  ·cases e
 ·cases e
noncomputable def zcl(fa fb:EM FV):EM FV:=fun Γ=>(fa Γ).bind fun (u,Γ1)=>(fb Γ1).bind fun (w,Γ2)=>match derf Γ2 u,derf Γ2 w with
 |some (.str x),some (.int i)=>if x.length<=1000000 then match atI x.cps.toList i with
  |some c=>.ok (.dat (.str ⟨#[c]⟩),Γ2)
  |none=>.bad
  else .bad
 |_,_=>.bad
theorem zfE(ha:SE X XP mp a fa)(hb:SE X XP mp b fb)(hx:JY b):SE X XP mp (.Subscript a b pos) (zcl fa fb):=fun M0 F Γ ν σ H Q rs hs hp=>
 (zat zeQ zb zb hx).wp (ha.run rs hs hp fun F1 Γ1 H1 u v rs1 s1 o1 h1=>hb.run rs1 hs h1 fun F2 Γ2 H2 w v2 rs2 s2 o2 h2=>by
  dsimp only at h2
  split at h2
  ·rename_i x i e1 e2
   split at h2
   ·rename_i hz
    split at h2
    ·rename_i cc ec
     have r1:=(o1.stp s2 rs1.al0).weak rs2 e1
     have r2:=o2.weak rs2 e2
     cases r1;cases r2
     exact⟨_,_,cc,rfl,rfl,sz6 hz,ec,h2 F2 H2 rs2 (.refl _ _) _ (Rep.str _)⟩
    ·exact h2.elim
   ·exact h2.elim
  ·exact h2.elim)
noncomputable def jM:List PyData->Option (List Str)
 |[]=>some []
 |.str x::r=>(jM r).map (x::·)
 |_=>none
theorem yT(xs:List Str):jM (xs.map .str)=some xs:=by
 induction xs with
 |nil=>rfl
 |cons b r ih=>simp[jM,ih]
theorem Jm:∀ {ds:List PyData}{xs:List Str},jM ds=some xs->ds=xs.map .str
 |[],xs,e=>by cases e;rfl
 |.str b::r,xs,e=>by
  unfold jM at e
  cases q:jM r with
  |none=>rw[q]at e;cases e
  |some l=>rw[q]at e;cases e;rw[Jm q];rfl
 |.none::r,xs,e=>by cases e
 |.bool _::r,xs,e=>by cases e
 |.int _::r,xs,e=>by cases e
 |.list _::r,xs,e=>by cases e
 |.tuple _::r,xs,e=>by cases e
 |.dict _::r,xs,e=>by cases e
theorem Jk{M:Addr->Prop}{H:Hp}:∀ {vs:List V}{xs:List Str},RepL M H vs (xs.map .str)->vs=xs.map .str
 |_,[],.nil=>rfl
 |_,x::xs,.cons r t=>by
  cases r
  rw[Jk t];rfl
noncomputable def wA(z:Str)(x:PyData):Option PyData:=match (match x with | .list ds=>jM ds | .tuple ds=>jM ds | _=>none) with
 |some ys=>if (ys.map (·.length)).sum+ys.length<=1000000/\z.length<=16 then some (.str (Txt.join z ys)) else none
 |none=>none
theorem zc9 {z:Str}{j:Nat}{p1:Pos}{name:Str}(en:name= "join") (ha:SE X XP mp a fa) (hst:starEach [a] X.env= [(false,eval a X.env)]) (hl:(p2.endLine==pos.line)=true) :
  SE X XP mp (.Call (.Attribute (.Constant (.str z) j p1) name p2) [a] [] pos) (f1 (wA z) fa):=fun M0 F Γ ν σ H Q rs hs hp=>by
 subst en
 have hfew:((backTo pos (starEach [a] X.env)).all (fun x=> !x.1)&&(backToKw pos (keywordEach [] X.env)).all (fun x=>x.1.isSome)&&decide ([a].length+([]:List Keyword).length+(if ([]:List Keyword).isEmpty then 0 else 1)<30))=true:=by rw[hst];rfl
 refine (zd6 PySem.F.plainAttrs_str PySem.F.slot_str_join PySem.F.type_str_join zcv pe_str (zk zb pa_nil hst) rfl hfew hl hst rfl).wp ⟨rfl,?_⟩
 refine ha.run rs hs hp fun F1 Γ1 H1 u v rs1 s1 o1 h1=>?_
 dsimp only at h1
 split at h1
 ·rename_i y ey
  cases ex:derf Γ1 u with
  |none=>rw[ex]at ey;cases ey
  |some x=>
   rw[ex]at ey
   have ey:wA z x=some y:=ey
   unfold wA at ey
   split at ey
   ·rename_i ys es
    split at ey
    ·rename_i hh
     cases ey
     have r:=o1.weak rs1 ex
     cases x with
     |list ds=>
      obtain⟨l,vs,rfl,el,_,rl⟩:=r.lst_inv
      rw[Jm es]at rl
      have:=Jk rl
      subst this
      exact⟨z,l,ys,rfl,rfl,.inl (SqL.of el),hh.2,by omega,h1 F1 H1 rs1 (.refl _ _) _ (Rep.str _)⟩
     |tuple ds=>
      obtain⟨l,vs,rfl,el,rl⟩:=r.tup_inv
      rw[Jm es]at rl
      have:=Jk rl
      subst this
      exact⟨z,l,ys,rfl,rfl,.inr (SqT.of el),hh.2,by omega,h1 F1 H1 rs1 (.refl _ _) _ (Rep.str _)⟩
     |_=>cases es
    ·cases ey
   ·cases ey
 ·exact h1.elim
noncomputable def zez:List Str->Str
 |[]=>Str.empty
 |x::r=>x++zez r
theorem yP(x:Str):x++Str.empty=x:=by
 show Str.append x Str.empty=x
 cases x;simp[Str.append,Str.empty]
noncomputable def KU:EM (List Str):=fun Γ=>.ok ([],Γ)
noncomputable def SJ(X:Cx)(XP:XPT)(mp:List Nat)(es:List Expr)(f:EM (List Str)):Prop:=∀ (M0:Addr->Prop) (F:Fp) (Γ:Gv) (ν:Nu) (σ:St) (H:Hp) (acc:Str) (Q:Str->Hp->Prop),RS M0 F Γ ν H->Sees mp ν σ->acc.length+10000*es.length<=10000000 ->
 EPost M0 F ν σ H XP (fun F' Γ' H' ys=>Q (acc++zez ys) H') (f Γ)->∀ pins s,Inv X pins σ H s->Joins (model X.prog X.w) X.A X.xe (evalEach es X.env) acc (fun out s1=>out.length<=sizeLine/\∃ H',Inv X pins σ H' s1/\Q out H') s
theorem zfM:SJ X XP mp [] KU:=fun M0 F Γ ν σ H acc Q rs hs hz hp pins s I=>by
 have:=hp F H rs (.refl _ _)
 unfold zez at this
 rw[yP]at this
 exact⟨by have:=sizeLine_eq;omega,H,I,this⟩
end
end L3
namespace L2
open PySem PySem.Spec PyProof.Rows PySem.Builtin PySem.Builtin.Str
variable [Cs]
section
variable {X:Cx}
end
noncomputable def Itc(x:Str):It:=⟨fun i _=>i<x.length,fun i H v H'=>H'=H/\∃ c,x.cps[i]?=some c/\v=.str ⟨#[c]⟩,fun i _=>x.length<=i⟩
theorem yW {P:Program}{w:World}{K:PySem.W.Frag}{tg:Expr}(x:Str) (t:Tok) (it:Addr):J7 P w K tg (Itc x) [it] it (fun i h=>h.IsStrIter it "str_ascii_iterator" x t i) where
 mem:=by simp
 obj:=fun i h st b hb=>by
  have e:b=it:=by simpa using hb
  subst e
  obtain⟨o,e,c,d⟩:=st
  exact⟨o,e,fun v z=>by rw[d]at z;cases z⟩
 keep:=fun i h h' st k=>by
  obtain⟨o,e,c,d⟩:=st
  exact⟨o,k it (by simp) o e,c,d⟩
 item:=by
  intro X hP hw hK hc i pins s σ H E I hf st hg
  subst hP hw hK
  have hg:i<x.cps.size:=hg
  obtain⟨f0,f1,f2,f3,f4,f5⟩:=hf it (by simp)
  have hx:x.cps[i]?=some x.cps[i]:=Array.getElem?_eq_getElem hg
  refine wpAny_pyNext_ascii_item st hx fun h' st' sb=>?_
  have I1:Inv X pins σ H { s with heap:=h',toks:=s.toks+1 }:=I.turned (t':=s.toks+1) (fun b o hb e=>(sb.2 b hb).trans e) f0 f1 f3 f4 f5
  obtain⟨o,e,c,d⟩:=id st'
  exact⟨_,rfl,VC (s:={ s with heap:=h',toks:=s.toks+1 }) e c d (by decide) ⟨.str ⟨#[x.cps[i]]⟩,H,I1,⟨_,rfl⟩,⟨rfl,_,hx,rfl⟩,st',fun b hb=>(hf b hb).1⟩⟩
 done:=by
  intro X hP hw hK hc i pins s σ H E I hf st hg
  subst hP hw hK
  have hg:x.cps.size<=i:=hg
  obtain⟨f0,f1,f2,f3,f4,f5⟩:=hf it (by simp)
  exact wpAny_pyNext_ascii_end (I.ok.hd hc) st (Array.getElem?_eq_none hg) fun h' eb=>⟨rfl,I.turned (t':=s.toks) (fun b o hb e=>eb b o hb e) f0 f1 f3 f4 f5⟩
 self:=fun _ _ _ _ _ st h=>wpAny_pyIter_striter_ascii st h
section
variable {X:Cx}
noncomputable def zeL(tl:TE):TI:=fun σ H R=>tl σ H fun x H1=>∃ a:Str,x=.str a/\a.cps.all (·<128)=true/\R (Itc a) H1
theorem zaz{tg l:Expr}{tl:TE}(hl:PE X l tl):PI X tg l (zeL tl):=by
 intro pins s σ H R I h
 refine thn (hl pins s σ H _ I h) fun v s1 ⟨x,H1,I1,r1,q1⟩=>?_
 obtain⟨a,rfl,ha,q⟩:=q1
 obtain⟨t,rfl⟩:=r1
 refine wpAny_pyIter_ascii ha ?_
 have I2:Inv X pins σ H1 { s1 with heap:=s1.heap.push { cls:=.type "str_ascii_iterator",data:=.fields #[.str a t,.int 0 0] } }:=I1.kept (t':=s1.toks) fun b ob q=>Heap.get?_push_of_some _ q
 refine⟨s1.heap.objs.size,[s1.heap.objs.size],_,_,H1,rfl,I2,yW a t _,⟨_,Heap.get?_push_size _ rfl,rfl,rfl⟩,fun b hb=>?_,q⟩
 have eb:b=s1.heap.objs.size:=by simpa using hb
 subst eb
 exact I1.fpOk (xh _) (I1.hok.fresh (xh _))
end
noncomputable def ItK:Bool->Heap->Addr->Addr->Nat->Prop
 |true,h,i,l,k=>h.IsTupleIter i l k
 |false,h,i,l,k=>h.IsListIter i l k
noncomputable def SqK:Bool->Heap->Addr->Array Value->Prop
 |true,h,l,xs=>h.IsTuple l xs
 |false,h,l,xs=>h.IsList l xs
noncomputable def itN:Bool->String
 |true=> "tuple_iterator"
 |false=> "list_iterator"
theorem ItK.obj{tp:Bool}{h:Heap}{i l:Addr}{k:Nat}(x:ItK tp h i l k):∃ o,h.get? i=some o/\o.cls=.type (itN tp)/\o.data=.fields #[.ref l,.int k 0]:=by
 cases tp<;>exact x
theorem ItK.of{tp:Bool}{h:Heap}{i l:Addr}{k:Nat}(x:∃ o,h.get? i=some o/\o.cls=.type (itN tp)/\o.data=.fields #[.ref l,.int k 0]):ItK tp h i l k:=by
 cases tp<;>exact x
theorem ItK.at{tp:Bool}{h h':Heap}{i l:Addr}{k:Nat}(x:ItK tp h i l k)(e:∀ o,h.get? i=some o->h'.get? i=some o):ItK tp h' i l k:=by
 obtain⟨o,a,b,c⟩:=x.obj
 exact .of ⟨o,e o a,b,c⟩
theorem SqK.at{tp:Bool}{h h':Heap}{l:Addr}{xs:Array Value}(x:SqK tp h l xs)(e:∀ o,h.get? l=some o->h'.get? l=some o):SqK tp h' l xs:=by
 cases tp
 ·obtain⟨o,a,b⟩:=id x;exact⟨o,e o a,b⟩
 ·obtain⟨o,a,b⟩:=id x;exact⟨o,e o a,b⟩
section
variable {prog:Program} {w:World} {A:Around} {E:Value->Shared->Prop} {s:Shared}
end
section
variable {X:Cx}
end
noncomputable def vC (w:World) (l:List (Str×Nat×Addr)) (ep:Nat):Obj:={ cls:=.type "dict",data:=.dict (l.map fun p=>(⟨PySem.PyData.keyHash w.params p.1,.str p.1 p.2.1,.ref p.2.2⟩:DictEntry)).toArray ep }
inductive GRows(mg:Str->Option Value):List (Str×Nat×Addr)->List (Str×Str)->Prop
 |nil:GRows mg [] []
 |cons {k f:Str} {t:Nat} {a:Addr} {l kf}:mg f=some (.ref a)->GRows mg l kf->GRows mg ((k,t,a)::l) ((k,f)::kf)
structure GD(w:World)(K:PySem.W.Frag)(mg:Str->Option Value)(x:Str)(kf:List (Str×Str)):Prop where
 ex:∃ (D:Addr) (ep:Nat) (l:List (Str×Nat×Addr)),mg x=some (.ref D)/\(D==sysModules)=false/\K.lookup D=some (vC w l ep)/\GRows mg l kf/\(kf.map (·.1)).Nodup
theorem GRows.keys{mg:Str->Option Value}{l:List (Str×Nat×Addr)}{kf:List (Str×Str)}(h:GRows mg l kf):l.map (·.1)=kf.map (·.1):=by
 induction h with
 |nil=>rfl
 |cons _ _ ih=>simp[ih]
theorem GRows.find{mg:Str->Option Value}{l:List (Str×Nat×Addr)}{kf:List (Str×Str)}(h:GRows mg l kf)(k:Str):match kf.lookup k with
  |some f=>∃ a,mg f=some (.ref a)/\valueAt (l.map fun p=>(p.1,Value.ref p.2.2)) k=some (.ref a)
  |none=>valueAt (l.map fun p=>(p.1,Value.ref p.2.2)) k=none:=by
 induction h with
 |nil=>rfl
 | @cons k' f t a l kf hm hr ih=>
  rw[xq]
  by_cases e:k=k'
  ·subst e
   simp only[beq_self_eq_true]
   exact⟨a,hm,by simp[valueAt]⟩
  ·have e1:(k==k')=false:=by simpa using e
   rw[e1]
   have e2:valueAt (((k',t,a)::l).map fun p=>(p.1,Value.ref p.2.2)) k=valueAt (l.map fun p=>(p.1,Value.ref p.2.2)) k:=by
    unfold valueAt
    rw[xu,List.find?_cons_of_neg (by simpa using Ne.symm e)]
   rw[e2];exact ih
theorem VR{P:Program}{w:World}:∀ (l:List (Str×Nat×Addr)),Pairs (PySem.strKind P w) (l.map fun p=>(⟨PySem.PyData.keyHash w.params p.1,.str p.1 p.2.1,.ref p.2.2⟩:DictEntry)) (l.map fun p=>(p.1,Value.ref p.2.2))
 |[]=>.nil
 |p::r=>.cons (by simp[PySem.strKind,Value.isStrOf]) rfl (VR r)
theorem zch{P:Program}{w:World}{h:Heap}{D:Addr}{ep:Nat}{l:List (Str×Nat×Addr)}(hd:h.get? D=some (vC w l ep))(nd:(l.map (·.1)).Nodup):h.DictOf (PySem.strKind P w) D (l.map fun p=>(p.1,Value.ref p.2.2)):=by
 refine⟨_,_,ep,hd,⟨rfl,rfl,rfl⟩,rfl,?_,by simpa using VR l,?_⟩
 ·intro e he
  simp only[List.mem_toArray,ui]at he
  obtain⟨p,hp,rfl⟩:=he
  exact⟨p.1,by simp[PySem.strKind,Value.isStrOf],rfl⟩
 ·rw[ud];exact nd
section
variable {X:Cx}
theorem zdC {x r:Str}{kf:List (Str×Str)}{i:Nat}{e:Expr}{p1 p2 q1 q2:Pos}(g:GD X.w X.K X.mg x kf) (hg:Gl X x) (hdb:(x==("__debug__" :Str))=false) (hs:∀ ov iv,subscripted e false ov iv=operate [ov,iv] (getItem ov iv)) (hN:X.N.Nodup) (hi:X.N[i]?=some r) (hx:Loc X.env.scope r)
  (hsw:swapsWith (.Subscript (.Name x p1) e q1) (some (.Name r p2)) q2.line X.env=pure false) (hf:X.fn r=true∨X.env.scope.names.lookup r=some .local) :
  PS X (.Assign [.Name r p2] (.Subscript (.Name x p1) e q1) q2) (fun D σ H=>wpE X e σ H fun v H1=>∃ (a f:Str) (b:Addr),v=.str a/\kf.lookup a=some f/\(X.mg f=some (.ref b)->D.nx (σ.set i (some (.ref b))) H1)/\X.mg f=some (.ref b)):=by
 have hpe:PE X (.Subscript (.Name x p1) e q1) (fun σ H Q=>wpE X e σ H fun v H1=>∃ (a f:Str) (b:Addr),v=.str a/\kf.lookup a=some f/\X.mg f=some (.ref b)/\Q (.ref b) H1):=by
  intro pins s σ H Q I h
  obtain⟨D,ep,l,h1,h2,h3,h4,h5⟩:=g.ex
  refine Subscript_ (qz I hg h1 (thn (h pins s I) fun iv s2 ⟨y,H2,I2,ry,a,f,b,ey,ef,eb,q⟩=>?_) hdb)
  subst ey
  obtain⟨t,rfl⟩:=ry
  have hd:=zch (P:=X.prog) (I2.kIn D _ h3) (by rw[h4.keys];exact h5)
  have hfd:=h4.find a
  rw[ef]at hfd
  obtain⟨b',eb',ev⟩:=hfd
  rw[eb]at eb';cases eb'
  refine tail_any (ops:= [.ref D,.str a t]) hd.typeIs PySem.F.slot_dict_getitem.lookup ?_ (hs _ _)
  exact wpAny_getItem_of (knd:=PySem.strKind X.prog X.w) (k:=a) (by simp[PySem.strKind,Value.isStrOf]) hd.mapOf ev ⟨.ref b,H2,I2.tok _,rfl,q⟩
 intro pins s σ H D I h
 exact ZT hN hi hx hpe hsw hf pins s σ H D I (h.mono fun v H1 ⟨a,f,b,e1,e2,q,e3⟩=>⟨a,f,b,e1,e2,e3,q e3⟩)
end
noncomputable def W3(K:PySem.W.Frag):List (Str×Nat×Addr)->List (Str×Str)->Bool
 |[],[]=>true
 | (k,_,a)::l,(k',f)::kf=>decide (k=k')&&(match PySem.W.nsIn K mainGlobals f with
  |some (some (.ref b))=>decide (b=a)
  |_=>false)&&W3 K l kf
 |_,_=>false
theorem GRows.of{K:PySem.W.Frag}{h:Heap}{mg:Str->Option Value}(X:K.In h)(G:h.Ns mainGlobals mg):∀ {l:List (Str×Nat×Addr)}{kf:List (Str×Str)},W3 K l kf=true->GRows mg l kf
 |[],[],_=>.nil
 |[],_::_,h=>by simp[W3]at h
 |_::_,[],h=>by simp[W3]at h
 | (k,t,a)::l,(k',f)::kf,h=>by
  simp only[W3,xa,decide_eq_true_eq]at h
  obtain⟨⟨h1,h2⟩,h3⟩:=h
  subst h1
  split at h2
  ·rename_i b e
   have:b=a:=by simpa using h2
   subst this
   exact .cons (PySem.W.mg_of X G e) (GRows.of X G h3)
  ·cases h2
theorem GD.of{w:World}{K:PySem.W.Frag}{h:Heap}{mg:Str->Option Value}{x:Str}{kf:List (Str×Str)}{D:Addr}{ep:Nat}{l:List (Str×Nat×Addr)}(X:K.In h)(G:h.Ns mainGlobals mg)(hd:PySem.W.nsIn K mainGlobals x=some (some (.ref D)))(hs:(D==sysModules)=false)
  (ho:K.lookup D=some (vC w l ep)) (hr:W3 K l kf=true) (hn:(kf.map (·.1)).Nodup):GD w K mg x kf:=⟨⟨D,ep,l,PySem.W.mg_of X G hd,hs,ho,GRows.of X G hr,hn⟩⟩
end L2
namespace L3
open PySem PySem.Spec PyProof.Rows L2
variable [Cs]
section
variable {X:Cx} {XP:XPT} {mp io:List Nat} {a b c e:Expr} {es:List Expr} {pos p p2:Pos} {fa fb fc:EM FV}
noncomputable def Zv(x:Str):List PyData:=x.cps.toList.map fun c=>.str ⟨#[c]⟩
theorem K9{M0:Addr->Prop}{F:Fp}{H1:Hp}(x:Str):JI M0 F (Itc x) (Zv x) H1:=fun i F' H' s h0=>by
 refine⟨fun d hd=>?_,fun hi=>?_⟩
 ·unfold Zv at hd
  rw[xt]at hd
  cases q:x.cps.toList[i]? with
  |none=>rw[q]at hd;cases hd
  |some c=>
   rw[q]at hd
   cases hd
   have q':x.cps[i]?=some c:=by simpa using q
   refine⟨(Array.getElem?_eq_some_iff.mp q').1,fun z H2 ⟨e2,c',ec,ez⟩=>?_⟩
   subst e2 ez
   rw[q']at ec;cases ec
   exact⟨.refl _,.str _⟩
 ·have:(Zv x).length=x.length:=by simp[Zv,Str.length]
  rw[this]at hi;exact hi
noncomputable def yx(fa:EM FV):EM (List PyData):=fun Γ=>(fa Γ).bind fun (u,Γ1)=>match derf Γ1 u with
 |some (.str x)=>if x.cps.all (·<128) then .ok (Zv x,Γ1) else .bad
 |_=>.bad
theorem zaX{tg:Expr}(ha:SE X XP mp a fa):SI X XP mp tg a (yx fa):=fun M0 F Γ ν σ H R rs hs hp=>
 (zaz zb).wp (ha.run rs hs hp fun F1 Γ1 H1 u v rs1 s1 o1 h1=>by
  dsimp only at h1
  split at h1
  ·rename_i x ex
   split at h1
   ·rename_i hz
    have r1:=o1.weak rs1 ex
    cases r1
    exact⟨_,rfl,hz,h1 F1 H1 rs1 (.refl _ _) _ (K9 x)⟩
   ·exact h1.elim
  ·exact h1.elim)
theorem RS.unset{M0:Addr->Prop}{F:Fp}{Γ:Gv}{ν:Nu}{H:Hp}{i:Nat}(r:RS M0 F Γ ν H)(h:∀ o,Γ[i]?≠some (some o)):RS M0 F Γ (ν.set i none) H :=
 ⟨r.al0,r.dis0,r.nd,r.dis,fun j o e=>by
  obtain⟨w,e1,z⟩:=r.at' j o e
  refine⟨w,?_,z⟩
  rw[xg (fun q=>h o (by rw[q];exact e))]
  exact e1,r.emp,by rw[xG];exact r.len⟩
theorem Sees.unset{ν:Nu}{σ:St}{s i:Nat}{v:V}(h:Sees mp ν σ)(hn:mp.Nodup)(hm:mp[s]?=some i):Sees mp (ν.set i none) (σ.set s (some v)):=fun t j w e1 e2=>by
 by_cases hj:j=i
 ·subst hj
  have hs:t=s:=(List.getElem?_inj (xb.mp e1).1 hn).mp (e1.trans hm.symm)
  subst hs
  rw[List.getElem?_set_self']at e2
  cases q:ν[j]? with
  |none=>rw[q]at e2;cases e2
  |some z=>rw[q]at e2;cases e2
 ·rw[xg (Ne.symm hj)]at e2
  have hts:s≠t:=fun z=>by subst z;rw[hm]at e1;cases e1;exact hj rfl
  rw[xg hts]
  exact h t j w e1 e2
noncomputable def sDisp(io:List Nat)(kf:List (Str×Str))(run:Str->List OV->RF)(i:Nat)(fe:EM FV)(fl:EM (List AV)):SM:=fun Γ=>(fe Γ).bind fun (u,Γ1)=>match derf Γ1 u with
 |some (.str k)=>match kf.lookup k with
  |some f=>if i∈io∨(Γ1[i]?.join).isSome=true then .bad else (fCall (run f) fl Γ1).bind fun (o,Γ2)=>.ok (.ret o,Γ2)
  |none=>.bad
 |_=>.bad
theorem zcX {s i k n:Nat}{r x:Str}{kf:List (Str×Str)}{run:Str->List OV->RF}{fl:EM (List AV)}{p1 p3 q1 q2 q3 q4:Pos}(g:GD X.w X.K X.mg x kf) (hg:Gl X x) (hdb:(x==("__debug__" :Str))=false)
  (px:J6 X XP) (kn:∀ key f,kf.lookup key=some f->Kn X.prog X.w X.K X.mg X.base (CX1 X.prog X.w) f k (spX X.mg n (run f))/\∀ args,run f args≠ .bad->args.length=n) (hr:Room k X.A)
  (he:SE X XP mp e fa) (hps:PS X (.Assign [.Name r p2] (.Subscript (.Name x p1) e q1) q2) (fun D σ H=>wpE X e σ H fun v H1=>∃ (a f:Str) (b:Addr),v=.str a/\kf.lookup a=some f/\(X.mg f=some (.ref b)->D.nx (σ.set s (some (.ref b))) H1)/\X.mg f=some (.ref b)))
  (hN:X.N[s]?=some r) (hv:Vis X.env.scope r) (hd:(r==("__debug__" :Str))=false) (hcd:(r==("__classdict__" :Str))=false) (hn:mp.Nodup) (hm:mp[s]?=some i)
  (hl:SA X XP mp (a::es) fl) (hst:starEach (a::es) X.env=(false,eval a X.env)::starEach es X.env) (hpl:(backTo q3 (starEach es X.env)).any (·.1)=false) :
  SB X XP mp io [.Assign [.Name r p2] (.Subscript (.Name x p1) e q1) q2,.Return (some (.Call (.Name r p3) (a::es) [] q3)) q4] (sDisp io kf run i fa fl):=fun M0 F Γ ν σ H D rs hs hl0 hp=>by
 refine (jH hps (Qb (yO zb))).wp ?_
 refine he M0 F Γ ν σ H _ rs hs ((SPost.seq hs hl0 hp).mono fun F1 Γ1 H1 u rs1 s1 h1 v hv1=>?_)
 dsimp only at h1
 split at h1
 ·rename_i key ek
  have r1:=hv1.weak rs1 ek
  cases r1
  split at h1
  ·rename_i f ef
   split at h1
   ·exact h1.elim
   ·rename_i hh
    obtain⟨kn1,hrun⟩:=kn key f ef
    obtain⟨b,fd,ps,_,hb,_⟩:=kn1.ex
    have hio:i∉io:=fun z=>hh (.inl z)
    have hΓ:∀ o,Γ1[i]?≠some (some o):=fun o z=>hh (.inr (by rw[z];rfl))
    have rs2:=rs1.unset hΓ
    have hs2:Sees mp (ν.set i none) (σ.set s (some (.ref b))):=hs.unset hn hm
    have hlen:(σ.set s (some (.ref b)):St).length=X.N.length:=by rw[xG];exact hl0
    refine⟨key,f,b,rfl,ef,fun _=>?_,hb⟩
    refine Ka (E:=EX X XP (σ.set s (some (.ref b)))) kn1 hb hr hN hv hd hcd ?_ (fun pins H1 s1 e s' I hx=>px _ pins H1 s1 e s' _ (fun c H' q=>q) I hx) (hl M0 F1 Γ1 (ν.set i none) (σ.set s (some (.ref b))) H1 _ rs2 hs2 (Zr rs2 hrun ?_)) hst hpl
    ·have:s<σ.length:=by rw[hl0];exact (xb.mp hN).1
     rw[xi this]
    ·have h1':SPost M0 F1 (ν.set i none) H1 XP mp X.N.length io D ((fCall (run f) fl Γ1).bind fun (o,Γ2)=>.ok (.ret o,Γ2)):=h1.step (.refl _ _) fun j hj=>by
      rw[xg (fun z=>hio (by rw[z];exact hj))]
     exact (SPost.seqO hs2 hlen h1').mono fun F3 Γ3 H3 o v rs3 s3 h3=>h3 F3 _ v H3 rs3 (.refl _ _) fun _ _=>rfl
  ·exact h1.elim
 ·exact h1.elim
end
section
variable {M0:Addr->Prop} {F F':Fp} {Γ Γ':Gv} {ν ν':Nu} {H H':Hp}
end
section
variable {X:Cx} {XP:XPT} {mp io:List Nat} {a b c e:Expr} {es:List Expr} {pos p p2 pos' p3:Pos} {fa fb fc:EM FV} {fo:EM OV} {kx:Nat}
end
end L3
namespace L2
open PySem PySem.Spec PyProof.Rows
section
variable {β:Type}
noncomputable def zF(ds:List (Str×β))(x:Str):Option β:=(ds.find? fun p=>decide (p.1=x)).map (·.2)
noncomputable def jJ(ds:List (Str×β))(x:Str)(y:β):List (Str×β):=if (ds.any fun p=>decide (p.1=x))=true then ds.map (fun p=>if p.1=x then (p.1,y) else p) else ds++ [(x,y)]
noncomputable def zB(ds more:List (Str×β)):List (Str×β):=more.foldl (fun acc p=>jJ acc p.1 p.2) ds
theorem VH(ds:List (Str×β))(x:Str)(y:β):(jJ ds x y).length<=ds.length+1:=by
 unfold jJ
 split
 ·rw[xr];omega
 ·rw[xK,xp,List.length_nil];omega
end
theorem inr_eq{x y:Str}:((Sum.inr x:Key)=Sum.inr y)↔x=y:=⟨fun h=>by injection h,fun h=>by rw[h]⟩
theorem Zy(x:Str):∀ (ks:List (Str×V)),JW (ks.map kK) (.inr x)=zF ks x
 |[]=>rfl
 |p::r=>by
  have ih:=Zy x r
  unfold JW zF at *
  rw[xu,xN,xN]
  by_cases h:p.1=x
  ·rw[decide_eq_true (show (kK p).1=Sum.inr x from inr_eq.mpr h),decide_eq_true h];rfl
  ·rw[decide_eq_false (show ¬ (kK p).1=Sum.inr x from fun z=>h (inr_eq.mp z)),decide_eq_false h];exact ih
theorem Ko(x:Str):∀ (ks:List (Str×V)),((ks.map kK).any fun p=>decide (p.1=(.inr x:Key)))=ks.any fun p=>decide (p.1=x)
 |[]=>rfl
 |p::r=>by
  rw[xu,xP,xP,Ko x r]
  congr 1
  exact decide_eq_decide.mpr inr_eq
theorem vY(ks:List (Str×V))(x:Str)(v:V):ju (ks.map kK) (.inr x) v=(jJ ks x v).map kK:=by
 unfold ju jJ
 rw[Ko]
 split
 ·rw[ud,ud]
  refine List.map_congr_left fun p _=>?_
  show (if (kK p).1=Sum.inr x then _ else _)=kK (if p.1=x then _ else _)
  by_cases h:p.1=x
  ·rw[if_pos (show (kK p).1=Sum.inr x from inr_eq.mpr h),if_pos h];rfl
  ·rw[if_neg (show ¬ (kK p).1=Sum.inr x from fun z=>h (inr_eq.mp z)),if_neg h]
 ·rw[List.map_append];rfl
theorem WX:∀ (more ks:List (Str×V)),ZQ (ks.map kK) (more.map kK)=(zB ks more).map kK
 |[],ks=>rfl
 |p::r,ks=>by
  show ZQ (ju (ks.map kK) (.inr p.1) p.2) (r.map kK)=_
  rw[vY,WX r];rfl
variable [Cs]
inductive KR(M:Addr->Prop)(H:Hp):List (Str×V)->List (Str×PyData)->Prop
 |nil:KR M H [] []
 |cons {x:Str} {v:V} {d:PyData} {ks:List (Str×V)} {ds:List (Str×PyData)}:Rep M H v d->KR M H ks ds->KR M H ((x,v)::ks) ((x,d)::ds)
section
variable {M M':Addr->Prop} {H H':Hp}
theorem KR.of:∀ {ks:List (Str×V)}{ds:List (Str×PyData)},ks.map (·.1)=ds.map (·.1)->RepL M H (ks.map (·.2)) (ds.map (·.2))->KR M H ks ds
 |[],[],_,_=>.nil
 |[],_::_,h,_=>by simp at h
 |_::_,[],h,_=>by simp at h
 | (x,v)::ks,(y,d)::ds,h,r=>by
  simp only[xu,List.cons.injEq]at h
  obtain⟨rfl,h⟩:=h
  simp only[xu]at r
  cases r with
  |cons r t=>exact .cons r (KR.of h t)
theorem KR.keys:∀ {ks:List (Str×V)}{ds:List (Str×PyData)},KR M H ks ds->ks.map (·.1)=ds.map (·.1)
 |_,_,.nil=>rfl
 |_,_,.cons _ t=>by rw[xu,xu,t.keys]
theorem KR.vals:∀ {ks:List (Str×V)}{ds:List (Str×PyData)},KR M H ks ds->RepL M H (ks.map (·.2)) (ds.map (·.2))
 |_,_,.nil=>.nil
 |_,_,.cons r t=>.cons r t.vals
theorem KR.length{ks:List (Str×V)}{ds:List (Str×PyData)}(h:KR M H ks ds):ks.length=ds.length:=by have:=congrArg List.length h.keys;simpa using this
theorem KR.map(hr:∀ v d,Rep M H v d->Rep M' H' v d):∀ {ks:List (Str×V)}{ds:List (Str×PyData)},KR M H ks ds->KR M' H' ks ds
 |_,_,.nil=>.nil
 |_,_,.cons r t=>.cons (hr _ _ r) (t.map hr)
theorem KR.any(x:Str):∀ {ks:List (Str×V)}{ds:List (Str×PyData)},KR M H ks ds->(ks.any fun p=>decide (p.1=x))=ds.any fun p=>decide (p.1=x)
 |_,_,.nil=>rfl
 |_,_,.cons _ t=>by rw[xP,xP,t.any x]
theorem KR.repl{x:Str}{v:V}{d:PyData}(r:Rep M H v d):∀ {ks:List (Str×V)}{ds:List (Str×PyData)},KR M H ks ds->KR M H (ks.map fun p=>if p.1=x then (p.1,v) else p) (ds.map fun p=>if p.1=x then (p.1,d) else p)
 |_,_,.nil=>.nil
 |_,_,.cons (x:=y) q t=>by
  rw[xu,xu]
  by_cases h:y=x
  ·rw[if_pos h,if_pos h];exact .cons r (t.repl r)
  ·rw[if_neg h,if_neg h];exact .cons q (t.repl r)
theorem KR.append:∀ {ks ks':List (Str×V)}{ds ds':List (Str×PyData)},KR M H ks ds->KR M H ks' ds'->KR M H (ks++ks') (ds++ds')
 |_,_,_,_,.nil,s=>s
 |_,_,_,_,.cons r t,s=>.cons r (t.append s)
theorem KR.put{ks:List (Str×V)}{ds:List (Str×PyData)}(x:Str){v:V}{d:PyData}(h:KR M H ks ds)(r:Rep M H v d):KR M H (jJ ks x v) (jJ ds x d):=by
 unfold jJ
 rw[h.any x]
 split
 ·exact h.repl r
 ·exact h.append (.cons r .nil)
theorem KR.merge:∀ {more:List (Str×V)}{md:List (Str×PyData)}{ks:List (Str×V)}{ds:List (Str×PyData)},KR M H more md->KR M H ks ds->KR M H (zB ks more) (zB ds md)
 |_,_,_,_,.nil,h=>h
 |_,_,_,_,.cons (x:=x) r t,h=>by
  have:=KR.merge t (h.put x r)
  exact this
theorem KR.val(x:Str):∀ {ks:List (Str×V)}{ds:List (Str×PyData)},KR M H ks ds->(zF ks x).isSome=(zF ds x).isSome/\∀ d,zF ds x=some d->∃ v,zF ks x=some v/\Rep M H v d
 |_,_,.nil=>⟨rfl,fun d e=>by cases e⟩
 |_,_,.cons (x:=y) (v:=v) q t=>by
  have ih:=t.val x
  unfold zF at *
  rw[xN,xN]
  by_cases h:y=x
  ·rw[decide_eq_true (show (y,v).1=x from h)]
   exact⟨rfl,fun d e=>by cases e;exact⟨v,rfl,q⟩⟩
  ·rw[decide_eq_false (show ¬ (y,v).1=x from h)];exact ih
theorem KR.get:∀ {ks:List (Str×V)}{ds:List (Str×PyData)}{i:Nat}{p:Str×PyData},KR M H ks ds->ds[i]?=some p->∃ v,ks[i]?=some (p.1,v)/\Rep M H v p.2
 |_,_,_,_,.nil,e=>by simp at e
 |_,_,0,_,.cons r _,e=>by simp at e;subst e;exact⟨_,rfl,r⟩
 |_,_,i+1,p,.cons _ t,e=>by
  obtain⟨v,h1,h2⟩:=KR.get (i:=i) (p:=p) t (by simpa using e)
  exact⟨v,by simpa using h1,h2⟩
theorem Rep.dict_inv{v:V}{kv:List (PyData×PyData)}(r:Rep M H v (.dict kv)):∃ a,v=.ref a/\¬ M a/\((∃ ks ds,Rd H a (.dK (ks.map kK))/\kv=ds.map dK/\KR M H ks ds)∨∃ dx c fs ds,H a=some (.ins (Cs.adr c) dx fs)/\kv=(.none,.str c)::ds.map dK/\KR M H fs ds):=by
 cases r with
 |dict e n k q=>exact⟨_,rfl,n,.inl ⟨_,_,e,rfl,.of k q⟩⟩
 |inst e n k q=>exact⟨_,rfl,n,.inr ⟨_,_,_,_,e,rfl,.of k q⟩⟩
end
noncomputable def unD:List (PyData×PyData)->Option (List (Str×PyData))
 |[]=>some []
 | (.str x,d)::r=>(unD r).map ((x,d)::·)
 |_=>none
theorem jq(ds:List (Str×PyData)):unD (ds.map dK)=some ds:=by
 induction ds with
 |nil=>rfl
 |cons p r ih=>simp[unD,dK,ih]
section
variable {X:Cx} {pins:List (Addr×Obj)} {σ:St} {H:Hp} {s:Shared} {a b:Addr} {kvs more:List (Key×V)} {A:Around} {E:Value->Shared->Prop}
theorem KG{Q:Value->Shared->Prop}(I:Inv X pins σ H s)(e:H a=some (.dK kvs))(e2:Rd H b (.dK more))(hab:a≠b)(hl:kvs.length+more.length<=sizeLine)
  (h:∀ s',Inv X pins σ (upd H a (.dK (ZQ kvs more))) s'->Q .none s'):wpAny (model X.prog X.w) A (call (.builtin "dict.update") [.ref a,.ref b]) Q E s:=by
 obtain⟨z,hd,vs,rel,dd⟩:=KJ I.hok e
 obtain⟨z2,hd2,ws,rel2,dd2⟩:=ZC I.hok e2
 refine call_meetsIn PySem.F.slot_dict_update dd.typeIs PySem.F.entry_dict_update (PySem.F.args_dict_update_2 _ _) (meets_dict_update (zn X.prog X.w) a b hab hd2) ⟨vs,ws,dd,dd2,by rw[<- rel.length,<- rel2.length];exact hl,fun h' dd' _ hs=>h _ ?_⟩
 have he:∃ q,h'.get? a=some q:=let ⟨q,_,_,hq,_⟩:=dd';⟨q,hq⟩
 exact vB (t':=s.toks) I (by rw[e];exact True.intro) hs he (vD (xE (ZD more kvs) hl) hd (rel2.merge rel) dd')
end
noncomputable def zha(td te:TE):TE:=fun σ H Q=>td σ H fun x H1=>∃ a,x=.ref a/\IsD H1 a/\te σ H1 fun y H2=>∃ b kvs more,y=.ref b/\H2 a=some (.dK kvs)/\Rd H2 b (.dK more)/\a≠b/\kvs.length+more.length<=sizeLine/\Q .non (upd H2 a (.dK (ZQ kvs more)))
section
variable {X:Cx} {o e:Expr} {apos cpos:Pos} {td te:TE}
theorem zcL (ho:PE X o td) (he:PE X e te) (m:M1 X o "update" apos e cpos):PE X (.Call (.Attribute o "update" apos) [e] [] cpos) (zha td te):=by
 intro pins s σ H Q I h
 refine wpAny_Call_method m.base m.few m.line PySem.F.plainAttrs_dict PySem.F.slot_dict_update PySem.F.type_dict_update (thn (ho pins s σ H _ I h) fun u s1 ⟨x,H1,I1,rx,a,ex,d,q1⟩=>?_)
 subst ex
 obtain rfl:u=Value.ref a:=rx
 obtain⟨t1,t2,_⟩:=K7 I1 d
 refine⟨t1,t2,?_⟩
 rw[m.trees]
 refine Calls.callWith_builtin rfl (Calls.evalArgs_plain (Calls.spliced_cons (thn (he pins s1 σ H1 _ I1 q1) fun iv s2 ⟨y,H2,I2,ry,b,kvs,more,ey,e1,e2,hab,hl,q2⟩=>Calls.spliced_nil ?_)))
 subst ey
 obtain rfl:iv=Value.ref b:=ry
 exact KG I2 e1 e2 hab hl fun s3 I3=>⟨.non,_,I3,rfl,q2⟩
theorem YU:jv X (.type "dict") (fun xs H Q=>∃ a kvs,xs= [V.ref a]/\Rd H a (.dK kvs)/\∀ p,H p=none->Q (.ref p) (upd H p (.dK kvs))):=by
 intro pins s σ H xs us Q I r h
 obtain⟨a,kvs,rfl,e,q⟩:=h
 obtain⟨u,rfl,rx⟩:=Qg r
 cases rx
 exact KE I e fun p s' hp I'=>⟨.ref p,_,I',rfl,q p hp⟩
end
noncomputable def qB(ss:List Str):List Str:=ss.mergeSort fun a b=> !decide (b.cps.toList<a.cps.toList)
theorem Wa(ss:List Str):(qB ss).Perm ss:=List.mergeSort_perm _ _
theorem kJ(ss:List Str):(qB ss).length=ss.length:=(Wa ss).length_eq
theorem Str.ext'{a b:Str}(h:a.cps.toList=b.cps.toList):a=b:=by
 cases a with
 |mk x=>
  cases b with
  |mk y=>
   have:x=y:=by
    cases x;cases y
    exact congrArg Array.mk h
   rw[this]
theorem za8(ss:List Str):(qB ss).Pairwise (fun a b=>¬ b.cps.toList<a.cps.toList):=by
 have h:=List.pairwise_mergeSort (le:=fun a b:Str=> !decide (b.cps.toList<a.cps.toList)) (by
  intro a b c h1 h2
  simp only[ut,decide_eq_false_iff_not]at *
  exact List.le_trans h1 h2) (by
  intro a b
  simp only[xD,ut,decide_eq_false_iff_not]
  exact List.le_total _ _) ss
 exact h.imp fun {a b} h=>by simpa using h
theorem Jx:∀ (p:Str) (l:List Str),risingS p l=true->(p::l).Pairwise (fun a b=>¬ b.cps.toList<a.cps.toList)
 |p,[],_=>by simp
 |p,x::r,h=>by
  unfold risingS at h
  rw[xa,ut,ltCps_eq,decide_eq_false_iff_not]at h
  have ih:=Jx x r h.2
  refine List.pairwise_cons.mpr ⟨fun y hy=>?_,ih⟩
  rcases xv.mp hy with rfl | hy
  ·exact h.1
  ·exact List.le_trans h.1 (List.rel_of_pairwise_cons ih hy)
theorem za7{ss ms:List Str}(hp:ms.Perm ss)(hs:sortedS ms=true):ms=qB ss:=by
 have h1:ms.Pairwise (fun a b=>¬ b.cps.toList<a.cps.toList):=by
  cases ms with
  |nil=>exact .nil
  |cons x r=>exact Jx x r hs
 exact List.Perm.eq_of_pairwise (le:=fun a b:Str=>¬ b.cps.toList<a.cps.toList) (fun a b _ _ h1 h2=>Str.ext' (List.le_antisymm h1 h2)) h1 (za8 ss) (hp.trans (Wa ss).symm)
theorem StrsAre.of:∀ {ss:List Str}{us:List Value},Vals (ss.map V.str) us->StrsAre us ss
 |[],_,.nil=>.nil
 |n::ns,_,.cons ⟨t,e⟩ r=>by subst e;exact .cons n t (StrsAre.of r)
theorem Vals.ofStrs:∀ {us:List Value}{ss:List Str},StrsAre us ss->Vals (ss.map V.str) us
 |_,_,.nil=>.nil
 |_,_,.cons n t r=>.cons ⟨t,rfl⟩ (Vals.ofStrs r)
section
variable {X:Cx}
end
section
variable {prog:Program} {w:World} {A:Around} {E:Value->Shared->Prop} {s:Shared}
open PySem.W in
theorem vj{d:Addr}{kvs:List (Key×Value)}{ep:Nat}{Q:List Value->Shared->Prop}(hh:A.handled=none)(lo:(d==sysModules)=false)(hm:s.heap.DictAt (zn prog w) d kvs ep)(hsz:kvs.length<=sizeLine)
  (h:∀ (vs:Array Value) (h':Heap) (tk:Nat),ItemsOf (fun i v=>∃ k x,kvs[i]?=some (k,x)/\(zn prog w).is k v=true) vs kvs.length->(∀ b o,s.heap.get? b=some o->h'.get? b=some o)->s.heap.objs.size<h'.objs.size->Q vs.toList { s with heap:=h',toks:=tk }) :
  wpAny (model prog w) A (collect (.ref d)) Q E s:=by
 have hds:d<s.heap.objs.size:=hm.lt_size
 have key:∀ R:Result->Shared->Prop,(∀ h' tk acc' c',(∀ b o,b≠s.heap.objs.size->(s.heap.push (seqObj "list" #[] 0)).get? b=some o->h'.get? b=some o)->h'.get? s.heap.objs.size=some { cls:=.type "list",dict:=none,data:=.seq acc' c',slots:=#[] }->ItemsOf (fun i v=>∃ k x,kvs[i]?=some (k,x)/\(zn prog w).is k v=true) acc' kvs.length->R (.ok (.ret (.ref s.heap.objs.size))) { s with heap:=h',toks:=tk }) ->
   codeAny (model prog w) A (.builtin "proto.collect" ⟨[.ref d],[]⟩) R s:=fun R hR=>by
  refine codeAny_builtin entry_proto_collect' ?_
  show wpAny _ _ (do again (.builtin "list.__iadd__" ⟨[<- newList [],.ref d],[]⟩)) _ _ s
  refine wpAny_bind (wpAny_newList (wpAny_pure ⟨Code.quiet_builtin _ (by decide +kernel),codeAny_builtin entry_list_iadd' ?_⟩))
  show wpAny _ _ (Builtin.List.listExtendWith (.ref s.heap.objs.size) (.ref d) (.ref s.heap.objs.size)) _ _ { s with heap:=s.heap.push (seqObj "list" #[] 0) }
  rw[Around.under_plainId (show plainId "list.__iadd__" =true by decide +kernel)]
  exact kdl_extend (s:={ s with heap:=s.heap.push (seqObj "list" #[] 0) }) (kdl_dict (knd:=zn prog w) (kvs:=kvs) (ep:=ep) lo) hh (hm.push _) s.heap.objs.size (ug hds) (ug hds) (.ref s.heap.objs.size) 0 (Heap.get?_push_size _ rfl) (fun h' tk acc' c' k1 k2 k3=>hR h' tk acc' c' k1 k2 k3) hsz
 unfold collect
 refine wpAny_bind (wpAny_runValue (key _ fun h' tk acc' c' k1 k2 k3=>?_))
 show wpAny (model prog w) A (do
   let o<-load s.heap.objs.size
   match o.data with
   |.seq xs _=>pure xs.toList
   |_=>unsupported "internal:collect") Q E { s with heap:=h',toks:=tk }
 refine wpAny_bind (wpAny_load k2 ?_)
 show wpAny _ _ (pure acc'.toList) Q E _
 exact wpAny_pure (h acc' h' tk k3 (fun b o e=>k1 b o (xj (Heap.lt_size e)) (Heap.get?_push_of_some _ e)) (Heap.lt_size k2))
end
theorem Yn{P:Program}{w:World}{k:Key}{u:Value}(h:(zn P w).is k u=true):RelV (kV k) u:=by
 rcases zv h with ⟨i,t,rfl,rfl⟩ | ⟨x,t,rfl,rfl⟩
 ·exact⟨t,rfl⟩
 ·exact⟨t,rfl⟩
section
variable {X:Cx}
theorem Z5 (hcalm:X.calm=true):jv X (.builtin "sorted") (fun xs H Q=>∃ (p:Addr) (ks:List (Str×V)),xs= [.ref p]/\Rd H p (.dK (ks.map kK))/\ks.length<64/\∀ l,H l=none->Q (.ref l) (upd H l (.lst ((qB (ks.map (·.1))).map V.str)))):=by
 intro pins s σ H xs us Q I r h
 obtain⟨p,ks,rfl,hq,h64,q⟩:=h
 obtain⟨u,rfl,rx⟩:=Qg r
 cases rx
 obtain⟨z,hd,vs0,rel,dd⟩:=ZC I.hok hq
 obtain⟨ep,hat⟩:=dd.dictAt
 have hlen:vs0.length=ks.length:=by rw[<- rel.length,xr]
 refine Calls.call_function_entry kind_sorted plain_sorted entry_sorted (args_sorted1 _) ?_
 unfold Builtin.«sorted»
 refine wpAny_bind (m:=checkCount "sorted" 1 1 _) (wpAny_pure ?_)
 refine wpAny_bind (vj (by exact I.ok.hd hcalm) hd hat (by rw[<- rel.length];exact z) fun vs h' tk hi hk hlt=>?_)
 have hS:StrsAre vs.toList (ks.map (·.1)):=by
  refine StrsAre.of ?_
  have hsz:vs.size=ks.length:=by rw[hi.1,hlen]
  have key:∀ (l:List (Str×V)) (us:List Value),us.length=l.length->(∀ (j:Nat) (v:Value),us[j]?=some v->∃ (x:Str) (y:V),l[j]?=some (x,y)/\RelV (.str x) v)->Vals ((l.map (·.1)).map V.str) us:=by
   intro l
   induction l with
   |nil=>
    intro us h1 _
    cases us with
    |nil=>exact .nil
    |cons _ _=>simp at h1
   |cons p l ih=>
    intro us h1 h2
    cases us with
    |nil=>simp at h1
    |cons u us=>
     obtain⟨x,y,e1,e2⟩:=h2 0 u rfl
     simp at e1
     subst e1
     exact .cons e2 (ih us (by simpa using h1) fun j v hj=>by simpa using h2 (j+1) v (by simpa using hj))
  refine key ks vs.toList (by simpa using hsz) fun j v hj=>?_
  obtain⟨k,x,e1,e2⟩:=hi.2 j v (by simpa using hj)
  have hkj:((ks.map kK).map (·.1))[j]?=some k:=by rw[rel.keys,xt,e1];rfl
  rw[ud,xt]at hkj
  cases eq:ks[j]? with
  |none=>rw[eq]at hkj;cases hkj
  |some p=>
   rw[eq]at hkj
   have ek:(Sum.inr p.1:Key)=k:=by simpa [kK] using hkj
   subst ek
   exact⟨p.1,p.2,rfl,Yn e2⟩
 have hl64:vs.toList.length<64:=by
  have:vs.size=ks.length:=by rw[hi.1,hlen]
  simp[this];omega
 refine wpAny_bind (wpAny_newList ?_ (by have:=sizeLine_eq;omega))
 have hoL:(h'.push (seqObj "list" vs.toList.toArray 0)).get? h'.objs.size=some (seqObj "list" vs.toList.toArray 0):=Heap.get?_push_size _ rfl
 show wpAny _ _ _ _ _ { s with heap:=h'.push (seqObj "list" vs.toList.toArray 0),toks:=tk }
 refine wpAny_bind (wpAny_holding (wpAny_call_entry slot_list_sort ⟨_,hoL,rfl⟩ entry_list_sort (list_sort_treeK strKind_oneLt hoL hS.keysOf (fun v₁ v₂ rest e=>keyKind_strs (by rw[<- e];exact hS)) hl64 fun st' a1 a2=>⟨_,rfl,?_⟩) (args_list_sort _)))
 obtain⟨ss',b1,b2,b3⟩:=sorted_out_str hS a1 a2
 have e:=za7 b2 b3
 subst e
 have hold:∀ b o,s.heap.get? b=some o->(sortedHeap (h'.push (seqObj "list" vs.toList.toArray 0)) h'.objs.size vs.toList ((arrOf st').map (·.2))).get? b=some o:=fun b o e=>by
  have e2:=hk b o e
  have e3:=Heap.get?_push_of_some (seqObj "list" vs.toList.toArray 0) e2
  rw[sortedHeap_old (xj (Heap.lt_size e2)) (Heap.lt_size e3)];exact e3
 have hle:s.heap.objs.size<=h'.objs.size:=xV hlt
 obtain⟨c',ec⟩:=sortedHeap_at (out:=(arrOf st').map (·.2)) hoL
 refine wpAny_pure ⟨_,rfl,⟨.ref h'.objs.size,_,I.laid (t':=tk) hold hle (show ObjOk X.prog X.w _ _ _ (.lst ((qB (ks.map (·.1))).map V.str)) from ⟨?_,((arrOf st').map (·.2)).toList,c',Vals.ofStrs b1,?_⟩),rfl,q _ (I.hok.fresh hle)⟩⟩
 ·rw[xr,kJ,xr]
  have:=sizeLine_eq
  omega
 ·rw[ec]
end
section
variable {X:Cx} {pins:List (Addr×Obj)} {σ:St} {H:Hp} {s:Shared} {a:Addr} {kvs:List (Key×V)}
theorem Inv.ghost{o o':HO}(I:Inv X pins σ H s)(e:H a=some o)(hn:∀ xs,o≠ .tup xs)(hno:∀ b,o≠ .own b)(hnt:∀ ps,o≠ .tbl ps)(hf:∀ ob u,X.H₀ a≠some (.frz ob u))(new:ObjOk X.prog X.w (upd H a o') s.heap a o'):Inv X pins σ (upd H a o') s where
 ok:=I.ok
 os:=I.os
 bare:=I.bare
 base:={
  keep:=I.base.keep
  slot:=I.base.slot
  free:=fun b ob e' n hx=>by
   have:=I.base.free b ob e' n hx
   rw[zc (fun z=>by subst z;rw[e]at this;cases this)];exact this
  there:=I.base.there
  tups:=fun b xs e'=>by
   have:=I.base.tups b xs e'
   rw[zc (fun z=>by subst z;rw[e]at this;exact hn xs (Option.some.inj this))];exact this
  frzs:=fun b ob u e'=>by
   rw[zc (fun z=>by subst z;exact hf ob u e')];exact I.base.frzs b ob u e'
  tbls:=fun b ps e'=>by
   obtain⟨mo,this⟩:=I.base.tbls b ps e'
   exact⟨mo,by rw[zc (fun z=>by subst z;rw[e]at this;exact hnt _ (Option.some.inj this))];exact this⟩ }
 loc:=I.loc
 cell:=I.cell
 free:=by rw[zc (fun z=>by have:=I.free;rw[z,e]at this;cases this)];exact I.free
 freeC:=fun x c e'=>by
  have:=I.freeC x c e'
  rw[zc (fun z=>by rw[z,e]at this;cases this)];exact this
 pin:=fun p h=>by
  obtain⟨e1,n,r⟩:=I.pin p h
  exact⟨e1,by rw[zc (fun z=>by rw[z,e]at n;cases n)];exact n,r⟩
 hok:=fun b u q=>by
  by_cases hb:b=a
  ·subst hb;rw[ze]at q;cases q;exact new
  ·rw[zc hb]at q
   exact (I.hok b u q).stay (fun c v _ r=>r) (fun c r=>by rw[zc (fun z=>by subst z;rw[e]at r;exact hno _ (Option.some.inj r))];exact r) fun c xs r=>by rw[zc (fun z=>by subst z;rw[e]at r;exact hn _ (Option.some.inj r))];exact r
 len:=I.len
noncomputable def Fz(X:Cx)(H Hf:Hp)(a:Addr)(o:Obj)(kvs:List (Key×V)):Prop:=Hf a=some (.frz o (.dK kvs))/\(Hf=H∨(H a=some (.dK kvs)/\Hf=upd H a (.frz o (.dK kvs))/\∀ ob u,X.H₀ a≠some (.frz ob u)))
theorem Inv.freeze(I:Inv X pins σ H s)(e:Rd H a (.dK kvs)):∃ o Hf,s.heap.get? a=some o/\Fz X H Hf a o kvs/\Inv X pins σ Hf s:=by
 rcases e with e | ⟨o,e⟩
 ·obtain⟨z,hd,vs,rel,ob,es,ep,h1,h2⟩:=KJ I.hok e
  have hf:∀ ob u,X.H₀ a≠some (.frz ob u):=fun ob u q=>by
   have:=I.base.frzs a ob u q
   rw[e]at this;cases this
  refine⟨ob,upd H a (.frz ob (.dK kvs)),h1,⟨ze,.inr ⟨e,rfl,hf⟩⟩,I.ghost e (fun _ z=>nomatch z) (fun _ z=>nomatch z) (fun _ z=>nomatch z) hf ⟨h1,z,hd,vs,rel,ob,es,ep,h1,h2⟩⟩
 ·obtain⟨h1,_⟩:=(show ObjOk X.prog X.w H s.heap a (.frz o (.dK kvs)) from I.hok a _ e)
  exact⟨o,H,h1,⟨e,.inl rfl⟩,I⟩
theorem Inv.thaw{o:Obj}{H':Hp}(I:Inv X pins σ H s)(e:H a=some (.frz o (.dK kvs)))(hf:∀ ob u,X.H₀ a≠some (.frz ob u)):Inv X pins σ (upd H a (.dK kvs)) s:=by
 obtain⟨_,z,hd,vs,rel,dd⟩:=(show ObjOk X.prog X.w H s.heap a (.frz o (.dK kvs)) from I.hok a _ e)
 exact I.ghost e (fun _ z=>nomatch z) (fun _ z=>nomatch z) (fun _ z=>nomatch z) hf ⟨z,hd,vs,rel,dd⟩
theorem yf{e:Expr}{Q:VK}(h:wpE X e σ H fun v H'=>Q v H'∨∃ a kvs o,H' a=some (.frz o (.dK kvs))/\(∀ ob u,X.H₀ a≠some (.frz ob u))/\Q v (upd H' a (.dK kvs))):wpE X e σ H Q:=fun pins s I=>
 thn (h pins s I) fun u s' ⟨v,H',I',r,q⟩=>by
  rcases q with q | ⟨a,kvs,o,e,hf,q⟩
  ·exact⟨v,H',I',r,q⟩
  ·exact⟨v,_,I'.thaw (H':=H') e hf,r,q⟩
end
noncomputable def zci(o:Obj):Nat:=match o.data with
 |.dict _ ep=>ep
 |_=>0
theorem yz{P:Program}{w:World}{H:Hp}{h:Heap}{a:Addr}{o:Obj}{kvs:List (Key×V)}(ok:HOk P w H h)(e:H a=some (.frz o (.dK kvs))):∃ vs,KV kvs vs/\h.DictAt (zn P w) a vs (zci o):=by
 obtain⟨h1,z,hd,vs,rel,ob,es,ep,h2,h3,h4,h5⟩:=(show ObjOk P w H h a (.frz o (.dK kvs)) from ok a _ e)
 rw[h1]at h2;cases h2
 have:zci o=ep:=by unfold zci;rw[h4]
 exact⟨vs,rel,o,es,h1,h3,by rw[this];exact h4,h5⟩
section
variable {X:Cx} {tg:Expr}
end
noncomputable def Iti(a:Addr)(o:Obj)(kvs:List (Key×V)):It :=
 ⟨fun i H=>H a=some (.frz o (.dK kvs))/\i<kvs.length,fun i H x H'=>∃ p t,kvs[i]?=some p/\x=.ref t/\H t=none/\H'=upd H t (.tup [kV p.1,p.2]),fun i H=>H a=some (.frz o (.dK kvs))/\kvs.length<=i⟩
theorem yX{P:Program}{w:World}{K:PySem.W.Frag}{tg:Expr}(htg:∃ es n p,tg=.Tuple es n p)(a it:Addr)(o:Obj)(kvs:List (Key×V)):J7 P w K tg (Iti a o kvs) [it] it (fun i h=>∃ ok ov,IsItemIter h it a i kvs.length (zci o) ok ov) where
 mem:=by simp
 obj:=fun i h st b hb=>by
  have e:b=it:=by simpa using hb
  subst e
  obtain⟨ok,ov,st⟩:=st
  exact⟨_,st,fun v z=>by
   have z':Data.fields _=Data.cell v:=z
   cases z'⟩
 keep:=fun i h h' ⟨ok,ov,st⟩ k=>⟨ok,ov,k it (by simp) _ st⟩
 item:=by
  intro X hP hw hK hc i pins s σ H E I hf st hg
  subst hP hw hK
  obtain⟨es,n,p,rfl⟩:=htg
  obtain⟨ok,ov,st⟩:=st
  obtain⟨hq,hx⟩:=hg
  obtain⟨vs,rel,dat⟩:=yz I.hok hq
  obtain⟨f0,f1,f2,f3,f4,f5⟩:=hf it (by simp)
  have hl:=rel.length
  rw[hl]at st
  have hxi:vs[i]?=some (vs[i].1,vs[i].2):=by rw[xB (by omega)]
  refine wpAny_pyNext_items_item st dat hxi fun key h1 hk st1 ht hz kp=>⟨_,rfl,wpAny_letOwnedTupleGo_items (s:={ s with heap:=h1 }) st1 fun h2 st2 sb=>?_⟩
  have hpair:∀ {l:List (Key×V)} {m:List (Key×Value)},KV l m->∀ (j:Nat) (hj:j<l.length) (hj2:j<m.length),l[j].1=m[j].1/\RelV l[j].2 m[j].2:=by
   intro l m r
   unfold KV at r
   induction r with
   |nil=>intro j hj;simp at hj
   |cons h t ih=>
    intro j hj hj2
    cases j with
    |zero=>exact h
    |succ j=>exact ih j (by simpa using hj) (by simpa using hj2)
  obtain⟨e1,e2⟩:=hpair rel i hx (by omega)
  have hitn:it≠s.heap.objs.size:=xj (Heap.lt_size st)
  have old:∀ b o,b≠it->s.heap.get? b=some o->h2.get? b=some o:=fun b o hb e=>(sb.2 b hb).trans (kp b o hb e)
  have hnew:h2.get? s.heap.objs.size=some { cls:=.type "tuple",data:=.seq #[key,vs[i].2] }:=(sb.2 _ (Ne.symm hitn)).trans ht
  have fresh:H s.heap.objs.size=none:=I.hok.fresh (xh _)
  have I1:Inv X pins σ H { s with heap:=h2 }:=I.turned (t':=s.toks) old f0 f1 f3 f4 f5
  have I2:Inv X pins σ (upd H s.heap.objs.size (.tup [kV (kvs[i]'hx).1,(kvs[i]'hx).2])) { s with heap:=h2 }:=I1.track I.sz fresh (Ne.symm (xj I.lt)) (fun x c e=>by
   obtain⟨v,ob,hob,_⟩:=I.cell x c e
   exact xj (Heap.lt_size hob)) (fun p hp=>xj (Heap.lt_size (I.pin p hp).1)) ⟨by rw[sizeLine_eq];simp,[key,vs[i].2],.cons (by rw[e1];exact Yn hk) (.cons e2 .nil),_,hnew,rfl,_,rfl⟩
  refine⟨.ref s.heap.objs.size,_,I2,rfl,⟨kvs[i],_,by simp[hx],rfl,fresh,rfl⟩,⟨key,vs[i].2,by rw[hl];exact st2⟩,fun b hb=>?_⟩
  have e:b=it:=by simpa using hb
  subst e
  rw[zc hitn];exact f0
 done:=by
  intro X hP hw hK hc i pins s σ H E I hf st hg
  subst hP hw hK
  obtain⟨ok,ov,st⟩:=st
  obtain⟨hq,hx⟩:=hg
  obtain⟨vs,rel,dat⟩:=yz I.hok hq
  obtain⟨f0,f1,f2,f3,f4,f5⟩:=hf it (by simp)
  have hl:=rel.length
  rw[hl]at st
  exact wpAny_pyNext_items_end (I.ok.hd hc) st dat (xo (by omega)) fun h' eb=>⟨rfl,I.turned (t':=s.toks) (fun b o hb e=>eb b o hb e) f0 f1 f3 f4 f5⟩
 self:=fun _ _ _ _ _ ⟨ok,ov,st⟩ h=>PySem.W.kcp_self st h
section
variable {X:Cx} {tg o:Expr} {apos cpos:Pos}
noncomputable def zeM(X:Cx)(tl:TE):TI:=fun σ H R=>tl σ H fun x H1=>∃ a kvs,x=.ref a/\Rd H1 a (.dK kvs)/\∀ o Hf,Fz X H1 Hf a o kvs->R (Iti a o kvs) Hf
theorem zaA {tl:TE}(htg:∃ es n p,tg=.Tuple es n p) (hl:PE X o tl) (hb:attributeBase o "items" X.env (eval o X.env)=eval o X.env) (hline:(apos.endLine==cpos.line)=true):PI X tg (.Call (.Attribute o "items" apos) [] [] cpos) (zeM X tl):=by
 intro pins s σ H R I h
 refine wpAny_Call_method0_late hb hline (thn (hl pins s σ H _ I h) fun u s1 ⟨x,H1,I1,rx,a,kvs,ex,hr,q⟩=>?_)
 subst ex
 obtain rfl:u=Value.ref a:=rx
 obtain⟨t1,t2,hd⟩:=K7 I1 (.inl ⟨kvs,hr⟩)
 refine⟨_,_,PySem.F.plainAttrs_dict,PySem.F.slot_dict_items,PySem.F.type_dict_items,t1,t2,?_⟩
 obtain⟨z,_,vs0,rel0,dd0⟩:=ZC I1.hok hr
 refine Calls.callWith_builtin rfl (PySem.evalArgs_none ?_)
 refine call_meetsIn PySem.F.slot_dict_items t1 PySem.F.entry_dict_items (PySem.F.args_dict_items_1 _) (meets_dict_items (zn X.prog X.w) a hd) ⟨⟨vs0,dd0⟩,?_⟩
 obtain⟨o,Hf,ho,fz,If⟩:=I1.freeze hr
 have Ik:=If.kept (h':=s1.heap.push { cls:=.type "dict_items",data:=.fields #[.ref a] }) (t':=s1.toks) fun b o e=>Heap.get?_push_of_some _ e
 obtain⟨vs,rel,dat⟩:=yz Ik.hok fz.1
 refine wpAny_pyIter_items ⟨_,Heap.get?_push_size _ rfl,rfl,rfl⟩ dat ?_
 refine⟨_,[_],_,_,Hf,rfl,Ik.kept (t':=s1.toks) fun b o e=>Heap.get?_push_of_some _ e,yX htg a _ o kvs,?_,fun b hb=>?_,q o Hf fz⟩
 ·rw[rel.length];exact⟨.none,.none,Heap.get?_push_size _ rfl⟩
 ·have e:b=(s1.heap.push { cls:=.type "dict_items",data:=.fields #[.ref a] }).objs.size:=by simpa using hb
  subst e
  exact Ik.fpOk (xh _) (Ik.hok.fresh (xh _))
end
end L2
namespace L3
open PySem PySem.Spec PyProof.Rows L2
variable [Cs]
noncomputable def Eqv(H H':Hp):Prop:=∀ b o,H b=some o->H' b=some o∨∃ kvs,(o=.dK kvs∨∃ ob,o=.frz ob (.dK kvs))/\Rd H' b (.dK kvs)
section
variable {M0 M:Addr->Prop} {F F':Fp} {Γ Γ':Gv} {ν:Nu} {H H' Hf:Hp} {X:Cx} {a:Addr} {o:Obj} {kvs:List (Key×V)}
theorem Eqv.refl(H:Hp):Eqv H H:=fun _ _ e=>.inl e
theorem Eqv.rd(h:Eqv H H'){b:Addr}{kvs:List (Key×V)}(r:Rd H b (.dK kvs)):Rd H' b (.dK kvs):=by
 rcases r with e | ⟨ob,e⟩
 ·rcases h b _ e with z | ⟨k,z | ⟨ob,z⟩,r⟩
  ·exact .inl z
  ·cases z;exact r
  ·cases z
 ·rcases h b _ e with z | ⟨k,z | ⟨ob',z⟩,r⟩
  ·exact .inr ⟨_,z⟩
  ·cases z
  ·cases z;exact r
theorem Eqv.of(h:Eqv H H'){b:Addr}{o:HO}(e:H b=some o)(h1:∀ kvs,o≠ .dK kvs)(h2:∀ ob kvs,o≠ .frz ob (.dK kvs)):H' b=some o:=by
 rcases h b _ e with z | ⟨k,z | ⟨ob,z⟩,r⟩
 ·exact z
 ·exact absurd z (h1 k)
 ·exact absurd z (h2 ob k)
theorem Eqv.stay(h:Eqv H H'){b:Addr}(n:H b≠none):H' b≠none:=by
 cases q:H b with
 |none=>exact absurd q n
 |some o=>
  rcases h b _ q with z | ⟨k,_,z | ⟨ob,z⟩⟩<;>rw[z]<;>exact fun w=>nomatch w
mutual
theorem Rep.eqv(h:Eqv H H'):∀ {v:V}{d:PyData},Rep M H v d->Rep M H' v d
 |_,_,.none=>.none
 |_,_,.bool b=>.bool b
 |_,_,.int i=>.int i
 |_,_,.str x=>.str x
 |_,_,.list e n r=>.list (h.of e (fun _ z=>nomatch z) (fun _ _ z=>nomatch z)) n (RepL.eqv h r)
 |_,_,.tuple e r=>.tuple (h.of e (fun _ z=>nomatch z) (fun _ _ z=>nomatch z)) (RepL.eqv h r)
 |_,_,.dict e n k r=>.dict (h.rd e) n k (RepL.eqv h r)
 |_,_,.inst e n k r=>.inst (h.of e (fun _ z=>nomatch z) (fun _ _ z=>nomatch z)) n k (RepL.eqv h r)
theorem RepL.eqv(h:Eqv H H'):∀ {vs:List V}{ds:List PyData},RepL M H vs ds->RepL M H' vs ds
 |_,_,.nil=>.nil
 |_,_,.cons r t=>.cons (Rep.eqv h r) (RepL.eqv h t)
end
theorem RS.eqv(r:RS M0 F Γ ν H)(h:Eqv H H')(hF:∀ i,∀ a∈F i,H' a=H a):RS M0 F Γ ν H' :=
 ⟨fun a ha=>h.stay (r.al0 a ha),r.dis0,r.nd,r.dis,fun i o e=>let ⟨v,e1,q⟩:=r.at' i o e;⟨v,e1,q.go (fun _ _ x=>Rep.eqv h x) (fun b xs e=>h.of e (fun _ z=>nomatch z) (fun _ _ z=>nomatch z)) (hF i)⟩,r.emp,r.len⟩
theorem K0(z:Fz X H Hf a o kvs):Eqv H Hf:=by
 obtain⟨e,rfl | ⟨e1,rfl,_⟩⟩:=z
 ·exact .refl _
 ·intro b u eb
  by_cases hb:b=a
  ·subst hb
   rw[e1]at eb;cases eb
   exact .inr ⟨kvs,.inl rfl,.inr ⟨o,ze⟩⟩
  ·exact .inl (by rw[zc hb];exact eb)
theorem V2(e:H a=some (.frz o (.dK kvs))):Eqv H (upd H a (.dK kvs)):=fun b u eb=>by
 by_cases hb:b=a
 ·subst hb
  rw[e]at eb;cases eb
  exact .inr ⟨kvs,.inr ⟨o,rfl⟩,.inl ze⟩
 ·exact .inl (by rw[zc hb];exact eb)
theorem zbk{H'f:Hp}(e:H a=some (.dK kvs))(s:Stp F (upd H a (.frz o (.dK kvs))) F' H'f)(hn:∀ i,a∉F i):Stp F H F' (upd H'f a (.dK kvs)):=by
 have ka:=s.keep a _ ze hn
 refine⟨fun b u eb nb=>?_,fun b xs eb=>?_,fun b hb=>?_⟩
 ·by_cases hb:b=a
  ·subst hb
   rw[e]at eb;cases eb
   exact⟨ze,ka.2⟩
  ·rw[zc hb]
   exact s.keep b u (by rw[zc hb];exact eb) nb
 ·have hb:b≠a:=fun z=>by subst z;rw[e]at eb;cases eb
  rw[zc hb]
  exact s.tups b xs (by rw[zc hb];exact eb)
 ·by_cases z:b=a
  ·subst z;rw[ze];exact fun w=>nomatch w
  ·rw[zc z]
   exact s.stay b (by rw[zc z];exact hb)
end
noncomputable def Jq(M0:Addr->Prop)(F:Fp)(i:Nat):Addr->Prop:=fun a=>M0 a∨a∈F i
section
variable {M0:Addr->Prop} {F F':Fp} {Γ Γ':Gv} {ν:Nu} {H H':Hp} {i:Nat}
theorem Z8{F3:Fp}(h:F3 i= []):MM (Jq M0 F i) F3=MM M0 (fset F3 i (F i)):=by
 funext a
 apply propext
 constructor
 ·rintro ((h1 | h1) | ⟨j,h1⟩)
  ·exact .inl h1
  ·exact .inr ⟨i,by rw[zd];exact h1⟩
  ·refine .inr ⟨j,?_⟩
   rw[zf (fun z=>by subst z;rw[h]at h1;cases h1)];exact h1
 ·rintro (h1 | ⟨j,h1⟩)
  ·exact .inl (.inl h1)
  ·by_cases z:j=i
   ·subst z;rw[zd]at h1;exact .inl (.inr h1)
   ·rw[zf z]at h1;exact .inr ⟨j,h1⟩
theorem vI:fset (fset F i []) i (F i)=F:=by
 funext j
 by_cases z:j=i
 ·subst z;rw[zd]
 ·rw[zf z,zf z]
theorem RS.hide(r:RS M0 F Γ ν H):RS (Jq M0 F i) (fset F i []) (Γ.set i none) ν H:=by
 have hm:MM (Jq M0 F i) (fset F i [])=MM M0 F:=by rw[Z8 zd,vI]
 have sub:∀ j a,a∈fset F i [] j->j≠i/\a∈F j:=fun j a h=>by
  by_cases z:j=i
  ·subst z;rw[zd]at h;cases h
  ·rw[zf z]at h;exact⟨z,h⟩
 refine⟨fun a h=>?_,fun j a h=>?_,fun j=>?_,fun j k a h1 h2=>r.dis _ _ a (sub _ _ h1).2 (sub _ _ h2).2,fun j o e=>?_,fun j h=>?_,by rw[xG];exact r.len⟩
 ·rcases h with h | h
  ·exact r.al0 a h
  ·exact r.al a (.inr ⟨i,h⟩)
 ·obtain⟨h1,h2⟩:=sub j a h
  rintro (z | z)
  ·exact r.dis0 j a h2 z
  ·exact h1 (r.dis _ _ a h2 z)
 ·by_cases z:j=i
  ·subst z;rw[zd];exact .nil
  ·rw[zf z];exact r.nd j
 ·by_cases z:j=i
  ·subst z
   by_cases hl:j<Γ.length
   ·rw[xi hl]at e;cases e
   ·rw[xo (by simpa using hl)]at e;cases e
  ·rw[xg (Ne.symm z)]at e
   rw[hm,zf z]
   exact r.at' j o e
 ·by_cases z:j=i
  ·subst z;exact zd
  ·rw[zf z]
   refine r.emp j fun o e=>h o ?_
   rw[xg (Ne.symm z)];exact e
theorem RS.unhide{o:OV}(r:RS M0 F Γ ν H)(e:Γ[i]?=some (some o))(r':RS (Jq M0 F i) F' Γ' ν H')(e':Γ'[i]?=some none)(s:Stp (fset F i []) H F' H'):RS M0 (fset F' i (F i)) (Γ'.set i (some o)) ν H'/\Stp F H (fset F' i (F i)) H':=by
 have hi':i<Γ'.length:=(xb.mp e').1
 have hFi:F' i= []:=r'.emp i fun o z=>by rw[e']at z;cases z
 have hm:MM (Jq M0 F i) F'=MM M0 (fset F' i (F i)):=Z8 hFi
 have kp:∀ a∈F i,H' a=H a/\∀ j,a∉F' j:=fun a ha=>by
  obtain⟨u,eu⟩:=r.laidF ha
  obtain⟨k1,k2⟩:=s.keep a u eu fun j hj=>by
   by_cases z:j=i
   ·subst z;rw[zd]at hj;cases hj
   ·rw[zf z]at hj;exact z (r.dis _ _ a hj ha)
  exact⟨by rw[k1,eu],k2⟩
 have cls:∀ j a,a∈fset F' i (F i) j->(j=i/\a∈F i)∨(j≠i/\a∈F' j):=fun j a h=>by
  by_cases z:j=i
  ·subst z;rw[zd]at h;exact .inl ⟨rfl,h⟩
  ·rw[zf z]at h;exact .inr ⟨z,h⟩
 have s0:MM (Jq M0 F i) (fset F i [])=MM M0 F:=by rw[Z8 zd,vI]
 refine⟨⟨fun a h=>r'.al0 a (.inl h),fun j a h=>?_,fun j=>?_,fun j k a h1 h2=>?_,fun j p ep=>?_,fun j h=>?_,by rw[xG];exact r'.len⟩,⟨fun b u eb nb=>?_,s.tups,s.stay⟩⟩
 ·rcases cls j a h with ⟨_,h⟩ | ⟨_,h⟩
  ·exact r.dis0 i a h
  ·exact fun z=>r'.dis0 j a h (.inl z)
 ·by_cases z:j=i
  ·subst z;rw[zd];exact r.nd _
  ·rw[zf z];exact r'.nd j
 ·rcases cls j a h1 with ⟨z1,h1⟩ | ⟨z1,h1⟩<;>rcases cls k a h2 with ⟨z2,h2⟩ | ⟨z2,h2⟩
  ·rw[z1,z2]
  ·exact absurd h2 ((kp a h1).2 k)
  ·exact absurd h1 ((kp a h2).2 j)
  ·exact r'.dis _ _ a h1 h2
 ·by_cases z:j=i
  ·subst z
   rw[xi hi']at ep
   cases ep
   obtain⟨v,ev,q⟩:=r.at' j _ e
   refine⟨v,ev,?_⟩
   rw[zd,<- hm]
   exact q.go (fun w d x=>zi s (fun a h=>(r.hide (i:=j)).al0 a h) (by rw[s0];exact x)) s.tups fun a ha=>(kp a ha).1
  ·rw[xg (Ne.symm z)]at ep
   rw[<- hm,zf z]
   exact r'.at' j p ep
 ·by_cases z:j=i
  ·subst z
   rw[xi hi']at h
   exact absurd rfl (h o)
  ·rw[zf z]
   refine r'.emp j fun p ep=>h p ?_
   rw[xg (Ne.symm z)];exact ep
 ·obtain⟨k1,k2⟩:=s.keep b u eb fun j hj=>by
   by_cases z:j=i
   ·subst z;rw[zd]at hj;cases hj
   ·rw[zf z]at hj;exact nb j hj
  refine⟨k1,fun j hj=>?_⟩
  rcases cls j b hj with ⟨_,h⟩ | ⟨_,h⟩
  ·exact nb i h
  ·exact k2 j h
end
noncomputable def hid{γ:Type}(z:Option Nat)(f:EM γ):EM γ:=fun Γ=>match z with
 |none=>f Γ
 |some i=>match Γ[i]? with
  |some (some o)=>match f (Γ.set i none) with
   |.ok (y,Γ2)=>match Γ2[i]? with
    |some none=>.ok (y,Γ2.set i (some o))
    |_=>.bad
   |_=>.bad
  |_=>.bad
noncomputable def Wk(X:Cx)(F:Fp)(H Hf:Hp):Prop:=Hf=H∨∃ a o kvs,Fz X H Hf a o kvs/\∀ i,a∉F i
noncomputable def JIw(X:Cx)(M0:Addr->Prop)(F:Fp)(J:It)(z:List PyData×Option Nat)(H Hf:Hp):Prop:=match z.2 with
 |none=>Wk X F H Hf/\JI M0 F J z.1 Hf
 |some i=>Hf=H/\JI (Jq M0 F i) (fset F i []) J z.1 H
noncomputable def SIw(X:Cx)(XP:XPT)(mp:List Nat)(tg iter:Expr)(f:EM (List PyData×Option Nat)):Prop:=∀ (M0:Addr->Prop) (F:Fp) (Γ:Gv) (ν:Nu) (σ:St) (H:Hp) (R:It->Hp->Prop),RS M0 F Γ ν H->Sees mp ν σ ->
 EPost M0 F ν σ H XP (fun F' Γ' H' z=>∀ J Hf,JIw X M0 F' J z H' Hf->R J Hf) (f Γ)->wpI X tg iter σ H R
section
variable {X:Cx} {XP:XPT} {mp:List Nat} {a b c e tg iter elt:Expr} {es ifs:List Expr} {pos p p2:Pos} {fa fb fc:EM FV} {ta tb:EM Bool} {na nb:EM (List PyData)}
noncomputable def fStd(f:EM (List PyData)):EM (List PyData×Option Nat):=fun Γ=>(f Γ).bind fun (ds,Γ1)=>.ok ((ds,none),Γ1)
theorem zdh(h:SI X XP mp tg iter na):SIw X XP mp tg iter (fStd na):=fun M0 F Γ ν σ H R rs hs hp=>
 h M0 F Γ ν σ H R rs hs (hp.seq.mono fun F1 Γ1 H1 ds rs1 s1 h1 J hJ=>h1 F1 H1 rs1 (.refl _ _) J H1 ⟨.inl rfl,hJ⟩)
noncomputable def loopG{β γ:Type}(k:Nat)(t:IT)(cond:EM Bool)(it:EM β)(add:γ->β->γ):List PyData->γ->Gv->R (γ×Gv)
 |[],ys,Γ=>.ok (ys,Γ)
 |d::ds,ys,Γ=>match tgF t d (Γ++List.replicate k none) with
  |none=>.bad
  |some Γ2=>match cond Γ2 with
   |.ok (true,Γ3)=>match it Γ3 with
    |.ok (y,Γ4)=>loopG k t cond it add ds (add ys y) (Γ4.take Γ.length)
    |_=>.bad
   |.ok (false,Γ3)=>loopG k t cond it add ds ys (Γ3.take Γ.length)
   |_=>.bad
structure Ke{α β γ δ:Type}(ac:Acc α β)(ad:γ->δ->γ)(RA:(Addr->Prop)->Fp->Hp->α->γ->Prop)(RB:(Addr->Prop)->Fp->Hp->β->δ->Prop)(ln:γ->Nat):Prop where
 stp:∀ {M0:Addr->Prop} {F F':Fp} {H H':Hp} {x:α} {y:γ},RA M0 F H x y->Stp F H F' H'->(∀ a,M0 a->H a≠none)->RA M0 F' H' x y
 add:∀ {M0:Addr->Prop} {F:Fp} {H:Hp} {x:α} {y:γ} {u:β} {d:δ},RA M0 F H x y->RB M0 F H u d->RA M0 F H (ac.add x u) (ad y d)
 bst:∀ {M0:Addr->Prop} {F F':Fp} {H H':Hp} {u:β} {d:δ},RB M0 F H u d->Stp F H F' H'->(∀ a,M0 a->H a≠none)->RB M0 F' H' u d
 len:∀ {M0:Addr->Prop} {F:Fp} {H:Hp} {x:α} {y:γ},RA M0 F H x y->ac.len x=ln y
 lin:∀ (y:γ) (d:δ),ln (ad y d)<=ln y+1
 eqv:∀ {M0:Addr->Prop} {F:Fp} {H H':Hp} {x:α} {y:γ},RA M0 F H x y->Eqv H H'->RA M0 F H' x y
 mm:∀ {M0 M0':Addr->Prop} {F F':Fp} {H:Hp} {x:α} {y:γ},MM M0 F=MM M0' F'->RA M0 F H x y->RA M0' F' H x y
theorem jC{α β γ δ:Type}{ac:Acc α β}{add:γ->δ->γ}{RA:(Addr->Prop)->Fp->Hp->α->γ->Prop}{RB:(Addr->Prop)->Fp->Hp->β->δ->Prop}{len:γ->Nat}(AR:Ke ac add RA RB len){N':List Str}{scope:Scope}{n k:Nat}{ix:List Nat}{t:IT}{cond:EM Bool}{it:EM δ}{te:St->Hp->(β->Hp->Prop)->Prop}{M0:Addr->Prop}{F1:Fp}{ν:Nu}{σ:St}{H1:Hp}{J:It}{ds:List PyData}{P:Fp->Gv->Hp->γ->Prop}{Γ1:Gv}{Q:α->Hp->Prop}{c0:γ}
  (hm:∀ j i:Nat,ix[j]?=some i->∃ m,mp[i]?=some m/\m<n) (hN':N'.length=k+ix.length) (h0:RA M0 F1 H1 ac.a0 c0) (hl0:len c0=0)
  (hg:∀ cl C s2 H2 fp,SG (X.comp N' scope cl C s2 H2 fp) (mpC mp n k ix) (·<n) tg t) (hc:∀ cl C s2 H2 fp,SF (X.comp N' scope cl C s2 H2 fp) XP0 (mpC mp n k ix) ifs cond)
  (he:∀ (M0:Addr->Prop) (F:Fp) (Γ:Gv) (ν:Nu) (σ:St) (H:Hp) (Q:β->Hp->Prop),RS M0 F Γ ν H->Sees (mpC mp n k ix) ν σ->EPost M0 F ν σ H XP0 (fun F' Γ' H' d=>∀ y,RB M0 F' H' y d->Q y H') (it Γ)->te σ H Q)
  (rs1:RS M0 F1 Γ1 ν H1) (hs:Sees mp ν σ) (hJ:JI M0 F1 J ds H1) (hd:ds.length<=1000000) (hn:Γ1.length=n) (hp:EPost M0 F1 ν σ H1 XP P (loopG k t cond it add ds c0 Γ1))
  (fin:∀ F' Γ' H' ys vs,RS M0 F' Γ' ν H'->RA M0 F' H' vs ys->P F' Γ' H' ys->Stp F1 H1 F' H'->Q vs H') :
  Wj ac k ix (gU X N' scope tg) (fU X N' scope ifs) te σ J H1 Q:=by
 have hνn:ν.length=n:=by rw[rs1.len,hn]
 refine⟨fun i m vs H=>m=ds.length-i/\i<=ds.length/\∃ F' Γ' ys,RS M0 F' Γ' ν H/\Stp F1 H1 F' H/\RA M0 F' H vs ys/\Γ'.length=n/\len ys<=i/\EPost M0 F' ν σ H XP P (loopG k t cond it add (ds.drop i) ys Γ'),⟨ds.length,by simp,xT _,F1,Γ1,c0,rs1,.refl _ _,h0,hn,by rw[hl0];exact xh _,hp⟩,?_⟩
 rintro i m vs H ⟨rfl,hil,F',Γ',ys,rs,st,rv,hln,hyl,hp⟩
 have hsz:=sizeLine_eq
 refine⟨by rw[AR.len rv];omega,?_⟩
 by_cases hlt:i<ds.length
 ·rw[uj hlt,loopG]at hp
  obtain⟨jgo,jst⟩:=hJ i F' H st rs1.al0
  obtain⟨go,yl⟩:=jgo ds[i] (by simp[hlt])
  refine .inr ⟨go,fun vs' H'=>∃ F'' Γ'' ys',RS M0 F'' Γ'' ν H'/\Stp F1 H1 F'' H'/\RA M0 F'' H' vs' ys'/\Γ''.length=n/\len ys'<=i+1/\EPost M0 F'' ν σ H' XP P (loopG k t cond it add (ds.drop (i+1)) ys' Γ''),fun vs' H' h=>⟨ds.length-(i+1),by omega,rfl,hlt,h⟩,fun x H2 hy=>?_⟩
  obtain⟨s2,rx⟩:=yl x H2 hy
  have rs2:=(rs.same s2).ext k
  have hcl:(cS k ix σ).length=N'.length:=by unfold cS;simp[hN']
  have hsee:Sees (mpC mp n k ix) (ν++List.replicate k none) (cS k ix σ):=fun s j v e1 e2=>by
   by_cases hsk:s<k
   ·rw[zag hsk]at e1
    cases e1
    rw[xf (by omega),xz]at e2
    split at e2<;>cases e2
   ·obtain⟨j',rfl⟩:∃ j',s=k+j':=⟨s-k,by omega⟩
    rw[vM]at e1
    cases q:ix[j']? with
    |none=>rw[q]at e1;cases e1
    |some i0=>
     rw[q]at e1
     obtain⟨m,hm1,hm2⟩:=hm j' i0 q
     have:mp.getD i0 0=m:=by rw[xS,hm1];rfl
     have ej:m=j:=by
      have e3:some (mp.getD i0 0)=some j:=e1
      rw[this]at e3;exact Option.some.inj e3
     subst ej
     rw[xc (by omega)]at e2
     exact Ky q (hs i0 m v hm1 e2)
  cases et:tgF t ds[i] (Γ'++List.replicate k none) with
  |none=>rw[et]at hp;exact hp.elim
  |some Γ2=>
   rw[et]at hp
   intro cl C s2' H2' fp
   refine hg cl C s2' H2' fp M0 F' _ Γ2 _ (cS k ix σ) H2 x ds[i] _ rs2 hsee hcl rx et fun F3 ν3 σ3 rs3 s3 hs3 hl3 n3 m3=>⟨?_,fun cl C s2' H2' fp=>?_⟩
   ·apply xI
    intro j
    rw[List.getElem?_drop,List.getElem?_drop]
    by_cases hj:j<ix.length
    ·obtain⟨m,hm1,hm2⟩:=hm j ix[j] (by simp[hj])
     refine m3 (k+j) m ?_ hm2
     rw[vM,xB hj]
     show some (mp.getD ix[j] 0)=some m
     rw[xS,hm1];rfl
    ·have hl3':σ3.length=N'.length:=hl3
     rw[xo (by omega),xo (by omega)]
   ·have stA:Stp F1 H1 F3 H2:=(st.trans (.same s2)).trans s3
    have back:∀ {F4:Fp} {Γ4:Gv} {H4:Hp},RS M0 F4 Γ4 ν3 H4->RS M0 (Ja F4 n) (Γ4.take n) ν H4/\Stp F4 H4 (Ja F4 n) H4:=fun {F4 Γ4 H4} r4=>by
     obtain⟨r5,s5⟩:=r4.cut n
     have:ν3.take n=ν:=by
      apply xI
      intro j
      by_cases hj:j<n
      ·rw[xF hj,n3 j hj,xc (by omega)]
      ·rw[xo (by rw[xH];omega),xo (by omega)]
     rw[this]at r5
     exact⟨r5,s5⟩
    have lenOf:∀ {F4:Fp} {Γ4:Gv} {H4:Hp},RS M0 F4 Γ4 ν3 H4->(Γ4.take n).length=n:=fun {F4 Γ4 H4} r4=>by
     have h1:=r4.len
     have h2:=rs3.len
     have h3:Γ2.length=n+k:=by rw[We _ _ _ _ et,xK,xX,hln]
     rw[xH];omega
    refine hc cl C s2' H2' fp M0 F3 Γ2 ν3 σ3 H2 _ rs3 hs3 ?_
    dsimp only at hp
    cases ec:cond Γ2 with
    |bad=>rw[ec]at hp;exact hp.elim
    |exc xx yy=>rw[ec]at hp;exact hp.elim
    |ok z=>
     obtain⟨bb,Γ3⟩:=z
     rw[ec]at hp
     intro F4 H4 rs4 s4
     have rvA:RA M0 F4 H4 vs ys:=AR.stp (AR.stp (AR.stp rv (.same s2) rs.al0) s3 (rs.same s2).al0) s4 rs3.al0
     cases bb with
     |false=>
      refine Ws ?_
      obtain⟨r5,s5⟩:=back rs4
      have stB:=(stA.trans s4).trans s5
      rw[hln]at hp
      exact⟨_,_,ys,r5,stB,AR.stp rvA s5 rs4.al0,lenOf rs4,by omega,hp.step ((((Stp.same s2).trans s3).trans s4).trans s5)⟩
     |true=>
      refine Wt (he M0 F4 Γ3 ν3 σ3 H4 _ rs4 hs3 ?_)
      dsimp only at hp
      cases ee:it Γ3 with
      |bad=>rw[ee]at hp;exact hp.elim
      |exc xx yy=>rw[ee]at hp;exact hp.elim
      |ok z=>
       obtain⟨u,Γ4⟩:=z
       rw[ee]at hp
       intro F5 H5 rs5 s5 v hv
       dsimp only at hp
       obtain⟨r6,s6⟩:=back rs5
       have stB:=((stA.trans s4).trans s5).trans s6
       rw[hln]at hp
       exact⟨_,_,add ys u,r6,stB,AR.add (AR.stp (AR.stp rvA s5 rs4.al0) s6 rs5.al0) (AR.bst hv s6 rs5.al0),lenOf rs5,by have:=AR.lin ys u;omega,hp.step (((((Stp.same s2).trans s3).trans s4).trans s5).trans s6)⟩
 ·have e:i=ds.length:=by omega
  subst e
  rw[uh,loopG]at hp
  obtain⟨jgo,jst⟩:=hJ _ F' H st rs1.al0
  exact .inl ⟨jst (xh _),fin F' Γ' H ys vs rs rv (hp F' H rs (.refl _ _)) st⟩
theorem wL{β γ:Type}{k:Nat}{t:IT}{cond:EM Bool}{it:EM β}{add:γ->β->γ}:∀ (ds:List PyData) (ys:γ) (Γ:Gv) (x:Exc) (Γ':Gv),loopG k t cond it add ds ys Γ≠ .exc x Γ'
 |[],ys,Γ,x,Γ',h=>by cases h
 |d::ds,ys,Γ,x,Γ',h=>by
  rw[loopG]at h
  split at h
  ·cases h
  ·split at h
   ·split at h
    ·exact wL ds _ _ _ _ h
    ·cases h
   ·exact wL ds _ _ _ _ h
   ·cases h
theorem zbB{H:Hp}{a b:Addr}{o u:HO}(h:a≠b):upd (upd H a o) b u=upd (upd H b u) a o:=by
 funext c
 unfold upd
 by_cases h1:c=b
 ·rw[if_pos h1,if_neg (fun z=>h (z.symm.trans h1)),if_pos h1]
 ·rw[if_neg h1]
  by_cases h2:c=a
  ·rw[if_pos h2,if_pos h2]
  ·rw[if_neg h2,if_neg h2,if_neg h1]
theorem zdY{α β γ δ:Type}{ac:Acc α β}{ad:γ->δ->γ}{RA:(Addr->Prop)->Fp->Hp->α->γ->Prop}{RB:(Addr->Prop)->Fp->Hp->β->δ->Prop}{ln:γ->Nat}(AR:Ke ac ad RA RB ln){N':List Str}{scope:Scope}{n k:Nat}{ix:List Nat}{t:IT}{cond:EM Bool}{it:EM δ}{te:St->Hp->(β->Hp->Prop)->Prop}{M0:Addr->Prop}{F1:Fp}{ν:Nu}{σ:St}{H1 Hf:Hp}{J:It}{ds:List PyData}{Γ1:Gv}{Q:VK}{c0:γ}
  (hm:∀ j i:Nat,ix[j]?=some i->∃ m,mp[i]?=some m/\m<n) (hN':N'.length=k+ix.length) (h0:∀ M0 F H,RA M0 F H ac.a0 c0) (hl0:ln c0=0)
  (hg:∀ cl C s2 H2 fp,SG (X.comp N' scope cl C s2 H2 fp) (mpC mp n k ix) (·<n) tg t) (hc:∀ cl C s2 H2 fp,SF (X.comp N' scope cl C s2 H2 fp) XP0 (mpC mp n k ix) ifs cond)
  (he:∀ (M0:Addr->Prop) (F:Fp) (Γ:Gv) (ν:Nu) (σ:St) (H:Hp) (Q:β->Hp->Prop),RS M0 F Γ ν H->Sees (mpC mp n k ix) ν σ->EPost M0 F ν σ H XP0 (fun F' Γ' H' d=>∀ y,RB M0 F' H' y d->Q y H') (it Γ)->te σ H Q)
  (rs1:RS M0 F1 Γ1 ν H1) (hs:Sees mp ν σ) (wk:Wk X F1 H1 Hf) (hJ:JI M0 F1 J ds Hf) (hd:ds.length<=1000000) (hn:Γ1.length=n)
  (hp:EPost M0 F1 ν σ H1 XP (fun F' Γ' H' ys=>∀ vs p,RA M0 F' H' vs ys->H' p=none->Q (.ref p) (upd H' p (ac.ho vs))) (loopG k t cond it ad ds c0 Γ1)) :
  Wj ac k ix (gU X N' scope tg) (fU X N' scope ifs) te σ J Hf fun ys H2=>∀ p,H2 p=none->(Q (.ref p) (upd H2 p (ac.ho ys))∨∃ a kvs o,upd H2 p (ac.ho ys) a=some (.frz o (.dK kvs))/\(∀ ob u,X.H₀ a≠some (.frz ob u))/\Q (.ref p) (upd (upd H2 p (ac.ho ys)) a (.dK kvs))):=by
 have plain:Hf=H1->Wj ac k ix (gU X N' scope tg) (fU X N' scope ifs) te σ J Hf fun ys H2=>∀ p,H2 p=none->(Q (.ref p) (upd H2 p (ac.ho ys))∨∃ a kvs o,upd H2 p (ac.ho ys) a=some (.frz o (.dK kvs))/\(∀ ob u,X.H₀ a≠some (.frz ob u))/\Q (.ref p) (upd (upd H2 p (ac.ho ys)) a (.dK kvs))):=fun e=>by
  subst e
  exact jC AR hm hN' (h0 _ _ _) hl0 hg hc he rs1 hs hJ hd hn hp fun F' Γ' H' ys vs rs' rv hP st p hp'=>.inl (hP vs p rv hp')
 rcases wk with e | ⟨a,o,kvs,⟨ef,e | ⟨ea,e,hH⟩⟩,hna⟩
 ·exact plain e
 ·exact plain e
 ·subst e
  have hp2:EPost M0 F1 ν σ (upd H1 a (.frz o (.dK kvs))) XP (fun F' Γ' H' ys=>∀ vs p,RA M0 F' (upd H' a (.dK kvs)) vs ys->upd H' a (.dK kvs) p=none->Q (.ref p) (upd (upd H' a (.dK kvs)) p (ac.ho vs))) (loopG k t cond it ad ds c0 Γ1):=by
   cases er:loopG k t cond it ad ds c0 Γ1 with
   |bad=>rw[er]at hp;exact hp
   |exc x y=>exact absurd er (wL _ _ _ _ _)
   |ok z=>
    rw[er]at hp
    intro F' H' rs' s'
    have ka:=(s'.keep a _ ze hna).1
    exact hp F' _ (rs'.eqv (V2 ka) fun i b hb=>zc fun z=>(s'.keep a _ ze hna).2 i (by rw[<- z];exact hb)) (zbk ea s' hna)
  refine jC AR hm hN' (h0 _ _ _) hl0 hg hc he (rs1.eqv (K0 ⟨ze,.inr ⟨ea,rfl,hH⟩⟩) fun i b hb=>zc fun z=>hna i (by rw[<- z];exact hb)) hs hJ hd hn hp2 fun F' Γ' H' ys vs rs' rv hP st p hp'=>.inr ⟨a,kvs,o,?_,hH,?_⟩
  ·have ka:=(st.keep a _ ze hna).1
   rw[zc (fun z=>by subst z;rw[ka]at hp';cases hp')];exact ka
  ·have ka:=(st.keep a _ ze hna).1
   have hpa:p≠a:=fun z=>by subst z;rw[ka]at hp';cases hp'
   rw[zbB hpa]
   exact hP vs p (AR.eqv rv (V2 ka)) (by rw[zc hpa];exact hp')
theorem zdZ{α β γ δ:Type}{ac:Acc α β}{ad:γ->δ->γ}{RA:(Addr->Prop)->Fp->Hp->α->γ->Prop}{RB:(Addr->Prop)->Fp->Hp->β->δ->Prop}{ln:γ->Nat}(AR:Ke ac ad RA RB ln){N':List Str}{scope:Scope}{n k:Nat}{ix:List Nat}{t:IT}{cond:EM Bool}{it:EM δ}{te:St->Hp->(β->Hp->Prop)->Prop}{M0:Addr->Prop}{F1:Fp}{ν:Nu}{σ:St}{H1 Hf:Hp}{J:It}{z:List PyData×Option Nat}{Γ1:Gv}{Q:VK}{c0:γ}
  (hm:∀ j i:Nat,ix[j]?=some i->∃ m,mp[i]?=some m/\m<n) (hN':N'.length=k+ix.length) (h0:∀ M0 F H,RA M0 F H ac.a0 c0) (hl0:ln c0=0)
  (hg:∀ cl C s2 H2 fp,SG (X.comp N' scope cl C s2 H2 fp) (mpC mp n k ix) (·<n) tg t) (hc:∀ cl C s2 H2 fp,SF (X.comp N' scope cl C s2 H2 fp) XP0 (mpC mp n k ix) ifs cond)
  (he:∀ (M0:Addr->Prop) (F:Fp) (Γ:Gv) (ν:Nu) (σ:St) (H:Hp) (Q:β->Hp->Prop),RS M0 F Γ ν H->Sees (mpC mp n k ix) ν σ->EPost M0 F ν σ H XP0 (fun F' Γ' H' d=>∀ y,RB M0 F' H' y d->Q y H') (it Γ)->te σ H Q)
  (rs1:RS M0 F1 Γ1 ν H1) (hs:Sees mp ν σ) (hJ:JIw X M0 F1 J z H1 Hf) (hd:z.1.length<=1000000) (hn:Γ1.length=n)
  (hp:EPost M0 F1 ν σ H1 XP (fun F' Γ' H' ys=>∀ vs p,RA M0 F' H' vs ys->H' p=none->Q (.ref p) (upd H' p (ac.ho vs))) (hid z.2 (loopG k t cond it ad z.1 c0) Γ1)) :
  Wj ac k ix (gU X N' scope tg) (fU X N' scope ifs) te σ J Hf fun ys H2=>∀ p,H2 p=none->(Q (.ref p) (upd H2 p (ac.ho ys))∨∃ a kvs o,upd H2 p (ac.ho ys) a=some (.frz o (.dK kvs))/\(∀ ob u,X.H₀ a≠some (.frz ob u))/\Q (.ref p) (upd (upd H2 p (ac.ho ys)) a (.dK kvs))):=by
 obtain⟨ds,z⟩:=z
 cases z with
 |none=>exact zdY AR hm hN' h0 hl0 hg hc he rs1 hs hJ.1 hJ.2 hd hn hp
 |some i=>
  obtain⟨rfl,hJ⟩:=hJ
  dsimp only [hid]at hp
  split at hp
  ·rename_i o eo
   refine zdY AR hm hN' h0 hl0 hg hc he (rs1.hide (i:=i)) hs (.inl rfl) hJ hd (by rw[xG];exact hn) (Q:=Q) (XP:=XP) ?_
   generalize loopG k t cond it ad ds c0 (Γ1.set i none)=r at hp
   cases r with
   |bad=>exact hp
   |exc _ _=>exact hp.elim
   |ok w=>
    obtain⟨ys,Γ2⟩:=w
    dsimp only at hp
    split at hp
    ·rename_i e2
     intro F' H' rs' s' vs p ra hp'
     obtain⟨rs3,s3⟩:=rs1.unhide eo rs' e2 s'
     exact hp _ H' rs3 s3 vs p (AR.mm (Z8 (rs'.emp i fun o z=>by rw[e2]at z;cases z)) ra) hp'
    ·exact hp.elim
  ·exact hp.elim
noncomputable def itL(elt:EM FV):EM PyData:=fun Γ=>(elt Γ).bind fun (u,Γ1)=>match derS Γ1 u with
 |some y=>.ok (y,Γ1)
 |none=>.bad
theorem YM:Ke Km (fun (ys:List PyData) y=>ys++ [y]) (fun M0 F H vs ys=>RepL (MM M0 F) H vs ys) (fun M0 F H v y=>Rep (MM M0 F) H v y) List.length where
 stp r s h0:=zx s h0 r
 add r q:=RepL.append r (.cons q .nil)
 bst r s h0:=zi s h0 r
 len r:=r.length
 lin y d:=by simp
 eqv r h:=RepL.eqv h r
 mm e r:=by rw[<- e];exact r
noncomputable def fCompW(n k:Nat)(t:IT)(src:EM (List PyData×Option Nat))(cond:EM Bool)(elt:EM FV):EM (List PyData):=fun Γ=>(src Γ).bind fun (z,Γ1)=>if z.1.length<=1000000/\Γ1.length=n then hid z.2 (loopG k t cond (itL elt) (fun ys y=>ys++ [y]) z.1 []) Γ1 else .bad
theorem zeP{mp':List Nat}{Y:Cx}{el:EM FV}(he:SE Y XP0 mp' elt el){M0:Addr->Prop}{F:Fp}{Γ:Gv}{ν:Nu}{σ:St}{H:Hp}{Q:VK}(rs:RS M0 F Γ ν H)(hs:Sees mp' ν σ)(hp:EPost M0 F ν σ H XP0 (fun F' Γ' H' d=>∀ y,Rep (MM M0 F') H' y d->Q y H') (itL el Γ)):wpE Y elt σ H Q :=
 he.run rs hs hp fun F1 Γ1 H1 u v rs1 s1 o1 h1=>by
  dsimp only at h1
  split at h1
  ·rename_i y ey
   exact h1 F1 H1 rs1 (.refl _ _) v (o1.strong rs1 ey)
  ·exact h1.elim
theorem za1{N':List Str}{scope:Scope}{n k:Nat}{ix:List Nat}{t:IT}{src:EM (List PyData×Option Nat)}{cond:EM Bool}{el:EM FV}(hcalm:X.calm=true)(S:CSc X.env.scope X.N scope N' k ix)(hm:∀ j i:Nat,ix[j]?=some i->∃ m,mp[i]?=some m/\m<n)
  (hi:SIw X XP mp tg iter src) (hg:∀ cl C s2 H2 fp,SG (X.comp N' scope cl C s2 H2 fp) (mpC mp n k ix) (·<n) tg t) (hc:∀ cl C s2 H2 fp,SF (X.comp N' scope cl C s2 H2 fp) XP0 (mpC mp n k ix) ifs cond) (he:∀ cl C s2 H2 fp,SE (X.comp N' scope cl C s2 H2 fp) XP0 (mpC mp n k ix) elt el)
  (hf:∀ x,foldedSetIterable iter X.env x=pure x):SN X XP mp (.ListComp elt [⟨tg,iter,ifs,0⟩] scope pos) (fCompW n k t src cond el):=fun M0 F Γ ν σ H Q rs hs hp=>
 yf ((VS hcalm S hf).wp (hi M0 F Γ ν σ H _ rs hs (hp.seq.mono fun F1 Γ1 H1 z rs1 s1 h1 J Hf hJ=>by
  dsimp only at h1
  split at h1
  ·rename_i hh
   exact zdZ YM hm S.len (fun _ _ _=>.nil) rfl hg hc (fun M0 F Γ ν σ H Q rs hs hp cl C s2 H2 fp=>zeP (he cl C s2 H2 fp) rs hs hp) rs1 hs hJ hh.1 hh.2 h1
  ·exact h1.elim)))
noncomputable def SD(X:Cx)(XP:XPT)(mp:List Nat)(e:Expr)(f:EM (List (Str×PyData))):Prop:=∀ (M0:Addr->Prop) (F:Fp) (Γ:Gv) (ν:Nu) (σ:St) (H:Hp) (Q:VK),RS M0 F Γ ν H->Sees mp ν σ ->
 EPost M0 F ν σ H XP (fun F' Γ' H' ds=>∀ ks p,KR (MM M0 F') H' ks ds->H' p=none->Q (.ref p) (upd H' p (.dK (ks.map kK)))) (f Γ)->wpE X e σ H Q
noncomputable def SDt(XP:XPT)(mp:List Nat)(t:TE)(f:EM (List (Str×PyData))):Prop:=∀ (M0:Addr->Prop) (F:Fp) (Γ:Gv) (ν:Nu) (σ:St) (H:Hp) (Q:VK),RS M0 F Γ ν H->Sees mp ν σ ->
 EPost M0 F ν σ H XP (fun F' Γ' H' ds=>∀ ks p,KR (MM M0 F') H' ks ds->H' p=none->Q (.ref p) (upd H' p (.dK (ks.map kK)))) (f Γ)->t σ H Q
theorem KR.stp{M0:Addr->Prop}{F F':Fp}{H H':Hp}{ks:List (Str×V)}{ds:List (Str×PyData)}(h:KR (MM M0 F) H ks ds)(s:Stp F H F' H')(h0:∀ a,M0 a->H a≠none):KR (MM M0 F') H' ks ds:=h.map fun _ _ x=>zi s h0 x
noncomputable def itD(ek ev:EM FV):EM (Str×PyData):=fun Γ=>(ek Γ).bind fun (u,Γ1)=>match derf Γ1 u with
 |some (.str x)=>(ev Γ1).bind fun (w,Γ2)=>match derS Γ2 w with
  |some y=>.ok ((x,y),Γ2)
  |none=>.bad
 |_=>.bad
theorem WC:Ke zbT (fun (ys:List (Str×PyData)) (y:Str×PyData)=>jJ ys y.1 y.2) (fun M0 F H kvs ys=>∃ ks,kvs=ks.map kK/\KR (MM M0 F) H ks ys) (fun M0 F H (u:Key×V) (y:Str×PyData)=>u.1=.inr y.1/\Rep (MM M0 F) H u.2 y.2) List.length where
 stp:=fun ⟨ks,e,r⟩ s h0=>⟨ks,e,KR.stp r s h0⟩
 add:=fun {M0 F H x y u d} ⟨ks,e,r⟩ ⟨q1,q2⟩=>⟨jJ ks d.1 u.2,by rw[e,<- vY,<- q1],r.put d.1 q2⟩
 bst:=fun ⟨q1,q2⟩ s h0=>⟨q1,zi s h0 q2⟩
 len:=fun ⟨ks,e,r⟩=>by rw[e];show (ks.map kK).length=_;rw[xr,r.length]
 lin y d:=VH y d.1 d.2
 eqv:=fun ⟨ks,e,r⟩ h=>⟨ks,e,r.map fun _ _ x=>Rep.eqv h x⟩
 mm:=fun e ⟨ks,e',r⟩=>⟨ks,e',by rw[<- e];exact r⟩
noncomputable def eD(X:Cx)(N':List Str)(scope:Scope)(kx vx:Expr):St->Hp->(Key×V->Hp->Prop)->Prop:=V1 (eU X N' scope kx) (eU X N' scope vx)
noncomputable def fCompD(n k:Nat)(t:IT)(src:EM (List PyData×Option Nat))(cond:EM Bool)(ek ev:EM FV):EM (List (Str×PyData)):=fun Γ=>(src Γ).bind fun (z,Γ1)=>if z.1.length<=1000000/\Γ1.length=n then hid z.2 (loopG k t cond (itD ek ev) (fun ys y=>jJ ys y.1 y.2) z.1 []) Γ1 else .bad
theorem kA{kx vx:Expr}{N':List Str}{scope:Scope}{k:Nat}{ix:List Nat}(hcalm:X.calm=true)(S:CSc X.env.scope X.N scope N' k ix)(hf:∀ x,foldedSetIterable iter X.env x=pure x) :
  PE X (.DictComp kx vx [⟨tg,iter,ifs,0⟩] scope pos) (Jn k ix (wpI X tg iter) (gU X N' scope tg) (fU X N' scope ifs) (eD X N' scope kx vx)) :=
 zap hcalm S Qa (fun cl C s2 H2 fp pins s σ H v u Q I r h=>h cl C s2 H2 fp pins s u I r) (fun cl C s2 H2 fp pins s σ H Q I h=>h cl C s2 H2 fp pins s I)
  (fun cl C s2 H2 fp pins s σ H Q I h=>h cl C s2 H2 fp pins s I) (fun cl C s2 H2 fp pins s σ H Q I h=>h cl C s2 H2 fp pins s I) hf
theorem zd1{N':List Str}{scope:Scope}{mp':List Nat}{kx vx:Expr}{ek ev:EM FV}(hk:∀ cl C s2 H2 fp,SE (X.comp N' scope cl C s2 H2 fp) XP0 mp' kx ek)(hv:∀ cl C s2 H2 fp,SE (X.comp N' scope cl C s2 H2 fp) XP0 mp' vx ev){M0:Addr->Prop}{F:Fp}{Γ:Gv}{ν:Nu}{σ:St}{H:Hp}{Q:Key×V->Hp->Prop}(rs:RS M0 F Γ ν H)(hs:Sees mp' ν σ)
  (hp:EPost M0 F ν σ H XP0 (fun F' Γ' H' d=>∀ y:Key×V,(y.1=.inr d.1/\Rep (MM M0 F') H' y.2 d.2)->Q y H') (itD ek ev Γ)):eD X N' scope kx vx σ H Q:=fun cl C s2 H2 fp=>
 (hk cl C s2 H2 fp).run rs hs hp fun F1 Γ1 H1 u v rs1 s1 o1 h1=>by
  dsimp only at h1
  split at h1
  ·rename_i x ex
   cases o1.weak rs1 ex
   intro cl C s2 H2 fp
   refine (hv cl C s2 H2 fp).run rs1 hs h1 fun F2 Γ2 H2 w v2 rs2 s2 o2 h2=>?_
   dsimp only at h2
   split at h2
   ·rename_i y ey
    exact⟨.inr x,rfl,h2 F2 H2 rs2 (.refl _ _) (.inr x,v2) ⟨rfl,o2.strong rs2 ey⟩⟩
   ·exact h2.elim
  ·exact h1.elim
theorem zcY{kx vx:Expr}{N':List Str}{scope:Scope}{n k:Nat}{ix:List Nat}{t:IT}{src:EM (List PyData×Option Nat)}{cond:EM Bool}{ek ev:EM FV}(hcalm:X.calm=true)(S:CSc X.env.scope X.N scope N' k ix)(hm:∀ j i:Nat,ix[j]?=some i->∃ m,mp[i]?=some m/\m<n)
  (hi:SIw X XP mp tg iter src) (hg:∀ cl C s2 H2 fp,SG (X.comp N' scope cl C s2 H2 fp) (mpC mp n k ix) (·<n) tg t) (hc:∀ cl C s2 H2 fp,SF (X.comp N' scope cl C s2 H2 fp) XP0 (mpC mp n k ix) ifs cond) (hk:∀ cl C s2 H2 fp,SE (X.comp N' scope cl C s2 H2 fp) XP0 (mpC mp n k ix) kx ek) (hv:∀ cl C s2 H2 fp,SE (X.comp N' scope cl C s2 H2 fp) XP0 (mpC mp n k ix) vx ev)
  (hf:∀ x,foldedSetIterable iter X.env x=pure x):SD X XP mp (.DictComp kx vx [⟨tg,iter,ifs,0⟩] scope pos) (fCompD n k t src cond ek ev):=fun M0 F Γ ν σ H Q rs hs hp=>
 yf ((kA hcalm S hf).wp (hi M0 F Γ ν σ H _ rs hs (hp.seq.mono fun F1 Γ1 H1 z rs1 s1 h1 J Hf hJ=>by
  dsimp only at h1
  split at h1
  ·rename_i hh
   exact zdZ WC hm S.len (fun _ _ _=>⟨[],rfl,.nil⟩) rfl hg hc (fun M0 F Γ ν σ H Q rs hs hp=>zd1 hk hv rs hs hp) rs1 hs hJ hh.1 hh.2 (h1.mono fun F' Γ' H' ys rs' s' hP vs p ⟨ks,e,r⟩ hp'=>by rw[e];exact hP ks p r hp')
  ·exact h1.elim)))
theorem zaO{kx vx:Expr}{N':List Str}{scope:Scope}{n k:Nat}{ix:List Nat}{t:IT}{src:EM (List PyData)}{cond:EM Bool}{ek ev:EM FV}(S:CSc X.env.scope X.N scope N' k ix)(hm:∀ j i:Nat,ix[j]?=some i->∃ m,mp[i]?=some m/\m<n)
  (hi:SI X XP mp tg iter src) (hg:∀ cl C s2 H2 fp,SG (X.comp N' scope cl C s2 H2 fp) (mpC mp n k ix) (·<n) tg t) (hc:∀ cl C s2 H2 fp,SF (X.comp N' scope cl C s2 H2 fp) XP0 (mpC mp n k ix) ifs cond) (hk:∀ cl C s2 H2 fp,SE (X.comp N' scope cl C s2 H2 fp) XP0 (mpC mp n k ix) kx ek) (hv:∀ cl C s2 H2 fp,SE (X.comp N' scope cl C s2 H2 fp) XP0 (mpC mp n k ix) vx ev) :
  SDt XP mp (Jn k ix (wpI X tg iter) (gU X N' scope tg) (fU X N' scope ifs) (eD X N' scope kx vx)) (fCompD n k t (fStd src) cond ek ev):=fun M0 F Γ ν σ H Q rs hs hp=>by
 unfold fCompD fStd at hp
 rw[R.bind_assoc]at hp
 refine hi M0 F Γ ν σ H _ rs hs (hp.seq.mono fun F1 Γ1 H1 ds rs1 s1 h1 J hJ=>?_)
 simp only[R.bind,hid]at h1
 split at h1
 ·rename_i hh
  exact jC WC hm S.len ⟨[],rfl,.nil⟩ rfl hg hc (fun M0 F Γ ν σ H Q rs hs hp=>zd1 hk hv rs hs hp) rs1 hs hJ hh.1 hh.2 h1 fun F' Γ' H' ys vs rs' ⟨ks,e,r⟩ hP _ p hp'=>by
   rw[e];exact hP ks p r hp'
 ·exact h1.elim
theorem zaD{kx vx:Expr}{N':List Str}{scope:Scope}{k:Nat}{ix:List Nat}{i:Nat}{x:Str}{pos' spos:Pos}(hN:X.N.Nodup)(hi':X.N[i]?=some x)(hx:Loc X.env.scope x)(hcalm:X.calm=true)(S:CSc X.env.scope X.N scope N' k ix)
  (hsw:swapsWith (.DictComp kx vx [⟨tg,iter,ifs,0⟩] scope pos) (some (.Name x pos')) spos.line X.env=pure true) (hs:∀ x,foldedSetIterable iter X.env x=pure x) (hf:X.fn x=true∨X.env.scope.names.lookup x=some .local) :
  PS X (.Assign [.Name x pos'] (.DictComp kx vx [⟨tg,iter,ifs,0⟩] scope pos) spos) (Va (Jn k ix (wpI X tg iter) (gU X N' scope tg) (fU X N' scope ifs) (eD X N' scope kx vx)) (wB i)) :=
 zaC hN hi' hx hcalm S Qa (fun cl C s2 H2 fp pins s σ H v u Q I r h=>h cl C s2 H2 fp pins s u I r) (fun cl C s2 H2 fp pins s σ H Q I h=>h cl C s2 H2 fp pins s I)
  (fun cl C s2 H2 fp pins s σ H Q I h=>h cl C s2 H2 fp pins s I) (fun cl C s2 H2 fp pins s σ H Q I h=>h cl C s2 H2 fp pins s I) hsw hs hf
end
end L3
namespace L2
open PySem PySem.Spec PyProof.Rows
variable [Cs]
noncomputable def zfY(tk tv:TE):TE:=fun σ H Q=>tk σ H fun x H1=>tv σ H1 fun y H2=>∃ k:Key,x=kV k/\∀ p,H2 p=none->Q (.ref p) (upd H2 p (.dK [(k,y)]))
theorem zaq{X:Cx}{pos:Pos}{k v:Expr}{tk tv:TE}(hk:PE X k tk)(hv:PE X v tv):PE X (.Dict [some k] [v] pos) (zfY tk tv):=by
 intro pins s σ H Q I q
 have hn:=I.hok.fresh (xh s.heap.objs.size)
 have e0:(s.heap.push { cls:=.type "dict",data:=.dict #[] }).get? s.heap.objs.size=some { cls:=.type "dict",data:=.dict #[] }:=Heap.get?_push_size _ rfl
 have I0:Inv X pins σ H { s with heap:=s.heap.push { cls:=.type "dict",data:=.dict #[] } }:=I.kept (t':=s.toks) fun b o e=>Heap.get?_push_of_some _ e
 have I1:=I0.pinned (fp:= [s.heap.objs.size]) (fun b hb=>by
  have e:b=s.heap.objs.size:=by simpa using hb
  subst e
  exact I.fpOk (xh _) hn) (fun b hb=>by
  have e:b=s.heap.objs.size:=by simpa using hb
  subst e
  exact⟨_,e0,fun v z=>by cases z⟩)
 refine wpAny_Dict_walk (knd:=zn X.prog X.w) rfl rfl (by simp) (by simp) (pairTrees_cons_walk (thn (hk _ _ σ _ _ I1 q) fun kv s2 ⟨x,H1,I2,rx,q1⟩=>thn (hv _ _ σ _ _ I2 q1) fun vv s3 ⟨y,H2,I3,ry,kk,ek,q2⟩=>pairTrees_nil_walk ?_))
 have hm:=qr (fp:= [s.heap.objs.size]) (by simp) e0
 obtain⟨p1,p2,_⟩:=I3.pin _ (xw _ (xw _ hm))
 have I4:Inv X pins σ H2 s3:=I3.unpinned
 subst ek
 refine⟨[(kk,vv)],⟨wI rx,rfl,True.intro⟩,⟨_,#[],0,p1,⟨rfl,rfl,rfl⟩,rfl,fun _ he=>by simp at he,Pairs.nil,List.nodup_nil⟩,fun h' dd hs=>⟨.ref s.heap.objs.size,_,?_,rfl,q2 _ p2⟩⟩
 have em:merged [] [(kk,vv)]= [(kk,vv)]:=rfl
 rw[em]at dd
 have I5:Inv X pins σ H2 { s3 with heap:=h',toks:=s3.toks+ [(kv,vv)].length }:=I4.turned (it:=s.heap.objs.size) (fun b o hb e=>(hs.2 b hb).trans e) p2 (Ne.symm (xj I.lt)) (.inr I.sz)
  (fun x c e=>by
   obtain⟨v,ob,hob,_⟩:=I.cell x c e
   exact xj (Heap.lt_size hob)) (fun p hp=>xj (Heap.lt_size (I.pin p hp).1))
 exact I5.track I.sz p2 (Ne.symm (xj I.lt)) (fun x c e=>by
   obtain⟨v,ob,hob,_⟩:=I.cell x c e
   exact xj (Heap.lt_size hob)) (fun p hp=>xj (Heap.lt_size (I.pin p hp).1)) (vD (by show 1<=sizeLine;decide) (beq_eq_false_iff_ne.mpr (Ne.symm (xj I.big))) (.cons ⟨rfl,ry⟩ .nil) dd)
theorem zcD{X:Cx}:OpR X (binaryOp .Mult) (fun x y H Q=>∃ l xs k,x=.ref l/\y=.int k/\H l=some (.lst xs)/\0<=k/\k<=1000000/\xs.length=1/\∀ p,H p=none->Q (.ref p) (upd H p (.lst (List.replicate k.toNat xs).flatten))):=by
 intro pins s σ H x y v u Q I rx ry h
 obtain⟨l,xs,k,rfl,rfl,hH,h0,h1,hx,q⟩:=h
 cases rx
 obtain⟨t,rfl⟩:=ry
 obtain⟨z,its,n,r,e⟩:=(show ObjOk X.prog X.w H s.heap l (.lst xs) from I.hok l _ hH)
 have hl:its.length=1:=by rw[<- r.length,hx]
 have hsz:its.toArray.size=1:=by simpa using hl
 have hne:its.toArray.isEmpty=false:=by simp[<- List.length_eq_zero_iff,hl]
 refine wpAny_binaryOp_repeat_ref (T:= "list") (U:= "int") (by decide) ⟨_,e,rfl⟩ (fun s'=>typeIs_int s' k t) noFill_list_mul F.fills_int_mul F.slot_int_rmul repeat_list F.slot_int_index.lookup
  (call_meets F.slot_int_rmul (typeIs_int s k t) F.entry_int_rmul (F.args_int_rmul_2 _ _) (int___rmul___int_list k t l its.toArray n)
   ⟨e,rfl,⟨_,e,rfl⟩,call_meets F.slot_list_mul ⟨_,e,rfl⟩ F.entry_list_mul (F.args_list_mul_2 _ _)
    (AutoListH.list___mul___list_int_3 l its.toArray n k t (by simp[Builtin.List.listFitsIndex];omega) (by rw[hsz];omega) (by rw[hsz];simp[Builtin.List.listTooLong,sizeLine];omega)) ⟨e,?_⟩⟩)
 have hnew:List.foldl (fun x1 x2=>x1++x2) #[] (List.replicate (if its.toArray.isEmpty=true then 0 else k.toNat) its.toArray)=(List.replicate k.toNat its).flatten.toArray:=by
  rw[hne,if_neg (by decide)]
  have:=Jb its k.toNat []
  rw[List.nil_append]at this
  exact this
 rw[hnew]
 refine⟨.ref s.heap.objs.size,_,I.laid (t':=s.toks) (o:=.lst (List.replicate k.toNat xs).flatten) (fun b u e=>Heap.get?_push_of_some _ e) (xh _) ?_,rfl,q _ (I.hok.fresh (xh _))⟩
 exact⟨by rw[vL,hx,sizeLine_eq];omega,_,0,r.rep k.toNat,Heap.get?_push_size _ rfl⟩
end L2
namespace L3
open PySem PySem.Spec PyProof.Rows L2
noncomputable def ixF:List Str->Str->Option Nat
 |[],_=>none
 |n::ns,f=>if n=f then some 0 else (ixF ns f).map (·+1)
theorem vG{f:Str}:∀ {fs:List (Str×V)}{j:Nat},ixF (fs.map (·.1)) f=some j->(∃ v,fs[j]?=some (f,v)/\fs.lookup f=some v)/\∀ y,zX f y fs=fs.set j (f,y)
 |[],j,h=>by cases h
 | (n,v)::fs,j,h=>by
  rw[xu,ixF]at h
  split at h
  ·rename_i hn
   cases h
   have hn':n=f:=hn
   subst hn'
   exact⟨⟨v,rfl,by simp⟩,fun y=>by simp[zX]⟩
  ·rename_i hn
   have hn':¬ n=f:=hn
   cases e:ixF (fs.map (·.1)) f with
   |none=>rw[e]at h;cases h
   |some k=>
    rw[e]at h
    cases h
    obtain⟨⟨w,h1,h2⟩,h3⟩:=vG e
    refine⟨⟨w,by simpa using h1,?_⟩,fun y=>?_⟩
    ·rw[xq,beq_eq_false_iff_ne.mpr (fun z=>hn' z.symm)];exact h2
    ·rw[zX,if_neg hn',h3 y];rfl
theorem vH{f:Str}:∀ {fs:List (Str×V)},ixF (fs.map (·.1)) f=none->fs.lookup f=none/\∀ y,zX f y fs=fs++ [(f,y)]
 |[],h=>⟨rfl,fun y=>rfl⟩
 | (n,v)::fs,h=>by
  rw[xu,ixF]at h
  split at h
  ·cases h
  ·rename_i hn
   have hn':¬ n=f:=hn
   cases e:ixF (fs.map (·.1)) f with
   |some k=>rw[e]at h;cases h
   |none=>
    obtain⟨h1,h2⟩:=vH e
    refine⟨by rw[xq,beq_eq_false_iff_ne.mpr (fun z=>hn' z.symm)];exact h1,fun y=>?_⟩
    rw[zX,if_neg hn',h2 y];rfl
variable [Cs]
theorem ORL.at'{M:Addr->Prop}{H:Hp}:∀ {vs:List V}{xs:List OV}{A:List Addr}{j:Nat}{x:OV},ORL M H vs xs A->xs[j]?=some x->∃ v A1 B A2,vs[j]?=some v/\OR M H v x B/\A=A1++(B++A2) /\
  ∀ (M':Addr->Prop) (H':Hp) (v':V) (x':OV) (B':List Addr),(∀ w d,Rep M H w d->Rep M' H' w d)->(∀ c xs,H c=some (.tup xs)->H' c=some (.tup xs))->(∀ b∈A1++A2,H' b=H b)->OR M' H' v' x' B'->ORL M' H' (vs.set j v') (xs.set j x') (A1++(B'++A2))
 |_,_,_,_,_,.nil,e=>by simp at e
 |_,_,_,0,x,.cons (A:=A) (B:=B) r t,e=>by
  simp at e
  subst e
  exact⟨_,[],A,B,rfl,r,rfl,fun M' H' v' x' B' hr ht hk q=>ORL.cons (A:=B') (B:=B) q (t.go hr ht fun b hb=>hk b (by simpa using hb))⟩
 |_,_,_,j+1,x,.cons (A:=A) (B:=B) r t,e=>by
  obtain⟨v,A1,C,A2,h1,h2,h3,h4⟩:=ORL.at' (j:=j) t (by simpa using e)
  refine⟨v,A++A1,C,A2,by simpa using h1,h2,by rw[h3];simp,fun M' H' v' x' B' hr ht hk q=>?_⟩
  have:=ORL.cons (r.go hr ht fun b hb=>hk b (by simp[hb])) (h4 M' H' v' x' B' hr ht (fun b hb=>hk b (by simp at hb |-;rcases hb with h | h<;>simp[h])) q)
  simpa using this
section
variable {M0:Addr->Prop} {F F':Fp} {Γ Γ':Gv} {ν ν':Nu} {H H':Hp} {c:Str} {ns:List Str} {xs:List OV}
theorem wN{i:Nat}(rs:RS M0 F Γ ν H)(e:Γ[i]?=some (some (.o c ns xs))):∃ a dx fs A,ν[i]?=some (some (.ref a))/\H a=some (.ins (Cs.adr c) dx fs)/\fs.map (·.1)=ns/\ORL (MM M0 F) H (fs.map (·.2)) xs A/\F i=a::A:=by
 obtain⟨v,ev,q⟩:=rs.at' i _ e
 generalize hA:F i=A at q
 cases q with
 |o ea k qa=>exact⟨_,_,_,_,ev,ea,k,qa,rfl⟩
theorem zai{i:Nat}{v:V}(h:ν[i]?=some (some v)):ν.set i (some v)=ν:=by
 apply xI
 intro k
 by_cases hk:i=k
 ·subst hk;rw[xi (xb.mp h).1,h]
 ·rw[xg hk]
theorem RS.wrO{i:Nat}{b:Addr}{u:HO}{o:OV}{v:V}{A:List Addr}(r:RS M0 F Γ ν H)(hi:i<Γ.length)(hv:ν[i]?=some (some v))(hb:b∈F i)(hu:∀ xs,H b≠some (.tup xs))(hsub:∀ a∈A,a∈F i)(hnd:A.Nodup)
  (q:(∀ w d,Rep (MM M0 F) H w d->Rep (MM M0 (fset F i A)) (upd H b u) w d)->(∀ c xs,H c=some (.tup xs)->upd H b u c=some (.tup xs))->OR (MM M0 (fset F i A)) (upd H b u) v o A) :
  ∃ F',RS M0 F' (Γ.set i (some o)) ν (upd H b u)/\Stp F H F' (upd H b u):=by
 have ht:∀ c xs,H c=some (.tup xs)->upd H b u c=some (.tup xs):=fun c xs e=>by
  rw[zc (fun z=>by subst z;exact hu xs e)];exact e
 have s:Stp F H (fset F i A) (upd H b u):=⟨fun c o ec nc=>⟨by
   rw[zc (fun z=>by subst z;exact nc i hb)];exact ec,fun k h=>by
   by_cases hk:k=i
   ·subst hk;rw[zd]at h;exact nc _ (hsub _ h)
   ·rw[zf hk]at h;exact nc _ h⟩,ht,fun c h=>by
   by_cases z:c=b
   ·subst z;rw[ze];exact fun z=>nomatch z
   ·rw[zc z];exact h⟩
 have r1:=r.put (i:=i) (o:=o) (v:=v) (A:=A) (H':=upd H b u) s (fun k hk c hc=>zc fun z=>by subst z;exact hk (r.dis _ _ _ hc hb))
  (fun c h=>s.stay c (r.al0 c h)) (fun a ha=>r.dis0 i a (hsub a ha)) hnd (fun k hk c hc h=>hk (r.dis _ _ c h (hsub c hc))) hi (q (fun w d x=>zi s r.al0 x) ht)
 rw[zai hv]at r1
 exact⟨_,r1,s⟩
theorem RS.lessO{i:Nat}{o:OV}{v:V}{A:List Addr}(r:RS M0 F Γ ν H)(hi:i<Γ.length)(hv:ν[i]?=some (some v))(hsub:∀ a∈A,a∈F i)(hnd:A.Nodup)
  (q:(∀ w d,Rep (MM M0 F) H w d->Rep (MM M0 (fset F i A)) H w d)->OR (MM M0 (fset F i A)) H v o A):RS M0 (fset F i A) (Γ.set i (some o)) ν H/\Stp F H (fset F i A) H:=by
 have s:Stp F H (fset F i A) H:=jp fun k a h=>by
  by_cases hk:k=i
  ·subst hk;rw[zd]at h;exact⟨_,hsub _ h⟩
  ·rw[zf hk]at h;exact⟨_,h⟩
 have r1:=r.put (i:=i) (o:=o) (v:=v) (A:=A) (H':=H) s (fun _ _ _ _=>rfl) r.al0 (fun a ha=>r.dis0 i a (hsub a ha)) hnd (fun k hk c hc h=>hk (r.dis _ _ c h (hsub c hc))) hi (q (fun w d x=>zi s r.al0 x))
 rw[zai hv]at r1
 exact⟨r1,s⟩
end
structure jc(X:Cx)(c f:Str):Prop where
 cl:Cls X.K (Cs.adr c)
 no:NoAttr X.K (Cs.adr c) f
noncomputable def objF(Γ:Gv)(i:Nat)(c f:Str):Option OV:=match Γ[i]? with
 |some (some (.o c' ns xs))=>if c'=c then (ixF ns f).bind fun j=>xs[j]? else none
 |_=>none
section
variable {X:Cx} {XP:XPT} {mp io:List Nat} {a b e:Expr} {es:List Expr} {pos p p2 pos' p3:Pos} {fa fb fc:EM FV} {fo:EM OV} {kx:Nat} {c f x:Str} {s i:Nat} {M0:Addr->Prop} {F:Fp} {Γ:Gv} {ν:Nu} {σ:St} {H:Hp}
theorem VQ{o:OV}(h:objF Γ i c f=some o):∃ ns xs j,Γ[i]?=some (some (.o c ns xs))/\ixF ns f=some j/\xs[j]?=some o:=by
 unfold objF at h
 split at h
 ·rename_i c' ns xs e
  split at h
  ·rename_i hc
   subst hc
   cases q:ixF ns f with
   |none=>rw[q]at h;cases h
   |some j=>rw[q]at h;exact⟨ns,xs,j,e,q,h⟩
  ·cases h
 ·cases h
structure FldAt(M0:Addr->Prop)(F:Fp)(Γ:Gv)(ν:Nu)(H:Hp)(i:Nat)(c f:Str)(o:OV)(v:V):Prop where
 ex:∃ a dx fs ns xs j A1 B A2,Γ[i]?=some (some (.o c ns xs))/\ν[i]?=some (some (.ref a))/\H a=some (.ins (Cs.adr c) dx fs)/\fs.map (·.1)=ns/\ixF ns f=some j/\xs[j]?=some o/\fs[j]?=some (f,v)/\OR (MM M0 F) H v o B/\F i=a::(A1++(B++A2)) /\
  ∀ (M':Addr->Prop) (H':Hp) (v':V) (x':OV) (B':List Addr),(∀ w d,Rep (MM M0 F) H w d->Rep M' H' w d)->(∀ c xs,H c=some (.tup xs)->H' c=some (.tup xs))->(∀ b∈A1++A2,H' b=H b)->OR M' H' v' x' B'->ORL M' H' ((fs.set j (f,v')).map (·.2)) (xs.set j x') (A1++(B'++A2))
theorem z8{o:OV}{Q:VK}(n:NmK X mp s i x)(K:jc X c f)(rs:RS M0 F Γ ν H)(hs:Sees mp ν σ)(h:objF Γ i c f=some o)(q:∀ v,FldAt M0 F Γ ν H i c f o v->Q v H):wpE X (.Attribute (.Name x p) f p2) σ H Q:=by
 obtain⟨ns,xs,j,e,hj,hx⟩:=VQ h
 obtain⟨a,dx,fs,A,ev,ea,hk,qa,hF⟩:=wN rs e
 subst hk
 obtain⟨⟨v,h1,h2⟩,h3⟩:=vG hj
 obtain⟨v',A1,B,A2,g1,g2,g3,g4⟩:=qa.at' hx
 rw[xt,h1]at g1
 cases g1
 refine (zar (zz n.hN n.hv n.hd n.hcd) rfl).wp ⟨.ref a,hs s i _ n.hm ev,a,_,dx,fs,v,rfl,ea,K.cl,K.no,h2,q v ⟨a,dx,fs,_,xs,j,A1,B,A2,e,ev,ea,rfl,hj,hx,h1,g2,by rw[hF,g3],fun M' H' v' x' B' hr ht hk q=>?_⟩⟩
 rw[List.map_set]
 exact g4 M' H' v' x' B' hr ht hk q
noncomputable def fFdat(i:Nat)(c f:Str):EM FV:=fun Γ=>match objF Γ i c f with
 |some (.d x)=>.ok (.dat x,Γ)
 |_=>.bad
theorem zc3(n:NmK X mp s i x)(K:jc X c f):SE X XP mp (.Attribute (.Name x p) f p2) (fFdat i c f):=fun M0 F Γ ν σ H Q rs hs hp=>by
 unfold fFdat at hp
 split at hp
 ·rename_i y e
  refine z8 n K rs hs e fun v hv=>?_
  obtain⟨a,dx,fs,ns,xs,j,A1,B,A2,_,_,_,_,_,_,_,q,_,_⟩:=hv.ex
  cases q with
  |d q=>exact hp F H rs (.refl _ _) v q
 ·exact hp.elim
noncomputable def fFlen(i:Nat)(c f:Str):EM FV:=fun Γ=>match objF Γ i c f with
 |some (.l xs)=>.ok (.dat (.int xs.length),Γ)
 |_=>.bad
theorem zc6 {y:Str}(B:BiK X y (.builtin "len")) (n:NmK X mp s i x) (K:jc X c f):SE X XP mp (.Call (.Name y p3) [.Attribute (.Name x p) f p2] [] pos) (fFlen i c f):=fun M0 F Γ ν σ H Q rs hs hp=>by
 unfold fFlen at hp
 split at hp
 ·rename_i ys e
  refine (jG jf B.gl B.mg B.bt (zk zb pa_nil rfl) B.n B.d rfl rfl).wp (z8 n K rs hs e fun v hv=>?_)
  obtain⟨a,dx,fs,ns,xs,j,A1,B,A2,_,_,_,_,_,_,_,q,_,_⟩:=hv.ex
  cases q with
  |l eb qb=>exact⟨_,_,rfl,.inl (SqL.of eb),by rw[qb.length];exact hp F H rs (.refl _ _) _ (Rep.int _)⟩
 ·exact hp.elim
noncomputable def fFtru(i:Nat)(c f:Str):EM Bool:=fun Γ=>match objF Γ i c f with
 |some (.l xs)=>.ok (!xs.isEmpty,Γ)
 |_=>.bad
theorem zdz(n:NmK X mp s i x)(K:jc X c f):ST X XP mp (.Attribute (.Name x p) f p2) (fFtru i c f):=fun M0 F Γ ν σ H Q rs hs hp=>by
 unfold fFtru at hp
 split at hp
 ·rename_i ys e
  refine (VU zb (fun _=>rfl)).wp (z8 n K rs hs e fun v hv=>?_)
  obtain⟨a,dx,fs,ns,xs,j,A1,B,A2,_,_,_,_,_,_,_,q,_,_⟩:=hv.ex
  cases q with
  | @l b us _ A' eb qb=>
   have he:(!ys.isEmpty)= !us.isEmpty:=by cases qb<;>rfl
   exact⟨_,.inl ⟨_,SqL.of eb,he⟩,hp F H rs (.refl _ _)⟩
 ·exact hp.elim
noncomputable def fFlast(i:Nat)(c f:Str):EM FV:=fun Γ=>match objF Γ i c f with
 |some (.l xs)=>match xs.getLast? with
  |some (.d x)=>.ok (.dat x,Γ)
  |_=>.bad
 |_=>.bad
theorem zaS{cj:Nat}{p4 p5:Pos}(n:NmK X mp s i x)(K:jc X c f):SE X XP mp (.Subscript (.Attribute (.Name x p) f p2) (.UnaryOp .USub (.Constant (.int 1) cj p4) p5) pos) (fFlast i c f):=fun M0 F Γ ν σ H Q rs hs hp=>by
 unfold fFlast at hp
 split at hp
 ·rename_i ys e
  split at hp
  ·rename_i y ey
   refine (zat ix_list zb (zd7 zf6 pe_int) (fun _ _=>rfl)).wp (z8 n K rs hs e fun v hv=>?_)
   obtain⟨a,dx,fs,ns,xs,j,A1,B,A2,_,_,_,_,_,_,_,q,_,_⟩:=hv.ex
   cases q with
   | @l b us _ A' eb qb=>
    have hl:=qb.length
    rw[uk,<- hl]at ey
    obtain⟨w,hw,rw'⟩:=qb.get ey
    have hat:atI us (-1)=some w:=by
     have hpos:0<us.length:=by have:=(xb.mp hw).1;omega
     have e1:us.dropLast++ [w]=us:=by
      have h2:us.getLast?=some w:=by rw[uk];exact hw
      have hne:us≠ []:=fun z=>by rw[z]at hpos;simp at hpos
      have h3:us.getLast hne=w:=by rw[List.getLast?_eq_some_getLast hne]at h2;exact Option.some.inj h2
      rw[<- h3];exact List.dropLast_concat_getLast hne
     rw[<- e1];exact Ks _ _
    exact⟨1,rfl,b,us,-1,w,rfl,rfl,SqL.of eb,hat,hp F H rs (.refl _ _) w rw'⟩
  ·exact hp.elim
 ·exact hp.elim
noncomputable def fFget(i:Nat)(c f:Str)(k:Nat):EM FV:=fun Γ=>match objF Γ i c f,Γ[k]? with
 |some (.m ds),some (some (.d (.str z)))=>match zF ds z with
  |some d=>.ok (.dat d,Γ)
  |none=>.bad
 |_,_=>.bad
noncomputable def fFnin(i:Nat)(c f:Str)(k:Nat):EM Bool:=fun Γ=>match objF Γ i c f,Γ[k]? with
 |some (.m ds),some (some (.d (.str z)))=>.ok (!(zF ds z).isSome,Γ)
 |_,_=>.bad
theorem zc5{s2 k:Nat}{y:Str}(hu:X.A.units+1<cLine)(n:NmK X mp s i x)(K:jc X c f)(n2:NmK X mp s2 k y):SE X XP mp (.Subscript (.Attribute (.Name x p) f p2) (.Name y p3) pos) (fFget i c f k):=fun M0 F Γ ν σ H Q rs hs hp=>by
 unfold fFget at hp
 split at hp
 ·rename_i ds z e ek
  split at hp
  ·rename_i d ed
   refine (Yo hu zb (zz n2.hN n2.hv n2.hd n2.hcd) (fun _ _=>rfl)).wp (z8 n K rs hs e fun v hv=>?_)
   obtain⟨a,dx,fs,ns,xs,j,A1,B,A2,_,_,_,_,_,_,_,q,_,_⟩:=hv.ex
   obtain⟨vk,evk,qk⟩:=rs.at' k _ ek
   generalize F k=Ak at qk
   cases qk with
   |d qk=>
    cases qk
    cases q with
    | @m b ks _ eb kk qb=>
     obtain⟨w,hw,rw'⟩:=((KR.of kk qb).val z).2 d ed
     exact⟨_,hs s2 k _ n2.hm evk,b,w,rfl,.inl ⟨_,.inr z,.inl eb,rfl,by rw[Zy,hw]⟩,hp F H rs (.refl _ _) w rw'⟩
  ·exact hp.elim
 ·exact hp.elim
theorem Y2{s2 k:Nat}{y:Str}{Q:Bool->Hp->Prop}(n:NmK X mp s i x)(K:jc X c f)(n2:NmK X mp s2 k y)(rs:RS M0 F Γ ν H)(hs:Sees mp ν σ)(hp:EPost M0 F ν σ H XP (fun F' Γ' H' b=>Q b H') (fFnin i c f k Γ)) :
  Yz (zf0 s2) (wpE X (.Attribute (.Name x p) f p2)) σ H fun v H'=>∃ b,v=.bl b/\Q b H':=by
 unfold fFnin at hp
 split at hp
 ·rename_i ds z e ek
  obtain⟨vk,evk,qk⟩:=rs.at' k _ ek
  generalize F k=Ak at qk
  cases qk with
  |d qk=>
   cases qk
   refine⟨_,hs s2 k _ n2.hm evk,z8 n K rs hs e fun v hv=>?_⟩
   obtain⟨a,dx,fs,ns,xs,j,A1,B,A2,_,_,_,_,_,_,_,q,_,_⟩:=hv.ex
   cases q with
   | @m b ks _ eb kk qb=>
    have h1:=((KR.of kk qb).val z).1
    exact⟨b,zF ks z,rfl,.inl ⟨_,.inr z,.inl eb,rfl,by rw[Zy]⟩,_,rfl,by rw[h1];exact hp F H rs (.refl _ _)⟩
 ·exact hp.elim
theorem zdy{s2 k:Nat}{y:Str}(hu:X.A.units+1<cLine)(n:NmK X mp s i x)(K:jc X c f)(n2:NmK X mp s2 k y):ST X XP mp (.Compare (.Name y p3) [.NotIn] [.Attribute (.Name x p) f p2] pos) (fFnin i c f k):=fun M0 F Γ ν σ H Q rs hs hp=>
 (zfo (ky hu (zz n2.hN n2.hv n2.hd n2.hcd) zb) rfl).wp (Y2 n K n2 rs hs hp)
theorem RS.absorb{i:Nat}{o o':OV}{v w:V}{A':List Addr}{H':Hp}(r:RS M0 F (Γ++ [some o]) (ν++ [some v]) H)(hi:i<Γ.length)(hw:ν[i]?=some (some w))(hsub:∀ b∈A',b∈F i∨b∈F Γ.length)(hnd:A'.Nodup)
  (hH:∀ b u,H b=some u->b∉F i->H' b=some u) (hst:∀ b,H b≠none->H' b≠none) (ht:∀ b xs,H b=some (.tup xs)->H' b=some (.tup xs))
  (q:∀ F',F' i=A'->Stp F H F' H'->OR (MM M0 F') H' w o' A'):∃ F',RS M0 F' (Γ.set i (some o')) ν H'/\Stp F H F' H':=by
 have hl:ν.length=Γ.length:=by have:=r.len;simp at this;exact this
 have hni:Γ.length≠i:=ug hi
 let F':Fp:=fun j=>if j=i then A' else if j<Γ.length then F j else []
 have hFi:F' i=A':=by show (if i=i then _ else _)=_;rw[if_pos rfl]
 have hFj:∀ j,j≠i->j<Γ.length->F' j=F j:=fun j h1 h2=>by show (if j=i then _ else _)=_;rw[if_neg h1,if_pos h2]
 have hFo:∀ j,j≠i->¬ j<Γ.length->F' j= []:=fun j h1 h2=>by show (if j=i then _ else _)=_;rw[if_neg h1,if_neg h2]
 have cls:∀ j a,a∈F' j->(j=i/\(a∈F i∨a∈F Γ.length))∨(j≠i/\j<Γ.length/\a∈F j):=fun j a h=>by
  by_cases h1:j=i
  ·subst h1;rw[hFi]at h;exact .inl ⟨rfl,hsub a h⟩
  ·by_cases h2:j<Γ.length
   ·rw[hFj j h1 h2]at h;exact .inr ⟨h1,h2,h⟩
   ·rw[hFo j h1 h2]at h;cases h
 have s:Stp F H F' H':=⟨fun b u eb nb=>⟨hH b u eb (nb i),fun j h=>by
  rcases cls j b h with ⟨_,h | h⟩ | ⟨_,_,h⟩
  ·exact nb _ h
  ·exact nb _ h
  ·exact nb _ h⟩,ht,hst⟩
 refine⟨F',⟨fun a ha=>hst a (r.al0 a ha),fun j a h=>?_,fun j=>?_,fun j k a h1 h2=>?_,fun j p e=>?_,fun j h=>?_,by simp[hl]⟩,s⟩
 ·rcases cls j a h with ⟨_,h | h⟩ | ⟨_,_,h⟩
  ·exact r.dis0 _ a h
  ·exact r.dis0 _ a h
  ·exact r.dis0 _ a h
 ·by_cases h1:j=i
  ·subst h1;rw[hFi];exact hnd
  ·by_cases h2:j<Γ.length
   ·rw[hFj j h1 h2];exact r.nd _
   ·rw[hFo j h1 h2];exact .nil
 ·rcases cls j a h1 with ⟨e1,z1⟩ | ⟨n1,l1,z1⟩
  ·rcases cls k a h2 with ⟨e2,z2⟩ | ⟨n2,l2,z2⟩
   ·rw[e1,e2]
   ·rcases z1 with z1 | z1
    ·exact absurd (r.dis _ _ a z2 z1) n2
    ·have:=r.dis _ _ a z2 z1;omega
  ·rcases cls k a h2 with ⟨e2,z2⟩ | ⟨n2,l2,z2⟩
   ·rcases z2 with z2 | z2
    ·exact absurd (r.dis _ _ a z1 z2) n1
    ·have:=r.dis _ _ a z1 z2;omega
   ·exact r.dis _ _ a z1 z2
 ·by_cases hj:j=i
  ·subst hj
   rw[xi hi]at e
   cases e
   exact⟨w,hw,by rw[hFi];exact q F' hFi s⟩
  ·rw[xg (Ne.symm hj)]at e
   have hjl:j<Γ.length:=(xb.mp e).1
   obtain⟨u,e1,z⟩:=r.at' j p (by rw[xc hjl];exact e)
   rw[xc (by omega)]at e1
   refine⟨u,e1,?_⟩
   rw[hFj j hj hjl]
   exact z.go (fun _ _ x=>zi s r.al0 x) s.tups fun b hb=>by
    obtain⟨o2,eo⟩:=r.laidF hb
    rw[eo];exact hH b _ eo fun h=>hj (r.dis _ _ b hb h)
 ·by_cases hj:j=i
  ·subst hj;rw[xi hi]at h;exact absurd rfl (h o')
  ·by_cases h2:j<Γ.length
   ·rw[hFj j hj h2]
    refine r.emp j fun p e=>h p ?_
    rw[xc h2]at e
    rw[xg (Ne.symm hj)];exact e
   ·exact hFo j hj h2
noncomputable def setO(c:Str)(ns:List Str)(xs:List OV)(f:Str)(o:OV):OV:=match ixF ns f with
 |some j=>.o c ns (xs.set j o)
 |none=>.o c (ns++ [f]) (xs++ [o])
noncomputable def sFset(i:Nat)(c f:Str)(fo:EM OV):SM:=fun Γ=>(fo Γ).bind fun (o,Γ1)=>match Γ1[i]? with
 |some (some (.o c' ns xs))=>if c'=c/\ns.length<100 then .ok (.next,Γ1.set i (some (setO c ns xs f o))) else .bad
 |_=>.bad
theorem zdv(n:NmK X mp s i x)(K:jc X c f)(h:SO X XP mp e fo)(hsw:swapsWith e (some (.Attribute (.Name x p) f p2)) pos.line X.env=pure false):SS X XP mp io (.Assign [.Attribute (.Name x p) f p2] e pos) (sFset i c f fo):=fun M0 F Γ ν σ H D rs hs hl hp=>by
 refine (zfn (zz n.hN n.hv n.hd n.hcd) zb hsw).wp (h M0 F Γ ν σ H _ rs hs ((SPost.seqO hs hl hp).mono fun F1 Γ1 H1 o v rs1 s1 h1=>?_))
 dsimp only at h1
 split at h1
 ·rename_i c' ns xs e
  split at h1
  ·rename_i hh
   obtain⟨rfl,hns⟩:=hh
   have hi:i<Γ1.length:=(xb.mp e).1
   have hlν:ν.length=Γ1.length:=by have:=rs1.len;simp at this;exact this
   obtain⟨a,dx,fs,A,ev,ea,hk,qa,hF⟩:=wN rs1 (by rw[xc hi];exact e)
   rw[xc (by omega)]at ev
   subst hk
   obtain⟨w,ew,qo⟩:=rs1.at' Γ1.length o (by rw[xf (xh _)];simp)
   have ewv:w=v:=by
    rw[xf (by omega),hlν]at ew
    simpa using ew.symm
   subst ewv
   have hne:∀ b,b∈F1 Γ1.length->b∉F1 i:=fun b h1 h2=>by have:=rs1.dis _ _ b h1 h2;omega
   have hnd:=rs1.nd i
   rw[hF]at hnd
   obtain⟨hnA,hndA⟩:=xy.mp hnd
   refine⟨.ref a,hs s i _ n.hm ev,a,_,dx,fs,rfl,ea,K.cl,K.no,by rw[xr]at hns;omega,?_⟩
   have hH:∀ b u,H1 b=some u->b∉F1 i->upd H1 a (.ins (Cs.adr c') dx (zX f w fs)) b=some u:=fun b u eb nb=>by
    rw[zc (fun z=>nb (by rw[hF,z];exact xm))];exact eb
   have hst:∀ b,H1 b≠none->upd H1 a (.ins (Cs.adr c') dx (zX f w fs)) b≠none:=fun b hb=>by
    by_cases z:b=a
    ·subst z;rw[ze];exact fun z=>nomatch z
    ·rw[zc z];exact hb
   have ht:∀ b xs,H1 b=some (.tup xs)->upd H1 a (.ins (Cs.adr c') dx (zX f w fs)) b=some (.tup xs):=fun b xs eb=>by
    rw[zc (fun z=>by subst z;rw[ea]at eb;cases eb)];exact eb
   have fin:∀ (A':List Addr) (ns':List Str) (xs':List OV),(∀ b∈A',b∈A∨b∈F1 Γ1.length)->A'.Nodup->setO c' (fs.map (·.1)) xs f o=.o c' ns' xs'->(zX f w fs).map (·.1)=ns' ->
     (∀ M' H',(∀ w d,Rep (MM M0 F1) H1 w d->Rep M' H' w d)->(∀ c xs,H1 c=some (.tup xs)->H' c=some (.tup xs))->(∀ b,b≠a->H' b=H1 b)->ORL M' H' ((zX f w fs).map (·.2)) xs' A')->D.nx σ (upd H1 a (.ins (Cs.adr c') dx (zX f w fs))):=fun A' ns' xs' hsub hnd' hset hns' hor=>by
    obtain⟨F2,rs2,s2⟩:=rs1.absorb (o':=.o c' ns' xs') (A':=a::A') (H':=upd H1 a (.ins (Cs.adr c') dx (zX f w fs))) hi ev (fun b hb=>by
     rcases xv.mp hb with rfl | hb
     ·exact .inl (by rw[hF];exact xm)
     ·rcases hsub b hb with h | h
      ·exact .inl (by rw[hF];exact xk _ h)
      ·exact .inr h) (xy.mpr ⟨fun h=>by
     rcases hsub a h with h | h
     ·exact hnA h
     ·exact hne a h (by rw[hF];exact xm),hnd'⟩) hH hst ht fun F' hF' s'=>.o ze hns' (hor _ _ (fun _ _ x=>zi s' rs1.al0 x) ht fun b hb=>zc hb)
    rw[hset]at h1
    exact h1 F2 ν σ _ rs2 s2 hs hl fun _ _=>rfl
   cases hj:ixF (fs.map (·.1)) f with
   |some j=>
    obtain⟨⟨v0,h2,h3⟩,h4⟩:=vG hj
    have hjx:j<xs.length:=by
     rw[<- qa.length,xr];exact (xb.mp h2).1
    obtain⟨v',A1,B,A2,g1,g2,g3,g4⟩:=qa.at' (xB hjx)
    have hA2:∀ b,b∈A1++A2->b∈A:=fun b hb=>by rw[g3];simp at hb |-;rcases hb with h | h<;>simp[h]
    refine fin (A1++(F1 Γ1.length++A2)) (fs.map (·.1)) (xs.set j o) (fun b hb=>?_) ?_ (by unfold setO;rw[hj]) ?_ fun M' H' hr ht' hk=>?_
    ·simp at hb
     rcases hb with h | h | h
     ·exact .inl (hA2 b (by simp[h]))
     ·exact .inr h
     ·exact .inl (hA2 b (by simp[h]))
    ·rw[g3]at hndA
     have n1:=xJ.mp hndA
     have n2:=xJ.mp n1.2.1
     refine xJ.mpr ⟨n1.1,xJ.mpr ⟨rs1.nd _,n2.2.1,fun x hx y hy z=>?_⟩,fun x hx y hy z=>?_⟩
     ·subst z;exact hne x hx (by rw[hF];exact xk _ (hA2 x (by simp[hy])))
     ·subst z
      rcases xQ.mp hy with h | h
      ·exact hne x h (by rw[hF];exact xk _ (hA2 x (by simp[hx])))
      ·exact n1.2.2 x hx x (xw _ h) rfl
    ·rw[h4 w,List.map_set]
     have e1:(fs.map (·.1))[j]?=some f:=by rw[xt,h2];rfl
     apply xI
     intro k
     by_cases hkj:j=k
     ·subst hkj;rw[xi (xb.mp e1).1,e1]
     ·rw[xg hkj]
    ·rw[h4 w,List.map_set]
     refine g4 M' H' w o _ hr ht' (fun b hb=>hk b fun z=>?_) (qo.go hr ht' fun b hb=>hk b fun z=>?_)
     ·subst z;exact hnA (hA2 b hb)
     ·subst z;exact hne b hb (by rw[hF];exact xm)
   |none=>
    obtain⟨_,h4⟩:=vH hj
    refine fin (A++F1 Γ1.length) (fs.map (·.1)++ [f]) (xs++ [o]) (fun b hb=>xQ.mp hb) ?_ (by unfold setO;rw[hj]) (by rw[h4 w];simp) fun M' H' hr ht' hk=>?_
    ·exact xJ.mpr ⟨hndA,rs1.nd _,fun x hx y hy z=>by subst z;exact hne x hy (by rw[hF];exact xk _ hx)⟩
    ·rw[h4 w,List.map_append]
     exact ORL.snocO (qo.go hr ht' fun b hb=>hk b fun z=>by subst z;exact hne b hb (by rw[hF];exact xm)) (qa.go hr ht' fun b hb=>hk b fun z=>by subst z;exact hnA hb)
  ·exact h1.elim
 ·exact h1.elim
end
noncomputable def updF(Γ:Gv)(i:Nat)(f:Str)(o:OV):Gv:=match Γ[i]? with
 |some (some (.o c ns xs))=>Γ.set i (some (setO c ns xs f o))
 |_=>Γ
variable [Cs]
section
variable {X:Cx} {XP:XPT} {mp io:List Nat} {a b e:Expr} {es:List Expr} {pos p p2 pos' p3:Pos} {fa fb fc:EM FV} {fo:EM OV} {kx:Nat} {c f x:Str} {s i:Nat} {M0:Addr->Prop} {F:Fp} {Γ:Gv} {ν:Nu} {σ:St} {H H':Hp}
theorem zcm{o:OV}(rs:RS M0 F Γ ν H)(h:objF Γ i c f=some o):∃ v,FldAt M0 F Γ ν H i c f o v:=by
 obtain⟨ns,xs,j,e,hj,hx⟩:=VQ h
 obtain⟨a,dx,fs,A,ev,ea,hk,qa,hF⟩:=wN rs e
 subst hk
 obtain⟨⟨v,h1,h2⟩,h3⟩:=vG hj
 obtain⟨v',A1,B,A2,g1,g2,g3,g4⟩:=qa.at' hx
 rw[xt,h1]at g1
 cases g1
 refine⟨v,⟨a,dx,fs,_,xs,j,A1,B,A2,e,ev,ea,rfl,hj,hx,h1,g2,by rw[hF,g3],fun M' H' v' x' B' hr ht hk q=>?_⟩⟩
 rw[List.map_set]
 exact g4 M' H' v' x' B' hr ht hk q
theorem FldAt.same{o o':OV}{v v':V}(h:FldAt M0 F Γ ν H i c f o v)(h':FldAt M0 F Γ ν H' i c f o' v')(s:Same H H'):v=v':=by
 obtain⟨a,dx,fs,ns,xs,j,_,_,_,e1,e2,e3,_,e5,_,e7,_⟩:=h.ex
 obtain⟨a',dx',fs',ns',xs',j',_,_,_,e1',e2',e3',_,e5',_,e7',_⟩:=h'.ex
 rw[e1]at e1';cases e1'
 rw[e2]at e2';cases e2'
 rw[s _ _ e3]at e3';cases e3'
 rw[e5]at e5';cases e5'
 rw[e7]at e7';cases e7'
 rfl
theorem FldAt.mut{o o':OV}{b:Addr}{u:HO}{Bs:List Addr}(h:FldAt M0 F Γ ν H i c f o (.ref b))(rs:RS M0 F Γ ν H)(hB:∀ B,OR (MM M0 F) H (.ref b) o B->B=b::Bs)(hu:∀ xs,H b≠some (.tup xs))(hui:∀ C dx fs,H b≠some (.ins C dx fs))
  (q:∀ (M':Addr->Prop) (H':Hp),H' b=some u->(∀ w d,Rep (MM M0 F) H w d->Rep M' H' w d)->(∀ b'∈Bs,b'≠b->H' b'=H b')->(∀ c xs,H c=some (.tup xs)->H' c=some (.tup xs))->OR M' H' (.ref b) o' (b::Bs)) :
  ∃ F',RS M0 F' (updF Γ i f o') ν (upd H b u)/\Stp F H F' (upd H b u):=by
 obtain⟨a,dx,fs,ns,xs,j,A1,B,A2,e1,e2,e3,e4,e5,e6,e7,e8,e9,e10⟩:=h.ex
 have eB:=hB B e8
 subst eB
 have hi:i<Γ.length:=(xb.mp e1).1
 have hba:b≠a:=fun z=>by subst z;exact hui _ _ _ e3
 have hbF:b∈F i:=by rw[e9];simp
 have hnd:=rs.nd i
 have hset:updF Γ i f o'=Γ.set i (some (.o c ns (xs.set j o'))):=by
  unfold updF
  rw[e1]
  show Γ.set i (some (setO c ns xs f o'))=_
  unfold setO
  rw[e5]
 rw[hset]
 have hfs:fs.set j (f,.ref b)=fs:=by
  apply xI
  intro k
  by_cases hk:j=k
  ·subst hk;rw[xi (xb.mp e7).1,e7]
  ·rw[xg hk]
 refine rs.wrO (A:=F i) hi e2 hbF hu (fun _ h=>h) hnd fun hr ht=>?_
 rw[e9]at hnd
 have hndc:=xy.mp hnd
 have n1:=xJ.mp hndc.2
 have n2:=xJ.mp n1.2.1
 have hnot:∀ b',b'∈A1++A2->b'≠b:=fun b' hb' z=>by
  subst z
  rcases xQ.mp hb' with h | h
  ·exact n1.2.2 _ h _ (by simp) rfl
  ·exact n2.2.2 _ xm _ h rfl
 have:=e10 (MM M0 (fset F i (F i))) (upd H b u) (.ref b) o' (b::Bs) hr ht (fun b' hb'=>zc (hnot b' hb')) (q _ _ ze hr (fun b' _ hne=>zc hne) ht)
 rw[hfs]at this
 have e9':=e9
 generalize MM M0 (fset F i (F i))=MX at this |-
 rw[e9]
 exact .o (by rw[zc (Ne.symm hba)];exact e3) e4 this
theorem FldAt.lst{ys:List OV}{ds:List PyData}{v:V}(h:FldAt M0 F Γ ν H i c f (.l ys) v)(rs:RS M0 F Γ ν H)(hl:leaves ys=some ds):∃ b us,v=.ref b/\H b=some (.lst us)/\RepL (MM M0 F) H us ds /\
  ∀ us' ds',RepL (MM M0 F) H us' ds'->∃ F',RS M0 F' (updF Γ i f (.l (ds'.map .d))) ν (upd H b (.lst us'))/\Stp F H F' (upd H b (.lst us')):=by
 obtain⟨a,dx,fs,ns,xs,j,A1,B,A2,e1,e2,e3,e4,e5,e6,e7,e8,e9,e10⟩:=id h.ex
 cases e8 with
 | @l b us _ A' eb qb=>
  obtain⟨q1,q2⟩:=qb.leaf hl
  subst q2
  refine⟨b,us,rfl,eb,q1,fun us' ds' r'=>h.mut (Bs:= []) rs (fun B q=>?_) (fun xs z=>by rw[eb]at z;cases z) (fun C dx fs z=>by rw[eb]at z;cases z) fun M' H' hb hr _ _=>.l hb (ORL.data (qZ hr r'))⟩
  cases q with
  | @l _ us2 _ A2 eb2 qb2=>
   rw[(qb2.leaf hl).2]
theorem FldAt.dct{ds:List (Str×PyData)}{v:V}(h:FldAt M0 F Γ ν H i c f (.m ds) v)(rs:RS M0 F Γ ν H):∃ b ks,v=.ref b/\H b=some (.dK (ks.map kK))/\KR (MM M0 F) H ks ds /\
  ∀ ks' ds',KR (MM M0 F) H ks' ds'->∃ F',RS M0 F' (updF Γ i f (.m ds')) ν (upd H b (.dK (ks'.map kK)))/\Stp F H F' (upd H b (.dK (ks'.map kK))):=by
 obtain⟨a,dx,fs,ns,xs,j,A1,B,A2,e1,e2,e3,e4,e5,e6,e7,e8,e9,e10⟩:=id h.ex
 cases e8 with
 | @m b ks _ eb kk qb=>
  refine⟨b,ks,rfl,eb,.of kk qb,fun ks' ds' r'=>h.mut (Bs:= []) rs (fun B q=>?_) (fun xs z=>by rw[eb]at z;cases z) (fun C dx fs z=>by rw[eb]at z;cases z) fun M' H' hb hr _ _=>.m hb r'.keys (qZ hr r'.vals)⟩
  cases q with
  |m _ _ _=>rfl
inductive IZ where
 |w (w:IW)
 |p (a b:IW)
noncomputable def zD(Γ:Gv):IZ->Option PyData
 |.w w=>wD Γ w
 |.p a b=>match wD Γ a,wD Γ b with
  |some x,some y=>some (.tuple [x,y])
  |_,_=>none
noncomputable def ZOk(X:Cx)(mp:List Nat)(a:Expr)(z:IZ):Prop:=∀ (M0:Addr->Prop) (F:Fp) (Γ:Gv) (ν:Nu) (σ:St) (H:Hp) (x:PyData),RS M0 F Γ ν H->Sees mp ν σ->zD Γ z=some x->∀ Q:VK,(∀ v H',Same H H'->Rep (MM M0 F) H' v x->Q v H')->wpE X a σ H Q
theorem zhl{w:IW}(h:WOk X mp a w):ZOk X mp a (.w w):=fun M0 F Γ ν σ H x rs hs e Q k=>by
 obtain⟨v,r,q⟩:=h M0 F Γ ν σ H x rs hs e
 exact q Q (k v H (Same.refl _) r)
theorem zhk{w1 w2:IW}(h1:WOk X mp a w1)(h2:WOk X mp b w2)(hst:starEach [a,b] X.env=(false,eval a X.env)::starEach [b] X.env)(hst2:starEach [b] X.env= [(false,eval b X.env)]):ZOk X mp (.Tuple [a,b] kx pos) (.p w1 w2):=fun M0 F Γ ν σ H x rs hs e Q k=>by
 dsimp only [zD]at e
 split at e
 ·rename_i x1 x2 e1 e2
  cases e
  obtain⟨v1,r1,q1⟩:=h1 M0 F Γ ν σ H x1 rs hs e1
  obtain⟨v2,r2,q2⟩:=h2 M0 F Γ ν σ H x2 rs hs e2
  refine (zav (zk zb (zk zb pa_nil hst2) hst)).wp (q1 _ (q2 _ ⟨by show 2<=sizeLine;decide,fun p hn=>?_⟩))
  have sm:Same H (upd H p (.tup [v1,v2])):=zr hn
  exact k _ _ sm (.tuple ze (.cons (r1.grow sm.grow) (.cons (r2.grow sm.grow) .nil)))
 ·cases e
noncomputable def sFapp(i:Nat)(c f:Str)(z:IZ):SM:=fun Γ=>match objF Γ i c f,zD Γ z with
 |some (.l ys),some x=>match leaves ys with
  |some ds=>if ds.length<1000000 then .ok (.next,updF Γ i f (.l ((ds++ [x]).map .d))) else .bad
  |none=>.bad
 |_,_=>.bad
theorem zds{z:IZ}(n:NmK X mp s i x)(K:jc X c f)(hz:ZOk X mp a z)(hst:starEach [a] X.env= [(false,eval a X.env)])(hline:(p3.endLine==pos.line)=true) :
  SS X XP mp io (.Expr (.Call (.Attribute (.Attribute (.Name x p) f p2) "append" p3) [a] [] pos) pos') (sFapp i c f z):=fun M0 F Γ ν σ H D rs hs hl hp=>by
 unfold sFapp at hp
 split at hp
 ·rename_i ys y e ez
  split at hp
  ·rename_i ds ed
   split at hp
   ·rename_i hlt
    refine (vX (zd6 PySem.F.plainAttrs_list PySem.F.slot_list_append PySem.F.type_list_append kj zb (zk zb pa_nil hst) rfl (by rw[hst];rfl) hline hst rfl) rfl).wp (z8 n K rs hs e fun v hv=>?_)
    obtain⟨b,us,rfl,eb,ru,_⟩:=hv.lst rs ed
    refine⟨.inl ⟨rfl,_,SqL.of eb⟩,hz M0 F Γ ν σ H y rs hs ez _ fun v2 H2 sm r2=>?_⟩
    obtain⟨v',hv'⟩:=zcm (rs.same sm) e
    have ev:=hv.same hv' sm
    subst ev
    obtain⟨b',us',eq,eb',ru',mu⟩:=hv'.lst (rs.same sm) ed
    cases eq
    refine⟨b,us',v2,rfl,rfl,eb',by have:=sizeLine_eq;rw[ru'.length];omega,?_⟩
    obtain⟨F2,rs2,s2⟩:=mu (us'++ [v2]) (ds++ [y]) (ru'.append (.cons r2 .nil))
    exact hp F2 ν σ _ rs2 ((Stp.same sm).trans s2) hs hl fun _ _=>rfl
   ·exact hp.elim
  ·exact hp.elim
 ·exact hp.elim
noncomputable def sFpop(io:List Nat)(i:Nat)(c f:Str)(k:Nat):SM:=fun Γ=>match objF Γ i c f with
 |some (.l ys)=>match leaves ys with
  |some ds=>match ds.getLast? with
   |some d=>if k<Γ.length/\k∉io then .ok (.next,(updF Γ i f (.l (ds.dropLast.map .d))).set k (some (.d d))) else .bad
   |none=>.bad
  |none=>.bad
 |_=>.bad
theorem zbA{o:OV}:(updF Γ i f o).length=Γ.length:=by
 unfold updF
 split
 ·rw[xG]
 ·rfl
theorem zdt{s2 k:Nat}{y:Str}{py:Pos}(n:NmK X mp s i x)(K:jc X c f)(hN:X.N.Nodup)(hi:X.N[s2]?=some y)(hy:Loc X.env.scope y)(hfy:X.fn y=true∨X.env.scope.names.lookup y=some .local)(hn:mp.Nodup)(hm:mp[s2]?=some k)(hline:(p3.endLine==pos.line)=true) :
  SS X XP mp io (.Assign [.Name y py] (.Call (.Attribute (.Attribute (.Name x p) f p2) "pop" p3) [] [] pos) pos') (sFpop io i c f k):=fun M0 F Γ ν σ H D rs hs hl hp=>by
 unfold sFpop at hp
 split at hp
 ·rename_i ys e
  split at hp
  ·rename_i ds ed
   split at hp
   ·rename_i d eg
    split at hp
    ·rename_i hk
     refine (ZT hN hi hy (zfg PySem.F.plainAttrs_list PySem.F.slot_list_pop PySem.F.type_list_pop ze0 zb rfl hline) rfl hfy).wp (z8 n K rs hs e fun v hv=>?_)
     obtain⟨b,us,rfl,eb,ru,mu⟩:=hv.lst rs ed
     rw[uk,<- ru.length]at eg
     obtain⟨w,hw,rw'⟩:=ru.get' eg
     refine⟨.inl ⟨rfl,_,SqL.of eb⟩,b,us,w,rfl,rfl,eb,hw,?_⟩
     obtain⟨F2,rs2,s2⟩:=mu us.dropLast ds.dropLast (by rw[List.dropLast_eq_take,List.dropLast_eq_take,ru.length];exact ru.take _)
     obtain⟨F3,rs3,s3⟩:=rs2.setD (i:=k) (d:=d) (v:=w) (zi s2 rs.al0 rw') (by rw[zbA];exact hk.1)
     refine hp F3 _ _ _ rs3 (s2.trans s3) (hs.set hn hm (by rw[hl];exact (xb.mp hi).1)) (by simpa using hl) fun l hl2=>?_
     rw[xg (fun z=>hk.2 (by rw[z];exact hl2))]
    ·exact hp.elim
   ·exact hp.elim
  ·exact hp.elim
 ·exact hp.elim
noncomputable def sFput(i:Nat)(c f:Str)(k:Nat)(fa:EM FV):SM:=fun Γ=>(fa Γ).bind fun (u,Γ1)=>match derS Γ1 u,objF Γ1 i c f,Γ1[k]? with
 |some d,some (.m ds),some (some (.d (.str z)))=>if ds.length<1000000 then .ok (.next,updF Γ1 i f (.m (jJ ds z d))) else .bad
 |_,_,_=>.bad
theorem zdu{s2 k:Nat}{y:Str}(hu:X.A.units+1<cLine)(n:NmK X mp s i x)(K:jc X c f)(n2:NmK X mp s2 k y)(ha:SE X XP mp a fa)(hsw:swapsWith a (some (.Subscript (.Attribute (.Name x p) f p2) (.Name y p3) pos')) pos.line X.env=pure false) :
  SS X XP mp io (.Assign [.Subscript (.Attribute (.Name x p) f p2) (.Name y p3) pos'] a pos) (sFput i c f k fa):=fun M0 F Γ ν σ H D rs hs hl hp=>by
 refine (zcP hu zb (zz n2.hN n2.hv n2.hd n2.hcd) zb hsw).wp (ha M0 F Γ ν σ H _ rs hs ((SPost.seq hs hl hp).mono fun F1 Γ1 H1 u rs1 s1 h1 v hv=>?_))
 dsimp only at h1
 split at h1
 ·rename_i d ds z ed e ek
  split at h1
  ·rename_i hlt
   refine z8 n K rs1 hs e fun w hw=>?_
   obtain⟨b,ks,rfl,eb,rk,mu⟩:=hw.dct rs1
   obtain⟨vk,evk,qk⟩:=rs1.at' k _ ek
   generalize F1 k=Ak at qk
   cases qk with
   |d qk=>
    cases qk
    refine⟨_,hs s2 k _ n2.hm evk,b,_,rfl,.inl ⟨_,.inr z,eb,rfl,by have:=sizeLine_eq;rw[xr,rk.length];omega,rfl⟩,?_⟩
    obtain⟨F2,rs2,s2⟩:=mu (jJ ks z v) (jJ ds z d) (rk.put z (hv.strong rs1 ed))
    rw[vY]
    exact h1 F2 ν σ _ rs2 s2 hs hl fun _ _=>rfl
  ·exact h1.elim
 ·exact h1.elim
end
noncomputable def derD(Γ:Gv):FV->Option (List (Str×PyData))
 |.dat (.dict kv)=>unD kv
 |.own i=>match Γ[i]? with
  |some (some (.m ds))=>some ds
  |some (some (.d (.dict kv)))=>unD kv
  |_=>none
 |_=>none
noncomputable def KY(c f:Str):PyData->Option PyData
 |.dict ((.none,.str c')::kv)=>if c'=c then (unD kv).bind fun fs=>zF fs f else none
 |_=>none
theorem Jz{β:Type}(f:Str):∀ (fs:List (Str×β)),fs.lookup f=zF fs f
 |[]=>rfl
 | (x,y)::r=>by
  rw[xq]
  unfold zF
  rw[xN]
  by_cases h:x=f
  ·subst h;simp
  ·have h':(f==x)=false:=by simpa using fun z=>h z.symm
   rw[h']
   simp only[h,decide_false]
   exact Jz f r
variable [Cs]
theorem Rep.tab{M:Addr->Prop}{H:Hp}{v:V}{kv:List (PyData×PyData)}{ds:List (Str×PyData)}(r:Rep M H v (.dict kv))(e:unD kv=some ds):∃ a ks,v=.ref a/\¬ M a/\Rd H a (.dK (ks.map kK))/\KR M H ks ds:=by
 obtain⟨a,rfl,n,h | h⟩:=r.dict_inv
 ·obtain⟨ks,ds',h1,rfl,h2⟩:=h
  rw[jq]at e;cases e
  exact⟨a,ks,rfl,n,h1,h2⟩
 ·obtain⟨_,_,_,_,_,rfl,_⟩:=h
  cases e
theorem RepL.strs{M:Addr->Prop}{H:Hp}:∀ (ss:List Str),RepL M H (ss.map V.str) (ss.map .str)
 |[]=>.nil
 |x::r=>.cons (.str x) (RepL.strs r)
section
variable {X:Cx} {XP:XPT} {mp io:List Nat} {a b c e tg iter elt:Expr} {es ifs:List Expr} {pos p p2 pos' p3:Pos} {fa fb fc:EM FV} {fo:EM OV} {na:EM (List PyData)} {ma:EM (List (Str×PyData))} {kx:Nat} {cl f x:Str} {s i:Nat} {M0:Addr->Prop} {F:Fp} {Γ:Gv} {ν:Nu} {σ:St} {H H':Hp} {u:FV} {v:V}
theorem FOk.dict{ds:List (Str×PyData)}(h:FOk M0 F ν H v u)(rs:RS M0 F Γ ν H)(e:derD Γ u=some ds):∃ a ks,v=.ref a/\Rd H a (.dK (ks.map kK))/\KR (MM M0 F) H ks ds:=by
 cases u with
 |dat y=>
  cases y<;>try (cases e;done)
  rename_i kv
  obtain⟨a,ks,h1,_,h2,h3⟩:=Rep.tab (show Rep (MM M0 F) H v _ from h) e
  exact⟨a,ks,h1,h2,h3⟩
 |own i=>
  have hv:ν[i]?=some (some v):=h
  dsimp only [derD]at e
  split at e
  ·rename_i ds' q
   cases e
   obtain⟨w,e1,r⟩:=rs.at' i _ q
   rw[hv]at e1;cases e1
   generalize F i=A at r
   cases r with
   |m ea k r=>exact⟨_,_,rfl,.inl ea,.of k r⟩
  ·rename_i kv q
   obtain⟨w,e1,r⟩:=rs.at' i _ q
   rw[hv]at e1;cases e1
   generalize F i=A at r
   cases r with
   |d r=>
    obtain⟨a,ks,h1,_,h2,h3⟩:=Rep.tab r e
    exact⟨a,ks,h1,h2,h3⟩
  ·cases e
noncomputable def fDget(fa fb:EM FV):EM FV:=fun Γ=>(fa Γ).bind fun (u,Γ1)=>(fb Γ1).bind fun (w,Γ2)=>match derD Γ2 u,derf Γ2 w with
 |some ds,some (.str z)=>match zF ds z with
  |some x=>.ok (.dat x,Γ2)
  |none=>.bad
 |_,_=>.bad
theorem zc2(hu:X.A.units+1<cLine)(ha:SE X XP mp a fa)(hb:SE X XP mp b fb)(hx:zbQ b):SE X XP mp (.Subscript a b pos) (fDget fa fb):=fun M0 F Γ ν σ H Q rs hs hp=>
 (Yo hu zb zb hx).wp (ha.run rs hs hp fun F1 Γ1 H1 u v rs1 s1 o1 h1=>hb.run rs1 hs h1 fun F2 Γ2 H2 w v2 rs2 s2 o2 h2=>by
  dsimp only at h2
  split at h2
  ·rename_i ds z e1 e2
   split at h2
   ·rename_i y ey
    obtain⟨l,ks,rfl,er,kr⟩:=(o1.stp s2 rs1.al0).dict rs2 e1
    cases o2.weak rs2 e2
    obtain⟨w',hw,rw'⟩:=(kr.val z).2 y ey
    exact⟨l,w',rfl,.inl ⟨_,.inr z,er,rfl,by rw[Zy,hw]⟩,h2 F2 H2 rs2 (.refl _ _) w' rw'⟩
   ·exact h2.elim
  ·exact h2.elim)
noncomputable def gDin(x y:PyData):Option Bool:=match x,y with
 |.str z,.dict kv=>(unD kv).map fun ds=>(zF ds z).isSome
 |_,_=>none
noncomputable def gDnin(x y:PyData):Option Bool:=match x,y with
 |.str z,.dict kv=>(unD kv).map fun ds=> !(zF ds z).isSome
 |_,_=>none
theorem ze8(hu:X.A.units+1<cLine):OpR X (compareOp .In) (fun x y H Q=>∃ l o,y=.ref l/\Vf H l x o/\Q (.bl o.isSome) H):=by
 rintro pins s σ H x y v u Q I rx ry ⟨l,o,rfl,g,k⟩
 obtain rfl:u=Value.ref l:=ry
 exact d_in hu I g rx fun s' I'=>⟨.bl o.isSome,H,I',rfl,k⟩
theorem zcB(hu:X.A.units+1<cLine):OpR X (compareOp .NotIn) (fun x y H Q=>∃ l o,y=.ref l/\Vf H l x o/\Q (.bl (!o.isSome)) H):=by
 rintro pins s σ H x y v u Q I rx ry ⟨l,o,rfl,g,k⟩
 obtain rfl:u=Value.ref l:=ry
 exact Yh hu I g rx fun s' I'=>⟨.bl (!o.isSome),H,I',rfl,k⟩
theorem KH(hu:X.A.units+1<cLine):J3 X .In gDin:=fun x y z e=>by
 unfold gDin at e
 split at e
 ·rename_i k kv
  cases q:unD kv with
  |none=>rw[q]at e;cases e
  |some ds=>
   rw[q]at e;cases e
   exact⟨_,ze8 hu,fun H v u Q r1 r2 kk=>by
    cases r1
    obtain⟨l,ks,rfl,_,er,kr⟩:=Rep.tab r2 q
    have h1:=(kr.val k).1
    exact⟨l,zF ks k,rfl,.inl ⟨_,.inr k,er,rfl,by rw[Zy]⟩,by rw[h1];exact kk⟩⟩
 ·cases e
theorem Yi(hu:X.A.units+1<cLine):J3 X .NotIn gDnin:=fun x y z e=>by
 unfold gDnin at e
 split at e
 ·rename_i k kv
  cases q:unD kv with
  |none=>rw[q]at e;cases e
  |some ds=>
   rw[q]at e;cases e
   exact⟨_,zcB hu,fun H v u Q r1 r2 kk=>by
    cases r1
    obtain⟨l,ks,rfl,_,er,kr⟩:=Rep.tab r2 q
    have h1:=(kr.val k).1
    exact⟨l,zF ks k,rfl,.inl ⟨_,.inr k,er,rfl,by rw[Zy]⟩,by rw[h1];exact kk⟩⟩
 ·cases e
noncomputable def fAttr(cl f:Str)(fa:EM FV):EM FV:=fun Γ=>(fa Γ).bind fun (u,Γ1)=>match (derS Γ1 u).bind (KY cl f) with
 |some x=>.ok (.dat x,Γ1)
 |none=>.bad
theorem zc0(K:jc X cl f)(ha:SE X XP mp a fa)(hb:attributeBase a f X.env (eval a X.env)=eval a X.env):SE X XP mp (.Attribute a f pos) (fAttr cl f fa):=fun M0 F Γ ν σ H Q rs hs hp=>
 (zar zb hb).wp (ha.run rs hs hp fun F1 Γ1 H1 u v rs1 s1 o1 h1=>by
  dsimp only at h1
  split at h1
  ·rename_i y ey
   cases ed:derS Γ1 u with
   |none=>rw[ed]at ey;cases ey
   |some d=>
    rw[ed]at ey
    have ey':KY cl f d=some y:=ey
    unfold KY at ey'
    split at ey'
    ·rename_i c' kv
     split at ey'
     ·rename_i hc
      subst hc
      obtain⟨l,rfl,n,h | h⟩:=(o1.strong rs1 ed).dict_inv
      ·obtain⟨ks,ds,_,e,_⟩:=h
       cases ds<;>cases e
      ·obtain⟨dx,c2,fs,ds,el,e,kr⟩:=h
       cases e
       rw[jq]at ey'
       obtain⟨w,hw,rw'⟩:=(kr.val f).2 y ey'
       exact⟨l,_,dx,fs,w,rfl,el,K.cl,K.no,by rw[Jz];exact hw,h1 F1 H1 rs1 (.refl _ _) w rw'⟩
     ·cases ey'
    ·cases ey'
  ·exact h1.elim)
theorem RS.newM{p:Addr}{ks:List (Str×V)}{ds:List (Str×PyData)}(r:RS M0 F Γ ν H)(n:H p=none)(q:KR (MM M0 F) H ks ds) :
  RS M0 (fset F Γ.length [p]) (Γ++ [some (.m ds)]) (ν++ [some (.ref p)]) (upd H p (.dK (ks.map kK)))/\Stp F H (fset F Γ.length [p]) (upd H p (.dK (ks.map kK))):=by
 have hp:∀ i,p∉F i:=fun i h=>by
  obtain⟨vs,e⟩:=r.laidF h
  rw[n]at e;cases e
 have s:Stp F H (fset F Γ.length [p]) (upd H p (.dK (ks.map kK))):=⟨fun b o e nb=>⟨zr n b o e,fun j h=>by
  by_cases hj:j=Γ.length
  ·subst hj;rw[zd]at h
   have e':b=p:=by simpa using h
   subst e';rw[n]at e;cases e
  ·rw[zf hj]at h;exact nb j h⟩,fun b xs e=>zr n b _ e,fun b h=>by
   by_cases e:b=p
   ·subst e;exact absurd n h
   ·rw[zc e];exact h⟩
 have q':=KR.stp q s r.al0
 have r1:=(r.ext 1).put (i:=Γ.length) (o:=.m ds) (v:=.ref p) (A:= [p]) (H':=upd H p (.dK (ks.map kK))) s (fun j _ a ha=>zc (fun e=>hp j (by rw[<- e];exact ha)))
  (fun a h=>s.stay a (r.al0 a h)) (fun a ha h=>by
   have e:a=p:=by simpa using ha
   subst e;exact r.al0 a h n) (xy.mpr ⟨(fun z=>nomatch z),.nil⟩) (fun j _ a ha=>by
   have e:a=p:=by simpa using ha
   subst e;exact hp j) (by simp) (.m ze q'.keys q'.vals)
 rw[q8]at r1
 have e2:(ν++List.replicate 1 none).set Γ.length (some (V.ref p))=ν++ [some (V.ref p)]:=by rw[<- r.len,q8]
 rw[e2]at r1
 exact⟨r1,s⟩
noncomputable def fOwnD(n:EM (List (Str×PyData))):EM OV:=fun Γ=>(n Γ).bind fun (ds,Γ1)=>.ok (.m ds,Γ1)
theorem SD.so(h:SD X XP mp a ma):SO X XP mp a (fOwnD ma):=fun M0 F Γ ν σ H Q rs hs hp=>
 h M0 F Γ ν σ H Q rs hs (hp.seq.mono fun F1 Γ1 H1 ds rs1 s1 h1 ks p r n=>by
  obtain⟨r2,s2⟩:=rs1.newM n r
  exact h1 _ _ _ r2 s2)
noncomputable def fNewD(n:EM (List (Str×PyData))):EM FV:=fOD (fOwnD n)
theorem SD.se(h:SD X XP mp a ma):SE X XP mp a (fNewD ma):=h.so.se
theorem SDt.so{t:TE}(h:SDt XP mp t ma):SOt XP mp t (fOwnD ma):=fun M0 F Γ ν σ H Q rs hs hp=>
 h M0 F Γ ν σ H Q rs hs (hp.seq.mono fun F1 Γ1 H1 ds rs1 s1 h1 ks p r n=>by
  obtain⟨r2,s2⟩:=rs1.newM n r
  exact h1 _ _ _ r2 s2)
theorem SDt.sd{t:TE}(h:SDt XP mp t ma):SOt XP mp t (fD (fNewD ma)):=fun M0 F Γ ν σ H Q rs hs hp=>
 h M0 F Γ ν σ H Q rs hs (by
  have hp':OPost M0 F ν σ H XP (fun F' Γ' H' o v=>Q v H') ((ma Γ).bind fun (ds,Γ1)=>.ok (.d (.dict (ds.map dK)),Γ1)):=by
   have e:fD (fNewD ma) Γ=(ma Γ).bind fun (ds,Γ1)=>.ok (.d (.dict (ds.map dK)),Γ1):=by
    unfold fD fNewD fOD fOwnD
    cases ma Γ<;>rfl
   rw[<- e];exact hp
  exact hp'.seq.mono fun F1 Γ1 H1 ds rs1 s1 h1 ks p r n=>by
   obtain⟨r2,s2⟩:=rs1.newM n r
   obtain⟨F3,r3,s3,q3⟩:=r2.dropD
   exact h1 F3 _ _ (r3.newD q3) (s2.trans s3))
noncomputable def fDnil:EM (List (Str×PyData)):=fun Γ=>.ok ([],Γ)
theorem zfy:SD X XP mp (.Dict [] [] pos) fDnil:=fun M0 F Γ ν σ H Q rs hs hp=>pe_dnewK.wp fun p n=>hp F H rs (.refl _ _) [] p .nil n
noncomputable def fDone(fa fb:EM FV):EM (List (Str×PyData)):=fun Γ=>(fa Γ).bind fun (u,Γ1)=>match derf Γ1 u with
 |some (.str z)=>(fb Γ1).bind fun (w,Γ2)=>match derS Γ2 w with
  |some y=>.ok ([(z,y)],Γ2)
  |none=>.bad
 |_=>.bad
theorem zfz(ha:SE X XP mp a fa)(hb:SE X XP mp b fb):SD X XP mp (.Dict [some a] [b] pos) (fDone fa fb):=fun M0 F Γ ν σ H Q rs hs hp=>
 (zaq zb zb).wp (ha.run rs hs hp fun F1 Γ1 H1 u v rs1 s1 o1 h1=>by
  dsimp only at h1
  split at h1
  ·rename_i z ez
   cases o1.weak rs1 ez
   refine hb.run rs1 hs h1 fun F2 Γ2 H2 w v2 rs2 s2 o2 h2=>?_
   dsimp only at h2
   split at h2
   ·rename_i y ey
    exact⟨.inr z,rfl,fun p n=>h2 F2 H2 rs2 (.refl _ _) [(z,v2)] p (.cons (o2.strong rs2 ey) .nil) n⟩
   ·exact h2.elim
  ·exact h1.elim)
noncomputable def fDcopy(fa:EM FV):EM (List (Str×PyData)):=fun Γ=>(fa Γ).bind fun (u,Γ1)=>match derD Γ1 u with
 |some ds=>.ok (ds,Γ1)
 |none=>.bad
theorem zcZ {x:Str}(B:BiK X x (.type "dict")) (ha:SE X XP mp a fa) (hst:starEach [a] X.env= [(false,eval a X.env)]):SD X XP mp (.Call (.Name x p) [a] [] pos) (fDcopy fa):=fun M0 F Γ ν σ H Q rs hs hp=>
 (Ji YU B.gl B.mg B.bt (zk zb pa_nil hst) B.n B.d hst rfl).wp (ha.run rs hs hp fun F1 Γ1 H1 u v rs1 s1 o1 h1=>by
  dsimp only at h1
  split at h1
  ·rename_i ds e
   obtain⟨l,ks,rfl,er,kr⟩:=o1.dict rs1 e
   exact⟨l,_,rfl,er,fun p n=>h1 F1 H1 rs1 (.refl _ _) ks p kr n⟩
  ·exact h1.elim)
noncomputable def fSortD(fa:EM FV):EM (List PyData):=fun Γ=>(fa Γ).bind fun (u,Γ1)=>match derD Γ1 u with
 |some ds=>if ds.length<64 then .ok ((qB (ds.map (·.1))).map .str,Γ1) else .bad
 |none=>.bad
theorem za3 {x:Str}(hcalm:X.calm=true) (B:BiK X x (.builtin "sorted")) (ha:SE X XP mp a fa) (hst:starEach [a] X.env= [(false,eval a X.env)]):SN X XP mp (.Call (.Name x p) [a] [] pos) (fSortD fa):=fun M0 F Γ ν σ H Q rs hs hp=>
 (jG (Z5 hcalm) B.gl B.mg B.bt (zk zb pa_nil hst) B.n B.d hst rfl).wp (ha.run rs hs hp fun F1 Γ1 H1 u v rs1 s1 o1 h1=>by
  dsimp only at h1
  split at h1
  ·rename_i ds e
   split at h1
   ·rename_i h64
    obtain⟨l,ks,rfl,er,kr⟩:=o1.dict rs1 e
    refine⟨l,ks,rfl,er,by rw[kr.length];exact h64,fun p n=>?_⟩
    rw[kr.keys]
    exact h1 F1 H1 rs1 (.refl _ _) _ p (RepL.strs _) n
   ·exact h1.elim
  ·exact h1.elim)
noncomputable def fMul(fa fb:EM FV):EM (List PyData):=fun Γ=>(fa Γ).bind fun (u,Γ1)=>(fb Γ1).bind fun (w,Γ2)=>match derL Γ2 u,derf Γ2 w with
 |some [d],some (.int k)=>if 0<=k/\k<=1000000 then .ok (List.replicate k.toNat d,Γ2) else .bad
 |_,_=>.bad
theorem RepL.rep1{M:Addr->Prop}{H:Hp}{v:V}{d:PyData}(r:Rep M H v d):∀ (n:Nat),RepL M H (List.replicate n [v]).flatten (List.replicate n d)
 |0=>.nil
 |n+1=>by
  rw[xM,xM,xU]
  exact .cons r (RepL.rep1 r n)
theorem zfP(ha:SE X XP mp a fa)(hb:SE X XP mp b fb):SN X XP mp (.BinOp a .Mult b pos) (fMul fa fb):=fun M0 F Γ ν σ H Q rs hs hp=>
 (W2 zcD zb zb).wp (ha.run rs hs hp fun F1 Γ1 H1 u v rs1 s1 o1 h1=>hb.run rs1 hs h1 fun F2 Γ2 H2 w v2 rs2 s2 o2 h2=>by
  dsimp only at h2
  split at h2
  ·rename_i d k e1 e2
   split at h2
   ·rename_i hk
    obtain⟨l,vs,rfl,el,r⟩:=(o1.stp s2 rs1.al0).list rs2 e1
    cases o2.weak rs2 e2
    cases r with
    |cons r t=>
     cases t
     exact⟨l,_,k,rfl,rfl,el,hk.1,hk.2,rfl,fun p n=>h2 F2 H2 rs2 (.refl _ _) _ p (RepL.rep1 r _) n⟩
   ·exact h2.elim
  ·exact h2.elim)
end
section
variable {X:Cx} {XP:XPT} {mp io:List Nat} {a b e tg iter elt:Expr} {es ifs:List Expr} {pos p p2 pos' p3 apos cpos:Pos} {fa fb fc:EM FV} {fo:EM OV} {na:EM (List PyData)} {ma:EM (List (Str×PyData))} {kx:Nat} {c f x:Str} {s i:Nat} {M0:Addr->Prop} {F:Fp} {Γ:Gv} {ν:Nu} {σ:St} {H H':Hp} {u:FV} {v:V}
noncomputable def fFfrz(i:Nat)(c f:Str):EM FV:=fun Γ=>match objF Γ i c f with
 |some o=>.ok (.dat o.view,updF Γ i f (.d o.view))
 |none=>.bad
theorem zc4(n:NmK X mp s i x)(K:jc X c f):SE X XP mp (.Attribute (.Name x p) f p2) (fFfrz i c f):=fun M0 F Γ ν σ H Q rs hs hp=>by
 unfold fFfrz at hp
 split at hp
 ·rename_i o e
  refine z8 n K rs hs e fun v hv=>?_
  obtain⟨a,dx,fs,ns,xs,j,A1,B,A2,e1,e2,e3,e4,e5,e6,e7,e8,e9,e10⟩:=hv.ex
  have hi:i<Γ.length:=(xb.mp e1).1
  have hset:updF Γ i f (.d o.view)=Γ.set i (some (.o c ns (xs.set j (.d o.view)))):=by
   unfold updF
   rw[e1]
   show Γ.set i (some (setO c ns xs f _))=_
   unfold setO
   rw[e5]
  have hnd:=rs.nd i
  rw[e9]at hnd
  have hndc:=xy.mp hnd
  have n1:=xJ.mp hndc.2
  have n2:=xJ.mp n1.2.1
  have hsub:∀ b∈a::(A1++([]++A2)),b∈F i:=fun b hb=>by
   rw[e9]
   simp at hb |-
   rcases hb with h | h | h
   ·exact .inl h
   ·exact .inr (.inl h)
   ·exact .inr (.inr (.inr h))
  have hfs:fs.set j (f,v)=fs:=by
   apply xI
   intro k
   by_cases hk:j=k
   ·subst hk;rw[xi (xb.mp e7).1,e7]
   ·rw[xg hk]
  have hq:Rep (MM M0 (fset F i (a::(A1++([]++A2))))) H v o.view:=e8.rep (fun b hb=>by
   rcases hb with hb | ⟨k,hb⟩
   ·exact .inl hb
   ·by_cases hk:k=i
    ·subst hk;rw[zd]at hb;exact .inr ⟨k,hsub b hb⟩
    ·rw[zf hk]at hb;exact .inr ⟨k,hb⟩) fun b hb hm=>by
   have hbF:b∈F i:=by rw[e9];simp[hb]
   rcases hm with hm | ⟨k,hm⟩
   ·exact rs.dis0 i b hbF hm
   ·by_cases hk:k=i
    ·subst hk
     rw[zd]at hm
     simp at hm
     rcases hm with h | h | h
     ·subst h;exact hndc.1 (by simp[hb])
     ·exact n1.2.2 b h b (by simp[hb]) rfl
     ·exact n2.2.2 b hb b h rfl
    ·rw[zf hk]at hm;exact hk (rs.dis _ _ b hm hbF)
  have nd':(a::(A1++([]++A2))).Nodup:=xy.mpr ⟨fun h=>hndc.1 (by
   simp at h |-
   rcases h with h | h
   ·exact .inl h
   ·exact .inr (.inr h)),xJ.mpr ⟨n1.1,n2.2.1,fun b h1 c h2=>n1.2.2 b h1 c (xw _ h2)⟩⟩
  obtain⟨rs2,s2⟩:=rs.lessO (o:=.o c ns (xs.set j (.d o.view))) (v:=.ref a) (A:=a::(A1++([]++A2))) hi e2 hsub nd' fun hr=>by
   have:=e10 _ H v (.d o.view) [] hr (fun _ _ z=>z) (fun _ _=>rfl) (.d hq)
   rw[hfs]at this
   exact .o e3 e4 this
  rw[<- hset]at rs2
  exact hp _ H rs2 s2 v hq
 ·exact hp.elim
noncomputable def fFsort(i:Nat)(c f:Str):EM (List PyData):=fun Γ=>match objF Γ i c f with
 |some (.m ds)=>if ds.length<64 then .ok ((qB (ds.map (·.1))).map .str,Γ) else .bad
 |_=>.bad
theorem za2 {y:Str}(hcalm:X.calm=true) (B:BiK X y (.builtin "sorted")) (n:NmK X mp s i x) (K:jc X c f):SN X XP mp (.Call (.Name y p3) [.Attribute (.Name x p) f p2] [] pos) (fFsort i c f):=fun M0 F Γ ν σ H Q rs hs hp=>by
 unfold fFsort at hp
 split at hp
 ·rename_i ds e
  split at hp
  ·rename_i h64
   refine (jG (Z5 hcalm) B.gl B.mg B.bt (zk zb pa_nil rfl) B.n B.d rfl rfl).wp (z8 n K rs hs e fun v hv=>?_)
   obtain⟨b,ks,rfl,eb,kr,_⟩:=hv.dct rs
   refine⟨b,ks,rfl,.inl eb,by rw[kr.length];exact h64,fun p np=>?_⟩
   rw[kr.keys]
   exact hp F H rs (.refl _ _) _ p (RepL.strs _) np
  ·exact hp.elim
 ·exact hp.elim
noncomputable def fItems(fa:EM FV):EM (List PyData×Option Nat):=fun Γ=>(fa Γ).bind fun (u,Γ1)=>match derS Γ1 u with
 |some (.dict kv)=>match unD kv with
  |some ds=>.ok ((ds.map fun p=>.tuple [.str p.1,p.2],none),Γ1)
  |none=>.bad
 |_=>.bad
theorem kI (htg:∃ es n p,tg=.Tuple es n p) (ha:SE X XP mp a fa) (hb:attributeBase a "items" X.env (eval a X.env)=eval a X.env) (hline:(apos.endLine==cpos.line)=true):SIw X XP mp tg (.Call (.Attribute a "items" apos) [] [] cpos) (fItems fa):=fun M0 F Γ ν σ H R rs hs hp=>
 (zaA htg zb hb hline).wp (ha.run rs hs hp fun F1 Γ1 H1 u v rs1 s1 o1 h1=>by
  dsimp only at h1
  split at h1
  ·rename_i kv eu
   split at h1
   ·rename_i ds ed
    obtain⟨l,ks,rfl,nl,er,kr⟩:=Rep.tab (o1.strong rs1 eu) ed
    refine⟨l,_,rfl,er,fun o Hf fz=>h1 F1 H1 rs1 (.refl _ _) _ Hf ⟨.inr ⟨l,o,_,fz,fun i hi=>nl (.inr ⟨i,hi⟩)⟩,fun i F' H' st h0=>?_⟩⟩
    have el:H' l=some (.frz o (.dK (ks.map kK))):=(st.keep l _ fz.1 fun j hj=>nl (.inr ⟨j,hj⟩)).1
    refine⟨fun d hd=>?_,fun hle=>⟨el,by rw[xr,kr.length];simpa using hle⟩⟩
    rw[xt]at hd
    cases q:ds[i]? with
    |none=>rw[q]at hd;cases hd
    |some pr=>
     rw[q]at hd
     cases hd
     obtain⟨w,hw,rw'⟩:=kr.get q
     refine⟨⟨el,by rw[xr,kr.length];exact (xb.mp q).1⟩,fun z H2 ⟨p',t,e1,ez,ht,e2⟩=>?_⟩
     rw[xt,hw]at e1
     cases e1
     subst ez e2
     have sm:Same H' (upd H' t (.tup [kV (kK (pr.1,w)).1,(kK (pr.1,w)).2])):=zr ht
     refine⟨sm,.tuple ze (.cons (.str pr.1) (.cons ((zi st h0 (Rep.eqv (K0 fz) rw')).grow sm.grow) .nil))⟩
   ·exact h1.elim
  ·exact h1.elim)
noncomputable def fFldS(rv:Bool)(i:Nat)(c f:Str):EM (List PyData×Option Nat):=fun Γ=>match objF Γ i c f with
 |some (.l ys)=>match leaves ys with
  |some ds=>.ok ((if rv then ds.reverse else ds,some i),Γ)
  |none=>.bad
 |_=>.bad
theorem FldAt.own{ys:List OV}{ds:List PyData}{v:V}(h:FldAt M0 F Γ ν H i c f (.l ys) v)(rs:RS M0 F Γ ν H)(hl:leaves ys=some ds):∃ b us,v=.ref b/\H b=some (.lst us)/\RepL (MM (Jq M0 F i) (fset F i [])) H us ds/\∀ j,b∉fset F i [] j:=by
 obtain⟨a,dx,fs,ns,xs,j,A1,B,A2,e1,e2,e3,e4,e5,e6,e7,e8,e9,e10⟩:=id h.ex
 cases e8 with
 | @l b us _ A' eb qb=>
  obtain⟨q1,q2⟩:=qb.leaf hl
  refine⟨b,us,rfl,eb,by rw[Z8 zd,vI];exact q1,fun j hj=>?_⟩
  have hb:b∈F i:=by rw[e9];simp
  by_cases z:j=i
  ·subst z;rw[zd]at hj;cases hj
  ·rw[zf z]at hj;exact z (rs.dis _ _ b hj hb)
theorem zdg(n:NmK X mp s i x)(K:jc X c f):SIw X XP mp tg (.Attribute (.Name x p) f p2) (fFldS false i c f):=fun M0 F Γ ν σ H R rs hs hp=>by
 unfold fFldS at hp
 split at hp
 ·rename_i ys e
  split at hp
  ·rename_i ds ed
   refine (vU zb).wp (z8 n K rs hs e fun v hv=>?_)
   obtain⟨b,us,rfl,eb,q,nb⟩:=hv.own rs ed
   exact⟨b,rfl,⟨us,SqL.of eb⟩,hp F H rs (.refl _ _) _ H ⟨rfl,VG eb nb q⟩⟩
  ·exact hp.elim
 ·exact hp.elim
theorem za0 {y:Str}(B:BiK X y (.type "reversed")) (ey:y= "reversed") (n:NmK X mp s i x) (K:jc X c f):SIw X XP mp tg (.Call (.Name y p3) [.Attribute (.Name x p) f p2] [] pos) (fFldS true i c f):=fun M0 F Γ ν σ H R rs hs hp=>by
 subst ey
 unfold fFldS at hp
 split at hp
 ·rename_i ys e
  split at hp
  ·rename_i ds ed
   refine (zfl B.gl B.mg rfl).wp (z8 n K rs hs e fun v hv=>?_)
   obtain⟨b,us,rfl,eb,q,nb⟩:=hv.own rs ed
   exact⟨b,us,rfl,SqL.of eb,hp F H rs (.refl _ _) _ H ⟨rfl,zeS eb nb q⟩⟩
  ·exact hp.elim
 ·exact hp.elim
end
end L3
namespace L2
open PySem PySem.Spec PyProof.Rows
variable [Cs]
section
variable {X:Cx} {σ:St} {H:Hp} {CX:CXT} {E:XK} {sp:Sp} {Q:VK} {C f:Addr} {fd:FuncData} {ps:List Str} {k:Nat} {m x:Str} {o e:Expr} {es:List Expr} {p pos apos:Pos}
theorem WY{A:Around}{env:Env}{args:List Expr}{Q:Value->Shared->Prop}{E:Value->Shared->Prop}{s:Shared}(hbase:attributeBase o m env (eval o env)=eval o env)(hform:methodCallForm (args.length+0) (backTo pos (starEach args env)) (backToKw pos (keywordEach [] env))=true)(hline:(apos.endLine==pos.line)=true)
  (h:wpAny (model X.prog X.w) A (eval o env) (fun ov s₁=>wpAny (model X.prog X.w) A (getMethod ov m (do return (<- importBound o env).getD true)) (fun fx s₂=>wpAny (model X.prog X.w) A (callWith pos fx.1 fx.2 (backTo pos (starEach args env)) (backToKw pos (keywordEach [] env))) Q E s₂) E s₁) E s) :
  wpAny (model X.prog X.w) A (eval (.Call (.Attribute o m apos) args [] pos) env) Q E s:=by
 rw[arm_eval_Call,hbase]
 refine wpAny_bind (wpAny_mono h (fun ov s₁ h₁=>?_) fun _ _ e=>e)
 refine wpAny_bind (wpAny_standAt ?_)
 have hform':methodCallForm (args.length+([]:List Keyword).length) (backTo pos (starEach args env)) (backToKw pos (keywordEach [] env))=true:=hform
 have hpos:methodCallPos true o env apos pos=pure pos:=by unfold methodCallPos;simp[hline]
 unfold methodCall
 rw[hform']
 exact wpAny_bind (wpAny_holding (wpAny_mono h₁ (fun fx s₂ h₂=>wpAny_bind (wpAny_of_eq hpos h₂)) fun _ _ x=>x))
theorem Yv{pins:List (Addr×Obj)}{s:Shared}{us:List Value}{vs:List V}(F:FnOk X.prog X.w X.K X.mg X.base CX k f fd ps sp)(hr:Room k X.A)(hb:Binds X.K fd ps [])
  (hx:∀ pins H s e s',Inv X pins σ H s->CX X.stack H s E e s'->X.xe e s') (I:Inv X pins σ H s) (r:Vals vs us) (h:sp vs H Q E):wpAny (model X.prog X.w) X.A (call (.ref f) us) (EP X pins σ Q) X.xe s:=by
 have hl:us.length=ps.length:=by rw[<- r.length];exact F.len _ _ _ _ h
 have hb':=hb s us I.kIn (by simpa using hl)
 rw[xL]at hb'
 refine wpAny_call (codeAny_mono (F.run X.A X.stack s H ⟨us,[]⟩ us vs Q E hr I.env0 hb' r h) fun r s' hq=>?_)
 cases r with
 |error e=>exact hx pins H s e s' I hq
 |ok fl=>
  cases fl with
  |ret u=>exact I.after hq
  |next=>exact False.elim hq
  |brk=>exact False.elim hq
  |cont=>exact False.elim hq
theorem zbL(c:Cls X.K C)(hm:yh X.K C m f)(F:FnOk X.prog X.w X.K X.mg X.base CX k f fd ps sp)(hr:Room k X.A)(hb:Binds X.K fd ps [])(hx:∀ pins H s e s',Inv X pins σ H s->CX X.stack H s E e s'->X.xe e s')
  (h:wpE X o σ H fun x H1=>∃ a dx fs,x=.ref a/\H1 a=some (.ins C dx fs)/\fs.lookup m=none/\wpA X (e::es) σ H1 fun vs H2=>sp (x::vs) H2 Q E)
  (hst:starEach (e::es) X.env=(false,eval e X.env)::starEach es X.env) (hpl:(backTo pos (starEach es X.env)).any (·.1)=false) (hbase:attributeBase o m X.env (eval o X.env)=eval o X.env) (hform:methodCallForm ((e::es).length+0) (backTo pos (starEach (e::es) X.env)) (backToKw pos (keywordEach [] X.env))=true) (hline:(apos.endLine==pos.line)=true):wpE X (.Call (.Attribute o m apos) (e::es) [] pos) σ H Q:=fun pins s I=>by
 refine WY hbase hform hline (thn (h pins s I) fun u s1 ⟨x,H1,I1,rx,a,dx,fs,ex,ea,l,q⟩=>?_)
 subst ex
 obtain rfl:u=Value.ref a:=rx
 refine wC I1 ea c hm l ?_
 refine PySem.W.callWith_K (first:= [.ref a]) (h₀:=X.base) I.ok.mod.kin hm.kp (thn (q pos pins s1 I1) fun us s2 ⟨vs,H2,I2,r,q2⟩=>⟨I2.kIn,?_⟩) hst hpl
 exact Yv (us:=.ref a::us) (vs:=.ref a::vs) F hr hb hx I2 (.cons rfl r) q2
theorem Kc(c:Cls X.K C)(hm:yh X.K C m f)(F:FnOk X.prog X.w X.K X.mg X.base CX k f fd ps sp)(hr:Room k X.A)(hb:Binds X.K fd ps [])(hx:∀ pins H s e s',Inv X pins σ H s->CX X.stack H s E e s'->X.xe e s')
  (h:wpE X o σ H fun x H1=>∃ a dx fs,x=.ref a/\H1 a=some (.ins C dx fs)/\fs.lookup m=none/\sp [x] H1 Q E) (hbase:attributeBase o m X.env (eval o X.env)=eval o X.env) (hline:(apos.endLine==pos.line)=true):wpE X (.Call (.Attribute o m apos) [] [] pos) σ H Q:=fun pins s I=>by
 refine WY hbase rfl hline (thn (h pins s I) fun u s1 ⟨x,H1,I1,rx,a,dx,fs,ex,ea,l,q⟩=>?_)
 subst ex
 obtain rfl:u=Value.ref a:=rx
 refine wC I1 ea c hm l ?_
 exact PySem.W.callWith_K0 (first:= [.ref a]) I1.kIn hm.kp (Yv (us:= [.ref a]) (vs:= [.ref a]) F hr hb hx I1 (.cons rfl .nil) q)
theorem zbK(M:Mk X.K C f)(F:FnOk X.prog X.w X.K X.mg X.base CX k f fd ps sp)(hr:Room (k+1) X.A)(hg:Gl X x)(hm:X.mg x=some (.ref C))(hb:Binds X.K fd ps [])(hx:∀ pins H s e s',Inv X pins σ H s->CX X.stack H s E e s'->X.xe e s')
  (h:wpA X (e::es) σ H fun vs H1=>∀ x dx,H1 x=none->H1 dx=none->dx≠x->sp (.ref x::vs) (upd (upd H1 dx (.own x)) x (.ins C dx [])) (fun v H2=>v=.non/\Q (.ref x) H2) E)
  (hdb:(x==("__debug__" :Str))=false) (he:starEach (e::es) X.env=(false,eval e X.env)::starEach es X.env) (hpl:(backTo pos (starEach es X.env)).any (·.1)=false):wpE X (.Call (.Name x p) (e::es) [] pos) σ H Q:=fun pins s I=>by
 refine wpAny_Call_Name_kw (qz I hg hm ?_ hdb)
 refine PySem.W.callWith_K (h₀:=X.base) I.ok.mod.kin M.kp (thn (h pos pins s I) fun us s1 ⟨vs,H1,I1,r,q⟩=>⟨I1.kIn,?_⟩) he hpl
 have hq:=q (s1.heap.objs.size+1) s1.heap.objs.size (I1.hok.fresh (Nat.le_succ _)) (I1.hok.fresh (xh _)) (xj (uu _))
 have I2:=Inv.made (C:=C) I1
 have r2:Vals (V.ref (s1.heap.objs.size+1)::vs) (Value.ref (s1.heap.objs.size+1)::us):=.cons rfl r
 have hl:(Value.ref (s1.heap.objs.size+1)::us).length=ps.length:=by
  have e:=r2.length
  rw[F.len _ _ _ _ hq]at e
  exact e.symm
 have hb':=hb _ (Value.ref (s1.heap.objs.size+1)::us) I2.kIn (by simpa using hl)
 rw[xL]at hb'
 refine wpAny_call (zae (f:=f) I1.kIn M.makes M.init (beq_iff_eq.mp M.fn) (codeAny_mono (F.run _ X.stack _ _ ⟨Value.ref (s1.heap.objs.size+1)::us,[]⟩ (Value.ref (s1.heap.objs.size+1)::us) _ _ E (hr.make C us [])
  (I2.env0.make C us []) hb' r2 hq) fun r s' hq'=>?_))
 cases r with
 |error e=>exact hx pins _ _ e s' I2 hq'
 |ok fl=>
  cases fl with
  |ret u=>
   obtain⟨v,H',I3,rv,ev,q3⟩:=I2.after hq'
   subst ev
   exact⟨rv,⟨V.ref (s1.heap.objs.size+1),H',I3,rfl,q3⟩⟩
  |next=>exact False.elim hq'
  |brk=>exact False.elim hq'
  |cont=>exact False.elim hq'
end
structure KnM(P:Program)(w:World)(K:PySem.W.Frag)(mg:Str->Option Value)(base:Heap)(CX:CXT)(C:Addr)(m:Str)(k:Nat)(sp:Sp):Prop where
 ex:∃ (f:Addr) (fd:FuncData) (ps:List Str),FnOk P w K mg base CX k f fd ps sp/\Cls K C/\yh K C m f/\Binds K fd ps []
structure KnI(P:Program)(w:World)(K:PySem.W.Frag)(mg:Str->Option Value)(base:Heap)(CX:CXT)(C:Addr)(k:Nat)(sp:Sp):Prop where
 ex:∃ (f:Addr) (fd:FuncData) (ps:List Str),FnOk P w K mg base CX k f fd ps sp/\Mk K C f/\Binds K fd ps []
end L2
namespace L3
open PySem PySem.Spec PyProof.Rows L2
variable [Cs]
section
variable {X:Cx} {XP:XPT} {mp io:List Nat} {a b e:Expr} {es:List Expr} {pos p p2 pos' p3 apos:Pos} {fa fb fc:EM FV} {fl:EM (List AV)} {kx:Nat} {c f m x:Str} {s i k n:Nat} {M0:Addr->Prop} {F F':Fp} {Γ:Gv} {ν:Nu} {σ:St} {H H':Hp} {u:FV} {v:V} {run:List OV->RF}
noncomputable def fMeth(i:Nat)(c m:Str)(run:List OV->RF)(fl:EM (List AV)):EM OV:=fun Γ=>match Γ[i]? with
 |some (some (.o c' ns _))=>if c'=c/\ixF ns m=none then fCall run (aIo i fl) Γ else .bad
 |_=>.bad
theorem WZ{o:OV}{Q:VK}{ae:V}(rs:RS M0 F Γ ν H)(hrun:∀ args,run args≠ .bad->args.length=n)(e:Γ[i]?=some (some o))(ev:ν[i]?=some (some ae))
  (hp:OPost M0 F ν σ H XP (fun F' Γ' H' o v=>Q v H') (fCall run (aIo i fl) Γ)):APost M0 F ν σ H XP (fun F1 Γ1 ν1 H1 as=>∀ vs,AOks M0 F1 ν1 H1 vs as->spX X.mg n run (ae::vs) H1 Q (EX X XP σ)) (fl Γ):=by
 have h:=Zr (X:=X) (n:=n) rs hrun hp
 unfold aIo at h
 rw[e]at h
 refine h.tail.mono fun F1 Γ1 ν1 H1 as rs1 hn s1 q vs oks=>q (ae::vs) (.io ?_ oks)
 obtain⟨t,rfl⟩:=hn
 rw[xc (xb.mp ev).1];exact ev
theorem zdn(px:J6 X XP)(kn:KnM X.prog X.w X.K X.mg X.base (CX1 X.prog X.w) (Cs.adr c) m k (spX X.mg n run))(hr:Room k X.A)(hrun:∀ args,run args≠ .bad->args.length=n)(nm:NmK X mp s i x)(hl:SA X XP mp (a::es) fl)
  (he:starEach (a::es) X.env=(false,eval a X.env)::starEach es X.env) (hpl:(backTo pos (starEach es X.env)).any (·.1)=false) (hform:methodCallForm ((a::es).length+0) (backTo pos (starEach (a::es) X.env)) (backToKw pos (keywordEach [] X.env))=true) (hline:(apos.endLine==pos.line)=true):SO X XP mp (.Call (.Attribute (.Name x p) m apos) (a::es) [] pos) (fMeth i c m run fl):=fun M0 F Γ ν σ H Q rs hs hp=>by
 unfold fMeth at hp
 split at hp
 ·rename_i c' ns xs e
  split at hp
  ·rename_i hh
   obtain⟨rfl,hns⟩:=hh
   obtain⟨g,fd,ps,Fn,cl,hm,hb⟩:=kn.ex
   obtain⟨ad,dx,fs,A,ev,ea,hk,qa,hF⟩:=wN rs e
   subst hk
   exact zbL (E:=EX X XP σ) cl hm Fn hr hb (fun pins H1 s1 e s' I hx=>px σ pins H1 s1 e s' _ (fun c H' q=>q) I hx) ((zz nm.hN nm.hv nm.hd nm.hcd).wp ⟨.ref ad,hs s i _ nm.hm ev,ad,dx,fs,rfl,ea,(vH hns).1,hl M0 F Γ ν σ H _ rs hs (WZ rs hrun e ev hp)⟩) he hpl rfl hform hline
  ·exact hp.elim
 ·exact hp.elim
theorem za6(px:J6 X XP)(kn:KnM X.prog X.w X.K X.mg X.base (CX1 X.prog X.w) (Cs.adr c) m k (spX X.mg n run))(hr:Room k X.A)(hrun:∀ args,run args≠ .bad->args.length=n)(nm:NmK X mp s i x)(hline:(apos.endLine==pos.line)=true):SO X XP mp (.Call (.Attribute (.Name x p) m apos) [] [] pos) (fMeth i c m run aNil):=fun M0 F Γ ν σ H Q rs hs hp=>by
 unfold fMeth at hp
 split at hp
 ·rename_i c' ns xs e
  split at hp
  ·rename_i hh
   obtain⟨rfl,hns⟩:=hh
   obtain⟨g,fd,ps,Fn,cl,hm,hb⟩:=kn.ex
   obtain⟨ad,dx,fs,A,ev,ea,hk,qa,hF⟩:=wN rs e
   subst hk
   exact Kc (E:=EX X XP σ) cl hm Fn hr hb (fun pins H1 s1 e s' I hx=>px σ pins H1 s1 e s' _ (fun c H' q=>q) I hx) ((zz nm.hN nm.hv nm.hd nm.hcd).wp ⟨.ref ad,hs s i _ nm.hm ev,ad,dx,fs,rfl,ea,(vH hns).1,WZ rs hrun e ev hp F ν H rs (uw _) (.refl _ _) [] .nil⟩) rfl hline
  ·exact hp.elim
 ·exact hp.elim
theorem RS.newI{p dx:Addr}(r:RS M0 F Γ ν H)(n:H p=none)(nd:H dx=none)(hne:dx≠p) :
  RS M0 (fset F Γ.length [p]) (Γ++ [some (.o c [] [])]) (ν++ [some (.ref p)]) (upd (upd H dx (.own p)) p (.ins (Cs.adr c) dx []))/\Stp F H (fset F Γ.length [p]) (upd (upd H dx (.own p)) p (.ins (Cs.adr c) dx [])):=by
 have same:Same H (upd (upd H dx (.own p)) p (.ins (Cs.adr c) dx [])):=fun b o e=>by
  rw[zc (fun z=>by subst z;rw[n]at e;cases e),zc (fun z=>by subst z;rw[nd]at e;cases e)];exact e
 have hp:∀ i,p∉F i:=fun i h=>by
  obtain⟨vs,e⟩:=r.laidF h
  rw[n]at e;cases e
 have s:Stp F H (fset F Γ.length [p]) (upd (upd H dx (.own p)) p (.ins (Cs.adr c) dx [])):=⟨fun b o e nb=>⟨same b o e,fun j h=>by
  by_cases hj:j=Γ.length
  ·subst hj;rw[zd]at h
   have e':b=p:=by simpa using h
   subst e';rw[n]at e;cases e
  ·rw[zf hj]at h;exact nb j h⟩,fun b xs e=>same b _ e,(Stp.same (F:=F) same).stay⟩
 have r1:=(r.ext 1).put (i:=Γ.length) (o:=.o c [] []) (v:=.ref p) (A:= [p]) (H':=upd (upd H dx (.own p)) p (.ins (Cs.adr c) dx [])) s (fun j _ a ha=>by
   obtain⟨u,eu⟩:=r.laidF ha
   rw[same a u eu,eu])
  (fun a h=>s.stay a (r.al0 a h)) (fun a ha h=>by
   have e:a=p:=by simpa using ha
   subst e;exact r.al0 a h n) (xy.mpr ⟨(fun z=>nomatch z),.nil⟩) (fun j _ a ha=>by
   have e:a=p:=by simpa using ha
   subst e;exact hp j) (by simp) (.o (fs:= []) (A:= []) ze rfl .nil)
 rw[q8]at r1
 have e2:(ν++List.replicate 1 none).set Γ.length (some (V.ref p))=ν++ [some (V.ref p)]:=by rw[<- r.len,q8]
 rw[e2]at r1
 exact⟨r1,s⟩
theorem AOks.stp{F1:Fp}{H1:Hp}{ν1:Nu}(s1:Stp F H F1 H1)(h0:∀ a,M0 a->H a≠none)(hn:ν <+: ν1):∀ {vs:List V}{as:List AV},AOks M0 F ν H vs as->AOks M0 F1 ν1 H1 vs as
 |_,_,.nil=>.nil
 |_,_,.v h t=>.v ((h.stp s1 h0).ext hn) (AOks.stp s1 h0 hn t)
 |_,_,.io h t=>.io (by
   obtain⟨t',rfl⟩:=hn
   rw[xc (xb.mp h).1];exact h) (AOks.stp s1 h0 hn t)
theorem Wg{o:Option OV}:∀ {as:List AV}{args:List OV},toArgs Γ as=some args->toArgs (Γ++ [o]) as=some args/\∀ i∈ios as,i<Γ.length
 |[],_,e=>⟨e,fun _ h=>nomatch h⟩
 |a::as,_,e=>by
  unfold toArgs at e
  split at e
  ·rename_i o' os e1 e2
   cases e
   obtain⟨i1,i2⟩:=Wg (o:=o) e2
   have key:toArg (Γ++ [o]) a=some o'/\∀ i∈ios [a],i<Γ.length:=by
    cases a with
    |v u=>
     refine⟨?_,fun _ h=>nomatch h⟩
     cases u with
     |dat y=>exact e1
     |own j=>
      simp only[toArg,derS,ur]at e1 |-
      obtain⟨y,ey,hy⟩:=e1
      refine⟨y,?_,hy⟩
      split at ey
      ·rename_i q
       rw[xc (xb.mp q).1,q];exact ey
      ·cases ey
    |io j=>
     simp only[toArg]at e1 |-
     split at e1
     ·rename_i q
      have hj:=(xb.mp q).1
      refine⟨by rw[xc hj,q];exact e1,fun i h=>?_⟩
      have:i=j:=by simpa [ios] using h
      omega
     ·cases e1
   refine⟨by unfold toArgs;rw[key.1,i1],fun i h=>?_⟩
   cases a with
   |v u=>exact i2 i h
   |io j=>
    rw[ios,xv]at h
    rcases h with rfl | h
    ·exact key.2 _ (by simp[ios])
    ·exact i2 i h
  ·cases e
theorem jI{o:Option OV}:∀ {as:List AV}{outs:List (Option OV)}{Γ Γ2:Gv},putBack as outs Γ=some Γ2->putBack as outs (Γ++ [o])=some (Γ2++ [o])
 |[],_,Γ,_,e=>by
  have:some Γ=some _:=e
  cases this;rfl
 |.v u::as,[],Γ,_,e=>by cases e
 |.v u::as,x::os,Γ,Γ2,e=>jI (as:=as) (outs:=os) e
 |.io k::as,[],Γ,_,e=>by cases e
 |.io k::as,none::os,Γ,_,e=>by cases e
 |.io k::as,some q::os,Γ,Γ2,e=>by
  rw[putBack]at e |-
  split at e
  ·rename_i hk
   rw[if_pos (by simp;omega),List.set_append_left _ _ hk]
   exact jI e
  ·cases e
noncomputable def fMake(c:Str)(run:List OV->RF)(fl:EM (List AV)):EM OV:=fun Γ=>(fl Γ).bind fun (as,Γ1)=>if Γ1.length=Γ.length/\(ios as).Nodup then match toArgs Γ1 as with
 |some args=>match run (.o c [] []::args) with
  |.ok (.d .none) (some o::outs)=>match putBack as outs Γ1 with
   |some Γ2=>.ok (o,Γ2)
   |none=>.bad
  |.exc x (some _::outs)=>match putBack as outs Γ1 with
   |some Γ2=>.exc x Γ2
   |none=>.bad
  |_=>.bad
 |none=>.bad
 else .bad
theorem zdm(px:J6 X XP)(kn:KnI X.prog X.w X.K X.mg X.base (CX1 X.prog X.w) (Cs.adr c) k (spX X.mg n run))(hr:Room (k+1) X.A)(hg:Gl X c)(hm:X.mg c=some (.ref (Cs.adr c)))(hrun:∀ args,run args≠ .bad->args.length=n)(hl:SA X XP mp (a::es) fl)
  (hdb:(c==("__debug__" :Str))=false) (he:starEach (a::es) X.env=(false,eval a X.env)::starEach es X.env) (hpl:(backTo pos (starEach es X.env)).any (·.1)=false):SO X XP mp (.Call (.Name c p) (a::es) [] pos) (fMake c run fl):=fun M0 F Γ ν σ H Q rs hs hp=>by
 obtain⟨g,fd,ps,Fn,mk,hb⟩:=kn.ex
 refine zbK (E:=EX X XP σ) mk Fn hr hg hm hb (fun pins H1 s1 e s' I hx=>px σ pins H1 s1 e s' _ (fun c H' q=>q) I hx) (hl M0 F Γ ν σ H _ rs hs ?_) hdb he hpl
 unfold fMake at hp
 generalize fl Γ=ra at hp
 cases ra with
 |bad=>exact hp
 |exc x y=>exact hp
 |ok z=>
  obtain⟨as,Γ1⟩:=z
  intro F1 ν1 H1 rs1 hn s1 vs oks x dx hx hdx hne
  simp only[R.bind]at hp
  split at hp
  ·rename_i hh
   obtain⟨hlen,nd⟩:=hh
   have eν:ν1=ν:=by
    obtain⟨t,rfl⟩:=hn
    have h1:=rs1.len
    have h2:=rs.len
    have:t= []:=by
     apply List.eq_nil_of_length_eq_zero
     rw[xK]at h1;omega
    rw[this,xL]
   subst eν
   split at hp
   ·rename_i args ea
    obtain⟨rs2,s2⟩:=rs1.newI (c:=c) hx hdx hne
    obtain⟨ea2,hlt⟩:=Wg (o:=some (.o c [] [])) ea
    have hlen1:ν1.length=Γ1.length:=rs1.len
    have oks2:AOks M0 _ (ν1++ [some (.ref x)]) _ (V.ref x::vs) (.io Γ1.length::as):=.io (by rw[<- hlen1];simp) (oks.stp s2 rs1.al0 (List.prefix_append _ _))
    have nd2:(ios (.io Γ1.length::as)).Nodup:=by
     rw[ios];exact xy.mpr ⟨fun h=>xO _ (hlt _ h),nd⟩
    have ea3:toArgs (Γ1++ [some (.o c [] [])]) (.io Γ1.length::as)=some (.o c [] []::args):=by
     unfold toArgs
     rw[ea2]
     have:toArg (Γ1++ [some (.o c [] [])]) (.io Γ1.length)=some (.o c [] []):=by
      show (match (Γ1++ [some (OV.o c [] [])])[Γ1.length]? with
       |some (some o)=>some o
       |_=>none)=_
      rw[xf (xh _)]
      simp
     rw[this]
    have hvl:(V.ref x::vs).length=n:=by
     rw[oks2.len,<- z7 ea3]
     refine hrun _ fun z=>?_
     rw[z]at hp;exact hp.elim
    refine⟨hvl,_,_,_,wj rs2 oks2 ea3 nd2,?_⟩
    have pbk:∀ {outs:List (Option OV)} {Γ2:Gv} {o:OV},putBack as outs Γ1=some Γ2->putBack (.io Γ1.length::as) (some o::outs) (Γ1++ [some (.o c [] [])])=some (Γ2++ [some o]):=fun {outs Γ2 o} h=>by
     rw[putBack,if_pos (by simp),uf _ _ (xh _)]
     simp only[Nat.sub_self,List.set_cons_zero]
     exact jI h
    split at hp
    ·rename_i o outs er
     split at hp
     ·rename_i Γ2 eb
      rw[er]
      intro F' v H' rc sc
      have hl2:Γ2.length=Γ1.length:=(qe eb nd).1
      obtain⟨F2,rs3,s3⟩:=Zq (n:=Γ1.length+1) rs2 oks2 ea3 nd2 rc sc (pbk eb) (uw _) (by simp[hlen1])
      obtain⟨F3,rs4,s4,rv⟩:=rs3.dropD
      rw[List.take_of_length_le (by simp[hl2])]at rs4
      refine⟨?_,hp F3 H' (.ref x) rs4 (((s1.trans s2).trans s3).trans s4)⟩
      cases rv;rfl
     ·exact hp.elim
    ·rename_i ex o outs er
     split at hp
     ·rename_i Γ2 eb
      rw[er]
      intro C hC F' H' rc sc
      have hl2:Γ2.length=Γ1.length:=(qe eb nd).1
      obtain⟨F2,rs3,s3⟩:=Zq (n:=Γ1.length) (ν0:=ν1) rs2 oks2 ea3 nd2 rc sc (pbk eb) (List.prefix_append _ _) hlen1
      obtain⟨F3,rs4,s4,rv⟩:=rs3.dropD
      rw[List.take_append_of_le_length (by omega),List.take_of_length_le (by omega)]at rs4
      exact⟨ex,_,F3,ν1,C,hC,rfl,hp F3 H' rs4 (((s1.trans s2).trans s3).trans s4)⟩
     ·exact hp.elim
    ·exact hp.elim
   ·exact hp.elim
  ·exact hp.elim
theorem RS.mutM{ds:List (Str×PyData)}(r:RS M0 F Γ ν H)(e:Γ[i]?=some (some (.m ds))):∃ l ks,ν[i]?=some (some (.ref l))/\H l=some (.dK (ks.map kK))/\KR (MM M0 F) H ks ds/\l∈F i /\
  ∀ ks' ds',KR (MM M0 F) H ks' ds'->∃ F',RS M0 F' (Γ.set i (some (.m ds'))) ν (upd H l (.dK (ks'.map kK)))/\Stp F H F' (upd H l (.dK (ks'.map kK))):=by
 obtain⟨v,ev,q⟩:=r.at' i _ e
 generalize hA:F i=A at q
 cases q with
 | @m l ks _ el k q=>
  refine⟨l,ks,ev,el,.of k q,by simp,fun ks' ds' kr=>r.wrO (A:= [l]) (xb.mp e).1 ev (by rw[hA];simp) (fun xs z=>by rw[el]at z;cases z) (fun a h=>by rw[hA];exact h) (xy.mpr ⟨(fun z=>nomatch z),.nil⟩) fun hr _=>.m ze kr.keys (qZ hr kr.vals)⟩
noncomputable def sDupd(i:Nat)(fb:EM FV):SM:=fun Γ=>match Γ[i]? with
 |some (some (.m _))=>(fb Γ).bind fun (w,Γ1)=>match Γ1[i]?,derS Γ1 w with
  |some (some (.m ds)),some (.dict kv)=>match unD kv with
   |some es=>if ds.length+es.length<=1000000 then .ok (.next,Γ1.set i (some (.m (zB ds es)))) else .bad
   |none=>.bad
  |_,_=>.bad
 |_=>.bad
theorem zdr (n:NmK X mp s i x) (hb:SE X XP mp b fb) (m1:M1 X (.Name x p) "update" p2 b pos):SS X XP mp io (.Expr (.Call (.Attribute (.Name x p) "update" p2) [b] [] pos) pos') (sDupd i fb):=fun M0 F Γ ν σ H D rs hs hl hp=>by
 unfold sDupd at hp
 split at hp
 ·rename_i d0 e0
  obtain⟨l,ks0,ev,el,_⟩:=rs.mutM e0
  refine (vX (zcL (zz n.hN n.hv n.hd n.hcd) zb m1) rfl).wp ⟨.ref l,hs s i _ n.hm ev,l,rfl,.inl ⟨_,.inl el⟩,hb M0 F Γ ν σ H _ rs hs ((SPost.seq hs hl hp).mono fun F1 Γ1 H1 w rs1 s1 h1 v hv=>?_)⟩
  dsimp only at h1
  split at h1
  ·rename_i ds kv e1 e2
   split at h1
   ·rename_i es ek
    split at h1
    ·rename_i hsz
     obtain⟨l',ks,ev',el',kr,hlF,mu⟩:=rs1.mutM e1
     rw[ev]at ev';cases ev'
     obtain⟨b',kb,rfl,nb,eb,krb⟩:=Rep.tab (hv.strong rs1 e2) ek
     obtain⟨F2,rs2,s2⟩:=mu _ _ (krb.merge kr)
     refine⟨b',_,_,rfl,el',eb,fun z=>nb (.inr ⟨i,by rw[<- z];exact hlF⟩),by have:=sizeLine_eq;rw[xr,xr,kr.length,krb.length];omega,?_⟩
     rw[WX]
     exact h1 F2 ν σ _ rs2 s2 hs hl fun _ _=>rfl
    ·exact h1.elim
   ·exact h1.elim
  ·exact h1.elim
 ·exact hp.elim
end
mutual
inductive IE where
 |var (s i:Nat)
 |frz (s i:Nat)
 |cint (i:Int)
 |cstr (x:Str)
 |cbool (b:Bool)
 |gint (x:Str) (i:Int)
 |gstr (x:Str) (z:Str)
 |tup (a:IL)
 |new (n:IN)
 |bin (op:Operator) (a b:IE)
 |cmp (op:CmpOp) (a b:IE)
 |chain (op op':CmpOp) (a b c:IE)
 |not (a:IE)
 |and (a b:IE)
 |or (a b:IE)
 |ite (c a b:IE)
 |ix (a b:IE)
 |len (a:IE)
 |all (a:IE)
 |isi (T:String) (a:IE)
 |call (o:IO)
 |sin (a b:IE)
 |slen (a:IE)
 |join (z:Str) (a:IE)
 |six (a b:IE)
 |dget (a b:IE)
 |din (a b:IE)
 |dnin (a b:IE)
 |attr (c f:Str) (a:IE)
 |newD (m:IM)
 |fdat (s i:Nat) (c f:Str)
 |flen (s i:Nat) (c f:Str)
 |ftru (s i:Nat) (c f:Str)
 |flast (s i:Nat) (c f:Str)
 |fget (s i:Nat) (c f:Str) (t k:Nat)
 |fnin (s i:Nat) (c f:Str) (t k:Nat)
 |ffrz (s i:Nat) (c f:Str)
inductive IL where
 |nil
 |cons (e:IE) (a:IL)
inductive IA where
 |nil
 |cons (e:IE) (a:IA)
 |io (s i:Nat) (a:IA)
 |tmp (n:IN)
inductive IN where
 |lst (a:IL)
 |list (e:IE)
 |comp (n k:Nat) (ix:List Nat) (N':List Str) (t:IT) (src:II) (c:IC) (el:IE)
 |mul (a b:IE)
 |sortD (e:IE)
 |sortF (s i:Nat) (c f:Str)
 |compW (n k:Nat) (ix:List Nat) (N':List Str) (t:IT) (src:IG) (c:IC) (el:IE)
inductive IP where
 |non
 |one (e:IE)
inductive II where
 |list (e:IE)
 |tup (e:IE)
 |range (e:IE)
 |enum (e:IE)
 |chars (e:IE)
inductive IC where
 |yes
 |one (e:IE)
inductive IO where
 |dat (e:IE)
 |own (n:IN)
 |call (f:Str) (n:Nat) (a:IA)
 |move (s i:Nat)
 |ownD (m:IM)
 |make (c q:Str) (n:Nat) (a:IA)
 |meth (s i:Nat) (c m q:Str) (n:Nat) (a:IA)
inductive IJ where
 |nil
inductive IM where
 |nil
 |one (a b:IE)
 |copy (e:IE)
 |comp (n k:Nat) (ix:List Nat) (N':List Str) (t:IT) (src:IG) (c:IC) (ek ev:IE)
inductive IG where
 |std (src:II)
 |items (e:IE)
 |fld (s i:Nat) (c f:Str)
 |frev (s i:Nat) (c f:Str)
end
noncomputable def IN.plain:IN->Bool
 |.compW .. =>false
 |_=>true
noncomputable def IM.plain:IM->Bool
 |.comp _ _ _ _ _ (.std _) _ _ _=>true
 |.comp .. =>false
 |_=>true
noncomputable abbrev CF:=Str->List OV->RF
noncomputable def fNo:EM Bool:=fun _=>.bad
noncomputable def fNoV:EM FV:=fun _=>.bad
mutual
noncomputable def IE.ev(cf:CF):IE->EM FV×EM Bool
 |.var _ i=>(fVar i,fTru (fVar i))
 |.frz _ i=>(fFrz i,fTru (fFrz i))
 |.cint i=>(fC (.int i),fTru (fC (.int i)))
 |.cstr x=>(fC (.str x),fTru (fC (.str x)))
 |.cbool b=>(fC (.bool b),fTru (fC (.bool b)))
 |.gint _ i=>(fC (.int i),fTru (fC (.int i)))
 |.gstr _ z=>(fC (.str z),fTru (fC (.str z)))
 |.tup a=>(fTup (a.ev cf),fTru (fTup (a.ev cf)))
 |.new n=>(fNew (n.ev cf),fTru (fNew (n.ev cf)))
 |.bin op a b=>(fBin (binD op) (a.ev cf).1 (b.ev cf).1,fTru (fBin (binD op) (a.ev cf).1 (b.ev cf).1))
 |.cmp op a b=>(fB (fCmp (cmpD op) (a.ev cf).1 (b.ev cf).1),fCmp (cmpD op) (a.ev cf).1 (b.ev cf).1)
 |.chain op op' a b c=>(fB (fChain (cmpD op) (cmpD op') (a.ev cf).1 (b.ev cf).1 (c.ev cf).1),fChain (cmpD op) (cmpD op') (a.ev cf).1 (b.ev cf).1 (c.ev cf).1)
 |.not a=>(fB (fNotT (fTru (a.ev cf).1)),fNotT (a.ev cf).2)
 |.and a b=>(fAndV (a.ev cf).1 (b.ev cf).1,fAndT (a.ev cf).2 (b.ev cf).2)
 |.or a b=>(fOrV (a.ev cf).1 (b.ev cf).1,fOrT (a.ev cf).2 (b.ev cf).2)
 |.ite c a b=>(fIf (c.ev cf).2 (a.ev cf).1 (b.ev cf).1,fNo)
 |.ix a b=>(fIx (a.ev cf).1 (b.ev cf).1,fTru (fIx (a.ev cf).1 (b.ev cf).1))
 |.len a=>(f1 gLen (a.ev cf).1,fTru (f1 gLen (a.ev cf).1))
 |.all a=>(f1 gAll (a.ev cf).1,fTru (f1 gAll (a.ev cf).1))
 |.isi T a=>(fIsi T (a.ev cf).1,fTru (fIsi T (a.ev cf).1))
 |.call o=>(fOD (o.ev cf),fTru (fOD (o.ev cf)))
 |.sin a b=>(fB (fCmp K1 (a.ev cf).1 (b.ev cf).1),fCmp K1 (a.ev cf).1 (b.ev cf).1)
 |.slen a=>(f1 VB (a.ev cf).1,fTru (f1 VB (a.ev cf).1))
 |.join z a=>(f1 (wA z) (a.ev cf).1,fTru (f1 (wA z) (a.ev cf).1))
 |.six a b=>(zcl (a.ev cf).1 (b.ev cf).1,fTru (zcl (a.ev cf).1 (b.ev cf).1))
 |.dget a b=>(fDget (a.ev cf).1 (b.ev cf).1,fTru (fDget (a.ev cf).1 (b.ev cf).1))
 |.din a b=>(fB (fCmp gDin (a.ev cf).1 (b.ev cf).1),fCmp gDin (a.ev cf).1 (b.ev cf).1)
 |.dnin a b=>(fB (fCmp gDnin (a.ev cf).1 (b.ev cf).1),fCmp gDnin (a.ev cf).1 (b.ev cf).1)
 |.attr c f a=>(fAttr c f (a.ev cf).1,fTru (fAttr c f (a.ev cf).1))
 |.newD m=>(fNewD (m.ev cf),fNo)
 |.fdat _ i c f=>(fFdat i c f,fTru (fFdat i c f))
 |.flen _ i c f=>(fFlen i c f,fTru (fFlen i c f))
 |.ftru _ i c f=>(fNoV,fFtru i c f)
 |.flast _ i c f=>(fFlast i c f,fTru (fFlast i c f))
 |.fget _ i c f _ k=>(fFget i c f k,fTru (fFget i c f k))
 |.fnin _ i c f _ k=>(fNoV,fFnin i c f k)
 |.ffrz _ i c f=>(fFfrz i c f,fNo)
noncomputable def IL.ev(cf:CF):IL->EM (List FV)
 |.nil=>fNil
 |.cons e a=>fCons (e.ev cf).1 (a.ev cf)
noncomputable def IA.ev(cf:CF):IA->EM (List AV)
 |.nil=>aNil
 |.cons e a=>aCons (e.ev cf).1 (a.ev cf)
 |.io _ i a=>aIo i (a.ev cf)
 |.tmp n=>zgj (n.ev cf)
noncomputable def IN.ev(cf:CF):IN->EM (List PyData)
 |.lst a=>fLst (a.ev cf)
 |.list e=>fListC (e.ev cf).1
 |.comp n k _ _ t src c el=>fComp n k t (src.ev cf) (c.ev cf) (el.ev cf).1
 |.mul a b=>fMul (a.ev cf).1 (b.ev cf).1
 |.sortD e=>fSortD (e.ev cf).1
 |.sortF _ i c f=>fFsort i c f
 |.compW n k _ _ t src c el=>fCompW n k t (src.ev cf) (c.ev cf) (el.ev cf).1
noncomputable def IP.ev(cf:CF):IP->EM (Option Int)
 |.non=>zgp
 |.one e=>zgo (e.ev cf).1
noncomputable def II.ev(cf:CF):II->EM (List PyData)
 |.list e=>fSeqL (e.ev cf).1
 |.tup e=>fSeqT (e.ev cf).1
 |.range e=>fRange (e.ev cf).1
 |.enum e=>fEnum (e.ev cf).1
 |.chars e=>yx (e.ev cf).1
noncomputable def IC.ev(cf:CF):IC->EM Bool
 |.yes=>fYes
 |.one e=>(e.ev cf).2
noncomputable def IO.ev(cf:CF):IO->EM OV
 |.dat e=>fD (e.ev cf).1
 |.own n=>fOwn (n.ev cf)
 |.call f _ a=>fCall (cf f) (a.ev cf)
 |.move _ i=>fMove i
 |.ownD m=>fOwnD (m.ev cf)
 |.make c q _ a=>fMake c (cf q) (a.ev cf)
 |.meth _ i c m q _ a=>fMeth i c m (cf q) (a.ev cf)
noncomputable def IJ.ev(cf:CF):IJ->EM (List Str)
 |.nil=>KU
noncomputable def IM.ev(cf:CF):IM->EM (List (Str×PyData))
 |.nil=>fDnil
 |.one a b=>fDone (a.ev cf).1 (b.ev cf).1
 |.copy e=>fDcopy (e.ev cf).1
 |.comp n k _ _ t src c ek ev=>fCompD n k t (src.ev cf) (c.ev cf) (ek.ev cf).1 (ev.ev cf).1
noncomputable def IG.ev(cf:CF):IG->EM (List PyData×Option Nat)
 |.std src=>fStd (src.ev cf)
 |.items e=>fItems (e.ev cf).1
 |.fld _ i c f=>fFldS false i c f
 |.frev _ i c f=>fFldS true i c f
end
structure Wd where
 bi:List Str
 gi:List (Str×Int)
 gs:List (Str×Str)
 fl:List (Str×Nat)
 ex:List Str
 gd:List (Str×List (Str×Str))
 fk:List (Str×Str):= []
 mc:List (Str×Str×Nat):= []
 ml:List (Str×Str×Str×Nat):= []
noncomputable def zj:Expr->Bool
 |.Starred .. =>false
 |_=>true
noncomputable def Jj:Expr->Bool
 |.UnaryOp .Not _ _=>false
 |.BoolOp .. =>false
 |.IfExp .. =>false
 |.Compare .. =>false
 |_=>true
noncomputable def zE:Expr->Bool
 |.Slice .. =>false
 |_=>true
noncomputable def zU:Expr->Bool
 |.Set .. =>false
 |_=>true
noncomputable def VF:Expr->Bool
 |.Tuple .. =>true
 |_=>false
noncomputable def zbG(sc:Scope)(x:Str):Bool:=decide (sc.names.lookup x=some .local)||decide (sc.names.lookup x=some .cell)||decide (sc.names.lookup x=some .free)
noncomputable def wE(sc:Scope)(x:Str):Bool:=decide (sc.names.lookup x=some .globalImplicit)
noncomputable def nmB (sc:Scope) (N:List Str) (mp:List Nat) (s i:Nat) (x:Str):Bool:=decide (N[s]?=some x)&&zbG sc x&&decide (mp[s]?=some i)&& !(x==("__debug__" :Str))&& !(x==("__classdict__" :Str))
noncomputable def biB(W:Wd)(sc:Scope)(x y:Str):Bool:=decide (x=y)&&wE sc x&&W.bi.contains x
noncomputable def okO{α:Type}(o:Option α)(f:α->Bool):Bool:=match o with
 |some a=>f a
 |none=>false
theorem za{α:Type}{o:Option α}{f:α->Bool}(h:okO o f=true):∃ a,o=some a/\f a=true:=by
 cases o with
 |none=>cases h
 |some a=>exact⟨a,rfl,h⟩
noncomputable def zq:Expr->Option (Str×Pos)
 |.Name x p=>some (x,p)
 |_=>none
noncomputable def jP:Expr->Option (Const×Nat×Pos)
 |.Constant c j p=>some (c,j,p)
 |_=>none
noncomputable def Kw:Const->Option Int
 |.int i=>some i
 |_=>none
noncomputable def yo:Const->Option Str
 |.str i=>some i
 |_=>none
noncomputable def Yf:Const->Option Bool
 |.bool i=>some i
 |_=>none
noncomputable def V9:Expr->Option (List Expr×Nat×Pos)
 |.Tuple es n p=>some (es,n,p)
 |_=>none
noncomputable def zbw:Expr->Option (List Expr×Pos)
 |.List es p=>some (es,p)
 |_=>none
noncomputable def YC:Expr->Option (Expr×Operator×Expr×Pos)
 |.BinOp x op y p=>some (x,op,y,p)
 |_=>none
noncomputable def Jy:Expr->Option (Expr×List CmpOp×List Expr×Pos)
 |.Compare x ops ys p=>some (x,ops,ys,p)
 |_=>none
noncomputable def zdN:Expr->Option (UnaryOp×Expr×Pos)
 |.UnaryOp op x p=>some (op,x,p)
 |_=>none
noncomputable def zdJ:Expr->Option (BoolOp×List Expr×Pos)
 |.BoolOp op vs p=>some (op,vs,p)
 |_=>none
noncomputable def zbu:Expr->Option (Expr×Expr×Expr×Pos)
 |.IfExp z x y p=>some (z,x,y,p)
 |_=>none
noncomputable def ZG:Expr->Option (Expr×Expr×Pos)
 |.Subscript x y p=>some (x,y,p)
 |_=>none
noncomputable def ZF:Expr->Option (Expr×List Expr×List Keyword×Pos)
 |.Call f xs ks q=>some (f,xs,ks,q)
 |_=>none
noncomputable def jO:Expr->Option (Expr×Str×Pos)
 |.Attribute x f p=>some (x,f,p)
 |_=>none
noncomputable def YE:Expr->Option (Expr×List Comprehension×Scope×Pos)
 |.ListComp elt gens scope p=>some (elt,gens,scope,p)
 |_=>none
theorem zh{e:Expr}{x:Str}{p:Pos}(h:zq e=some (x,p)):e=.Name x p:=by
 unfold zq at h
 split at h
 ·cases h;rfl
 ·cases h
theorem zO{e:Expr}{c:Const}{j:Nat}{p:Pos}(h:jP e=some (c,j,p)):e=.Constant c j p:=by
 unfold jP at h
 split at h
 ·cases h;rfl
 ·cases h
theorem wg{c:Const}{i:Int}(h:Kw c=some i):c=.int i:=by
 unfold Kw at h
 split at h
 ·cases h;rfl
 ·cases h
theorem Z3{c:Const}{i:Str}(h:yo c=some i):c=.str i:=by
 unfold yo at h
 split at h
 ·cases h;rfl
 ·cases h
theorem WJ{c:Const}{i:Bool}(h:Yf c=some i):c=.bool i:=by
 unfold Yf at h
 split at h
 ·cases h;rfl
 ·cases h
theorem Jo{e:Expr}{es:List Expr}{n:Nat}{p:Pos}(h:V9 e=some (es,n,p)):e=.Tuple es n p:=by
 unfold V9 at h
 split at h
 ·cases h;rfl
 ·cases h
theorem kW{e:Expr}{es:List Expr}{p:Pos}(h:zbw e=some (es,p)):e=.List es p:=by
 unfold zbw at h
 split at h
 ·cases h;rfl
 ·cases h
theorem W7{e x y:Expr}{op:Operator}{p:Pos}(h:YC e=some (x,op,y,p)):e=.BinOp x op y p:=by
 unfold YC at h
 split at h
 ·cases h;rfl
 ·cases h
theorem qp{e x:Expr}{ops:List CmpOp}{ys:List Expr}{p:Pos}(h:Jy e=some (x,ops,ys,p)):e=.Compare x ops ys p:=by
 unfold Jy at h
 split at h
 ·cases h;rfl
 ·cases h
theorem ya{e x:Expr}{op:UnaryOp}{p:Pos}(h:zdN e=some (op,x,p)):e=.UnaryOp op x p:=by
 unfold zdN at h
 split at h
 ·cases h;rfl
 ·cases h
theorem zbq{e:Expr}{op:BoolOp}{vs:List Expr}{p:Pos}(h:zdJ e=some (op,vs,p)):e=.BoolOp op vs p:=by
 unfold zdJ at h
 split at h
 ·cases h;rfl
 ·cases h
theorem kT{e z x y:Expr}{p:Pos}(h:zbu e=some (z,x,y,p)):e=.IfExp z x y p:=by
 unfold zbu at h
 split at h
 ·cases h;rfl
 ·cases h
theorem zP{e x y:Expr}{p:Pos}(h:ZG e=some (x,y,p)):e=.Subscript x y p:=by
 unfold ZG at h
 split at h
 ·cases h;rfl
 ·cases h
theorem Zx{e f:Expr}{xs:List Expr}{ks:List Keyword}{p:Pos}(h:ZF e=some (f,xs,ks,p)):e=.Call f xs ks p:=by
 unfold ZF at h
 split at h
 ·cases h;rfl
 ·cases h
theorem jb{e x:Expr}{f:Str}{p:Pos}(h:jO e=some (x,f,p)):e=.Attribute x f p:=by
 unfold jO at h
 split at h
 ·cases h;rfl
 ·cases h
theorem kU{e elt:Expr}{gens:List Comprehension}{scope:Scope}{p:Pos}(h:YE e=some (elt,gens,scope,p)):e=.ListComp elt gens scope p:=by
 unfold YE at h
 split at h
 ·cases h;rfl
 ·cases h
noncomputable def unN(e:Expr):Option (Str×Pos×List Expr×Pos):=(ZF e).bind fun (f,xs,ks,q)=>match ks with
 |[]=>(zq f).map fun (x,p)=>(x,p,xs,q)
 |_::_=>none
theorem Qf{e:Expr}{f:Str}{p:Pos}{xs:List Expr}{q:Pos}(h:unN e=some (f,p,xs,q)):e=.Call (.Name f p) xs [] q:=by
 unfold unN at h
 cases e1:ZF e with
 |none=>rw[e1]at h;cases h
 |some z=>
  obtain⟨g,ys,ks,q'⟩:=z
  rw[e1]at h
  cases ks with
  |cons _ _=>cases h
  |nil=>
   cases e2:zq g with
   |none=>simp[e2]at h
   |some z=>
    obtain⟨x,p'⟩:=z
    simp[e2]at h
    obtain⟨rfl,rfl,rfl,rfl⟩:=h
    rw[Zx e1,zh e2]
noncomputable def qg{α:Type}:List α->Option α
 |[x]=>some x
 |_=>none
theorem zp{α:Type}{l:List α}{x:α}(h:qg l=some x):l= [x]:=by
 match l,h with
 |[_],h=>cases h;rfl
noncomputable def V6{α:Type}:List α->Option (α×α)
 |[x,y]=>some (x,y)
 |_=>none
theorem ja{α:Type}{l:List α}{x y:α}(h:V6 l=some (x,y)):l= [x,y]:=by
 match l,h with
 |[_,_],h=>cases h;rfl
noncomputable def un1(e:Expr):Option (Str×Pos×Expr×Pos):=(unN e).bind fun (f,p,xs,q)=>(qg xs).map fun x=>(f,p,x,q)
theorem zN{e:Expr}{f:Str}{p:Pos}{x:Expr}{q:Pos}(h:un1 e=some (f,p,x,q)):e=.Call (.Name f p) [x] [] q:=by
 unfold un1 at h
 cases e1:unN e with
 |none=>rw[e1]at h;cases h
 |some z=>
  obtain⟨g,p',xs,q'⟩:=z
  cases e2:qg xs with
  |none=>simp[e1,e2]at h
  |some y=>
   simp[e1,e2]at h
   obtain⟨rfl,rfl,rfl,rfl⟩:=h
   rw[Qf e1,zp e2]
noncomputable def un2(e:Expr):Option (Str×Pos×Expr×Expr×Pos):=(unN e).bind fun (f,p,xs,q)=>(V6 xs).map fun (x,y)=>(f,p,x,y,q)
theorem zdI{e:Expr}{f:Str}{p:Pos}{x y:Expr}{q:Pos}(h:un2 e=some (f,p,x,y,q)):e=.Call (.Name f p) [x,y] [] q:=by
 unfold un2 at h
 cases e1:unN e with
 |none=>rw[e1]at h;cases h
 |some z=>
  obtain⟨g,p',xs,q'⟩:=z
  cases e2:V6 xs with
  |none=>simp[e1,e2]at h
  |some y=>
   obtain⟨y1,y2⟩:=y
   simp[e1,e2]at h
   obtain⟨rfl,rfl,rfl,rfl,rfl⟩:=h
   rw[Qf e1,ja e2]
noncomputable def zdM(e:Expr):Option (Str×Pos×Str×Pos×List Expr×Pos):=(ZF e).bind fun (f,xs,ks,q)=>match ks with
 |[]=>(jO f).bind fun (x,m,p2)=>(zq x).map fun (y,p)=>(y,p,m,p2,xs,q)
 |_::_=>none
theorem zbx{e:Expr}{x f:Str}{p p2:Pos}{xs:List Expr}{q:Pos}(h:zdM e=some (x,p,f,p2,xs,q)):e=.Call (.Attribute (.Name x p) f p2) xs [] q:=by
 unfold zdM at h
 cases e1:ZF e with
 |none=>rw[e1]at h;cases h
 |some z=>
  obtain⟨g,ys,ks,q'⟩:=z
  rw[e1]at h
  cases ks with
  |cons _ _=>cases h
  |nil=>
   cases e2:jO g with
   |none=>simp[e2]at h
   |some z=>
    obtain⟨y,m,p3⟩:=z
    cases e3:zq y with
    |none=>simp[e2,e3]at h
    |some z=>
     obtain⟨y',p'⟩:=z
     simp[e2,e3]at h
     obtain⟨rfl,rfl,rfl,rfl,rfl,rfl⟩:=h
     rw[Zx e1,jb e2,zh e3]
noncomputable def zdL(e:Expr):Option (Expr×Expr×Expr×List Expr×Scope×Pos):=(YE e).bind fun (elt,gens,scope,p)=>(qg gens).bind fun g=>if g.is_async=0 then some (elt,g.target,g.iter,g.ifs,scope,p) else none
theorem V8{e elt tg iter:Expr}{ifs:List Expr}{scope:Scope}{p:Pos}(h:zdL e=some (elt,tg,iter,ifs,scope,p)):e=.ListComp elt [⟨tg,iter,ifs,0⟩] scope p:=by
 unfold zdL at h
 cases e1:YE e with
 |none=>rw[e1]at h;cases h
 |some z=>
  obtain⟨a1,a2,a3,a4⟩:=z
  cases e2:qg a2 with
  |none=>simp[e1,e2]at h
  |some g=>
   obtain⟨g1,g2,g3,g4⟩:=g
   by_cases hz:g4=0
   ·subst hz
    simp[e1,e2]at h
    obtain⟨rfl,rfl,rfl,rfl,rfl,rfl⟩:=h
    rw[kU e1,zp e2]
   ·simp[e1,e2,hz]at h
noncomputable def YB(op:BoolOp)(e:Expr):Option (Expr×Expr):=(zdJ e).bind fun (o,vs,p)=>if o=op then (match vs with
 |x::y:: []=>some (x,y)
 |x::y::z::r=>some (x,.BoolOp op (y::z::r) p)
 |_=>none) else none
theorem W6{op:BoolOp}{e x z:Expr}(h:YB op e=some (x,z)):(∃ p,e=.BoolOp op [x,z] p)∨∃ y w r p,e=.BoolOp op (x::y::w::r) p/\z=.BoolOp op (y::w::r) p:=by
 unfold YB at h
 cases e1:zdJ e with
 |none=>rw[e1]at h;cases h
 |some q=>
  obtain⟨o,vs,p⟩:=q
  rw[zbq e1]
  by_cases ho:o=op
  ·subst ho
   match vs with
   |[]=>simp[e1]at h
   |[_]=>simp[e1]at h
   |[a,b]=>
    simp[e1]at h
    obtain⟨rfl,rfl⟩:=h
    exact .inl ⟨p,rfl⟩
   |a::b::c::r=>
    simp[e1]at h
    obtain⟨rfl,rfl⟩:=h
    exact .inr ⟨b,c,r,p,rfl,rfl⟩
  ·simp[e1,ho]at h
mutual
noncomputable def wl(sc:Scope)(N:List Str)(mp:List Nat)(lo:Nat):IT->Expr->Bool
 |.nm s i,.Name x _=>decide (N[s]?=some x)&&decide (mp[s]?=some i)&&decide (lo<=i)&&(decide (sc.names.lookup x=some .local)||decide (sc.names.lookup x=some .cell))
 |.tp ts,.Tuple es _ _=>WO sc N mp lo ts es
 |_,_=>false
noncomputable def WO(sc:Scope)(N:List Str)(mp:List Nat)(lo:Nat):ITs->List Expr->Bool
 |.nil,[]=>true
 |.cons t ts,e::es=>zj e&&wl sc N mp lo t e&&WO sc N mp lo ts es
 |_,_=>false
end
noncomputable def zf5(e:Expr):Option (Str×Nat×Pos×Str×Pos×Expr×Pos):=(ZF e).bind fun (f,xs,ks,q)=>match ks with
 |[]=>(jO f).bind fun (x,m,p2)=>(jP x).bind fun (c,j,p1)=>(yo c).bind fun z=>(qg xs).map fun a=>(z,j,p1,m,p2,a,q)
 |_::_=>none
theorem zbv{e a:Expr}{z m:Str}{j:Nat}{p1 p2 q:Pos}(h:zf5 e=some (z,j,p1,m,p2,a,q)):e=.Call (.Attribute (.Constant (.str z) j p1) m p2) [a] [] q:=by
 unfold zf5 at h
 cases e1:ZF e with
 |none=>rw[e1]at h;cases h
 |some w=>
  obtain⟨f,xs,ks,q'⟩:=w
  rw[e1]at h
  cases ks with
  |cons _ _=>cases h
  |nil=>
   cases e2:jO f with
   |none=>simp[e2]at h
   |some w=>
    obtain⟨x,m',p2'⟩:=w
    cases e3:jP x with
    |none=>simp[e2,e3]at h
    |some w=>
     obtain⟨c,j',p1'⟩:=w
     cases e4:yo c with
     |none=>simp[e2,e3,e4]at h
     |some z'=>
      cases e5:qg xs with
      |none=>simp[e2,e3,e4,e5]at h
      |some a'=>
       simp[e2,e3,e4,e5]at h
       obtain⟨rfl,rfl,rfl,rfl,rfl,rfl,rfl⟩:=h
       rw[Zx e1,jb e2,zO e3,Z3 e4,zp e5]
noncomputable def wW:Expr->Bool
 |.Name .. =>true
 |.Subscript .. =>true
 |.Attribute .. =>true
 |.Call (.Attribute ..) .. =>true
 |_=>false
theorem Z1{o:Expr}{nm:Str}{env:Env}(h:wW o=true):attributeBase o nm env (eval o env)=eval o env:=by
 cases o<;>first | rfl | (simp[wW]at h;done) | skip
 rename_i f xs ks q
 cases f<;>first | rfl | (simp[wW]at h)
noncomputable def zf3(e:Expr):Option (Str×Pos×Str×Pos):=(jO e).bind fun (x,f,p2)=>(zq x).map fun (y,p)=>(y,p,f,p2)
theorem zbs{e:Expr}{x f:Str}{p p2:Pos}(h:zf3 e=some (x,p,f,p2)):e=.Attribute (.Name x p) f p2:=by
 unfold zf3 at h
 cases e1:jO e with
 |none=>rw[e1]at h;cases h
 |some w=>
  obtain⟨y,g,q⟩:=w
  cases e2:zq y with
  |none=>simp[e1,e2]at h
  |some w=>
   obtain⟨z,q2⟩:=w
   simp[e1,e2]at h
   obtain⟨rfl,rfl,rfl,rfl⟩:=h
   rw[jb e1,zh e2]
noncomputable def zdK:Expr->Option (List (Option Expr)×List Expr×Pos)
 |.Dict ks vs p=>some (ks,vs,p)
 |_=>none
theorem V7{e:Expr}{ks:List (Option Expr)}{vs:List Expr}{p:Pos}(h:zdK e=some (ks,vs,p)):e=.Dict ks vs p:=by
 unfold zdK at h
 split at h
 ·cases h;rfl
 ·cases h
noncomputable def YD:Expr->Option (Expr×Expr×List Comprehension×Scope×Pos)
 |.DictComp k v gens scope p=>some (k,v,gens,scope,p)
 |_=>none
theorem kS{e k v:Expr}{gens:List Comprehension}{scope:Scope}{p:Pos}(h:YD e=some (k,v,gens,scope,p)):e=.DictComp k v gens scope p:=by
 unfold YD at h
 split at h
 ·cases h;rfl
 ·cases h
noncomputable def zf2(e:Expr):Option (Expr×Expr×Expr×Expr×List Expr×Scope×Pos):=(YD e).bind fun (k,v,gens,scope,p)=>(qg gens).bind fun g=>if g.is_async=0 then some (k,v,g.target,g.iter,g.ifs,scope,p) else none
theorem zbr{e k v tg iter:Expr}{ifs:List Expr}{scope:Scope}{p:Pos}(h:zf2 e=some (k,v,tg,iter,ifs,scope,p)):e=.DictComp k v [⟨tg,iter,ifs,0⟩] scope p:=by
 unfold zf2 at h
 cases e1:YD e with
 |none=>rw[e1]at h;cases h
 |some z=>
  obtain⟨a0,a1,a2,a3,a4⟩:=z
  cases e2:qg a2 with
  |none=>simp[e1,e2]at h
  |some g=>
   obtain⟨g1,g2,g3,g4⟩:=g
   by_cases hz:g4=0
   ·subst hz
    simp[e1,e2]at h
    obtain⟨rfl,rfl,rfl,rfl,rfl,rfl,rfl⟩:=h
    rw[kS e1,zp e2]
   ·simp[e1,e2,hz]at h
noncomputable def kX(e:Expr):Option (Expr×Str×Pos×List Expr×Pos):=(ZF e).bind fun (f,xs,ks,q)=>match ks with
 |[]=>(jO f).map fun (x,m,p2)=>(x,m,p2,xs,q)
 |_::_=>none
theorem Qe{e o:Expr}{m:Str}{p2 q:Pos}{xs:List Expr}(h:kX e=some (o,m,p2,xs,q)):e=.Call (.Attribute o m p2) xs [] q:=by
 unfold kX at h
 cases e1:ZF e with
 |none=>rw[e1]at h;cases h
 |some w=>
  obtain⟨f,ys,ks,q'⟩:=w
  rw[e1]at h
  cases ks with
  |cons _ _=>cases h
  |nil=>
   cases e2:jO f with
   |none=>simp[e2]at h
   |some w=>
    obtain⟨x,m',p2'⟩:=w
    simp[e2]at h
    obtain⟨rfl,rfl,rfl,rfl,rfl⟩:=h
    rw[Zx e1,jb e2]
noncomputable def zhf(e:Expr):Bool:=okO (zdN e) fun z=>decide (z.1=.USub)&&okO (jP z.2.1) fun c=>okO (Kw c.1) fun j=>decide (j=1)
noncomputable def ZB(W:Wd)(sc:Scope)(N:List Str)(mp:List Nat)(s i:Nat)(c f:Str)(e:Expr):Bool:=okO (zf3 e) fun z=>nmB sc N mp s i z.1&&decide (z.2.2.1=f)&&W.fk.contains (c,f)
mutual
noncomputable def IE.chk(W:Wd)(sc:Scope)(N:List Str)(mp:List Nat)(m:Nat):IE->Expr->Bool
 |.var s i,e=>okO (zq e) fun x=>nmB sc N mp s i x.1
 |.frz s i,e=>okO (zq e) fun x=>nmB sc N mp s i x.1
 |.cint i,e=>okO (jP e) fun c=>okO (Kw c.1) fun j=>decide (i=j)
 |.cstr x,e=>okO (jP e) fun c=>okO (yo c.1) fun y=>decide (x=y)
 |.cbool b,e=>okO (jP e) fun c=>okO (Yf c.1) fun y=>decide (b=y)
 |.gint x i,e=>okO (zq e) fun y=>decide (x=y.1)&&wE sc x&&W.gi.contains (x,i)&& !(x==("__debug__" :Str))
 |.gstr x i,e=>okO (zq e) fun y=>decide (x=y.1)&&wE sc x&&W.gs.contains (x,i)&& !(x==("__debug__" :Str))
 |.tup a,e=>okO (V9 e) fun es=>a.chk W sc N mp m es.1
 |.new n,e=>Jj e&&n.chk W sc N mp m e
 |.bin op a b,e=>okO (YC e) fun z=>decide (op=z.2.1)&&a.chk W sc N mp m z.1&&b.chk W sc N mp m z.2.2.1
 |.cmp op a b,e=>okO (Jy e) fun z=>okO (qg z.2.1) fun op'=>okO (qg z.2.2.1) fun y=>decide (op=op')&&zU y&&a.chk W sc N mp m z.1&&b.chk W sc N mp m y
 |.chain op1 op2 a b c,e=>okO (Jy e) fun z=>okO (V6 z.2.1) fun o=>okO (V6 z.2.2.1) fun y=>decide (op1=o.1)&&decide (op2=o.2)&&zU y.2&&a.chk W sc N mp m z.1&&b.chk W sc N mp m y.1&&c.chk W sc N mp m y.2
 |.not a,e=>okO (zdN e) fun z=>decide (z.1=.Not)&&a.chk W sc N mp m z.2.1
 |.and a b,e=>okO (YB .And e) fun z=>a.chk W sc N mp m z.1&&b.chk W sc N mp m z.2
 |.or a b,e=>okO (YB .Or e) fun z=>a.chk W sc N mp m z.1&&b.chk W sc N mp m z.2
 |.ite c a b,e=>okO (zbu e) fun z=>c.chk W sc N mp m z.1&&a.chk W sc N mp m z.2.1&&b.chk W sc N mp m z.2.2.1
 |.ix a b,e=>okO (ZG e) fun z=>zE z.2.1&&a.chk W sc N mp m z.1&&b.chk W sc N mp m z.2.1
 |.len a,e=>match un1 e with
  |some (f,_,x,_)=>biB W sc f "len" &&zj x&&a.chk W sc N mp m x
  |none=>false
 |.all a,e=>match un1 e with
  |some (f,_,x,_)=>biB W sc f "all" &&zj x&&a.chk W sc N mp m x
  |none=>false
 |.isi T a,e=>match un2 e with
  |some (f,_,x,y,_)=>biB W sc f "isinstance" &&zj x&&(T== "int" ||T== "bool" ||T== "list" ||T== "tuple" ||T== "str")&&okO (zq y) (fun z=>biB W sc z.1 (Str.ofString T))&&a.chk W sc N mp m x
  |none=>false
 |.call o,e=>Jj e&&o.chk W sc N mp m e
 |.sin a b,e=>okO (Jy e) fun z=>okO (qg z.2.1) fun op=>okO (qg z.2.2.1) fun y=>decide (op=.In)&&zU y&&a.chk W sc N mp m z.1&&b.chk W sc N mp m y
 |.slen a,e=>match un1 e with
  |some (f,_,x,_)=>biB W sc f "len" &&zj x&&a.chk W sc N mp m x
  |none=>false
 |.join z a,e=>okO (zf5 e) fun y=>decide (z=y.1)&&decide (y.2.2.2.1= "join")&&zj y.2.2.2.2.2.1&&(y.2.2.2.2.1.endLine==y.2.2.2.2.2.2.line)&&a.chk W sc N mp m y.2.2.2.2.2.1
 |.six a b,e=>okO (ZG e) fun z=>zE z.2.1&&a.chk W sc N mp m z.1&&b.chk W sc N mp m z.2.1
 |.dget a b,e=>okO (ZG e) fun z=>zE z.2.1&&a.chk W sc N mp m z.1&&b.chk W sc N mp m z.2.1
 |.din a b,e=>okO (Jy e) fun z=>okO (qg z.2.1) fun op=>okO (qg z.2.2.1) fun y=>decide (op=.In)&&zU y&&a.chk W sc N mp m z.1&&b.chk W sc N mp m y
 |.dnin a b,e=>okO (Jy e) fun z=>okO (qg z.2.1) fun op=>okO (qg z.2.2.1) fun y=>decide (op=.NotIn)&&zU y&&a.chk W sc N mp m z.1&&b.chk W sc N mp m y
 |.attr c f a,e=>okO (jO e) fun z=>decide (z.2.1=f)&&W.fk.contains (c,f)&&wW z.1&&a.chk W sc N mp m z.1
 |.newD n,e=>n.chk W sc N mp m e
 |.fdat s i c f,e=>ZB W sc N mp s i c f e
 |.flen s i c f,e=>match un1 e with
  |some (g,_,x,_)=>biB W sc g "len" &&ZB W sc N mp s i c f x
  |none=>false
 |.ftru s i c f,e=>ZB W sc N mp s i c f e
 |.flast s i c f,e=>okO (ZG e) fun z=>ZB W sc N mp s i c f z.1&&zhf z.2.1
 |.fget s i c f t k,e=>okO (ZG e) fun z=>okO (zq z.2.1) fun y=>ZB W sc N mp s i c f z.1&&nmB sc N mp t k y.1
 |.fnin s i c f t k,e=>okO (Jy e) fun z=>okO (qg z.2.1) fun op=>okO (qg z.2.2.1) fun y=>okO (zq z.1) fun w=>decide (op=.NotIn)&&ZB W sc N mp s i c f y&&nmB sc N mp t k w.1
 |.ffrz s i c f,e=>ZB W sc N mp s i c f e
noncomputable def IL.chk(W:Wd)(sc:Scope)(N:List Str)(mp:List Nat)(m:Nat):IL->List Expr->Bool
 |.nil,[]=>true
 |.cons e a,x::xs=>zj x&&e.chk W sc N mp m x&&a.chk W sc N mp m xs
 |_,_=>false
noncomputable def IA.chk(W:Wd)(sc:Scope)(N:List Str)(mp:List Nat)(m:Nat):IA->List Expr->Bool
 |.nil,[]=>true
 |.cons e a,x::xs=>zj x&&e.chk W sc N mp m x&&a.chk W sc N mp m xs
 |.io s i a,x::xs=>okO (zq x) (fun z=>nmB sc N mp s i z.1)&&a.chk W sc N mp m xs
 |.tmp n,[x]=>zj x&&n.chk W sc N mp m x
 |_,_=>false
noncomputable def IN.chk(W:Wd)(sc:Scope)(N:List Str)(mp:List Nat)(m:Nat):IN->Expr->Bool
 |.lst a,e=>okO (zbw e) fun z=>a.chk W sc N mp m z.1
 |.list e,y=>match un1 y with
  |some (f,_,x,_)=>biB W sc f "list" &&zj x&&e.chk W sc N mp m x
  |none=>false
 |.comp n k ix N' t src c el,e=>match zdL e with
  |some (elt,tg,iter,ifs,scope,_)=>decide (n=m)&&Vr sc N scope N' k ix&&decide (mpC mp n k ix).Nodup&&ix.all (fun i=>match mp[i]? with
   |some j=>decide (j<n)
   |none=>false)&&zU iter&&src.chk W sc N mp m iter tg&&wl scope N' (mpC mp n k ix) n t tg&&c.chk W scope N' (mpC mp n k ix) (n+k) ifs&&el.chk W scope N' (mpC mp n k ix) (n+k) elt
  |none=>false
 |.mul a b,e=>okO (YC e) fun z=>decide (z.2.1=.Mult)&&a.chk W sc N mp m z.1&&b.chk W sc N mp m z.2.2.1
 |.sortD e,y=>match un1 y with
  |some (f,_,x,_)=>biB W sc f "sorted" &&zj x&&e.chk W sc N mp m x
  |none=>false
 |.sortF s i c f,y=>match un1 y with
  |some (g,_,x,_)=>biB W sc g "sorted" &&ZB W sc N mp s i c f x
  |none=>false
 |.compW n k ix N' t src c el,e=>match zdL e with
  |some (elt,tg,iter,ifs,scope,_)=>decide (n=m)&&Vr sc N scope N' k ix&&decide (mpC mp n k ix).Nodup&&ix.all (fun i=>match mp[i]? with
   |some j=>decide (j<n)
   |none=>false)&&zU iter&&src.chk W sc N mp m iter tg&&wl scope N' (mpC mp n k ix) n t tg&&c.chk W scope N' (mpC mp n k ix) (n+k) ifs&&el.chk W scope N' (mpC mp n k ix) (n+k) elt
  |none=>false
noncomputable def IP.chk(W:Wd)(sc:Scope)(N:List Str)(mp:List Nat)(m:Nat):IP->Option Expr->Bool
 |.non,none=>true
 |.one e,some x=>e.chk W sc N mp m x
 |_,_=>false
noncomputable def II.chk(W:Wd)(sc:Scope)(N:List Str)(mp:List Nat)(m:Nat):II->Expr->Expr->Bool
 |.list e,x,_=>e.chk W sc N mp m x
 |.tup e,x,_=>e.chk W sc N mp m x
 |.range e,y,_=>match un1 y with
  |some (f,_,x,_)=>biB W sc f "range" &&zj x&&e.chk W sc N mp m x
  |none=>false
 |.enum e,y,tg=>match un1 y with
  |some (f,_,x,_)=>VF tg&&biB W sc f "enumerate" &&zj x&&e.chk W sc N mp m x
  |none=>false
 |.chars e,x,_=>e.chk W sc N mp m x
noncomputable def IC.chk(W:Wd)(sc:Scope)(N:List Str)(mp:List Nat)(m:Nat):IC->List Expr->Bool
 |.yes,[]=>true
 |.one e,[x]=>e.chk W sc N mp m x
 |_,_=>false
noncomputable def IO.chk(W:Wd)(sc:Scope)(N:List Str)(mp:List Nat)(m:Nat):IO->Expr->Bool
 |.dat e,x=>e.chk W sc N mp m x
 |.own n,x=>n.chk W sc N mp m x
 |.call f n a,e=>match unN e with
  |some (g,_,xs,_)=>decide (f=g)&&wE sc f&&W.fl.contains (f,n)&& !(f==("__debug__" :Str))&&xs.all zj&&a.chk W sc N mp m xs
  |none=>false
 |.move s i,e=>okO (zq e) fun x=>nmB sc N mp s i x.1
 |.ownD n,e=>n.chk W sc N mp m e
 |.make c q n a,e=>match unN e with
  |some (g,_,xs,_)=>decide (c=g)&&wE sc c&&W.mc.contains (c,q,n)&& !(c==("__debug__" :Str))&& !xs.isEmpty&&xs.all zj&&a.chk W sc N mp m xs
  |none=>false
 |.meth s i c mt q n a,e=>okO (kX e) fun (o,g,p2,xs,p)=>okO (zq o) fun x=>decide (mt=g)&&nmB sc N mp s i x.1&&W.ml.contains (c,mt,q,n)&&(p2.endLine==p.line)&&xs.all zj&&decide (xs.length<20)&&a.chk W sc N mp m xs
noncomputable def IJ.chk(W:Wd)(sc:Scope)(N:List Str)(mp:List Nat)(m:Nat):IJ->List Expr->Bool
 |.nil,[]=>true
 |_,_=>false
noncomputable def IM.chk(W:Wd)(sc:Scope)(N:List Str)(mp:List Nat)(m:Nat):IM->Expr->Bool
 |.nil,e=>okO (zdK e) fun z=>z.1.isEmpty&&z.2.1.isEmpty
 |.one a b,e=>okO (zdK e) fun z=>okO (qg z.1) fun k=>okO k fun x=>okO (qg z.2.1) fun y=>a.chk W sc N mp m x&&b.chk W sc N mp m y
 |.copy a,e=>match un1 e with
  |some (f,_,x,_)=>biB W sc f "dict" &&zj x&&a.chk W sc N mp m x
  |none=>false
 |.comp n k ix N' t src c ek ev,e=>match zf2 e with
  |some (kx,vx,tg,iter,ifs,scope,_)=>decide (n=m)&&Vr sc N scope N' k ix&&decide (mpC mp n k ix).Nodup&&ix.all (fun i=>match mp[i]? with
   |some j=>decide (j<n)
   |none=>false)&&zU iter&&src.chk W sc N mp m iter tg&&wl scope N' (mpC mp n k ix) n t tg&&c.chk W scope N' (mpC mp n k ix) (n+k) ifs&&ek.chk W scope N' (mpC mp n k ix) (n+k) kx&&ev.chk W scope N' (mpC mp n k ix) (n+k) vx
  |none=>false
noncomputable def IG.chk(W:Wd)(sc:Scope)(N:List Str)(mp:List Nat)(m:Nat):IG->Expr->Expr->Bool
 |.std src,x,tg=>src.chk W sc N mp m x tg
 |.items a,x,tg=>okO (kX x) fun (o,g,p2,xs,p)=>VF tg&&decide (g= "items")&&xs.isEmpty&&(p2.endLine==p.line)&&wW o&&a.chk W sc N mp m o
 |.fld s i c f,x,_=>ZB W sc N mp s i c f x
 |.frev s i c f,y,_=>match un1 y with
  |some (g,_,x,_)=>biB W sc g "reversed" &&ZB W sc N mp s i c f x
  |none=>false
end
structure XSc(X:Cx)(sc:Scope)(N:List Str):Prop where
 hN:X.N=N
 vis:∀ x,zbG sc x=true->Vis X.env.scope x
 loc:∀ x,sc.names.lookup x=some .local->X.env.scope.names.lookup x=some .local
 cel:∀ x,sc.names.lookup x=some .cell->X.env.scope.names.lookup x=some .cell/\X.fn x=true
 fre:∀ x,sc.names.lookup x=some .free->X.env.scope.names.lookup x=some .cell∨X.env.scope.names.lookup x=some .free
 glo:∀ x,wE sc x=true->Gl X x
structure XW(X:Cx)(XP:XPT)(cf:CF)(W:Wd)(k:Nat):Prop where
 bi:∀ x,W.bi.contains x=true->X.mg x=none
 gi:∀ x i,W.gi.contains (x,i)=true->∃ t,X.mg x=some (.int i t)
 gs:∀ x i,W.gs.contains (x,i)=true->∃ t,X.mg x=some (.str i t)
 fn:∀ x n,W.fl.contains (x,n)=true->Kn X.prog X.w X.K X.mg X.base (CX1 X.prog X.w) x k (spX X.mg n (cf x))/\∀ args,cf x args≠ .bad->args.length=n
 rm:Room k X.A
 hk:1<=k
 calm:X.calm=true
 ex:∀ x,W.ex.contains x=true->∃ C,X.mg x=some (.ref C)/\PySem.W.excIn X.K C bmV "ValueError.__new__" =true
 mr:∀ x C y C2,W.ex.contains x=true->X.mg x=some (.ref C)->W.ex.contains y=true->X.mg y=some (.ref C2)->(mroIn X.K C).contains (.ref C2)=decide (x=y)
 gd:∀ x kf,W.gd.contains (x,kf)=true->GD X.w X.K X.mg x kf
 fk:∀ c f,W.fk.contains (c,f)=true->jc X c f
 mc:∀ c q n,W.mc.contains (c,q,n)=true->X.mg c=some (.ref (Cs.adr c))/\(∃ j,j+1<=k/\KnI X.prog X.w X.K X.mg X.base (CX1 X.prog X.w) (Cs.adr c) j (spX X.mg n (cf q)))/\∀ args,cf q args≠ .bad->args.length=n
 ml:∀ c m q n,W.ml.contains (c,m,q,n)=true->KnM X.prog X.w X.K X.mg X.base (CX1 X.prog X.w) (Cs.adr c) m k (spX X.mg n (cf q))/\∀ args,cf q args≠ .bad->args.length=n
 px:J6 X XP
theorem zl{e:Expr}{es:List Expr}{env:Env}(h:zj e=true):starEach (e::es) env=(false,eval e env)::starEach es env:=by
 cases e<;>first | rfl | (simp[zj]at h)
theorem jK{es:List Expr}{env:Env}:es.all zj=true->(starEach es env).any (·.1)=false:=by
 induction es with
 |nil=>intro;rfl
 |cons e es ih=>
  intro h
  rw[xW,xa]at h
  rw[zl h.1,xP,ih h.2];rfl
theorem zZ{pos:Pos}:∀ {l:List (Bool×Sem Value)},l.any (·.1)=false->(backTo pos l).any (·.1)=false
 |[],_=>rfl
 | (b,t)::r,h=>by
  rw[xP,Bool.or_eq_false_iff]at h
  show ((b,_)::backTo pos r).any (·.1)=false
  rw[xP,zZ h.2]
  have hb:b=false:=h.1
  rw[hb];rfl
theorem wV{e:Expr}(h:zE e=true):JY e:=fun o i=>by
 cases e<;>first | rfl | (simp[zE]at h)
theorem ql{e:Expr}{env:Env}(h:zU e=true)(x:Value):foldedSetIterable e env x=pure x:=by
 cases e<;>first | rfl | (simp[zU]at h)
theorem zT{e:Expr}(op:CmpOp)(h:zU e=true):behindInMarks op e=false:=by
 cases e<;>first | rfl | (simp[zU]at h)
theorem WV{e b:Expr}(op op':CmpOp)(h:zU e=true):lastMarks [op,op'] [b,e]=false:=zT op' h
theorem jt{x y:Str}(h:(!(x==y))=true):(x==y)=false:=by simpa using h
section
variable {X:Cx} {XP:XPT} {cf:CF} {W:Wd} {k:Nat} {sc:Scope} {N:List Str} {mp:List Nat} {m:Nat}
theorem qX{s i:Nat}{x:Str}(S:XSc X sc N)(h:nmB sc N mp s i x=true):NmK X mp s i x:=by
 unfold nmB at h
 simp only[xa,decide_eq_true_eq]at h
 obtain⟨⟨⟨⟨h1,h2⟩,h3⟩,h4⟩,h5⟩:=h
 exact⟨by rw[S.hN];exact h1,S.vis x h2,h3,jt h4,jt h5⟩
theorem qc {x y:Str}{v:Value}(S:XSc X sc N) (T:XW X XP cf W k) (h:biB W sc x y=true) (hb:bootBuiltins y=some v) (hn:y≠ "__name__") (hd:(y==("__debug__" :Str))=false):BiK X x v:=by
 unfold biB at h
 simp only[xa,decide_eq_true_eq]at h
 obtain⟨⟨h1,h2⟩,h3⟩:=h
 subst h1
 exact⟨S.glo x h2,T.bi x h3,hb,hn,hd⟩
theorem Jt{f:Str->NameKind->NameKind}:∀ {names:List (Str×NameKind)}{x:Str},(names.map fun (n,k)=>(n,f n k)).lookup x=(names.lookup x).map (f x)
 |[],_=>rfl
 | (n,k)::r,x=>by
  rw[xu]
  cases hx:x==n with
  |true=>rw[xq,xq,hx];rw[eq_of_beq hx];rfl
  |false=>rw[xq,xq,hx];exact Jt
theorem zW{scope:Scope}{env:Env}{x:Str}:(relabel scope env).names.lookup x=(scope.names.lookup x).map fun k=>if (k==.free&&env.scope.kind==ScopeKind.function&&env.kindOf x==some NameKind.cell) then .cell else k:=by
 unfold relabel
 have e:(scope.names.map fun (n,k)=>if (k==NameKind.free&&env.scope.kind==ScopeKind.function&&env.kindOf n==some NameKind.cell) then (n,NameKind.cell) else (n,k)) =
   scope.names.map fun (n,k)=>(n,(fun n k=>if (k==NameKind.free&&env.scope.kind==ScopeKind.function&&env.kindOf n==some NameKind.cell) then NameKind.cell else k) n k):=by
  apply List.map_congr_left
  rintro⟨n,k⟩ _
  dsimp only
  split<;>rfl
 rw[e]
 exact Jt (f:=fun n k=>if (k==NameKind.free&&env.scope.kind==ScopeKind.function&&env.kindOf n==some NameKind.cell) then NameKind.cell else k)
theorem XSc.comp{scope:Scope}{N':List Str}{k:Nat}{ix:List Nat}{psc:Scope}(S:CSc psc N scope N' k ix)(cl:List (Str×Addr))(C:Addr)(s2:Shared)(H2:Hp)(fp:List Addr):XSc (X.comp N' scope cl C s2 H2 fp) scope N' where
 hN:=rfl
 vis x h:=by
  unfold zbG at h
  simp only[xD,decide_eq_true_eq]at h
  show Vis (relabel scope X.env) x
  unfold Vis
  rw[zW]
  rcases h with (h | h) | h
  ·rw[h];exact .inl rfl
  ·rw[h];exact .inr (.inl rfl)
  ·rw[h]
   simp only[ux]
   split
   ·exact .inr (.inl rfl)
   ·exact .inr (.inr rfl)
 loc x h:=by
  show (relabel scope X.env).names.lookup x=_
  rw[zW,h];rfl
 cel x h:=by
  refine⟨?_,decide_eq_true h⟩
  show (relabel scope X.env).names.lookup x=_
  rw[zW,h];rfl
 fre x h:=by
  show (relabel scope X.env).names.lookup x=_∨(relabel scope X.env).names.lookup x=_
  rw[zW,h]
  simp only[ux]
  split
  ·exact .inl rfl
  ·exact .inr rfl
 glo x h:=by
  unfold wE at h
  simp only[decide_eq_true_eq]at h
  show (relabel scope X.env).names.lookup x=_
  rw[zW,h];rfl
theorem XW.comp(T:XW X XP cf W k){N':List Str}{scope:Scope}(cl:List (Str×Addr))(C:Addr)(s2:Shared)(H2:Hp)(fp:List Addr):XW (X.comp N' scope cl C s2 H2 fp) XP0 cf W k:=⟨T.bi,T.gi,T.gs,T.fn,T.rm,T.hk,T.calm,T.ex,T.mr,T.gd,fun c f h=>⟨(T.fk c f h).cl,(T.fk c f h).no⟩,T.mc,T.ml,Yu⟩
theorem yq{scope:Scope}{N':List Str}{k:Nat}{ix:List Nat}(S:XSc X sc N)(h:CSc sc N scope N' k ix):CSc X.env.scope X.N scope N' k ix :=
 ⟨h.kind,h.cel,h.loc,fun y hy e=>by
  rcases h.fre y hy e with z | z
  ·exact .inl (S.cel _ z).1
  ·exact S.fre _ z,h.len,h.nd,fun j i e=>by
  rw[S.hN];exact h.cap j i e⟩
theorem Room.at1(T:XW X XP cf W k):Room 1 X.A:=T.rm.mono T.hk
theorem Room.atk(T:XW X XP cf W k):Room k X.A:=T.rm
theorem yj{es:List Expr}{env:Env}:(assignEach es env).length=es.length:=by
 induction es with
 |nil=>rfl
 |cons e es ih=>cases e<;>simp[assignEach,ih]
theorem Jp{e:Expr}{es:List Expr}{env:Env}(h:zj e=true):assignEach (e::es) env=(false,assign e env)::assignEach es env:=by
 cases e<;>first | rfl | (simp[zj]at h)
mutual
theorem Zw{kp:Nat->Prop}{lo:Nat}(S:XSc X sc N)(hN:N.Nodup)(hn:mp.Nodup)(hc:X.calm=true)(hk:∀ i,lo<=i->¬ kp i):∀ (t:IT) (e:Expr),wl sc N mp lo t e=true->SG X mp kp e t
  |.nm s i,e,h=>by
   cases e with
   |Name x p=>
    simp only[wl,xa,xD,decide_eq_true_eq]at h
    obtain⟨⟨⟨h1,h2⟩,h3⟩,h4⟩:=h
    refine zdc (by rw[S.hN];exact hN) hn (by rw[S.hN];exact h1) h2 (hk i h3) ?_ ?_
    · rcases h4 with h4 | h4
      · exact .inl (S.loc x h4)
      · exact .inr (S.cel x h4).1
    · rcases h4 with h4 | h4
      · exact .inr (S.loc x h4)
      · exact .inl (S.cel x h4).2
   |_=>simp[wl]at h
  |.tp ts,e,h=>by
   cases e with
   |Tuple es n p=>
    simp only[wl]at h
    obtain⟨h1,h2,h3⟩:=VX S hN hn hc hk ts es h
    exact zfK hc h1 (by rw[yj];exact h2) h3
   |_=>simp[wl]at h
theorem VX{kp:Nat->Prop}{lo:Nat}(S:XSc X sc N)(hN:N.Nodup)(hn:mp.Nodup)(hc:X.calm=true)(hk:∀ i,lo<=i->¬ kp i):∀ (ts:ITs) (es:List Expr),WO sc N mp lo ts es=true->SGs X mp kp es ts/\ts.len=es.length/\(assignEach es X.env).findIdx? (·.1)=none
  |.nil,[],h=>⟨zdd,rfl,rfl⟩
  |.cons t ts,e::es,h=>by
    simp only[WO,xa]at h
    obtain⟨⟨h1,h2⟩,h3⟩:=h
    have ih1:=Zw S hN hn hc hk t e h2
    obtain⟨i1,i2,i3⟩:=VX S hN hn hc hk ts es h3
    refine⟨zaW ih1 i1 (by rw[Jp h1];rfl),by rw[ITs.len,i2];rfl,?_⟩
    rw[Jp h1,List.findIdx?_cons]
    simp[i3]
  |.nil,_::_,h=>by simp[WO]at h
  |.cons ..,[],h=>by simp[WO]at h
end
noncomputable def Kh(X:Cx)(XP:XPT)(mp:List Nat)(e:Expr)(f:EM (List PyData)):Prop:=∀ elt gens scope pos,e=.ListComp elt gens scope pos->∃ tg iter ifs N' k ix,gens= [⟨tg,iter,ifs,0⟩]/\CSc X.env.scope X.N scope N' k ix/\(∀ x,foldedSetIterable iter X.env x=pure x) /\
 SNt XP mp (W5 k ix (wpI X tg iter) (gU X N' scope tg) (fU X N' scope ifs) (eU X N' scope elt)) f
theorem wM{X:Cx}{XP:XPT}{mp:List Nat}{e:Expr}{f:EM (List PyData)}(h:∀ elt gens scope pos,e≠ .ListComp elt gens scope pos):Kh X XP mp e f:=fun a b c d q=>absurd q (h a b c d)
theorem kD{e:Expr}{env:Env}(h:Jj e=true)(whole:Sem Value):isTrue e env whole=(do let v<-whole;standAt e.pos;holding [v] (truthy v)):=by
 cases e<;>first | rfl | (simp[Jj]at h;done) | skip
 rename_i op x p
 cases op<;>first | rfl | (simp[Jj]at h)
theorem zR{X:Cx}{XP:XPT}{mp:List Nat}{e:Expr}{fa:EM FV}(h:SE X XP mp e fa)(hp:Jj e=true):SE X XP mp e fa/\ST X XP mp e (fTru fa):=⟨h,zbe h (kD hp)⟩
theorem VZ{X:Cx}{XP:XPT}{mp:List Nat}{op:BoolOp}{vs:List Expr}{p:Pos}{t:EM Bool}(h:ST X XP mp (.BoolOp op vs p) t):SW X XP mp (.BoolOp op vs p) t:=fun M0 F Γ ν σ H Q rs hs hp whole pins s I=>h M0 F Γ ν σ H Q rs hs hp pins s I
theorem Z2:bootBuiltins "sorted" =some (.builtin "sorted"):=by decide +kernel
theorem Vn:bootBuiltins "range" =some (.type "range"):=by decide +kernel
theorem Qj:bootBuiltins "len" =some (.builtin "len"):=by decide +kernel
theorem YS:bootBuiltins "str" =some (.type "str"):=by decide +kernel
theorem YR:bootBuiltins "isinstance" =some (.builtin "isinstance"):=by decide +kernel
noncomputable abbrev QE(cf:CF)(W:Wd)(a:IE):Prop:=∀ (X:Cx) (XP:XPT) (k:Nat) (sc:Scope) (N:List Str) (mp:List Nat) (m:Nat),XSc X sc N->XW X XP cf W k->∀ (e:Expr),a.chk W sc N mp m e=true->SE X XP mp e (a.ev cf).1/\ST X XP mp e (a.ev cf).2
noncomputable abbrev QL(cf:CF)(W:Wd)(a:IL):Prop:=∀ (X:Cx) (XP:XPT) (k:Nat) (sc:Scope) (N:List Str) (mp:List Nat) (m:Nat),XSc X sc N->XW X XP cf W k->∀ (e:List Expr),a.chk W sc N mp m e=true->SL X XP mp e (a.ev cf)
noncomputable abbrev QA(cf:CF)(W:Wd)(a:IA):Prop:=∀ (X:Cx) (XP:XPT) (k:Nat) (sc:Scope) (N:List Str) (mp:List Nat) (m:Nat),XSc X sc N->XW X XP cf W k->∀ (e:List Expr),a.chk W sc N mp m e=true->SA X XP mp e (a.ev cf)
noncomputable abbrev QN(cf:CF)(W:Wd)(a:IN):Prop:=∀ (X:Cx) (XP:XPT) (k:Nat) (sc:Scope) (N:List Str) (mp:List Nat) (m:Nat),XSc X sc N->XW X XP cf W k->∀ (e:Expr),a.chk W sc N mp m e=true->SN X XP mp e (a.ev cf)/\(a.plain=true->Kh X XP mp e (a.ev cf))
noncomputable abbrev QP(cf:CF)(W:Wd)(a:IP):Prop:=∀ (X:Cx) (XP:XPT) (k:Nat) (sc:Scope) (N:List Str) (mp:List Nat) (m:Nat),XSc X sc N->XW X XP cf W k->∀ (e:Option Expr),a.chk W sc N mp m e=true->SOp X XP mp e (a.ev cf)
noncomputable abbrev QI(cf:CF)(W:Wd)(a:II):Prop:=∀ (X:Cx) (XP:XPT) (k:Nat) (sc:Scope) (N:List Str) (mp:List Nat) (m:Nat),XSc X sc N->XW X XP cf W k->∀ (tg e:Expr),a.chk W sc N mp m e tg=true->SI X XP mp tg e (a.ev cf)
noncomputable abbrev QC(cf:CF)(W:Wd)(a:IC):Prop:=∀ (X:Cx) (XP:XPT) (k:Nat) (sc:Scope) (N:List Str) (mp:List Nat) (m:Nat),XSc X sc N->XW X XP cf W k->∀ (e:List Expr),a.chk W sc N mp m e=true->SF X XP mp e (a.ev cf)
noncomputable abbrev QO(cf:CF)(W:Wd)(a:IO):Prop:=∀ (X:Cx) (XP:XPT) (k:Nat) (sc:Scope) (N:List Str) (mp:List Nat) (m:Nat),XSc X sc N->XW X XP cf W k->∀ (e:Expr),a.chk W sc N mp m e=true->SO X XP mp e (a.ev cf)
noncomputable abbrev QJ(cf:CF)(W:Wd)(a:IJ):Prop:=∀ (X:Cx) (XP:XPT) (k:Nat) (sc:Scope) (N:List Str) (mp:List Nat) (m:Nat),XSc X sc N->XW X XP cf W k->∀ (e:List Expr),a.chk W sc N mp m e=true->SJ X XP mp e (a.ev cf)
noncomputable def zbO(X:Cx)(XP:XPT)(mp:List Nat)(e:Expr)(f:EM (List (Str×PyData))):Prop:=∀ kx vx gens scope pos,e=.DictComp kx vx gens scope pos->∃ tg iter ifs N' k ix,gens= [⟨tg,iter,ifs,0⟩]/\CSc X.env.scope X.N scope N' k ix/\(∀ x,foldedSetIterable iter X.env x=pure x) /\
 SDt XP mp (Jn k ix (wpI X tg iter) (gU X N' scope tg) (fU X N' scope ifs) (eD X N' scope kx vx)) f
noncomputable abbrev QM(cf:CF)(W:Wd)(a:IM):Prop:=∀ (X:Cx) (XP:XPT) (k:Nat) (sc:Scope) (N:List Str) (mp:List Nat) (m:Nat),XSc X sc N->XW X XP cf W k->∀ (e:Expr),a.chk W sc N mp m e=true->SD X XP mp e (a.ev cf)/\(a.plain=true->zbO X XP mp e (a.ev cf))
noncomputable abbrev QG(cf:CF)(W:Wd)(a:IG):Prop:=∀ (X:Cx) (XP:XPT) (k:Nat) (sc:Scope) (N:List Str) (mp:List Nat) (m:Nat),XSc X sc N->XW X XP cf W k->∀ (tg e:Expr),a.chk W sc N mp m e tg=true->SIw X XP mp tg e (a.ev cf)/\∀ b,a=.std b->SI X XP mp tg e (b.ev cf)
theorem QH{cf:CF}{W:Wd}(s i:Nat):QE cf W (.var s i):=by
 intro X XP k sc N mp m S T e g0
 obtain⟨⟨x,p⟩,eu,h⟩:=za g0
 clear g0
 cases zh eu
 have n:=qX S h
 exact zR (zfH n.hN n.hv n.hm n.hd n.hcd) rfl
theorem Qt{cf:CF}{W:Wd}(s i:Nat):QE cf W (.frz s i):=by
 intro X XP k sc N mp m S T e g0
 obtain⟨⟨x,p⟩,eu,h⟩:=za g0
 clear g0
 cases zh eu
 have n:=qX S h
 exact zR (zfB n.hN n.hv n.hm n.hd n.hcd) rfl
theorem jT{cf:CF}{W:Wd}(i:Int):QE cf W (.cint i):=by
 intro X XP k sc N mp m S T e g0
 obtain⟨⟨c,j,p⟩,eu,h⟩:=za g0
 clear g0
 cases zO eu
 obtain⟨z,ez,h⟩:=za h
 cases wg ez
 cases of_decide_eq_true h
 exact zR zfC rfl
theorem jU{cf:CF}{W:Wd}(i:Str):QE cf W (.cstr i):=by
 intro X XP k sc N mp m S T e g0
 obtain⟨⟨c,j,p⟩,eu,h⟩:=za g0
 clear g0
 cases zO eu
 obtain⟨z,ez,h⟩:=za h
 cases Z3 ez
 cases of_decide_eq_true h
 exact zR zfF rfl
theorem qN{cf:CF}{W:Wd}(i:Bool):QE cf W (.cbool i):=by
 intro X XP k sc N mp m S T e g0
 obtain⟨⟨c,j,p⟩,eu,h⟩:=za g0
 clear g0
 cases zO eu
 obtain⟨z,ez,h⟩:=za h
 cases WJ ez
 cases of_decide_eq_true h
 exact zR zc1 rfl
theorem j8{cf:CF}{W:Wd}(x:Str)(i:Int):QE cf W (.gint x i):=by
 intro X XP k sc N mp m S T e g0
 obtain⟨⟨y,p⟩,eu,h⟩:=za g0
 clear g0
 cases zh eu
 simp only[xa,decide_eq_true_eq]at h
 obtain⟨⟨⟨h1,h2⟩,h3⟩,h4⟩:=h
 subst h1
 exact zR (zc7 (S.glo x h2) (T.gi x i h3) (jt h4)) rfl
theorem j9{cf:CF}{W:Wd}(x:Str)(i:Str):QE cf W (.gstr x i):=by
 intro X XP k sc N mp m S T e g0
 obtain⟨⟨y,p⟩,eu,h⟩:=za g0
 clear g0
 cases zh eu
 simp only[xa,decide_eq_true_eq]at h
 obtain⟨⟨⟨h1,h2⟩,h3⟩,h4⟩:=h
 subst h1
 exact zR (zc8 (S.glo x h2) (T.gs x i h3) (jt h4)) rfl
theorem QF{cf:CF}{W:Wd}(a:IL)(ih_a:QL cf W a):QE cf W (.tup a):=by
 intro X XP k sc N mp m S T e g0
 obtain⟨⟨es,j,p⟩,eu,h⟩:=za g0
 clear g0
 cases Jo eu
 exact zR (zfG (ih_a _ _ _ _ _ _ _ S T es h)) rfl
theorem Qx{cf:CF}{W:Wd}(n:IN)(ih_n:QN cf W n):QE cf W (.new n):=by
 intro X XP k sc N mp m S T e h
 replace h:=xC.mp h
 try simp only[xa]at h
 exact zR (SN.se (ih_n _ _ _ _ _ _ _ S T e h.2).1) h.1
theorem Qq{cf:CF}{W:Wd}(op:Operator)(a b:IE)(ih_a:QE cf W a)(ih_b:QE cf W b):QE cf W (.bin op a b):=by
 intro X XP k sc N mp m S T e g0
 obtain⟨⟨x,op',y,p⟩,eu,h⟩:=za g0
 clear g0
 cases W7 eu
 simp only[xa,decide_eq_true_eq]at h
 obtain⟨⟨h1,h2⟩,h3⟩:=h
 subst h1
 exact zR (zfA (zep op) (ih_a _ _ _ _ _ _ _ S T x h2).1 (ih_b _ _ _ _ _ _ _ S T y h3).1) rfl
theorem Qr{cf:CF}{W:Wd}(op:CmpOp)(a b:IE)(ih_a:QE cf W a)(ih_b:QE cf W b):QE cf W (.cmp op a b):=by
 intro X XP k sc N mp m S T e g0
 obtain⟨⟨x,ops,ys,p⟩,eu,g1⟩:=za g0
 clear g0
 cases qp eu
 obtain⟨op',eo,h⟩:=za g1
 clear g1
 cases zp eo
 obtain⟨y,ey,h⟩:=za h
 cases zp ey
 simp only[xa,decide_eq_true_eq]at h
 obtain⟨⟨⟨h1,h2⟩,h3⟩,h4⟩:=h
 subst h1
 have ha:=(ih_a _ XP _ _ _ _ _ S T x h3).1
 have hb:=(ih_b _ XP _ _ _ _ _ S T y h4).1
 exact⟨v5 (Q7 (Room.at1 T) op) ha hb (zT op h2),v8 (Q7 (Room.at1 T) op) ha hb (zT op h2)⟩
theorem qO{cf:CF}{W:Wd}(op1 op2:CmpOp)(a b c:IE)(ih_a:QE cf W a)(ih_b:QE cf W b)(ih_c:QE cf W c):QE cf W (.chain op1 op2 a b c):=by
 intro X XP k sc N mp m S T e g0
 obtain⟨⟨x,ops,ys,p⟩,eu,g1⟩:=za g0
 clear g0
 cases qp eu
 obtain⟨⟨o1,o2⟩,eo,h⟩:=za g1
 clear g1
 cases ja eo
 obtain⟨⟨y,z⟩,ey,h⟩:=za h
 cases ja ey
 simp only[xa,decide_eq_true_eq]at h
 obtain⟨⟨⟨⟨⟨h1,h2⟩,h3⟩,h4⟩,h5⟩,h6⟩:=h
 subst h1 h2
 have ha:=(ih_a _ XP _ _ _ _ _ S T x h4).1
 have hb:=(ih_b _ XP _ _ _ _ _ S T y h5).1
 have hc:=(ih_c _ XP _ _ _ _ _ S T z h6).1
 exact⟨zaR (Q7 (Room.at1 T) op1) (Q7 (Room.at1 T) op2) ha hb hc (WV op1 op2 h3),zbd (Q7 (Room.at1 T) op1) (Q7 (Room.at1 T) op2) ha hb hc (WV op1 op2 h3)⟩
theorem Qy{cf:CF}{W:Wd}(a:IE)(ih_a:QE cf W a):QE cf W (.not a):=by
 intro X XP k sc N mp m S T e g0
 obtain⟨⟨op,x,p⟩,eu,h⟩:=za g0
 clear g0
 cases ya eu
 simp only[xa,decide_eq_true_eq]at h
 cases h.1
 have hh:=ih_a _ XP _ _ _ _ _ S T x h.2
 exact⟨zfD hh.1,zfW hh.2⟩
theorem Qp{cf:CF}{W:Wd}(a b:IE)(ih_a:QE cf W a)(ih_b:QE cf W b):QE cf W (.and a b):=by
 intro X XP k sc N mp m S T e g0
 obtain⟨⟨x,z⟩,eu,h⟩:=za g0
 clear g0
 rw[xa]at h
 have ha:=ih_a _ XP _ _ _ _ _ S T x h.1
 have hb:=ih_b _ XP _ _ _ _ _ S T z h.2
 rcases W6 eu with ⟨p,rfl⟩ | ⟨y,w,r,p,rfl,rfl⟩
 ·exact⟨zaP ha.1 (zaT hb.1),(zbh ha.2 (zdD hb.2)).st⟩
 ·exact⟨zaP ha.1 hb.1,(zbh ha.2 (VZ hb.2)).st⟩
theorem WM{cf:CF}{W:Wd}(a b:IE)(ih_a:QE cf W a)(ih_b:QE cf W b):QE cf W (.or a b):=by
 intro X XP k sc N mp m S T e g0
 obtain⟨⟨x,z⟩,eu,h⟩:=za g0
 clear g0
 rw[xa]at h
 have ha:=ih_a _ XP _ _ _ _ _ S T x h.1
 have hb:=ih_b _ XP _ _ _ _ _ S T z h.2
 rcases W6 eu with ⟨p,rfl⟩ | ⟨y,w,r,p,rfl,rfl⟩
 ·exact⟨zea ha.1 (zaT hb.1),(zef ha.2 (zdE hb.2)).st⟩
 ·exact⟨zea ha.1 hb.1,(zef ha.2 (VZ hb.2)).st⟩
theorem Qv{cf:CF}{W:Wd}(c a b:IE)(ih_c:QE cf W c)(ih_a:QE cf W a)(ih_b:QE cf W b):QE cf W (.ite c a b):=by
 intro X XP k sc N mp m S T e g0
 obtain⟨⟨z,x,y,p⟩,eu,h⟩:=za g0
 clear g0
 cases kT eu
 simp only[xa]at h
 obtain⟨⟨h1,h2⟩,h3⟩:=h
 exact⟨zgW (ih_c _ _ _ _ _ _ _ S T z h1).2 (ih_a _ _ _ _ _ _ _ S T x h2).1 (ih_b _ _ _ _ _ _ _ S T y h3).1,fun M0 F Γ ν σ H Q rs hs hp=>hp.elim⟩
theorem WL{cf:CF}{W:Wd}(a b:IE)(ih_a:QE cf W a)(ih_b:QE cf W b):QE cf W (.ix a b):=by
 intro X XP k sc N mp m S T e g0
 obtain⟨⟨x,y,p⟩,eu,h⟩:=za g0
 clear g0
 cases zP eu
 simp only[xa]at h
 obtain⟨⟨h1,h2⟩,h3⟩:=h
 exact zR (zgX (ih_a _ _ _ _ _ _ _ S T x h2).1 (ih_b _ _ _ _ _ _ _ S T y h3).1 (wV h1)) rfl
theorem Qw{cf:CF}{W:Wd}(a:IE)(ih_a:QE cf W a):QE cf W (.len a):=by
 intro X XP k sc N mp m S T e h
 conv at h=>lhs;whnf
 split at h
 ·rename_i f p x q eu
  cases zN eu
  simp only[xa]at h
  obtain⟨⟨h1,h2⟩,h3⟩:=h
  exact zR (zaQ zeE (qc S T h1 Qj (by decide) (by decide)) (ih_a _ _ _ _ _ _ _ S T x h3).1 (zl h2)) rfl
 ·cases h
theorem Qo{cf:CF}{W:Wd}(a:IE)(ih_a:QE cf W a):QE cf W (.all a):=by
 intro X XP k sc N mp m S T e h
 conv at h=>lhs;whnf
 split at h
 ·rename_i f p x q eu
  cases zN eu
  simp only[xa]at h
  obtain⟨⟨h1,h2⟩,h3⟩:=h
  exact zR (zaQ (zeD T.calm) (qc S T h1 YO (by decide) (by decide)) (ih_a _ _ _ _ _ _ _ S T x h3).1 (zl h2)) rfl
 ·cases h
theorem Qu{cf:CF}{W:Wd}(TT:String)(a:IE)(ih_a:QE cf W a):QE cf W (.isi TT a):=by
 intro X XP k sc N mp m S T e h
 conv at h=>lhs;whnf
 split at h
 ·rename_i f p x y q eu
  cases zdI eu
  simp only[xa,xD,beq_iff_eq]at h
  obtain⟨⟨⟨⟨h1,h2⟩,h3⟩,h4⟩,h5⟩:=h
  obtain⟨⟨y,p2⟩,ey,h4⟩:=za h4
  cases zh ey
  have B:=qc S T h1 YR (by decide) (by decide)
  have ha:=(ih_a _ XP _ _ _ _ _ S T x h5).1
  rcases h3 with (((rfl | rfl) | rfl) | rfl) | rfl
  ·exact zR (w6 B (qc S T h4 YQ (by decide) (by decide)) ha (zl h2)) rfl
  ·exact zR (w6 B (qc S T h4 ym (by decide) (by decide)) ha (zl h2)) rfl
  ·exact zR (w6 B (qc S T h4 ZI (by decide) (by decide)) ha (zl h2)) rfl
  ·exact zR (w6 B (qc S T h4 Vo (by decide) (by decide)) ha (zl h2)) rfl
  ·exact zR (w6 B (qc S T h4 YS (by decide) (by decide)) ha (zl h2)) rfl
 ·cases h
theorem jS{cf:CF}{W:Wd}(o:IO)(ih_o:QO cf W o):QE cf W (.call o):=by
 intro X XP k sc N mp m S T e h
 replace h:=xC.mp h
 try simp only[xa]at h
 exact zR (ih_o _ _ _ _ _ _ _ S T e h.2).se h.1
theorem QZ{cf:CF}{W:Wd}(a:IL)(ih_a:QL cf W a):QN cf W (.lst a):=by
 intro X XP k sc N mp m S T e g0
 obtain⟨⟨es,p⟩,eu,h⟩:=za g0
 clear g0
 cases kW eu
 exact⟨zfO (ih_a _ _ _ _ _ _ _ S T es h),fun _=>wM (fun _ _ _ _ q=>nomatch q)⟩
theorem Zk{cf:CF}{W:Wd}(a:IE)(ih_a:QE cf W a):QN cf W (.list a):=by
 intro X XP k sc N mp m S T e h
 conv at h=>lhs;whnf
 split at h
 ·rename_i f p x q eu
  cases zN eu
  simp only[xa]at h
  obtain⟨⟨h1,h2⟩,h3⟩:=h
  exact⟨zdk (qc S T h1 ZI (by decide) (by decide)) (ih_a _ _ _ _ _ _ _ S T x h3).1 (zl h2),fun _=>wM (fun _ _ _ _ q=>nomatch q)⟩
 ·cases h
theorem Zj{cf:CF}{W:Wd}(n kk:Nat)(ix:List Nat)(N':List Str)(t:IT)(src:II)(c:IC)(el:IE)(ih_src:QI cf W src)(ih_c:QC cf W c)(ih_el:QE cf W el):QN cf W (.comp n kk ix N' t src c el):=by
 intro X XP k sc N mp m S T e h
 conv at h=>lhs;whnf
 split at h
 ·rename_i elt tg iter ifs scope p eu
  cases V8 eu
  simp only[xa,decide_eq_true_eq]at h
  obtain⟨⟨⟨⟨⟨⟨⟨⟨h1,h3⟩,h4⟩,h5⟩,h6⟩,h7⟩,h8⟩,h9⟩,h10⟩:=h
  subst h1
  have C0:CSc sc N scope N' kk ix:=CSc.of h3
  have C1:=yq S C0
  have hm:∀ j i:Nat,ix[j]?=some i->∃ m,mp[i]?=some m/\m<n:=fun j i e=>by
   have:=xA.mp h5 i (xZ e)
   split at this
   ·rename_i q eq;exact⟨q,eq,by simpa using this⟩
   ·cases this
  have hi:=ih_src _ XP _ _ _ _ _ S T tg iter h7
  have hg:∀ cl C s2 H2 fp,SG (X.comp N' scope cl C s2 H2 fp) (mpC mp n kk ix) (·<n) tg t:=fun cl C s2 H2 fp=>Zw (XSc.comp C0 cl C s2 H2 fp) C0.nd h4 T.calm (fun i h=>by omega) t tg h8
  have hc:∀ cl C s2 H2 fp,SF (X.comp N' scope cl C s2 H2 fp) XP0 (mpC mp n kk ix) ifs (c.ev cf):=fun cl C s2 H2 fp=>ih_c _ _ _ _ _ _ _ (XSc.comp C0 cl C s2 H2 fp) (T.comp cl C s2 H2 fp) ifs h9
  have he:∀ cl C s2 H2 fp,SE (X.comp N' scope cl C s2 H2 fp) XP0 (mpC mp n kk ix) elt (el.ev cf).1:=fun cl C s2 H2 fp=>(ih_el _ _ _ _ _ _ _ (XSc.comp C0 cl C s2 H2 fp) (T.comp cl C s2 H2 fp) elt h10).1
  refine⟨zdj T.calm C1 hm hi hg hc he (ql h6),fun _ a b c' d q=>?_⟩
  cases q
  exact⟨tg,iter,ifs,N',kk,ix,rfl,C1,ql h6,VW C1 hm hi hg hc he⟩
 ·cases h
theorem Zf{cf:CF}{W:Wd}(a:IE)(ih_a:QE cf W a):QI cf W (.list a):=by
 intro X XP k sc N mp m S T tg e h
 exact zdf (ih_a _ _ _ _ _ _ _ S T e h).1
theorem QU{cf:CF}{W:Wd}(a:IE)(ih_a:QE cf W a):QI cf W (.tup a):=by
 intro X XP k sc N mp m S T tg e h
 exact zfL (ih_a _ _ _ _ _ _ _ S T e h).1
theorem qS{cf:CF}{W:Wd}(a:IE)(ih_a:QE cf W a):QI cf W (.range a):=by
 intro X XP k sc N mp m S T tg e h
 conv at h=>lhs;whnf
 split at h
 ·rename_i f p x q eu
  cases zN eu
  simp only[xa]at h
  obtain⟨⟨h1,h2⟩,h3⟩:=h
  have ef:f= "range" :=by
   unfold biB at h1
   simp only[xa,decide_eq_true_eq]at h1
   exact h1.1.1
  exact zaY (qc S T h1 Vn (by decide) (by decide)) ef (ih_a _ _ _ _ _ _ _ S T x h3).1 (zl h2)
 ·cases h
theorem Ze{cf:CF}{W:Wd}(a:IE)(ih_a:QE cf W a):QI cf W (.enum a):=by
 intro X XP k sc N mp m S T tg e h
 conv at h=>lhs;whnf
 split at h
 ·rename_i f p x q eu
  cases zN eu
  simp only[xa]at h
  obtain⟨⟨⟨h0,h1⟩,h2⟩,h3⟩:=h
  have ef:f= "enumerate" :=by
   unfold biB at h1
   simp only[xa,decide_eq_true_eq]at h1
   exact h1.1.1
  cases tg with
  |Tuple es x1 pt=>exact zde (qc S T h1 L2.boot_enumW (by decide) (by decide)) ef (ih_a _ _ _ _ _ _ _ S T x h3).1 (zl h2)
  |_=>simp[VF]at h0
 ·cases h
theorem Q3{cf:CF}{W:Wd}(a:IE)(ih_a:QE cf W a):QO cf W (.dat a):=by
 intro X XP k sc N mp m S T e h
 exact (ih_a _ _ _ _ _ _ _ S T e h).1.so
theorem Q4{cf:CF}{W:Wd}(n:IN)(ih_n:QN cf W n):QO cf W (.own n):=by
 intro X XP k sc N mp m S T e h
 exact (ih_n _ _ _ _ _ _ _ S T e h).1.so
theorem Zl{cf:CF}{W:Wd}(g:Str)(n:Nat)(a:IA)(ih_a:QA cf W a):QO cf W (.call g n a):=by
 intro X XP k sc N mp m S T e h
 conv at h=>lhs;whnf
 split at h
 ·rename_i f p xs q eu
  cases Qf eu
  simp only[xa,decide_eq_true_eq]at h
  obtain⟨⟨⟨⟨⟨h1,h2⟩,h3⟩,h4⟩,h5⟩,h6⟩:=h
  subst h1
  obtain⟨kn,hrun⟩:=T.fn _ _ h3
  cases xs with
  |nil=>
   cases a with
   |nil=>exact za5 T.px kn (Room.atk T) (S.glo _ h2) hrun (jt h4)
   |cons _ _=>cases h6
   |io _ _ _=>cases h6
   |tmp _=>cases h6
  |cons x xs=>
   rw[xW,xa]at h5
   exact zdl T.px kn (Room.atk T) (S.glo _ h2) hrun (ih_a _ _ _ _ _ _ _ S T (x::xs) h6) (jt h4) (zl h5.1) (zZ (jK h5.2))
 ·cases h
theorem Zo{cf:CF}{W:Wd}(s i:Nat):QO cf W (.move s i):=by
 intro X XP k sc N mp m S T e g0
 obtain⟨⟨x,p⟩,eu,h⟩:=za g0
 clear g0
 cases zh eu
 have n:=qX S h
 exact zdo n.hN n.hv n.hm n.hd n.hcd
theorem QW{cf:CF}{W:Wd}:QL cf W .nil:=by
 intro X XP k sc N mp m S T es h
 cases es with
 |nil=>exact zfN
 |cons _ _=>cases h
theorem Zg{cf:CF}{W:Wd}(e:IE)(a:IL)(ih_e:QE cf W e)(ih_a:QL cf W a):QL cf W (.cons e a):=by
 intro X XP k sc N mp m S T es h
 cases es with
 |nil=>cases h
 |cons x xs=>
  replace h:=xC.mp h
  try simp only[xa]at h
  obtain⟨⟨h1,h2⟩,h3⟩:=h
  exact zdi (ih_e _ _ _ _ _ _ _ S T x h2).1 (ih_a _ _ _ _ _ _ _ S T xs h3) (zl h1)
theorem Qk{cf:CF}{W:Wd}:QA cf W .nil:=by
 intro X XP k sc N mp m S T es h
 cases es with
 |nil=>exact zfw
 |cons _ _=>cases h
theorem jQ{cf:CF}{W:Wd}(e:IE)(a:IA)(ih_e:QE cf W e)(ih_a:QA cf W a):QA cf W (.cons e a):=by
 intro X XP k sc N mp m S T es h
 cases es with
 |nil=>cases h
 |cons x xs=>
  replace h:=xC.mp h
  try simp only[xa]at h
  obtain⟨⟨h1,h2⟩,h3⟩:=h
  exact zcW (ih_e _ _ _ _ _ _ _ S T x h2).1 (ih_a _ _ _ _ _ _ _ S T xs h3) (zl h1)
theorem WI{cf:CF}{W:Wd}(s i:Nat)(a:IA)(ih_a:QA cf W a):QA cf W (.io s i a):=by
 intro X XP k sc N mp m S T es h
 cases es with
 |nil=>cases h
 |cons e xs=>
  replace h:=xC.mp h
  try simp only[xa]at h
  obtain⟨⟨x,p⟩,eu,h1⟩:=za h.1
  cases zh eu
  have n:=qX S h1
  exact zgV n.hN n.hv n.hm n.hd n.hcd (ih_a _ _ _ _ _ _ _ S T xs h.2) rfl
theorem Ql{cf:CF}{W:Wd}(n:IN)(ih_n:QN cf W n):QA cf W (.tmp n):=by
 intro X XP k sc N mp m S T es h
 match es,h with
 |[],h=>nomatch h
 |[x],h=>
  replace h:=xC.mp h
  try simp only[xa]at h
  exact zfx (ih_n _ _ _ _ _ _ _ S T x h.2).1 (zl h.1)
 |_::_::_,h=>nomatch h
theorem Q5{cf:CF}{W:Wd}:QP cf W .non:=by
 intro X XP k sc N mp m S T e h
 cases e with
 |none=>exact zdp
 |some _=>cases h
theorem Q6{cf:CF}{W:Wd}(a:IE)(ih_a:QE cf W a):QP cf W (.one a):=by
 intro X XP k sc N mp m S T e h
 cases e with
 |none=>cases h
 |some x=>exact zdq (ih_a _ _ _ _ _ _ _ S T x h).1
theorem Qn{cf:CF}{W:Wd}:QC cf W .yes:=by
 intro X XP k sc N mp m S T es h
 cases es with
 |nil=>exact zfI
 |cons _ _=>cases h
theorem Qm{cf:CF}{W:Wd}(a:IE)(ih_a:QE cf W a):QC cf W (.one a):=by
 intro X XP k sc N mp m S T es h
 match es,h with
 |[],h=>nomatch h
 |[x],h=>exact zfJ (ih_a _ _ _ _ _ _ _ S T x h).2
 |_::_::_,h=>nomatch h
theorem Qz{cf:CF}{W:Wd}(a b:IE)(ih_a:QE cf W a)(ih_b:QE cf W b):QE cf W (.sin a b):=by
 intro X XP k sc N mp m S T e g0
 obtain⟨⟨x,ops,ys,p⟩,eu,g1⟩:=za g0
 clear g0
 cases qp eu
 obtain⟨op',eo,h⟩:=za g1
 clear g1
 cases zp eo
 obtain⟨y,ey,h⟩:=za h
 cases zp ey
 simp only[xa,decide_eq_true_eq]at h
 obtain⟨⟨⟨h1,h2⟩,h3⟩,h4⟩:=h
 subst h1
 have ha:=(ih_a _ XP _ _ _ _ _ S T x h3).1
 have hb:=(ih_b _ XP _ _ _ _ _ S T y h4).1
 exact⟨v5 zaZ ha hb (zT .In h2),v8 zaZ ha hb (zT .In h2)⟩
theorem Zc{cf:CF}{W:Wd}(a:IE)(ih_a:QE cf W a):QE cf W (.slen a):=by
 intro X XP k sc N mp m S T e h
 conv at h=>lhs;whnf
 split at h
 ·rename_i f p x q eu
  cases zN eu
  simp only[xa]at h
  obtain⟨⟨h1,h2⟩,h3⟩:=h
  exact zR (zaQ zcg (qc S T h1 Qj (by decide) (by decide)) (ih_a _ _ _ _ _ _ _ S T x h3).1 (zl h2)) rfl
 ·cases h
theorem Za{cf:CF}{W:Wd}(z:Str)(a:IE)(ih_a:QE cf W a):QE cf W (.join z a):=by
 intro X XP k sc N mp m S T e g0
 obtain⟨⟨z',j,p1,nm,p2,x,q⟩,eu,h⟩:=za g0
 clear g0
 cases zbv eu
 simp only[xa,decide_eq_true_eq]at h
 obtain⟨⟨⟨⟨h1,h2⟩,h3⟩,h4⟩,h5⟩:=h
 subst h1
 exact zR (zc9 h2 (ih_a _ _ _ _ _ _ _ S T x h5).1 (zl h3) h4) rfl
theorem QD{cf:CF}{W:Wd}(a b:IE)(ih_a:QE cf W a)(ih_b:QE cf W b):QE cf W (.six a b):=by
 intro X XP k sc N mp m S T e g0
 obtain⟨⟨x,y,p⟩,eu,h⟩:=za g0
 clear g0
 cases zP eu
 simp only[xa]at h
 obtain⟨⟨h1,h2⟩,h3⟩:=h
 exact zR (zfE (ih_a _ _ _ _ _ _ _ S T x h2).1 (ih_b _ _ _ _ _ _ _ S T y h3).1 (wV h1)) rfl
theorem QV{cf:CF}{W:Wd}:QJ cf W .nil:=by
 intro X XP k sc N mp m S T e h
 cases e with
 |nil=>exact zfM
 |cons _ _=>exact Bool.noConfusion (show false=true from h)
theorem qR{cf:CF}{W:Wd}(a:IE)(ih_a:QE cf W a):QI cf W (.chars a):=by
 intro X XP k sc N mp m S T tg e h
 exact zaX (ih_a _ _ _ _ _ _ _ S T e h).1
theorem Jr(T:XW X XP cf W k):X.A.units+1<cLine:=by have:=T.rm.units;omega
theorem zcx{e:Expr}(h:zE e=true):zbQ e:=fun o i=>by
 cases e<;>first | rfl | (simp[zE]at h)
theorem zS{s i:Nat}{c f:Str}{e:Expr}(S:XSc X sc N)(T:XW X XP cf W k)(h:ZB W sc N mp s i c f e=true):∃ x p p2,e=.Attribute (.Name x p) f p2/\NmK X mp s i x/\jc X c f:=by
 unfold ZB at h
 obtain⟨⟨x,p,g,p2⟩,eu,h⟩:=za h
 simp only[xa,decide_eq_true_eq]at h
 obtain⟨⟨h1,h2⟩,h3⟩:=h
 subst h2
 exact⟨x,p,p2,zbs eu,qX S h1,T.fk _ _ h3⟩
theorem zcn{es:List Expr}{env:Env}{pos:Pos}(h:es.all zj=true)(hl:es.length<20):methodCallForm (es.length+0) (backTo pos (starEach es env)) (backToKw pos (keywordEach [] env))=true:=by
 have h1:=zZ (pos:=pos) (jK (env:=env) h)
 have h2:(backTo pos (starEach es env)).all (!·.1)=true:=by
  rw[List.any_eq_false]at h1
  rw[xA]
  intro x hx
  have:=h1 x hx
  simpa using this
 unfold methodCallForm
 rw[h2]
 show (true&&true&&decide _)=true
 simp only[Bool.and_self,Bool.true_and,decide_eq_true_eq]
 show es.length+0+0<30
 omega
theorem zgA{x m:Str}{p p2 q:Pos}{b:Expr}(h:zj b=true)(hl:(p2.endLine==q.line)=true):M1 X (.Name x p) m p2 b q:=⟨rfl,by rw[zl h];rfl,hl,by rw[zl h];rfl⟩
theorem zd9{X:Cx}{XP:XPT}{mp:List Nat}{e:Expr}:SE X XP mp e fNoV:=fun M0 F Γ ν σ H Q rs hs hp=>hp.elim
theorem zed{X:Cx}{XP:XPT}{mp:List Nat}{e:Expr}:ST X XP mp e fNo:=fun M0 F Γ ν σ H Q rs hs hp=>hp.elim
theorem yn:bootBuiltins "dict" =some (.type "dict"):=by decide +kernel
theorem jV{cf:CF}{W:Wd}(a b:IE)(ih_a:QE cf W a)(ih_b:QE cf W b):QE cf W (.dget a b):=by
 intro X XP k sc N mp m S T e g0
 obtain⟨⟨x,y,p⟩,eu,h⟩:=za g0
 clear g0
 cases zP eu
 simp only[xa]at h
 obtain⟨⟨h1,h2⟩,h3⟩:=h
 exact zR (zc2 (Jr T) (ih_a _ _ _ _ _ _ _ S T x h2).1 (ih_b _ _ _ _ _ _ _ S T y h3).1 (zcx h1)) rfl
theorem Qs{cf:CF}{W:Wd}(a b:IE)(ih_a:QE cf W a)(ih_b:QE cf W b):QE cf W (.din a b):=by
 intro X XP k sc N mp m S T e g0
 obtain⟨⟨x,ops,ys,p⟩,eu,g1⟩:=za g0
 clear g0
 cases qp eu
 obtain⟨op',eo,h⟩:=za g1
 clear g1
 cases zp eo
 obtain⟨y,ey,h⟩:=za h
 cases zp ey
 simp only[xa,decide_eq_true_eq]at h
 obtain⟨⟨⟨h1,h2⟩,h3⟩,h4⟩:=h
 subst h1
 have ha:=(ih_a _ XP _ _ _ _ _ S T x h3).1
 have hb:=(ih_b _ XP _ _ _ _ _ S T y h4).1
 exact⟨v5 (KH (Jr T)) ha hb (zT .In h2),v8 (KH (Jr T)) ha hb (zT .In h2)⟩
theorem jW{cf:CF}{W:Wd}(a b:IE)(ih_a:QE cf W a)(ih_b:QE cf W b):QE cf W (.dnin a b):=by
 intro X XP k sc N mp m S T e g0
 obtain⟨⟨x,ops,ys,p⟩,eu,g1⟩:=za g0
 clear g0
 cases qp eu
 obtain⟨op',eo,h⟩:=za g1
 clear g1
 cases zp eo
 obtain⟨y,ey,h⟩:=za h
 cases zp ey
 simp only[xa,decide_eq_true_eq]at h
 obtain⟨⟨⟨h1,h2⟩,h3⟩,h4⟩:=h
 subst h1
 have ha:=(ih_a _ XP _ _ _ _ _ S T x h3).1
 have hb:=(ih_b _ XP _ _ _ _ _ S T y h4).1
 exact⟨v5 (Yi (Jr T)) ha hb (zT .NotIn h2),v8 (Yi (Jr T)) ha hb (zT .NotIn h2)⟩
theorem jR{cf:CF}{W:Wd}(c f:Str)(a:IE)(ih_a:QE cf W a):QE cf W (.attr c f a):=by
 intro X XP k sc N mp m S T e g0
 obtain⟨⟨x,g,p⟩,eu,h⟩:=za g0
 clear g0
 cases jb eu
 simp only[xa,decide_eq_true_eq]at h
 obtain⟨⟨⟨h1,h2⟩,h3⟩,h4⟩:=h
 subst h1
 exact zR (zc0 (T.fk _ _ h2) (ih_a _ _ _ _ _ _ _ S T x h4).1 (Z1 h3)) rfl
theorem Zb{cf:CF}{W:Wd}(n:IM)(ih_n:QM cf W n):QE cf W (.newD n):=by
 intro X XP k sc N mp m S T e h
 exact⟨(ih_n _ _ _ _ _ _ _ S T e h).1.se,zed⟩
theorem jX{cf:CF}{W:Wd}(s i:Nat)(c f:Str):QE cf W (.fdat s i c f):=by
 intro X XP k sc N mp m S T e h
 obtain⟨x,p,p2,rfl,n,K⟩:=zS S T h
 exact zR (zc3 n K) rfl
theorem j4{cf:CF}{W:Wd}(s i:Nat)(c f:Str):QE cf W (.flen s i c f):=by
 intro X XP k sc N mp m S T e h
 conv at h=>lhs;whnf
 split at h
 ·rename_i g p x q eu
  cases zN eu
  simp only[xa]at h
  obtain⟨h1,h2⟩:=h
  obtain⟨x,p,p2,rfl,n,K⟩:=zS S T h2
  exact zR (zc6 (qc S T h1 Qj (by decide) (by decide)) n K) rfl
 ·cases h
theorem j7{cf:CF}{W:Wd}(s i:Nat)(c f:Str):QE cf W (.ftru s i c f):=by
 intro X XP k sc N mp m S T e h
 obtain⟨x,p,p2,rfl,n,K⟩:=zS S T h
 exact⟨zd9,zdz n K⟩
theorem qP{cf:CF}{W:Wd}(s i:Nat)(c f:Str):QE cf W (.flast s i c f):=by
 intro X XP k sc N mp m S T e g0
 obtain⟨⟨x,y,p⟩,eu,h⟩:=za g0
 clear g0
 cases zP eu
 simp only[xa]at h
 obtain⟨h1,h2⟩:=h
 obtain⟨x,p,p2,rfl,n,K⟩:=zS S T h1
 unfold zhf at h2
 obtain⟨⟨op,z,q⟩,ez,g2⟩:=za h2
 clear h2
 cases ya ez
 simp only[xa,decide_eq_true_eq]at g2
 obtain⟨g2,g3⟩:=g2
 obtain⟨⟨cc,j,q2⟩,ec,g4⟩:=za g3
 clear g3
 cases zO ec
 obtain⟨w,ew,g5⟩:=za g4
 clear g4
 cases wg ew
 cases of_decide_eq_true g5
 subst g2
 exact zR (zaS n K) rfl
theorem jZ{cf:CF}{W:Wd}(s i:Nat)(c f:Str)(t kk:Nat):QE cf W (.fget s i c f t kk):=by
 intro X XP k sc N mp m S T e g0
 obtain⟨⟨x,y,p⟩,eu,h⟩:=za g0
 clear g0
 cases zP eu
 obtain⟨⟨w,q⟩,ew,h⟩:=za h
 cases zh ew
 simp only[xa]at h
 obtain⟨h1,h2⟩:=h
 obtain⟨x,p,p2,rfl,n,K⟩:=zS S T h1
 exact zR (zc5 (Jr T) n K (qX S h2)) rfl
theorem j6{cf:CF}{W:Wd}(s i:Nat)(c f:Str)(t kk:Nat):QE cf W (.fnin s i c f t kk):=by
 intro X XP k sc N mp m S T e g0
 obtain⟨⟨x,ops,ys,p⟩,eu,g1⟩:=za g0
 clear g0
 cases qp eu
 obtain⟨op',eo,g2⟩:=za g1
 clear g1
 cases zp eo
 obtain⟨y,ey,g3⟩:=za g2
 clear g2
 cases zp ey
 obtain⟨⟨w,q⟩,ew,h⟩:=za g3
 clear g3
 cases zh ew
 simp only[xa,decide_eq_true_eq]at h
 obtain⟨⟨h1,h2⟩,h3⟩:=h
 subst h1
 obtain⟨x,p,p2,rfl,n,K⟩:=zS S T h2
 exact⟨zd9,zdy (Jr T) n K (qX S h3)⟩
theorem jY{cf:CF}{W:Wd}(s i:Nat)(c f:Str):QE cf W (.ffrz s i c f):=by
 intro X XP k sc N mp m S T e h
 obtain⟨x,p,p2,rfl,n,K⟩:=zS S T h
 exact⟨zc4 n K,zed⟩
theorem Q0{cf:CF}{W:Wd}(a b:IE)(ih_a:QE cf W a)(ih_b:QE cf W b):QN cf W (.mul a b):=by
 intro X XP k sc N mp m S T e g0
 obtain⟨⟨x,op,y,p⟩,eu,h⟩:=za g0
 clear g0
 cases W7 eu
 simp only[xa,decide_eq_true_eq]at h
 obtain⟨⟨h0,h1⟩,h2⟩:=h
 cases h0
 exact⟨zfP (ih_a _ _ _ _ _ _ _ S T x h1).1 (ih_b _ _ _ _ _ _ _ S T y h2).1,fun _=>wM (fun _ _ _ _ q=>nomatch q)⟩
theorem qU{cf:CF}{W:Wd}(a:IE)(ih_a:QE cf W a):QN cf W (.sortD a):=by
 intro X XP k sc N mp m S T e h
 conv at h=>lhs;whnf
 split at h
 ·rename_i f p x q eu
  cases zN eu
  simp only[xa]at h
  obtain⟨⟨h1,h2⟩,h3⟩:=h
  exact⟨za3 T.calm (qc S T h1 Z2 (by decide) (by decide)) (ih_a _ _ _ _ _ _ _ S T x h3).1 (zl h2),fun _=>wM (fun _ _ _ _ q=>nomatch q)⟩
 ·cases h
theorem qV{cf:CF}{W:Wd}(s i:Nat)(c f:Str):QN cf W (.sortF s i c f):=by
 intro X XP k sc N mp m S T e h
 conv at h=>lhs;whnf
 split at h
 ·rename_i g p x q eu
  cases zN eu
  simp only[xa]at h
  obtain⟨h1,h2⟩:=h
  obtain⟨x,p,p2,rfl,n,K⟩:=zS S T h2
  exact⟨za2 T.calm (qc S T h1 Z2 (by decide) (by decide)) n K,fun _=>wM (fun _ _ _ _ q=>nomatch q)⟩
 ·cases h
theorem qT{cf:CF}{W:Wd}(n kk:Nat)(ix:List Nat)(N':List Str)(t:IT)(src:IG)(c:IC)(el:IE)(ih_src:QG cf W src)(ih_c:QC cf W c)(ih_el:QE cf W el):QN cf W (.compW n kk ix N' t src c el):=by
 intro X XP k sc N mp m S T e h
 conv at h=>lhs;whnf
 split at h
 ·rename_i elt tg iter ifs scope p eu
  cases V8 eu
  simp only[xa,decide_eq_true_eq]at h
  obtain⟨⟨⟨⟨⟨⟨⟨⟨h1,h3⟩,h4⟩,h5⟩,h6⟩,h7⟩,h8⟩,h9⟩,h10⟩:=h
  subst h1
  have C0:CSc sc N scope N' kk ix:=CSc.of h3
  have hm:∀ j i:Nat,ix[j]?=some i->∃ m,mp[i]?=some m/\m<n:=fun j i e=>by
   have:=xA.mp h5 i (xZ e)
   split at this
   ·rename_i q eq;exact⟨q,eq,by simpa using this⟩
   ·cases this
  exact⟨za1 T.calm (yq S C0) hm (ih_src _ XP _ _ _ _ _ S T tg iter h7).1 (fun cl C s2 H2 fp=>Zw (XSc.comp C0 cl C s2 H2 fp) C0.nd h4 T.calm (fun i h=>by omega) t tg h8)
   (fun cl C s2 H2 fp=>ih_c _ _ _ _ _ _ _ (XSc.comp C0 cl C s2 H2 fp) (T.comp cl C s2 H2 fp) ifs h9) (fun cl C s2 H2 fp=>(ih_el _ _ _ _ _ _ _ (XSc.comp C0 cl C s2 H2 fp) (T.comp cl C s2 H2 fp) elt h10).1) (ql h6),fun q=>nomatch q⟩
 ·cases h
theorem QX{cf:CF}{W:Wd}:QM cf W .nil:=by
 intro X XP k sc N mp m S T e g0
 obtain⟨⟨ks,vs,p⟩,eu,h⟩:=za g0
 clear g0
 cases V7 eu
 simp only[xa,List.isEmpty_iff]at h
 obtain⟨rfl,rfl⟩:=h
 exact⟨zfy,fun _ _ _ _ _ _ q=>nomatch q⟩
theorem QY{cf:CF}{W:Wd}(a b:IE)(ih_a:QE cf W a)(ih_b:QE cf W b):QM cf W (.one a b):=by
 intro X XP k sc N mp m S T e g0
 obtain⟨⟨ks,vs,p⟩,eu,g1⟩:=za g0
 clear g0
 cases V7 eu
 obtain⟨kx,ek,g2⟩:=za g1
 clear g1
 cases zp ek
 obtain⟨x,ex,g3⟩:=za g2
 clear g2
 cases ex
 obtain⟨y,ey,h⟩:=za g3
 clear g3
 cases zp ey
 rw[xa]at h
 exact⟨zfz (ih_a _ XP _ _ _ _ _ S T x h.1).1 (ih_b _ XP _ _ _ _ _ S T y h.2).1,fun _ _ _ _ _ _ q=>nomatch q⟩
theorem Zi{cf:CF}{W:Wd}(a:IE)(ih_a:QE cf W a):QM cf W (.copy a):=by
 intro X XP k sc N mp m S T e h
 conv at h=>lhs;whnf
 split at h
 ·rename_i f p x q eu
  cases zN eu
  simp only[xa]at h
  obtain⟨⟨h1,h2⟩,h3⟩:=h
  exact⟨zcZ (qc S T h1 yn (by decide) (by decide)) (ih_a _ _ _ _ _ _ _ S T x h3).1 (zl h2),fun _ _ _ _ _ _ q=>nomatch q⟩
 ·cases h
theorem Zh{cf:CF}{W:Wd}(n kk:Nat)(ix:List Nat)(N':List Str)(t:IT)(src:IG)(c:IC)(ek ev:IE)(ih_src:QG cf W src)(ih_c:QC cf W c)(ih_ek:QE cf W ek)(ih_ev:QE cf W ev):QM cf W (.comp n kk ix N' t src c ek ev):=by
 intro X XP k sc N mp m S T e h
 conv at h=>lhs;whnf
 split at h
 ·rename_i kx vx tg iter ifs scope p eu
  cases zbr eu
  simp only[xa,decide_eq_true_eq]at h
  obtain⟨⟨⟨⟨⟨⟨⟨⟨⟨h1,h3⟩,h4⟩,h5⟩,h6⟩,h7⟩,h8⟩,h9⟩,h10⟩,h11⟩:=h
  subst h1
  have C0:CSc sc N scope N' kk ix:=CSc.of h3
  have C1:=yq S C0
  have hm:∀ j i:Nat,ix[j]?=some i->∃ m,mp[i]?=some m/\m<n:=fun j i e=>by
   have:=xA.mp h5 i (xZ e)
   split at this
   ·rename_i q eq;exact⟨q,eq,by simpa using this⟩
   ·cases this
  have hi:=ih_src _ XP _ _ _ _ _ S T tg iter h7
  have hg:∀ cl C s2 H2 fp,SG (X.comp N' scope cl C s2 H2 fp) (mpC mp n kk ix) (·<n) tg t:=fun cl C s2 H2 fp=>Zw (XSc.comp C0 cl C s2 H2 fp) C0.nd h4 T.calm (fun i h=>by omega) t tg h8
  have hc:∀ cl C s2 H2 fp,SF (X.comp N' scope cl C s2 H2 fp) XP0 (mpC mp n kk ix) ifs (c.ev cf):=fun cl C s2 H2 fp=>ih_c _ _ _ _ _ _ _ (XSc.comp C0 cl C s2 H2 fp) (T.comp cl C s2 H2 fp) ifs h9
  have hk:∀ cl C s2 H2 fp,SE (X.comp N' scope cl C s2 H2 fp) XP0 (mpC mp n kk ix) kx (ek.ev cf).1:=fun cl C s2 H2 fp=>(ih_ek _ _ _ _ _ _ _ (XSc.comp C0 cl C s2 H2 fp) (T.comp cl C s2 H2 fp) kx h10).1
  have hv:∀ cl C s2 H2 fp,SE (X.comp N' scope cl C s2 H2 fp) XP0 (mpC mp n kk ix) vx (ev.ev cf).1:=fun cl C s2 H2 fp=>(ih_ev _ _ _ _ _ _ _ (XSc.comp C0 cl C s2 H2 fp) (T.comp cl C s2 H2 fp) vx h11).1
  refine⟨zcY T.calm C1 hm hi.1 hg hc hk hv (ql h6),fun hp a b c' d e' q=>?_⟩
  cases q
  cases src with
  |std b=>exact⟨tg,iter,ifs,N',kk,ix,rfl,C1,ql h6,zaO C1 hm (hi.2 b rfl) hg hc hk hv⟩
  |_=>cases hp
 ·cases h
theorem QT{cf:CF}{W:Wd}(b:II)(ih_b:QI cf W b):QG cf W (.std b):=by
 intro X XP k sc N mp m S T tg e h
 have h':=ih_b _ XP _ _ _ _ _ S T tg e h
 exact⟨zdh h',fun b' q=>by cases q;exact h'⟩
theorem qQ{cf:CF}{W:Wd}(a:IE)(ih_a:QE cf W a):QG cf W (.items a):=by
 intro X XP k sc N mp m S T tg e h
 obtain⟨⟨o,g,p2,xs,p⟩,eu,h⟩:=za h
 simp only[xa,decide_eq_true_eq,List.isEmpty_iff]at h
 obtain⟨⟨⟨⟨⟨h1,h2⟩,h3⟩,h4⟩,h5⟩,h6⟩:=h
 subst h2 h3
 cases Qe eu
 refine⟨kI ?_ (ih_a _ XP _ _ _ _ _ S T o h6).1 (Z1 h5) h4,fun b' q=>nomatch q⟩
 cases tg with
 |Tuple es x1 pt=>exact⟨_,_,_,rfl⟩
 |_=>simp[VF]at h1
theorem QR{cf:CF}{W:Wd}(s i:Nat)(c f:Str):QG cf W (.fld s i c f):=by
 intro X XP k sc N mp m S T tg e h
 obtain⟨x,p,p2,rfl,n,K⟩:=zS S T h
 exact⟨zdg n K,fun b' q=>nomatch q⟩
theorem Zd{cf:CF}{W:Wd}(s i:Nat)(c f:Str):QG cf W (.frev s i c f):=by
 intro X XP k sc N mp m S T tg e h
 conv at h=>lhs;whnf
 split at h
 ·rename_i g p x q eu
  cases zN eu
  simp only[xa]at h
  obtain⟨h1,h2⟩:=h
  obtain⟨x,p,p2,rfl,n,K⟩:=zS S T h2
  have ef:g= "reversed" :=by
   unfold biB at h1
   simp only[xa,decide_eq_true_eq]at h1
   exact h1.1.1
  exact⟨za0 (qc S T h1 L2.boot_reversed (by decide) (by decide)) ef n K,fun b' q=>nomatch q⟩
 ·cases h
theorem Zp{cf:CF}{W:Wd}(n:IM)(ih_n:QM cf W n):QO cf W (.ownD n):=by
 intro X XP k sc N mp m S T e h
 exact (ih_n _ _ _ _ _ _ _ S T e h).1.so
theorem Zm{cf:CF}{W:Wd}(c q:Str)(n:Nat)(a:IA)(ih_a:QA cf W a):QO cf W (.make c q n a):=by
 intro X XP k sc N mp m S T e h
 conv at h=>lhs;whnf
 split at h
 ·rename_i g p xs pq eu
  cases Qf eu
  simp only[xa,decide_eq_true_eq]at h
  obtain⟨⟨⟨⟨⟨⟨h1,h2⟩,h3⟩,h4⟩,h5⟩,h6⟩,h7⟩:=h
  subst h1
  cases xs with
  |nil=>cases h5
  |cons x xs=>
   obtain⟨hm,⟨j,hj,kn⟩,hrun⟩:=T.mc _ _ _ h3
   rw[xW,xa]at h6
   exact zdm T.px kn (T.rm.mono hj) (S.glo _ h2) hm hrun (ih_a _ XP _ _ _ _ _ S T (x::xs) h7) (jt h4) (zl h6.1) (zZ (jK h6.2))
 ·cases h
theorem Zn{cf:CF}{W:Wd}(s i:Nat)(c mt q:Str)(n:Nat)(a:IA)(ih_a:QA cf W a):QO cf W (.meth s i c mt q n a):=by
 intro X XP k sc N mp m S T e h
 obtain⟨⟨o,g,p2,xs,p⟩,eu,h⟩:=za h
 obtain⟨⟨x,px⟩,ex,h⟩:=za h
 simp only[xa,decide_eq_true_eq]at h
 obtain⟨⟨⟨⟨⟨⟨h1,h2⟩,h3⟩,h4⟩,h5⟩,h6⟩,h7⟩:=h
 subst h1
 cases Qe eu
 cases zh ex
 obtain⟨kn,hrun⟩:=T.ml _ _ _ _ h3
 cases xs with
 |nil=>
  cases a with
  |nil=>exact za6 T.px kn T.rm hrun (qX S h2) h4
  |cons _ _=>cases h7
  |io _ _ _=>cases h7
  |tmp _=>cases h7
 |cons y ys=>
  have h5':=h5
  rw[xW,xa]at h5'
  exact zdn T.px kn T.rm hrun (qX S h2) (ih_a _ XP _ _ _ _ _ S T (y::ys) h7) (zl h5'.1) (zZ (jK h5'.2)) (zcn h5 h6) h4
theorem js(cf:CF)(W:Wd)(a:IE):QE cf W a:=IE.rec (motive_1:=QE cf W) (motive_2:=QL cf W) (motive_3:=QA cf W) (motive_4:=QN cf W) (motive_5:=QP cf W) (motive_6:=QI cf W) (motive_7:=QC cf W) (motive_8:=QO cf W) (motive_9:=QJ cf W) (motive_10:=QM cf W) (motive_11:=QG cf W) QH Qt jT jU qN j8 j9 QF Qx Qq Qr qO Qy Qp WM Qv WL Qw Qo Qu jS Qz Zc Za QD jV Qs jW jR Zb jX j4 j7 qP jZ j6 jY QW Zg Qk jQ WI Ql QZ Zk Zj Q0 qU qV qT Q5 Q6 Zf QU qS Ze qR Qn Qm Q3 Q4 Zl Zo Zp Zm Zn QV QX QY Zi Zh QT qQ QR Zd a
theorem zgZ(cf:CF)(W:Wd)(a:IA):QA cf W a:=IA.rec (motive_1:=QE cf W) (motive_2:=QL cf W) (motive_3:=QA cf W) (motive_4:=QN cf W) (motive_5:=QP cf W) (motive_6:=QI cf W) (motive_7:=QC cf W) (motive_8:=QO cf W) (motive_9:=QJ cf W) (motive_10:=QM cf W) (motive_11:=QG cf W) QH Qt jT jU qN j8 j9 QF Qx Qq Qr qO Qy Qp WM Qv WL Qw Qo Qu jS Qz Zc Za QD jV Qs jW jR Zb jX j4 j7 qP jZ j6 jY QW Zg Qk jQ WI Ql QZ Zk Zj Q0 qU qV qT Q5 Q6 Zf QU qS Ze qR Qn Qm Q3 Q4 Zl Zo Zp Zm Zn QV QX QY Zi Zh QT qQ QR Zd a
theorem zg2(cf:CF)(W:Wd)(a:IN):QN cf W a:=IN.rec (motive_1:=QE cf W) (motive_2:=QL cf W) (motive_3:=QA cf W) (motive_4:=QN cf W) (motive_5:=QP cf W) (motive_6:=QI cf W) (motive_7:=QC cf W) (motive_8:=QO cf W) (motive_9:=QJ cf W) (motive_10:=QM cf W) (motive_11:=QG cf W) QH Qt jT jU qN j8 j9 QF Qx Qq Qr qO Qy Qp WM Qv WL Qw Qo Qu jS Qz Zc Za QD jV Qs jW jR Zb jX j4 j7 qP jZ j6 jY QW Zg Qk jQ WI Ql QZ Zk Zj Q0 qU qV qT Q5 Q6 Zf QU qS Ze qR Qn Qm Q3 Q4 Zl Zo Zp Zm Zn QV QX QY Zi Zh QT qQ QR Zd a
theorem zg0(cf:CF)(W:Wd)(a:II):QI cf W a:=II.rec (motive_1:=QE cf W) (motive_2:=QL cf W) (motive_3:=QA cf W) (motive_4:=QN cf W) (motive_5:=QP cf W) (motive_6:=QI cf W) (motive_7:=QC cf W) (motive_8:=QO cf W) (motive_9:=QJ cf W) (motive_10:=QM cf W) (motive_11:=QG cf W) QH Qt jT jU qN j8 j9 QF Qx Qq Qr qO Qy Qp WM Qv WL Qw Qo Qu jS Qz Zc Za QD jV Qs jW jR Zb jX j4 j7 qP jZ j6 jY QW Zg Qk jQ WI Ql QZ Zk Zj Q0 qU qV qT Q5 Q6 Zf QU qS Ze qR Qn Qm Q3 Q4 Zl Zo Zp Zm Zn QV QX QY Zi Zh QT qQ QR Zd a
theorem za4(cf:CF)(W:Wd)(a:IO):QO cf W a:=IO.rec (motive_1:=QE cf W) (motive_2:=QL cf W) (motive_3:=QA cf W) (motive_4:=QN cf W) (motive_5:=QP cf W) (motive_6:=QI cf W) (motive_7:=QC cf W) (motive_8:=QO cf W) (motive_9:=QJ cf W) (motive_10:=QM cf W) (motive_11:=QG cf W) QH Qt jT jU qN j8 j9 QF Qx Qq Qr qO Qy Qp WM Qv WL Qw Qo Qu jS Qz Zc Za QD jV Qs jW jR Zb jX j4 j7 qP jZ j6 jY QW Zg Qk jQ WI Ql QZ Zk Zj Q0 qU qV qT Q5 Q6 Zf QU qS Ze qR Qn Qm Q3 Q4 Zl Zo Zp Zm Zn QV QX QY Zi Zh QT qQ QR Zd a
theorem zg1(cf:CF)(W:Wd)(a:IM):QM cf W a:=IM.rec (motive_1:=QE cf W) (motive_2:=QL cf W) (motive_3:=QA cf W) (motive_4:=QN cf W) (motive_5:=QP cf W) (motive_6:=QI cf W) (motive_7:=QC cf W) (motive_8:=QO cf W) (motive_9:=QJ cf W) (motive_10:=QM cf W) (motive_11:=QG cf W) QH Qt jT jU qN j8 j9 QF Qx Qq Qr qO Qy Qp WM Qv WL Qw Qo Qu jS Qz Zc Za QD jV Qs jW jR Zb jX j4 j7 qP jZ j6 jY QW Zg Qk jQ WI Ql QZ Zk Zj Q0 qU qV qT Q5 Q6 Zf QU qS Ze qR Qn Qm Q3 Q4 Zl Zo Zp Zm Zn QV QX QY Zi Zh QT qQ QR Zd a
end
mutual
/-- what may stand in a try -/
inductive IQ where
 |asg (s i:Nat) (o:IO)
 |expr (e:IE)
 |ite (c:IE) (a b:IQs)
inductive IQs where
 |nil
 |cons (q:IQ) (b:IQs)
end
mutual
inductive IS where
 |pass
 |bad
 |asg (s i:Nat) (o:IO)
 |asgT (t:IT) (e:IE)
 |expr (e:IE)
 |ite (c:IE) (a b:IB)
 |loop (t:IT) (src:II) (b:IB)
 |wh (n:Nat) (c:IE) (b:IB)
 |ret (o:IO)
 |set (s i:Nat) (ie ve:IE)
 |raise (x:Str)
 |tryq (b:IQs) (hs:List (Str×Nat×Nat×HC))
 |star (s i t j:Nat) (e:IE)
 |fset (s i:Nat) (c f:Str) (o:IO)
 |fapp (s i:Nat) (c f:Str) (z:IZ)
 |fpop (t k s i:Nat) (c f:Str)
 |fput (s i:Nat) (c f:Str) (t k:Nat) (e:IE)
 |dupd (s i:Nat) (e:IE)
inductive IB where
 |nil
 |cons (s:IS) (b:IB)
 |disp (s i:Nat) (x:Str) (kf:List (Str×Str)) (n:Nat) (e:IE) (a:IA)
end
mutual
noncomputable def IQ.ex(cf:CF)(io:List Nat):IQ->SM
 |.asg _ i o=>sAsg io i (o.ev cf)
 |.expr e=>sExpr (e.ev cf).1
 |.ite c a b=>sIf (c.ev cf).2 (a.ex cf io) (b.ex cf io)
noncomputable def IQs.ex(cf:CF)(io:List Nat):IQs->SM
 |.nil=>sNext
 |.cons s .nil=>s.ex cf io
 |.cons s b=>sSeq (s.ex cf io) (b.ex cf io)
end
mutual
noncomputable def IS.ex(cf:CF)(io:List Nat):IS->SM
 |.pass=>sNext
 |.bad=>zgT
 |.asg _ i o=>sAsg io i (o.ev cf)
 |.asgT t e=>sAsgT t (e.ev cf).1
 |.expr e=>sExpr (e.ev cf).1
 |.ite c a b=>sIf (c.ev cf).2 (a.ex cf io) (b.ex cf io)
 |.loop t src b=>sFor t (src.ev cf) (b.ex cf io)
 |.wh n c b=>zaL n (c.ev cf).2 (b.ex cf io)
 |.ret o=>sRet (o.ev cf)
 |.set _ i ie ve=>sSet i (ie.ev cf).1 (ve.ev cf).1
 |.raise x=>sRaise x
 |.tryq b hs=>sTry io (b.ex cf io) hs
 |.star _ i _ j e=>sStar io i j (e.ev cf).1
 |.fset _ i c f o=>sFset i c f (o.ev cf)
 |.fapp _ i c f z=>sFapp i c f z
 |.fpop _ k _ i c f=>sFpop io i c f k
 |.fput _ i c f _ k e=>sFput i c f k (e.ev cf).1
 |.dupd _ i e=>sDupd i (e.ev cf).1
noncomputable def IB.ex(cf:CF)(io:List Nat):IB->SM
 |.nil=>sNext
 |.cons s .nil=>s.ex cf io
 |.cons s b=>sSeq (s.ex cf io) (b.ex cf io)
 |.disp _ i _ kf _ e a=>sDisp io kf cf i (e.ev cf).1 (a.ev cf)
end
noncomputable def JZ:IO->Option IN
 |.own n=>some n
 |.dat (.new n)=>some n
 |_=>none
noncomputable def Z0:IO->Option IM
 |.ownD n=>some n
 |.dat (.newD n)=>some n
 |_=>none
noncomputable def Kq(o:IO):Expr->Bool
 |.ListComp .. =>okO (JZ o) IN.plain
 |.SetComp .. =>false
 |.DictComp .. =>okO (Z0 o) IM.plain
 |_=>true
noncomputable def y4:Stmt->Option Pos
 |.Pass p=>some p
 |_=>none
noncomputable def ZW:Stmt->Option (Expr×Pos)
 |.Expr x p=>some (x,p)
 |_=>none
noncomputable def zdP:Stmt->Option (Expr×List Stmt×List Stmt×Pos)
 |.If x xs ys p=>some (x,xs,ys,p)
 |_=>none
noncomputable def zbC:Stmt->Option (Expr×Expr×List Stmt×List Stmt×Pos)
 |.For tg it b e p=>some (tg,it,b,e,p)
 |_=>none
noncomputable def Vc:Stmt->Option (Expr×List Stmt×List Stmt×Pos)
 |.While x b e p=>some (x,b,e,p)
 |_=>none
noncomputable def YG:Stmt->Option (Option Expr×Pos)
 |.Return x p=>some (x,p)
 |_=>none
noncomputable def YF:Stmt->Option (List Expr×Expr×Pos)
 |.Assign ts e p=>some (ts,e,p)
 |_=>none
theorem y6{e:Stmt}{p:Pos}(h:y4 e=some p):e=.Pass p:=by
 unfold y4 at h
 split at h
 ·cases h;rfl
 ·cases h
theorem jr{e:Stmt}{x:Expr}{p:Pos}(h:ZW e=some (x,p)):e=.Expr x p:=by
 unfold ZW at h
 split at h
 ·cases h;rfl
 ·cases h
theorem yb{e:Stmt}{x:Expr}{xs ys:List Stmt}{p:Pos}(h:zdP e=some (x,xs,ys,p)):e=.If x xs ys p:=by
 unfold zdP at h
 split at h
 ·cases h;rfl
 ·cases h
theorem k6{e:Stmt}{x y:Expr}{xs ys:List Stmt}{p:Pos}(h:zbC e=some (x,y,xs,ys,p)):e=.For x y xs ys p:=by
 unfold zbC at h
 split at h
 ·cases h;rfl
 ·cases h
theorem yd{e:Stmt}{x:Expr}{xs ys:List Stmt}{p:Pos}(h:Vc e=some (x,xs,ys,p)):e=.While x xs ys p:=by
 unfold Vc at h
 split at h
 ·cases h;rfl
 ·cases h
theorem W8{e:Stmt}{x:Option Expr}{p:Pos}(h:YG e=some (x,p)):e=.Return x p:=by
 unfold YG at h
 split at h
 ·cases h;rfl
 ·cases h
theorem kZ{e:Stmt}{ts:List Expr}{x:Expr}{p:Pos}(h:YF e=some (ts,x,p)):e=.Assign ts x p:=by
 unfold YF at h
 split at h
 ·cases h;rfl
 ·cases h
noncomputable def zbp(s:Stmt):Option (Str×Pos×Str×Pos×List Expr×Pos×Pos):=(ZW s).bind fun (e,q2)=>(zdM e).map fun (x,p,f,p2,xs,q)=>(x,p,f,p2,xs,q,q2)
theorem kR{st:Stmt}{x f:Str}{p p2 q q2:Pos}{xs:List Expr}(h:zbp st=some (x,p,f,p2,xs,q,q2)):st=.Expr (.Call (.Attribute (.Name x p) f p2) xs [] q) q2:=by
 unfold zbp at h
 cases e1:ZW st with
 |none=>rw[e1]at h;cases h
 |some z=>
  obtain⟨e,q3⟩:=z
  cases e2:zdM e with
  |none=>simp[e1,e2]at h
  |some z=>
   obtain⟨a1,a2,a3,a4,a5,a6⟩:=z
   simp[e1,e2]at h
   obtain⟨rfl,rfl,rfl,rfl,rfl,rfl,rfl⟩:=h
   rw[jr e1,zbx e2]
noncomputable def jN(s:Stmt):Option (Expr×Expr×Pos):=(YF s).bind fun (ts,e,q)=>(qg ts).map fun t=>(t,e,q)
theorem zJ{st:Stmt}{t e:Expr}{q:Pos}(h:jN st=some (t,e,q)):st=.Assign [t] e q:=by
 unfold jN at h
 cases e1:YF st with
 |none=>rw[e1]at h;cases h
 |some z=>
  obtain⟨ts,e',q'⟩:=z
  cases e2:qg ts with
  |none=>simp[e1,e2]at h
  |some t'=>
   simp[e1,e2]at h
   obtain⟨rfl,rfl,rfl⟩:=h
   rw[kZ e1,zp e2]
noncomputable def Vb:Stmt->Option (Option Expr×Option Expr×Pos)
 |.Raise x y p=>some (x,y,p)
 |_=>none
noncomputable def zbD:Stmt->Option (List Stmt×List ExceptHandler×List Stmt×List Stmt×Pos)
 |.Try b h e f p=>some (b,h,e,f,p)
 |_=>none
theorem yc{e:Stmt}{x y:Option Expr}{p:Pos}(h:Vb e=some (x,y,p)):e=.Raise x y p:=by
 unfold Vb at h
 split at h
 ·cases h;rfl
 ·cases h
theorem k7{e:Stmt}{b e1 f:List Stmt}{h1:List ExceptHandler}{p:Pos}(h:zbD e=some (b,h1,e1,f,p)):e=.Try b h1 e1 f p:=by
 unfold zbD at h
 split at h
 ·cases h;rfl
 ·cases h
noncomputable def yF(sc:Scope)(x:Str):Bool:=decide (sc.names.lookup x=some .local)||decide (sc.names.lookup x=some .cell)
noncomputable def zck (W:Wd) (sc:Scope) (x:Str):Bool:=wE sc x&&W.ex.contains x&& !(x==("__debug__" :Str))
noncomputable def zf4:ExceptHandler->Option (Expr×Stmt×Pos)
 |.ExceptHandler (some e) none [st] p=>some (e,st,p)
 |_=>none
theorem zbt{hd:ExceptHandler}{e:Expr}{st:Stmt}{p:Pos}(h:zf4 hd=some (e,st,p)):hd=.ExceptHandler (some e) none [st] p:=by
 unfold zf4 at h
 split at h
 ·cases h;rfl
 ·cases h
noncomputable def hcB:HC->Const->Bool
 |.s z,c=>okO (yo c) fun y=>decide (z=y)
 |.b b,c=>okO (Yf c) fun y=>decide (b=y)
theorem zeK{v:HC}{c:Const}(h:hcB v c=true):c=v.C:=by
 cases v with
 |s z=>
  obtain⟨y,e,h⟩:=za h
  rw[Z3 e,of_decide_eq_true h];rfl
 |b z=>
  obtain⟨y,e,h⟩:=za h
  rw[WJ e,of_decide_eq_true h];rfl
noncomputable def YV(W:Wd)(sc:Scope)(N:List Str)(mp:List Nat):List (Str×Nat×Nat×HC)->List ExceptHandler->Bool
 |[],[]=>true
 | (x,t,j,v)::r,hd::hs=>okO (zf4 hd) (fun z=>okO (zq z.1) fun y=>decide (x=y.1)&&zck W sc x&&okO (jN z.2.1) fun s=>okO (zq s.1) fun q=>okO (jP s.2.1) fun c=>hcB v c.1&&decide (N[t]?=some q.1)&&decide (mp[t]?=some j)&&yF sc q.1)&&YV W sc N mp r hs
 |_,_=>false
noncomputable def zby:Expr->Option (Expr×Pos)
 |.Starred x p=>some (x,p)
 |_=>none
theorem kY{e x:Expr}{p:Pos}(h:zby e=some (x,p)):e=.Starred x p:=by
 unfold zby at h
 split at h
 ·cases h;rfl
 ·cases h
noncomputable def YW(sc:Scope)(N:List Str)(mp:List Nat):IW->Expr->Bool
 |.v s i,e=>okO (zq e) fun x=>nmB sc N mp s i x.1
 |.c n,e=>okO (jP e) fun c=>okO (Kw c.1) fun j=>decide (n=j)
noncomputable def vN:Expr->Bool
 |.ListComp .. =>false
 |.SetComp .. =>false
 |.DictComp .. =>false
 |_=>true
noncomputable def zy:Expr->Bool
 |.Tuple .. =>false
 |.ListComp .. =>false
 |.SetComp .. =>false
 |.DictComp .. =>false
 |_=>true
noncomputable def zeB(sc:Scope)(N:List Str)(mp:List Nat):IZ->Expr->Bool
 |.w w,e=>YW sc N mp w e
 |.p a b,e=>okO (V9 e) fun t=>okO (V6 t.1) fun x=>zj x.1&&zj x.2&&YW sc N mp a x.1&&YW sc N mp b x.2
noncomputable def zbU(W:Wd)(sc:Scope)(N:List Str)(mp:List Nat)(m:Nat)(s i:Nat)(o:IO)(st:Stmt):Bool:=okO (jN st) fun z=>okO (zq z.1) fun x=>decide (N[s]?=some x.1)&&decide (mp[s]?=some i)&&(decide (sc.names.lookup x.1=some .local)||decide (sc.names.lookup x.1=some .cell))&&Kq o z.2.1&&o.chk W sc N mp m z.2.1
mutual
noncomputable def IQ.chk(W:Wd)(sc:Scope)(N:List Str)(mp:List Nat)(m:Nat):IQ->Stmt->Bool
 |.asg s i o,st=>zbU W sc N mp m s i o st
 |.expr e,st=>okO (ZW st) fun z=>zy z.1&&e.chk W sc N mp m z.1
 |.ite c a b,st=>okO (zdP st) fun z=>c.chk W sc N mp m z.1&&a.chk W sc N mp m z.2.1&&b.chk W sc N mp m z.2.2.1
noncomputable def IQs.chk(W:Wd)(sc:Scope)(N:List Str)(mp:List Nat)(m:Nat):IQs->List Stmt->Bool
 |.nil,[]=>true
 |.cons s b,x::xs=>s.chk W sc N mp m x&&b.chk W sc N mp m xs
 |_,_=>false
end
mutual
noncomputable def IS.chk(W:Wd)(sc:Scope)(N:List Str)(mp:List Nat)(m np:Nat):IS->Stmt->Bool
 |.pass,st=>okO (y4 st) fun _=>true
 |.bad,_=>true
 |.asg s i o,st=>zbU W sc N mp m s i o st
 |.asgT t e,st=>okO (jN st) fun z=>VF z.1&&zy z.2.1&&wl sc N mp np t z.1&&e.chk W sc N mp m z.2.1
 |.expr e,st=>okO (ZW st) fun z=>zy z.1&&e.chk W sc N mp m z.1
 |.ite c a b,st=>okO (zdP st) fun z=>c.chk W sc N mp m z.1&&a.chk W sc N mp m np z.2.1&&b.chk W sc N mp m np z.2.2.1
 |.loop t src b,st=>okO (zbC st) fun z=>z.2.2.2.1.isEmpty&&zU z.2.1&&wl sc N mp np t z.1&&src.chk W sc N mp m z.2.1 z.1&&b.chk W sc N mp m np z.2.2.1
 |.wh _ c b,st=>okO (Vc st) fun z=>z.2.2.1.isEmpty&&c.chk W sc N mp m z.1&&b.chk W sc N mp m np z.2.1
 |.ret o,st=>okO (YG st) fun z=>okO z.1 fun x=>o.chk W sc N mp m x
 |.set s i ie ve,st=>okO (jN st) fun z=>okO (ZG z.1) fun y=>okO (zq y.1) fun x=>nmB sc N mp s i x.1&&zE y.2.1&&vN z.2.1&&ie.chk W sc N mp m y.2.1&&ve.chk W sc N mp m z.2.1
 |.raise x,st=>okO (Vb st) fun z=>z.2.1.isNone&&okO z.1 fun e=>okO (un1 e) fun (f,_,a,_)=>decide (f=x)&&zck W sc x&&okO (jP a) fun c=>okO (yo c.1) fun _=>true
 |.tryq b hs,st=>okO (zbD st) fun (body,hds,els,fin,_)=>els.isEmpty&&fin.isEmpty&& !hds.isEmpty&&YV W sc N mp hs hds&&b.chk W sc N mp m body
 |.star s i t j e,st=>okO (jN st) fun z=>okO (V9 z.1) fun w=>okO (V6 w.1) fun ab=>okO (zq ab.1) fun x=>okO (zby ab.2) fun c=>okO (zq c.1) fun y=>decide (N[s]?=some x.1)&&decide (mp[s]?=some i)&&yF sc x.1&&decide (N[t]?=some y.1)&&decide (mp[t]?=some j)&&yF sc y.1&&zy z.2.1&&e.chk W sc N mp m z.2.1
 |.fset s i c f o,st=>okO (jN st) fun z=>ZB W sc N mp s i c f z.1&&o.chk W sc N mp m z.2.1
 |.fapp s i c f z,st=>okO (ZW st) fun e=>okO (kX e.1) fun (o,g,p2,xs,q)=>okO (qg xs) fun a=>decide (g= "append")&&ZB W sc N mp s i c f o&&zj a&&(p2.endLine==q.line)&&zeB sc N mp z a
 |.fpop t k s i c f,st=>okO (jN st) fun z=>okO (zq z.1) fun y=>okO (kX z.2.1) fun (o,g,p2,xs,q)=>xs.isEmpty&&decide (g= "pop")&&ZB W sc N mp s i c f o&&(p2.endLine==q.line)&&decide (N[t]?=some y.1)&&decide (mp[t]?=some k)&&yF sc y.1
 |.fput s i c f t k e,st=>okO (jN st) fun z=>okO (ZG z.1) fun w=>okO (zq w.2.1) fun y=>ZB W sc N mp s i c f w.1&&nmB sc N mp t k y.1&&e.chk W sc N mp m z.2.1
 |.dupd s i e,st=>okO (zbp st) fun (x,_,f,p2,xs,q,_)=>okO (qg xs) fun a=>nmB sc N mp s i x&&decide (f= "update")&&zj a&&(p2.endLine==q.line)&&e.chk W sc N mp m a
noncomputable def IB.chk(W:Wd)(sc:Scope)(N:List Str)(mp:List Nat)(m np:Nat):IB->List Stmt->Bool
 |.nil,[]=>true
 |.cons s b,x::xs=>s.chk W sc N mp m np x&&b.chk W sc N mp m np xs
 |.disp s i x kf n e a,xs=>okO (V6 xs) fun z=>okO (jN z.1) fun (t,v,_)=>okO (zq t) fun r=>okO (ZG v) fun (d,w,_)=>okO (zq d) fun y=>okO (YG z.2) fun (o,_)=>okO o fun c=>okO (unN c) fun (g,_,as,_)=>
  decide (N[s]?=some r.1)&&decide (mp[s]?=some i)&&yF sc r.1&& !(r.1==("__debug__" :Str))&& !(r.1==("__classdict__" :Str))&&decide (x=y.1)&&wE sc x&&W.gd.contains (x,kf)&& !(x==("__debug__" :Str))&&zE w&&decide (g=r.1)&&kf.all (fun p=>W.fl.contains (p.2,n))&& !as.isEmpty&&as.all zj&&e.chk W sc N mp m w&&a.chk W sc N mp m as
 |_,_=>false
end
theorem ZU{e:Expr}{t:Option Expr}{l:Nat}{env:Env}(h:zy e=true):swapsWith e t l env=pure false:=by
 cases e<;>first | rfl | (simp[zy]at h)
theorem ZV{t e:Expr}{l:Nat}{env:Env}(h:zy e=true):swapsWithSole [t] e l env=pure false:=ZU (t:=some t) h
theorem jL{t e:Expr}{env:Env}(h:zy e=true):swappedStores [t] e env=pure none:=by
 have hm:(match (generalizing:=false) [t],e with
  |[.Tuple ts _ _],.Tuple vs _ _=>some (ts,vs)
  |[.List ts _],.Tuple vs _ _=>some (ts,vs)
  |_,_=>none)=(none:Option (List Expr×List Expr)):=by
  split
  ·simp[zy]at h
  ·simp[zy]at h
  ·rfl
 unfold swappedStores
 split
 ·rename_i q
  exact absurd (q.symm.trans hm) (fun z=>nomatch z)
 ·rfl
theorem W4{x y e:Expr}{p:Pos}{l:Nat}{env:Env}(h:vN e=true):swapsWithSole [.Subscript x y p] e l env=pure false:=by
 show swapsWith e (some (.Subscript x y p)) l env=pure false
 cases e<;>first | rfl | (simp[vN]at h)
theorem Wb{x y e:Expr}{p:Pos}{env:Env}:swappedStores [.Subscript x y p] e env=pure none:=by
 cases e<;>rfl
theorem kO{o e:Expr}{f:Str}{p:Pos}{l:Nat}{env:Env}:swapsWith e (some (.Attribute o f p)) l env=pure false:=by cases e<;>rfl
theorem zbi{o b e:Expr}{p:Pos}{l:Nat}{env:Env}:swapsWith e (some (.Subscript o b p)) l env=pure false:=by cases e<;>rfl
theorem kN{o:IO}{e:Expr}{x:Str}{p:Pos}{l:Nat}{env:Env}(h:Kq o e=true)(hn:∀ a b c d,e≠ .ListComp a b c d)(hn2:∀ a b c d q,e≠ .DictComp a b c d q):swapsWith e (some (.Name x p)) l env=pure false:=by
 cases e with
 |ListComp a b c d=>exact absurd rfl (hn a b c d)
 |SetComp=>simp[Kq]at h
 |DictComp a b c d q=>exact absurd rfl (hn2 a b c d q)
 |_=>rfl
theorem yU{elt:Expr}{gens:List Comprehension}{scope:Scope}{q:Pos}{x:Str}{p:Pos}{l:Nat}{env:Env}:∃ b:Bool,swapsWith (.ListComp elt gens scope q) (some (.Name x p)) l env=pure b:=⟨_,rfl⟩
theorem V0{ek ev:Expr}{gens:List Comprehension}{scope:Scope}{q:Pos}{x:Str}{p:Pos}{l:Nat}{env:Env}:∃ b:Bool,swapsWith (.DictComp ek ev gens scope q) (some (.Name x p)) l env=pure b:=⟨_,rfl⟩
theorem yk{o b:Expr}{p:Pos}{env:Env}(h:zE b=true)(v:Value):assign (.Subscript o b p) env v=(do
  let ov<-holding [v] (eval o env)
  let iv<-holding [v,ov] (eval b env)
  standAt p
  holding [v,ov,iv] (setItem ov iv v)
  release [v,ov,iv] []):=by
 cases b<;>first | rfl | (simp[zE]at h)
variable [Cs]
structure XB(X:Cx)(XP:XPT)(mp io:List Nat)(np:Nat):Prop where
 po:PassesOwn (model X.prog X.w) X.A X.env X.xe
 nd:X.N.Nodup
 mn:mp.Nodup
 io:∀ i∈io,i<np
 rz:zgh X XP
 sk:X.stack=X.env::X.outer
 fr:X.env.frame=some X.env.locals
noncomputable abbrev QS(cf:CF)(W:Wd)(a:IS):Prop:=∀ (X:Cx) (XP:XPT) (k:Nat) (sc:Scope) (N:List Str) (mp:List Nat) (m np:Nat) (io:List Nat),XSc X sc N->XW X XP cf W k->XB X XP mp io np->∀ (e:Stmt),a.chk W sc N mp m np e=true->SS X XP mp io e (a.ex cf io)
noncomputable abbrev QB(cf:CF)(W:Wd)(a:IB):Prop:=∀ (X:Cx) (XP:XPT) (k:Nat) (sc:Scope) (N:List Str) (mp:List Nat) (m np:Nat) (io:List Nat),XSc X sc N->XW X XP cf W k->XB X XP mp io np->∀ (e:List Stmt),a.chk W sc N mp m np e=true->SB X XP mp io e (a.ex cf io)
section
variable {cf:CF} {W:Wd}
theorem zcd:QS cf W .pass:=by
 intro X XP k sc N mp m np io S T B e g0
 obtain⟨p,eu,_⟩:=za g0
 clear g0
 cases y6 eu
 exact zdw
theorem zev:QS cf W .bad:=fun X XP k sc N mp m np io S T B e h=>zfR
theorem Vl{o:IO}{n:IN}(h:JZ o=some n):o=.own n∨o=.dat (.new n):=by
 unfold JZ at h
 split at h<;>first | (cases h;exact .inl rfl) | (cases h;exact .inr rfl) | cases h
theorem vc{o:IO}{n:IM}(h:Z0 o=some n):o=.ownD n∨o=.dat (.newD n):=by
 unfold Z0 at h
 split at h<;>first | (cases h;exact .inl rfl) | (cases h;exact .inr rfl) | cases h
theorem Kr{X:Cx}{XP:XPT}{k:Nat}{sc:Scope}{N:List Str}{mp io:List Nat}{m:Nat}(s i:Nat)(o:IO)(S:XSc X sc N)(T:XW X XP cf W k)(nd:X.N.Nodup)(mn:mp.Nodup)(st:Stmt)(g0:zbU W sc N mp m s i o st=true):SS X XP mp io st (sAsg io i (o.ev cf)):=by
 unfold zbU at g0
 obtain⟨⟨tx,e,q⟩,eu,g1⟩:=za g0
 clear g0
 cases zJ eu
 obtain⟨⟨x,p⟩,ex,h⟩:=za g1
 clear g1
 cases zh ex
 simp only[xa,xD,decide_eq_true_eq]at h
 obtain⟨⟨⟨⟨h1,h2⟩,h3⟩,h4⟩,h5⟩:=h
 have hi:X.N[s]?=some x:=by rw[S.hN];exact h1
 have hx:Loc X.env.scope x:=by
  rcases h3 with h3 | h3
  ·exact .inl (S.loc x h3)
  ·exact .inr (S.cel x h3).1
 have hf:X.fn x=true∨X.env.scope.names.lookup x=some .local:=by
  rcases h3 with h3 | h3
  ·exact .inr (S.loc x h3)
  ·exact .inl (S.cel x h3).2
 have plain:swapsWith e (some (.Name x p)) q.line X.env=pure false->SS X XP mp io (.Assign [.Name x p] e q) (sAsg io i (o.ev cf)):=fun hsw=>
  zfQ nd hi hx hf mn h2 (za4 cf W o _ XP _ _ _ _ _ S T e h5) hsw
 by_cases hl:∃ a b c d,e=.ListComp a b c d
 ·obtain⟨elt,gens,scope,pc,rfl⟩:=hl
  obtain⟨bb,hb⟩:=yU (elt:=elt) (gens:=gens) (scope:=scope) (q:=pc) (x:=x) (p:=p) (l:=q.line) (env:=X.env)
  cases bb with
  |false=>exact plain hb
  |true=>
   obtain⟨n,en,hp⟩:=za (show okO (JZ o) IN.plain=true from h4)
   have go:n.chk W sc N mp m (.ListComp elt gens scope pc)=true->∀ (fo:EM OV),(∀ t,SNt XP mp t (n.ev cf)->SOt XP mp t fo)->SS X XP mp io (.Assign [.Name x p] (.ListComp elt gens scope pc) q) (sAsg io i fo):=fun hn fo hfo=>by
    obtain⟨tg,iter,ifs,N',kk,ix,rfl,C,hfold,hs⟩:=(zg2 cf W n _ XP _ _ _ _ _ S T _ hn).2 hp elt gens scope pc rfl
    exact v7 (zcR nd hi hx T.calm C hb hfold hf) mn h2 (xb.mp hi).1 (hfo _ hs)
   rcases Vl en with rfl | rfl
   ·exact go h5 _ fun t ht=>ht.so
   ·exact go (xC.mp (show IE.chk W sc N mp m (.new n) _=true from h5)).2 _ fun t ht=>ht.sd
 ·by_cases hl2:∃ a b c d q,e=.DictComp a b c d q
  ·obtain⟨kx,vx,gens,scope,pc,rfl⟩:=hl2
   obtain⟨bb,hb⟩:=V0 (ek:=kx) (ev:=vx) (gens:=gens) (scope:=scope) (q:=pc) (x:=x) (p:=p) (l:=q.line) (env:=X.env)
   cases bb with
   |false=>exact plain hb
   |true=>
    obtain⟨n,en,hp⟩:=za (show okO (Z0 o) IM.plain=true from h4)
    have go:n.chk W sc N mp m (.DictComp kx vx gens scope pc)=true->∀ (fo:EM OV),(∀ t,SDt XP mp t (n.ev cf)->SOt XP mp t fo)->SS X XP mp io (.Assign [.Name x p] (.DictComp kx vx gens scope pc) q) (sAsg io i fo):=fun hn fo hfo=>by
     obtain⟨tg,iter,ifs,N',kk,ix,rfl,C,hfold,hs⟩:=(zg1 cf W n _ XP _ _ _ _ _ S T _ hn).2 hp kx vx gens scope pc rfl
     exact v7 (zaD nd hi hx T.calm C hb hfold hf) mn h2 (xb.mp hi).1 (hfo _ hs)
    rcases vc en with rfl | rfl
    ·exact go h5 _ fun t ht=>ht.so
    ·exact go h5 _ fun t ht=>ht.sd
  ·exact plain (kN h4 (fun a b c d z=>hl ⟨a,b,c,d,z⟩) fun a b c d q z=>hl2 ⟨a,b,c,d,q,z⟩)
theorem zeu(s i:Nat)(o:IO):QS cf W (.asg s i o):=by
 intro X XP k sc N mp m np io S T B st g0
 exact Kr s i o S T B.nd B.mn st g0
theorem zb5(t:IT)(e:IE):QS cf W (.asgT t e):=by
 intro X XP k sc N mp m np io S T B st g0
 obtain⟨⟨tx,x,q⟩,eu,h⟩:=za g0
 clear g0
 cases zJ eu
 simp only[xa]at h
 obtain⟨⟨⟨h0,h1⟩,h2⟩,h3⟩:=h
 cases tx with
 |Tuple ts n p=>
  have hg:=Zw (kp:=(·∈io)) S (by rw[<- S.hN];exact B.nd) B.mn T.calm (fun i hi hm=>absurd (B.io i hm) (by omega)) t _ h2
  exact zba (js cf W e _ XP _ _ _ _ _ S T x h3).1 hg (ZV h1) (jL h1) (yN zb vT (ZV h1) (jL h1))
 |_=>cases h0
theorem zb7(a:IE):QS cf W (.expr a):=by
 intro X XP k sc N mp m np io S T B e g0
 obtain⟨⟨x,p⟩,eu,h⟩:=za g0
 clear g0
 cases jr eu
 rw[xa]at h
 exact Yy (js cf W a _ XP _ _ _ _ _ S T x h.2).1 (ZU h.1)
theorem zew(c:IE)(a b:IB)(ih_a:QB cf W a)(ih_b:QB cf W b):QS cf W (.ite c a b):=by
 intro X XP k sc N mp m np io S T B e g0
 obtain⟨⟨x,xs,ys,p⟩,eu,h⟩:=za g0
 clear g0
 cases yb eu
 simp only[xa]at h
 obtain⟨⟨h1,h2⟩,h3⟩:=h
 exact zec (js cf W c _ XP _ _ _ _ _ S T x h1).2 (ih_a _ XP _ _ _ _ _ _ _ S T B xs h2) (ih_b _ XP _ _ _ _ _ _ _ S T B ys h3)
theorem zcc(t:IT)(src:II)(b:IB)(ih_b:QB cf W b):QS cf W (.loop t src b):=by
 intro X XP k sc N mp m np io S T B e g0
 obtain⟨⟨tg,iter,body,els,p⟩,eu,h⟩:=za g0
 clear g0
 cases k6 eu
 simp only[xa]at h
 obtain⟨⟨⟨⟨h0,h1⟩,h2⟩,h3⟩,h4⟩:=h
 cases els with
 |cons _ _=>cases h0
 |nil=>
  have hg:=Zw (kp:=(·∈io)) S (by rw[<- S.hN];exact B.nd) B.mn T.calm (fun i hi hm=>absurd (B.io i hm) (by omega)) t _ h2
  exact zfS B.po T.calm (zg0 cf W src _ XP _ _ _ _ _ S T tg iter h3) hg (ih_b _ XP _ _ _ _ _ _ _ S T B body h4) (ql h1)
theorem zgl(n:Nat)(c:IE)(b:IB)(ih_b:QB cf W b):QS cf W (.wh n c b):=by
 intro X XP k sc N mp m np io S T B e g0
 obtain⟨⟨x,body,els,p⟩,eu,h⟩:=za g0
 clear g0
 cases yd eu
 simp only[xa]at h
 obtain⟨⟨h0,h1⟩,h2⟩:=h
 cases els with
 |cons _ _=>cases h0
 |nil=>exact zbc B.po (js cf W c _ XP _ _ _ _ _ S T x h1).2 (ih_b _ XP _ _ _ _ _ _ _ S T B body h2)
theorem zex(o:IO):QS cf W (.ret o):=by
 intro X XP k sc N mp m np io S T B e g0
 obtain⟨⟨x,p⟩,eu,g1⟩:=za g0
 clear g0
 cases W8 eu
 obtain⟨y,ey,h⟩:=za g1
 clear g1
 cases ey
 exact zfT (za4 cf W o _ XP _ _ _ _ _ S T y h)
theorem zey(s i:Nat)(ie ve:IE):QS cf W (.set s i ie ve):=by
 intro X XP k sc N mp m np io S T B st g0
 obtain⟨⟨tx,a,q⟩,eu,g1⟩:=za g0
 clear g0
 cases zJ eu
 obtain⟨⟨tn,b,p2⟩,et,g2⟩:=za g1
 clear g1
 cases zP et
 obtain⟨⟨x,p⟩,ex,h⟩:=za g2
 clear g2
 cases zh ex
 simp only[xa]at h
 obtain⟨⟨⟨⟨h1,h2⟩,h3⟩,h4⟩,h5⟩:=h
 exact zfU (qX S h1) (js cf W ie _ XP _ _ _ _ _ S T b h4).1 (js cf W ve _ XP _ _ _ _ _ S T a h5).1 (W4 h3) Wb (fun he hg=>yN he hg (W4 h3) Wb) (fun ho hi hs=>zfj ho hi hs (yk h2))
theorem y7{X:Cx}{sc:Scope}{N:List Str}{mp:List Nat}(S:XSc X sc N):∀ (w:IW) (e:Expr),YW sc N mp w e=true->WOk X mp e w
 |.v s i,e,h=>by
  simp only[YW]at h
  obtain⟨⟨x,p⟩,eu,h⟩:=za h
  cases zh eu
  exact zhj (qX S h)
 |.c n,e,h=>by
  simp only[YW]at h
  obtain⟨⟨c,j,p⟩,eu,h⟩:=za h
  obtain⟨z,ez,h⟩:=za h
  cases zO eu
  cases wg ez
  cases of_decide_eq_true h
  exact zhi
theorem wK{X:Cx}{sc:Scope}{N:List Str}{x:Str}(S:XSc X sc N)(h:yF sc x=true):Loc X.env.scope x/\(X.fn x=true∨X.env.scope.names.lookup x=some .local):=by
 unfold yF at h
 simp only[xD,decide_eq_true_eq]at h
 rcases h with h | h
 ·exact⟨.inl (S.loc x h),.inr (S.loc x h)⟩
 ·exact⟨.inr (S.cel x h).1,.inl (S.cel x h).2⟩
theorem KS{X:Cx}{XP:XPT}{sc:Scope}{N:List Str}{x:Str}{k:Nat}(S:XSc X sc N)(T:XW X XP cf W k)(h:zck W sc x=true):∃ C,YJ X x C/\W.ex.contains x=true:=by
 unfold zck at h
 simp only[xa]at h
 obtain⟨⟨h1,h2⟩,h3⟩:=h
 obtain⟨C,e1,e2⟩:=T.ex x h2
 exact⟨C,⟨S.glo x h1,e1,e2,jt h3⟩,h2⟩
theorem Kz(x:Str):QS cf W (.raise x):=by
 intro X XP k sc N mp m np io S T B st g0
 obtain⟨⟨ee,cz,p⟩,eu,g1⟩:=za g0
 clear g0
 cases yc eu
 simp only[xa]at g1
 obtain⟨g1,g2⟩:=g1
 obtain⟨e,ee1,g3⟩:=za g2
 clear g2
 cases ee1
 obtain⟨⟨f,p1,a,p2⟩,ea,g4⟩:=za g3
 clear g3
 cases zN ea
 simp only[xa,decide_eq_true_eq]at g4
 obtain⟨⟨h1,h2⟩,g5⟩:=g4
 obtain⟨⟨c,j,p3⟩,ec,g6⟩:=za g5
 clear g5
 cases zO ec
 obtain⟨z,ez,_⟩:=za g6
 clear g6
 cases Z3 ez
 subst h1
 cases cz with
 |some _=>cases g1
 |none=>
  obtain⟨C,k,_⟩:=KS S T h2
  exact zbb k T.calm B.rz
theorem zd4{X:Cx}{XP:XPT}{sc:Scope}{N:List Str}{mp:List Nat}{k:Nat}(S:XSc X sc N)(T:XW X XP cf W k):∀ (ns:List (Str×Nat×Nat×HC)) (hs:List ExceptHandler),YV W sc N mp ns hs=true->∃ zs,HdNs X (fun x C=>W.ex.contains x=true/\X.mg x=some (.ref C)) mp hs ns zs
 |[],[],_=>⟨[],.nil⟩
 |[],_::_,h=>by simp[YV]at h
 |_::_,[],h=>by simp[YV]at h
 | (x,t,j,v)::ns,hd::hs,h=>by
  simp only[YV,xa]at h
  obtain⟨h0,h1⟩:=h
  obtain⟨zs,hz⟩:=zd4 S T ns hs h1
  obtain⟨⟨e,st,p⟩,eh,g1⟩:=za h0
  clear h0
  cases zbt eh
  obtain⟨⟨y,py⟩,ey,g2⟩:=za g1
  clear g1
  cases zh ey
  simp only[xa,decide_eq_true_eq]at g2
  obtain⟨⟨q1,q2⟩,g3⟩:=g2
  obtain⟨⟨tg,va,pa⟩,es,g4⟩:=za g3
  clear g3
  cases zJ es
  obtain⟨⟨q,pq⟩,eq,g5⟩:=za g4
  clear g4
  cases zh eq
  obtain⟨⟨c,cj,pc⟩,ec,g7⟩:=za g5
  clear g5
  cases zO ec
  simp only[xa,decide_eq_true_eq]at g7
  obtain⟨⟨⟨r1,r2⟩,r3⟩,r4⟩:=g7
  cases zeK r1
  subst q1
  obtain⟨C,kx,hxe⟩:=KS S T q2
  obtain⟨l1,l2⟩:=wK S r4
  exact⟨_,.cons ⟨⟨x,py,q,pq,cj,pc,pa,p,rfl,kx,by rw[S.hN];exact r2,l1,l2⟩,kx,⟨hxe,kx.mg⟩,r3⟩ hz⟩
theorem XW.tried{X:Cx}{XP XP':XPT}{k:Nat}(T:XW X XP cf W k)(pins:List (Addr×Obj))(E:Value->Shared->Prop)(px:J6 (X.tried pins E) XP'):XW (X.tried pins E) XP' cf W k:=⟨T.bi,T.gi,T.gs,T.fn,T.rm,T.hk,T.calm,T.ex,T.mr,T.gd,fun c f h=>⟨(T.fk c f h).cl,(T.fk c f h).no⟩,T.mc,T.ml,px⟩
theorem XSc.tried{X:Cx}{sc:Scope}{N:List Str}(S:XSc X sc N)(pins:List (Addr×Obj))(E:Value->Shared->Prop):XSc (X.tried pins E) sc N:=⟨S.hN,S.vis,S.loc,S.cel,S.fre,S.glo⟩
theorem zaN{X:Cx}{XP:XPT}{mp io:List Nat}{st:Stmt}{f:SM}(h:SS X XP mp io st f):SB X XP mp io [st] f:=fun M0 F Γ ν σ H D rs hs hl hp=>(Qb Ys).wp (h M0 F Γ ν σ H D rs hs hl hp)
noncomputable abbrev QQ(cf:CF)(W:Wd)(a:IQ):Prop:=∀ (X:Cx) (XP:XPT) (k:Nat) (sc:Scope) (N:List Str) (mp:List Nat) (m:Nat) (io:List Nat),XSc X sc N->XW X XP cf W k->X.N.Nodup->mp.Nodup->∀ (e:Stmt),a.chk W sc N mp m e=true->SS X XP mp io e (a.ex cf io)
noncomputable abbrev QQs(cf:CF)(W:Wd)(a:IQs):Prop:=∀ (X:Cx) (XP:XPT) (k:Nat) (sc:Scope) (N:List Str) (mp:List Nat) (m:Nat) (io:List Nat),XSc X sc N->XW X XP cf W k->X.N.Nodup->mp.Nodup->∀ (e:List Stmt),a.chk W sc N mp m e=true->SB X XP mp io e (a.ex cf io)
theorem zes(s i:Nat)(o:IO):QQ cf W (.asg s i o):=fun X XP k sc N mp m io S T nd mn st g0=>Kr s i o S T nd mn st g0
theorem zb3(a:IE):QQ cf W (.expr a):=by
 intro X XP k sc N mp m io S T nd mn e g0
 obtain⟨⟨x,p⟩,eu,h⟩:=za g0
 clear g0
 cases jr eu
 rw[xa]at h
 exact Yy (js cf W a _ XP _ _ _ _ _ S T x h.2).1 (ZU h.1)
theorem zet(c:IE)(a b:IQs)(ih_a:QQs cf W a)(ih_b:QQs cf W b):QQ cf W (.ite c a b):=by
 intro X XP k sc N mp m io S T nd mn e g0
 obtain⟨⟨x,xs,ys,p⟩,eu,h⟩:=za g0
 clear g0
 cases yb eu
 simp only[xa]at h
 obtain⟨⟨h1,h2⟩,h3⟩:=h
 exact zec (js cf W c _ XP _ _ _ _ _ S T x h1).2 (ih_a _ XP _ _ _ _ _ _ S T nd mn xs h2) (ih_b _ XP _ _ _ _ _ _ S T nd mn ys h3)
theorem zb4:QQs cf W .nil:=by
 intro X XP k sc N mp m io S T nd mn e h
 cases e with
 |nil=>exact zaM
 |cons _ _=>exact Bool.noConfusion (show false=true from h)
theorem Kx(s:IQ)(b:IQs)(ih_s:QQ cf W s)(ih_b:QQs cf W b):QQs cf W (.cons s b):=by
 intro X XP k sc N mp m io S T nd mn e h
 cases e with
 |nil=>exact Bool.noConfusion (show false=true from h)
 |cons x xs=>
  replace h:=xC.mp h
  try simp only[xa]at h
  have h1:=ih_s _ XP _ _ _ _ _ io S T nd mn x h.1
  cases b with
  |nil=>
   cases xs with
   |nil=>exact zaN h1
   |cons _ _=>exact Bool.noConfusion (show false=true from h.2)
  |cons s2 b2=>exact vZ h1 (ih_b _ XP _ _ _ _ _ io S T nd mn xs h.2)
theorem zg3(a:IQs):QQs cf W a:=IQs.rec (motive_1:=QQ cf W) (motive_2:=QQs cf W) zes zb3 zet zb4 Kx a
theorem zcf(b:IQs)(hs:List (Str×Nat×Nat×HC)):QS cf W (.tryq b hs):=by
 intro X XP k sc N mp m np io S T B st g0
 obtain⟨⟨body,hds,els,fn,p⟩,eu,g1⟩:=za g0
 clear g0
 cases k7 eu
 simp only[xa]at g1
 obtain⟨⟨⟨⟨h1,h2⟩,h3⟩,h4⟩,h5⟩:=g1
 cases els with
 |cons _ _=>cases h1
 |nil=>
 cases fn with
 |cons _ _=>cases h2
 |nil=>
 cases hds with
 |nil=>cases h3
 |cons hd hds=>
  obtain⟨zs,hz⟩:=zd4 S T hs (hd::hds) h4
  exact zfV B.mn hz (fun x C y C2 hx hy=>T.mr x C y C2 hx.1 hx.2 hy.1 hy.2) (fun x C hx=>by
   obtain⟨C',e1,e2⟩:=T.ex x hx.1
   have:=hx.2
   rw[e1]at this
   cases this
   exact⟨e1,e2⟩) (fun pins D=>zg3 b _ _ _ _ _ _ _ _ (S.tried pins _) (T.tried pins _ (zft B.sk B.fr B.nd hz.ks pins D)) B.nd B.mn body h5)
theorem zgb{X:Cx}{sc:Scope}{N:List Str}{mp:List Nat}(S:XSc X sc N):∀ (z:IZ) (e:Expr),zeB sc N mp z e=true->ZOk X mp e z
 |.w w,e,h=>zhl (y7 S w e h)
 |.p a b,e,h=>by
  simp only[zeB]at h
  obtain⟨⟨es,kk,p⟩,eu,g1⟩:=za h
  clear h
  cases Jo eu
  obtain⟨⟨x,y⟩,ez,g2⟩:=za g1
  clear g1
  cases ja ez
  simp only[xa]at g2
  obtain⟨⟨⟨h1,h2⟩,h3⟩,h4⟩:=g2
  exact zhk (y7 S a x h3) (y7 S b y h4) (zl h1) (zl h2)
theorem zcb(s i:Nat)(c f:Str)(o:IO):QS cf W (.fset s i c f o):=by
 intro X XP k sc N mp m np io S T B st g0
 obtain⟨⟨tx,e,q⟩,eu,h⟩:=za g0
 clear g0
 cases zJ eu
 rw[xa]at h
 obtain⟨x,p,p2,hx,n,K⟩:=zS S T h.1
 cases hx
 exact zdv n K (za4 cf W o _ XP _ _ _ _ _ S T e h.2) kO
theorem zb8(s i:Nat)(c f:Str)(z:IZ):QS cf W (.fapp s i c f z):=by
 intro X XP k sc N mp m np io S T B st g0
 obtain⟨⟨e,q2⟩,eu,g1⟩:=za g0
 clear g0
 cases jr eu
 obtain⟨⟨o,g,p3,xs,q⟩,em,g2⟩:=za g1
 clear g1
 cases Qe em
 obtain⟨a,ea,h⟩:=za g2
 clear g2
 cases zp ea
 simp only[xa,decide_eq_true_eq]at h
 obtain⟨⟨⟨⟨h1,h2⟩,h3⟩,h4⟩,h5⟩:=h
 subst h1
 obtain⟨x,p,p2,rfl,n,K⟩:=zS S T h2
 exact zds n K (zgb S z a h5) (zl h3) h4
theorem zb9(t kk s i:Nat)(c f:Str):QS cf W (.fpop t kk s i c f):=by
 intro X XP k sc N mp m np io S T B st g0
 obtain⟨⟨tx,e,q2⟩,eu,g1⟩:=za g0
 clear g0
 cases zJ eu
 obtain⟨⟨y,py⟩,ey,g2⟩:=za g1
 clear g1
 cases zh ey
 obtain⟨⟨o,g,p3,xs,q⟩,em,h⟩:=za g2
 clear g2
 cases Qe em
 simp only[xa,decide_eq_true_eq,List.isEmpty_iff]at h
 obtain⟨⟨⟨⟨⟨⟨h1,h2⟩,h3⟩,h4⟩,h5⟩,h6⟩,h7⟩:=h
 subst h1 h2
 obtain⟨x,p,p2,rfl,n,K⟩:=zS S T h3
 obtain⟨l1,l2⟩:=wK S h7
 exact zdt n K B.nd (by rw[S.hN];exact h5) l1 l2 B.mn h6 h4
theorem zca(s i:Nat)(c f:Str)(t kk:Nat)(e:IE):QS cf W (.fput s i c f t kk e):=by
 intro X XP k sc N mp m np io S T B st g0
 obtain⟨⟨tx,a,q⟩,eu,g1⟩:=za g0
 clear g0
 cases zJ eu
 obtain⟨⟨tn,b,p3⟩,et,g2⟩:=za g1
 clear g1
 cases zP et
 obtain⟨⟨y,py⟩,ey,h⟩:=za g2
 clear g2
 cases zh ey
 simp only[xa]at h
 obtain⟨⟨h1,h2⟩,h3⟩:=h
 obtain⟨x,p,p2,rfl,n,K⟩:=zS S T h1
 exact zdu (Jr T) n K (qX S h2) (js cf W e _ XP _ _ _ _ _ S T a h3).1 zbi
theorem zb6(s i:Nat)(e:IE):QS cf W (.dupd s i e):=by
 intro X XP k sc N mp m np io S T B st g0
 obtain⟨⟨x,p,f,p2,xs,q,q2⟩,eu,g1⟩:=za g0
 clear g0
 cases kR eu
 obtain⟨a,ea,h⟩:=za g1
 clear g1
 cases zp ea
 simp only[xa,decide_eq_true_eq]at h
 obtain⟨⟨⟨⟨h1,h2⟩,h3⟩,h4⟩,h5⟩:=h
 subst h2
 exact zdr (qX S h1) (js cf W e _ XP _ _ _ _ _ S T a h5).1 (zgA h3 h4)
theorem zce(s i t j:Nat)(e:IE):QS cf W (.star s i t j e):=by
 intro X XP k sc N mp m np io S T B st g0
 obtain⟨⟨tg,v,p⟩,eu,g1⟩:=za g0
 clear g0
 cases zJ eu
 obtain⟨⟨es,kk,p2⟩,et,g2⟩:=za g1
 clear g1
 cases Jo et
 obtain⟨⟨a,b⟩,eab,g3⟩:=za g2
 clear g2
 cases ja eab
 obtain⟨⟨x,px⟩,ex,g4⟩:=za g3
 clear g3
 cases zh ex
 obtain⟨⟨c,pc⟩,ec,g5⟩:=za g4
 clear g4
 cases kY ec
 obtain⟨⟨y,py⟩,ey,h⟩:=za g5
 clear g5
 cases zh ey
 simp only[xa,decide_eq_true_eq]at h
 obtain⟨⟨⟨⟨⟨⟨⟨h1,h2⟩,h3⟩,h4⟩,h5⟩,h6⟩,h7⟩,h8⟩:=h
 obtain⟨l1,l2⟩:=wK S h3
 obtain⟨l3,l4⟩:=wK S h6
 exact zdx T.calm B.nd B.mn (by rw[S.hN];exact h1) l1 l2 h2 (by rw[S.hN];exact h4) l3 l4 h5 (js cf W e _ XP _ _ _ _ _ S T v h8).1 (ZV h7) (jL h7)
theorem zer:QB cf W .nil:=by
 intro X XP k sc N mp m np io S T B e h
 cases e with
 |nil=>exact zaM
 |cons _ _=>exact Bool.noConfusion (show false=true from h)
theorem zb1(s:IS)(b:IB)(ih_s:QS cf W s)(ih_b:QB cf W b):QB cf W (.cons s b):=by
 intro X XP k sc N mp m np io S T B e h
 cases e with
 |nil=>exact Bool.noConfusion (show false=true from h)
 |cons x xs=>
  replace h:=xC.mp h
  try simp only[xa]at h
  have h1:=ih_s _ XP _ _ _ _ _ _ _ S T B x h.1
  have h2:=ih_b _ XP _ _ _ _ _ _ _ S T B xs h.2
  cases b with
  |nil=>
   cases xs with
   |nil=>exact zaN h1
   |cons _ _=>exact Bool.noConfusion (show false=true from h.2)
  |cons s' b'=>exact vZ h1 h2
  |disp _ _ _ _ _ _ _=>exact vZ h1 h2
theorem zH{kf:List (Str×Str)}{k f:Str}(h:kf.lookup k=some f):(k,f)∈kf:=by
 induction kf with
 |nil=>cases h
 |cons p r ih=>
  obtain⟨a,b⟩:=p
  rw[xq]at h
  cases q:(k==a) with
  |true=>
   rw[q]at h
   cases h
   have:=eq_of_beq q
   subst this
   exact xm
  |false=>rw[q]at h;exact xk _ (ih h)
theorem zb2(s i:Nat)(x:Str)(kf:List (Str×Str))(n:Nat)(e:IE)(a:IA):QB cf W (.disp s i x kf n e a):=by
 intro X XP k sc N mp m np io S T B xs g0
 obtain⟨⟨st1,st2⟩,e1,g1⟩:=za g0
 clear g0
 cases ja e1
 obtain⟨⟨t,v,q2⟩,e2,g2⟩:=za g1
 clear g1
 cases zJ e2
 obtain⟨⟨r,pr⟩,e3,g3⟩:=za g2
 clear g2
 cases zh e3
 obtain⟨⟨d,w,q1⟩,e4,g4⟩:=za g3
 clear g3
 cases zP e4
 obtain⟨⟨y,py⟩,e5,g5⟩:=za g4
 clear g4
 cases zh e5
 obtain⟨⟨o,q4⟩,e6,g6⟩:=za g5
 clear g5
 cases W8 e6
 obtain⟨c,e7,g7⟩:=za g6
 clear g6
 cases e7
 obtain⟨⟨g,pg,as,q3⟩,e8,h⟩:=za g7
 clear g7
 cases Qf e8
 simp only[xa,decide_eq_true_eq]at h
 obtain⟨⟨⟨⟨⟨⟨⟨⟨⟨⟨⟨⟨⟨⟨⟨h1,h2⟩,h3⟩,h4⟩,h5⟩,h6⟩,h7⟩,h8⟩,h9⟩,h10⟩,h11⟩,h12⟩,h13⟩,h14⟩,h15⟩,h16⟩:=h
 subst h6 h11
 cases as with
 |nil=>cases h13
 |cons a1 as=>
  rw[xW,xa]at h14
  obtain⟨l1,l2⟩:=wK S h3
  have hv:Vis X.env.scope g:=by
   rcases l1 with z | z
   ·exact .inl z
   ·exact .inr (.inl z)
  have hN:X.N[s]?=some g:=by rw[S.hN];exact h1
  refine zcX (T.gd x kf h8) (S.glo _ h7) (jt h9) T.px (fun key f hf=>T.fn f n (xA.mp h12 _ (zH hf))) T.rm (js cf W e _ XP _ _ _ _ _ S T w h15).1
   (zdC (T.gd x kf h8) (S.glo _ h7) (jt h9) ?_ B.nd hN l1 rfl l2) hN hv (jt h4) (jt h5) B.mn h2 (zgZ cf W a _ XP _ _ _ _ _ S T (a1::as) h16) (zl h14.1) (zZ (jK h14.2))
  intro ov iv
  cases w<;>first | rfl | (simp[zE]at h10)
theorem zeb(cf:CF)(W:Wd)(a:IB):QB cf W a :=
 IB.rec (motive_1:=QS cf W) (motive_2:=QB cf W) zcd zev zeu zb5 zb7 zew zcc zgl zex zey Kz zcf zce zcb zb8 zb9 zca zb6 zer zb1 zb2 a
end
inductive Kd where
 |fn
 |me (c m:Str)
 |ini (c:Str)
 deriving DecidableEq
structure DefI where
 name:Str
 st:Stmt
 ps:List Str
 N:List Str
 mask:List Bool
 io:List Nat
 body:IB
 kd:Kd:=.fn
noncomputable def outs:List Bool->Gv->List (Option OV)
 |[],_=> []
 |_::bs,[]=>none::outs bs []
 |b::bs,x::Γ=>(if b then x else none)::outs bs Γ
theorem wP:∀ (bs:List Bool) (Γ:Gv),(outs bs Γ).length=bs.length
 |[],_=>rfl
 |_::bs,[]=>by rw[outs,xp,wP,xp]
 |b::bs,x::Γ=>by rw[outs,xp,wP,xp]
theorem wO:∀ {bs:List Bool}{Γ:Gv}{j:Nat}{o:OV},(outs bs Γ)[j]?=some (some o)->bs[j]?=some true/\Γ[j]?=some (some o)
 |[],_,_,_,h=>by simp[outs]at h
 |b::bs,[],0,_,h=>by simp[outs]at h
 |b::bs,[],j+1,o,h=>by
  have:=wO (bs:=bs) (Γ:= []) (j:=j) (o:=o) (by simpa [outs] using h)
  simp at this
 |b::bs,x::Γ,0,o,h=>by
  simp only[outs,List.getElem?_cons_zero,Option.some.injEq]at h
  split at h
  ·rename_i hb;subst h;exact⟨by simp[hb],rfl⟩
  ·cases h
 |b::bs,x::Γ,j+1,o,h=>by
  have:=wO (bs:=bs) (Γ:=Γ) (j:=j) (o:=o) (by simpa [outs] using h)
  simpa using this
noncomputable def fin(mask:List Bool):R (FL×Gv)->RF
 |.ok (.ret o,Γ)=>.ok o (outs mask Γ)
 |.ok (.next,Γ)=>.ok (.d .none) (outs mask Γ)
 |.exc x Γ=>.exc x (outs mask Γ)
 |_=>.bad
noncomputable def DefI.run(d:DefI)(cf:CF)(args:List OV):RF:=if args.length=d.mask.length then fin d.mask (d.body.ex cf d.io (args.map some++List.replicate (d.N.length-d.mask.length) none)) else .bad
theorem DefI.run_lenX{d:DefI}{cf:CF}{args:List OV}(h:d.run cf args≠ .bad):args.length=d.mask.length:=by
 unfold DefI.run at h
 split at h
 ·assumption
 ·exact absurd rfl h
noncomputable def zg(defs:List DefI):Nat->CF
 |0,_,_=>.bad
 |n+1,x,args=>match defs.find? fun d=>decide (d.name=x) with
  |some d=>d.run (zg defs n) args
  |none=>.bad
section
variable {M0:Addr->Prop} {F:Fp} {Γ:Gv} {ν:Nu} {H:Hp}
theorem RS.outs{o:OV}{v:V}{mask:List Bool}{us:List V}(r:RS M0 F (Γ++ [some o]) (ν++ [some v]) H)(hu:us.length=mask.length)(hν:∀ j:Nat,mask[j]?=some true->ν[j]?=(us[j]?).map some) :
  ∃ F',RS M0 F' (outs mask Γ++ [some o]) (us.map some++ [some v]) H/\Stp F H F' H:=by
 have hνl:ν.length=Γ.length:=by have:=r.len;simpa using this
 have hjl:∀ j:Nat,mask[j]?=some true->j<Γ.length:=fun j hj=>by
  have h1:j<us.length:=by rw[hu];exact (xb.mp hj).1
  have h2:=hν j hj
  rw[xB h1]at h2
  have:=(xb.mp h2).1
  omega
 let n:=mask.length
 let F':Fp:=fun j=>if j<n then (if mask[j]?=some true then F j else []) else if j=n then F Γ.length else []
 have g1:∀ j,j<n->mask[j]?=some true->F' j=F j:=fun j h1 h2=>by show (if j<n then _ else _)=_;rw[if_pos h1,if_pos h2]
 have g2:∀ j,j<n->mask[j]?≠some true->F' j= []:=fun j h1 h2=>by show (if j<n then _ else _)=_;rw[if_pos h1,if_neg h2]
 have g3:F' n=F Γ.length:=by show (if n<n then _ else _)=_;rw[if_neg (xO _),if_pos rfl]
 have g4:∀ j,n<j->F' j= []:=fun j h=>by show (if j<n then _ else _)=_;rw[if_neg (by omega),if_neg (by omega)]
 have cls:∀ j a,a∈F' j->(j<n/\mask[j]?=some true/\a∈F j)∨(j=n/\a∈F Γ.length):=fun j a h=>by
  by_cases h1:j<n
  ·by_cases h2:mask[j]?=some true
   ·rw[g1 j h1 h2]at h;exact .inl ⟨h1,h2,h⟩
   ·rw[g2 j h1 h2]at h;cases h
  ·by_cases h2:j=n
   ·subst h2;rw[g3]at h;exact .inr ⟨rfl,h⟩
   ·rw[g4 j (by omega)]at h;cases h
 have st:Stp F H F' H:=jp fun j a h=>by
  rcases cls j a h with ⟨_,_,h⟩ | ⟨_,h⟩
  ·exact⟨_,h⟩
  ·exact⟨_,h⟩
 have hol:(L3.outs mask Γ).length=n:=wP _ _
 refine⟨F',⟨r.al0,fun j a h=>?_,fun j=>?_,fun j k a h1 h2=>?_,fun j p e=>?_,fun j h=>?_,by simp[hol,hu,n]⟩,st⟩
 ·rcases cls j a h with ⟨_,_,h⟩ | ⟨_,h⟩
  ·exact r.dis0 _ a h
  ·exact r.dis0 _ a h
 ·by_cases h1:j<n
  ·by_cases h2:mask[j]?=some true
   ·rw[g1 j h1 h2];exact r.nd _
   ·rw[g2 j h1 h2];exact .nil
  ·by_cases h2:j=n
   ·subst h2;rw[g3];exact r.nd _
   ·rw[g4 j (by omega)];exact .nil
 ·rcases cls j a h1 with ⟨l1,m1,z1⟩ | ⟨rfl,z1⟩
  ·rcases cls k a h2 with ⟨l2,m2,z2⟩ | ⟨rfl,z2⟩
   ·exact r.dis _ _ a z1 z2
   ·have:=r.dis _ _ a z1 z2;have:=hjl _ m1;omega
  ·rcases cls k a h2 with ⟨l2,m2,z2⟩ | ⟨rfl,z2⟩
   ·have:=r.dis _ _ a z1 z2;have:=hjl _ m2;omega
   ·rfl
 ·by_cases hj:j<n
  ·rw[xc (by omega)]at e
   obtain⟨hm,hg⟩:=wO e
   have hjj:=hjl j hm
   obtain⟨w,ew,q⟩:=r.at' j p (by rw[xc (by omega)];exact hg)
   rw[xc (by omega),hν j hm]at ew
   refine⟨w,?_,?_⟩
   ·rw[xc (by simp[hu];exact hj),xt];exact ew
   ·rw[g1 j hj hm];exact q.go (fun _ _ x=>zi st r.al0 x) st.tups fun _ _=>rfl
  ·have hjn:j=n:=by
    have:=(xb.mp e).1
    simp[hol]at this;omega
   subst hjn
   rw[xf (by omega),hol]at e
   have:o=p:=by simpa using e
   subst this
   obtain⟨w,ew,q⟩:=r.at' Γ.length o (by rw[xf (xh _)];simp)
   rw[xf (by omega),hνl]at ew
   have:v=w:=by simpa using ew
   subst this
   refine⟨v,?_,?_⟩
   ·rw[xf (by simp[hu,n]),xr,hu];simp[n]
   ·rw[g3];exact q.go (fun _ _ x=>zi st r.al0 x) st.tups fun _ _=>rfl
 ·by_cases hj:j<n
  ·by_cases hm:mask[j]?=some true
   ·rw[g1 j hj hm]
    have hjj:=hjl j hm
    refine r.emp j fun p ep=>?_
    rw[xc (by omega)]at ep
    refine h p ?_
    rw[xc (by omega)]
    exact outs_put hm ep
   ·exact g2 j hj hm
  ·by_cases hjn:j=n
   ·subst hjn
    exact absurd (by rw[xf (by omega),hol];simp[n]) (h o)
   ·exact g4 j (by omega)
where
 outs_put:∀ {bs:List Bool} {Γ:Gv} {j:Nat} {o:OV},bs[j]?=some true->Γ[j]?=some (some o)->(L3.outs bs Γ)[j]?=some (some o)
  |[],_,_,_,h,_=>by simp at h
  |b::bs,[],_,_,_,h=>by simp at h
  |b::bs,x::Γ,0,o,h,e=>by
   simp at h e
   subst h e
   simp[L3.outs]
  |b::bs,x::Γ,j+1,o,h,e=>by
   have:=outs_put (bs:=bs) (Γ:=Γ) (j:=j) (o:=o) (by simpa using h) (by simpa using e)
   simpa [L3.outs] using this
end
noncomputable def wY(N ps:List Str)(sc:Scope):Bool:=decide (sc.kind=.function)&& !sc.isCoroutine&& !sc.isGenerator&&decide N.Nodup&&decide (N.take ps.length=ps)&&ps.all (fun x=>decide (sc.names.lookup x=some .local)||decide (sc.names.lookup x=some .cell))&&sc.names.all (fun y=>decide (y.2≠ .free))
theorem wZ{N ps:List Str}{sc:Scope}(h:wY N ps sc=true):qw N ps sc:=by
 unfold wY at h
 simp only[xa,decide_eq_true_eq,xA,xD,ut]at h
 obtain⟨⟨⟨⟨⟨⟨h1,h2⟩,h3⟩,h4⟩,h5⟩,h6⟩,h7⟩:=h
 exact⟨h1,h2,h3,h4,h5,h6,h7⟩
noncomputable def DefI.ok(W:Wd)(d:DefI):Bool:=wY d.N d.ps (defScope d.st)&&decide (d.ps.length=d.mask.length)&&d.io.all (fun i=>decide (d.mask[i]?=some true))&&(List.range d.mask.length).all (fun j=>decide (d.mask[j]?≠some true)||d.io.contains j)
 && d.body.chk W (defScope d.st) d.N (List.range d.N.length) d.N.length d.mask.length (defBody d.st)
structure WK(P:Program)(w:World)(K:PySem.W.Frag)(mg:Str->Option Value)(base:Heap)(cf:CF)(W:Wd)(k:Nat):Prop where
 bi:∀ x,W.bi.contains x=true->mg x=none
 gi:∀ x i,W.gi.contains (x,i)=true->∃ t,mg x=some (.int i t)
 gs:∀ x i,W.gs.contains (x,i)=true->∃ t,mg x=some (.str i t)
 fn:∀ x n,W.fl.contains (x,n)=true->Kn P w K mg base (CX1 P w) x k (spX mg n (cf x))/\∀ args,cf x args≠ .bad->args.length=n
 ex:∀ x,W.ex.contains x=true->∃ C,mg x=some (.ref C)/\PySem.W.excIn K C bmV "ValueError.__new__" =true
 mr:∀ x C y C2,W.ex.contains x=true->mg x=some (.ref C)->W.ex.contains y=true->mg y=some (.ref C2)->(mroIn K C).contains (.ref C2)=decide (x=y)
 gd:∀ x kf,W.gd.contains (x,kf)=true->GD w K mg x kf
 fk:∀ c f,W.fk.contains (c,f)=true->Cls K (Cs.adr c)/\NoAttr K (Cs.adr c) f
 mc:∀ c q n,W.mc.contains (c,q,n)=true->mg c=some (.ref (Cs.adr c))/\(∃ j,j+1<=k/\KnI P w K mg base (CX1 P w) (Cs.adr c) j (spX mg n (cf q)))/\∀ args,cf q args≠ .bad->args.length=n
 ml:∀ c m q n,W.ml.contains (c,m,q,n)=true->KnM P w K mg base (CX1 P w) (Cs.adr c) m k (spX mg n (cf q))/\∀ args,cf q args≠ .bad->args.length=n
noncomputable def Lk(K:PySem.W.Frag)(mg:Str->Option Value)(f:Addr)(nm:Str):Kd->Prop
 |.fn=>mg nm=some (.ref f)
 |.me c m=>Cls K (Cs.adr c)/\yh K (Cs.adr c) m f
 |.ini c=>Mk K (Cs.adr c) f/\mg c=some (.ref (Cs.adr c))
structure Dx(K:PySem.W.Frag)(mg:Str->Option Value)(d:DefI):Prop where
 ex:∃ (x:Str) (f:Addr) (fd:FuncData),Fun K x d.name d.st f fd/\Binds K fd d.ps []/\Lk K mg f d.name d.kd
section
variable {P:Program} {w:World} {K:PySem.W.Frag} {mg:Str->Option Value} {base:Heap} {cf:CF} {W:Wd} {k:Nat}
theorem zga{N:List Str}{x:Str}{sc:Scope}{f:Addr}{cdv:Value}{A:Around}{outer:List Env}{s:Shared}{H:Hp}{E:XK}:XSc (ZK CX0 P w K mg base N x sc f cdv A outer s H E).nox sc N where
 hN:=rfl
 vis x h:=by
  unfold zbG at h
  simp only[xD,decide_eq_true_eq]at h
  rcases h with (h | h) | h
  ·exact .inl h
  ·exact .inr (.inl h)
  ·exact .inr (.inr h)
 loc x h:=h
 cel x h:=⟨h,rfl⟩
 fre x h:=.inr h
 glo x h:=by
  unfold wE at h
  simp only[decide_eq_true_eq]at h
  exact h
theorem zdT{N:List Str}{x:Str}{sc:Scope}{f:Addr}{cdv:Value}{A:Around}{outer:List Env}{s:Shared}{H:Hp}{E:XK}:XSc (ZK (CX1 P w) P w K mg base N x sc f cdv A outer s H E) sc N where
 hN:=rfl
 vis x h:=by
  unfold zbG at h
  simp only[xD,decide_eq_true_eq]at h
  rcases h with (h | h) | h
  ·exact .inl h
  ·exact .inr (.inl h)
  ·exact .inr (.inr h)
 loc x h:=h
 cel x h:=⟨h,rfl⟩
 fre x h:=.inr h
 glo x h:=by
  unfold wE at h
  simp only[decide_eq_true_eq]at h
  exact h
theorem zda{n:Nat}{ν:Nu}:Sees (List.range n) ν ν:=fun s i v e1 e2=>by
 have hs:s<n:=by
  have:=(xb.mp e1).1
  simpa using this
 rw[ub hs]at e1
 cases e1
 exact e2
theorem zfs{N:List Str}{x:Str}{sc:Scope}{f:Addr}{cdv:Value}{A:Around}{outer:List Env}{s:Shared}{H:Hp}{E:XK} :
  J6 (ZK (CX1 P w) P w K mg base N x sc f cdv A outer s H E) (fun x _ _ _ _ H'=>∀ C,mg x.cls=some (.ref C)->E (.ref C) none H'):=fun σ pins H1 s1 e s' E1 h I hc=>
 Vp I rfl rfl rfl hc fun c H' q=>by
  obtain⟨x,Γ,F,ν,C,h1,rfl,h2⟩:=h c H' q
  exact h2 C h1
theorem Yk{x qual:Str}{st:Stmt}{f:Addr}{fd:FuncData}{N ps:List Str}{sp:Sp}(F:Fun K x qual st f fd)(S:qw N ps (defScope st))(len:∀ vs H Q E,sp vs H Q E->vs.length=ps.length)
  (hbody:∀ (cdv:Value) (A:Around) (outer:List Env) (s:Shared) (H:Hp) (vs:List V) (Q:VK) (E:XK),Room k (A.deeper (envOfC qual (defScope st) s.heap.objs.size f cdv))->sp vs H Q E ->
   wpB (ZK (CX1 P w) P w K mg base N qual (defScope st) f cdv A outer s H E) (defBody st) { nx:=fun _ H'=>Q .non H',rt:=Q } (start N vs) H):FnOk P w K mg base (CX1 P w) (k+1) f fd ps sp:=by
 obtain⟨oc,od,kV,doc,pm,an,cdv,ct,osl,rfl,lk,hcd⟩:=F.ex
 exact zd2 lk hcd S len fun A outer s H vs Q E hr hsp=>⟨_,zV,hbody cdv A outer s H vs Q E hr hsp⟩
theorem zgr{d:DefI}{x:Str}{f:Addr}{fd:FuncData}(D:Fun K x d.name d.st f fd)(hok:d.ok W=true)(T:WK P w K mg base cf W k)(hk:1<=k):FnOk P w K mg base (CX1 P w) (k+1) f fd d.ps (spX mg d.mask.length (d.run cf)):=by
 unfold DefI.ok at hok
 simp only[xa,decide_eq_true_eq,xA,xD]at hok
 obtain⟨⟨⟨⟨h1,h2⟩,h3⟩,h4⟩,h5⟩:=hok
 have S:=wZ h1
 have hNl:d.mask.length<=d.N.length:=by
  have:=congrArg List.length S.pre
  rw[xH]at this;omega
 refine Yk D S (fun vs H Q E h=>by rw[h.1,h2]) fun cdv A outer s H vs Q E hr hsp=>?_
 obtain⟨hv,M0,F,args,rs,hm⟩:=hsp
 have hal:args.length=d.mask.length:=by have:=rs.len;simpa [hv] using this.symm
 have rs1:=rs.ext (d.N.length-d.mask.length)
 have hst:L2.start d.N vs=vs.map some++List.replicate (d.N.length-d.mask.length) none:=by unfold L2.start;rw[hv]
 rw[hst]
 have hsl:(vs.map some++List.replicate (d.N.length-d.mask.length) none:L2.St).length=d.N.length:=by simp[hv];omega
 refine zeb cf W d.body (ZK (CX1 P w) P w K mg base d.N d.name (defScope d.st) f cdv A outer s H E) (fun x _ _ _ _ H'=>∀ C,mg x.cls=some (.ref C)->E (.ref C) none H') k (defScope d.st) d.N (List.range d.N.length) d.N.length d.mask.length d.io zdT
  ⟨T.bi,T.gi,T.gs,T.fn,hr,hk,rfl,T.ex,T.mr,T.gd,fun c f h=>⟨(T.fk c f h).1,(T.fk c f h).2⟩,T.mc,T.ml,zfs⟩ ⟨PassesOwn.leaving,S.nd,List.nodup_range,fun i hi=>?_,(fun x Γ F ν σ H' h C hC pins s1 I h' ea args hm=>VJ I rfl rfl rfl hm (h C hC)),rfl,rfl⟩ (defBody d.st) h5 M0 F _ _ _ H _ rs1 zda hsl ?_
 ·exact (xb.mp (h3 i hi)).1
 ·have back:∀ {F':Fp} {Γ':Gv} {ν':Nu} {o:OV} {v:V} {H':Hp} {G:Prop},RS M0 F' (Γ'++ [some o]) (ν'++ [some v]) H'->(∀ i∈d.io,ν'[i]?=(vs.map some++List.replicate (d.N.length-d.mask.length) none:Nu)[i]?)->Stp F H F' H' ->
    (∀ F',RS M0 F' (outs d.mask Γ'++ [some o]) (vs.map some++ [some v]) H'->Stp F H F' H'->G)->G:=fun {F' Γ' ν' o v H' G} r' hn s' hq=>by
   obtain⟨F2,r2,s2⟩:=r'.outs hv fun j hj=>by
    have hjl:j<d.mask.length:=(xb.mp hj).1
    have hjm:j∈d.io:=by
     rcases h4 j (List.mem_range.mpr hjl)with z | z
     ·exact absurd hj z
     ·simpa using z
    rw[hn j hjm,xc (by simp[hv];exact hjl),xt]
   exact hq F2 r2 (s'.trans s2)
  unfold DefI.run at hm
  rw[if_pos hal]at hm
  generalize d.body.ex cf d.io (args.map some++List.replicate (d.N.length-d.mask.length) none)=rr at hm
  cases rr with
  |bad=>exact hm.elim
  |exc x Γ'=>exact fun F' ν' σ' H' r' s' _ _ hn C hC=>back (r'.newD .none) hn s' fun F2 r2 s2=>hm C hC F2 H' r2 s2
  |ok z=>
   obtain⟨fl,Γ'⟩:=z
   cases fl with
   |brk=>exact hm.elim
   |cnt=>exact hm.elim
   |next=>
    intro F' ν' σ' H' r' s' hs' hl' hn
    exact back (r'.newD .none) hn s' fun F2 r2 s2=>hm F2 _ H' r2 s2
   |ret o=>
    intro F' ν' v H' r' s' hn
    exact back r' hn s' fun F2 r2 s2=>hm F2 v H' r2 s2
theorem zeJ{d:DefI}{x:Str}{f:Addr}{fd:FuncData}(D:Fun K x d.name d.st f fd)(hok:d.ok W=true):FnOk P w K mg base (CX1 P w) 1 f fd d.ps (spX mg d.mask.length fun _=>.bad):=by
 unfold DefI.ok at hok
 simp only[xa,decide_eq_true_eq]at hok
 refine Yk (k:=0) D (wZ hok.1.1.1.1) (fun vs H Q E h=>by rw[h.1,hok.1.1.1.2]) fun cdv A outer s H vs Q E hr hsp=>?_
 obtain⟨hv,M0,F,args,rs,hm⟩:=hsp
 exact hm.elim
noncomputable def wOk(defs:List DefI)(W:Wd):Bool:=W.fl.all (fun p=>okO (defs.find? fun d=>decide (d.name=p.1)) fun d=>decide (d.mask.length=p.2)&&decide (d.kd=.fn))
 && W.mc.all (fun p=>okO (defs.find? fun d=>decide (d.name=p.2.1)) fun d=>decide (d.mask.length=p.2.2)&&decide (d.kd=.ini p.1))
 && W.ml.all (fun p=>okO (defs.find? fun d=>decide (d.name=p.2.2.1)) fun d=>decide (d.mask.length=p.2.2.2)&&decide (d.kd=.me p.1 p.2.1))
theorem YI{defs:List DefI}{j:Nat}(hd:∀ d∈defs,Dx K mg d/\d.ok W=true)(hw:wOk defs W=true)(hbi:∀ x,W.bi.contains x=true->mg x=none)
  (hgi:∀ x i,W.gi.contains (x,i)=true->∃ t,mg x=some (.int i t)) (hgs:∀ x i,W.gs.contains (x,i)=true->∃ t,mg x=some (.str i t))
  (hex:∀ x,W.ex.contains x=true->∃ C,mg x=some (.ref C)/\PySem.W.excIn K C bmV "ValueError.__new__" =true) (hmr:∀ x C y C2,W.ex.contains x=true->mg x=some (.ref C)->W.ex.contains y=true->mg y=some (.ref C2)->(mroIn K C).contains (.ref C2)=decide (x=y)) (hgd:∀ x kf,W.gd.contains (x,kf)=true->GD w K mg x kf)
  (hfk:∀ c f,W.fk.contains (c,f)=true->Cls K (Cs.adr c)/\NoAttr K (Cs.adr c) f)
  (hF:∀ (d:DefI) (x:Str) (f:Addr) (fd:FuncData),defs.find? (fun e=>decide (e.name=d.name))=some d->Fun K x d.name d.st f fd->d.ok W=true->FnOk P w K mg base (CX1 P w) j f fd d.ps (spX mg d.mask.length (cf d.name))/\∀ args,cf d.name args≠ .bad->args.length=d.mask.length) (hj:j+1<=k):WK P w K mg base cf W k:=by
 unfold wOk at hw
 simp only[xa,xA]at hw
 obtain⟨⟨w1,w2⟩,w3⟩:=hw
 have get:∀ (x:Str) (n:Nat) (kd:Kd),okO (defs.find? fun d=>decide (d.name=x)) (fun d=>decide (d.mask.length=n)&&decide (d.kd=kd))=true->∃ (d:DefI) (y:Str) (f:Addr) (fd:FuncData),d.name=x/\Fun K y d.name d.st f fd/\Binds K fd d.ps []/\Lk K mg f x kd/\FnOk P w K mg base (CX1 P w) j f fd d.ps (spX mg n (cf x))/\∀ args,cf x args≠ .bad->args.length=n:=fun x n kd h=>by
  obtain⟨d,e,h⟩:=za h
  simp only[xa,decide_eq_true_eq]at h
  obtain⟨rfl,rfl⟩:=h
  have hmem:=List.mem_of_find?_eq_some e
  have hnm:d.name=x:=by simpa using List.find?_some e
  subst hnm
  obtain⟨D,ok⟩:=hd d hmem
  obtain⟨y,f,fd,F,hb,lk⟩:=D.ex
  obtain⟨q1,q2⟩:=hF d y f fd e F ok
  exact⟨d,y,f,fd,rfl,F,hb,lk,q1,q2⟩
 refine⟨hbi,hgi,hgs,fun x n h=>?_,hex,hmr,hgd,hfk,fun c q n h=>?_,fun c m q n h=>?_⟩
 ·obtain⟨d,y,f,fd,e,F,hb,lk,q1,q2⟩:=get x n .fn (w1 (x,n) (xR.mp h))
  exact⟨⟨f,fd,d.ps,q1.mono (by omega),lk,F.kp,hb⟩,q2⟩
 ·obtain⟨d,y,f,fd,e,F,hb,lk,q1,q2⟩:=get q n (.ini c) (w2 (c,q,n) (xR.mp h))
  exact⟨lk.2,⟨j,hj,f,fd,d.ps,q1,lk.1,hb⟩,q2⟩
 ·obtain⟨d,y,f,fd,e,F,hb,lk,q1,q2⟩:=get q n (.me c m) (w3 (c,m,q,n) (xR.mp h))
  exact⟨⟨f,fd,d.ps,q1.mono (by omega),lk.1,lk.2,hb⟩,q2⟩
theorem wk_all{defs:List DefI}(hd:∀ d∈defs,Dx K mg d/\d.ok W=true)(hw:wOk defs W=true)(hbi:∀ x,W.bi.contains x=true->mg x=none)
  (hgi:∀ x i,W.gi.contains (x,i)=true->∃ t,mg x=some (.int i t)) (hgs:∀ x i,W.gs.contains (x,i)=true->∃ t,mg x=some (.str i t))
  (hex:∀ x,W.ex.contains x=true->∃ C,mg x=some (.ref C)/\PySem.W.excIn K C bmV "ValueError.__new__" =true) (hmr:∀ x C y C2,W.ex.contains x=true->mg x=some (.ref C)->W.ex.contains y=true->mg y=some (.ref C2)->(mroIn K C).contains (.ref C2)=decide (x=y)) (hgd:∀ x kf,W.gd.contains (x,kf)=true->GD w K mg x kf)
  (hfk:∀ c f,W.fk.contains (c,f)=true->Cls K (Cs.adr c)/\NoAttr K (Cs.adr c) f):∀ n,WK P w K mg base (zg defs n) W (2*n+2)
 |0=>YI (j:=1) hd hw hbi hgi hgs hex hmr hgd hfk (fun d x f fd _ F ok=>⟨zeJ F ok,fun args e=>absurd rfl e⟩) (by omega)
 |n+1=>YI (j:=2*n+2+1) hd hw hbi hgi hgs hex hmr hgd hfk (fun d x f fd e F ok=>by
   have ec:zg defs (n+1) d.name=d.run (zg defs n):=by
    funext args
    rw[zg,e]
   rw[ec]
   exact⟨zgr F ok (wk_all hd hw hbi hgi hgs hex hmr hgd hfk n) (by omega),fun args e=>DefI.run_lenX e⟩) (by omega)
noncomputable def ZA(cells:List Int)(i l t s:Int):OV:=.l [.d (.list (cells.map .int)),.d (.int i),.d (.int l),.d (.int t),.d (.int s)]
theorem law_ok {st:Stmt}{fa:Addr}{fd:FuncData}{N:List Str}{x:Str}{kb:Nat}{body:IB}{rest:List Stmt}{pos' p3 p2 p pos:Pos}(Fn:Fun K "law" "law" st fa fd) (hS:wY N ["_law_script"] (defScope st)=true) (hkb:Kn P w K mg base CX0 "_law_box" kb (za9 K)) (hkb2:kb<=k) (T:WK P w K mg base cf W k) (hk:1<=k)
  (hb:defBody st=.Assign [.Name x pos'] (.Call (.Name "_law_box" p3) [.Name "_law_script" p2] [] p) pos::rest) (hN0:N[0]?=some ("_law_script" :Str)) (hN1:N[1]?=some x) (hv0:(defScope st).names.lookup ("_law_script" :Str)=some .local) (hx:Loc (defScope st) x) (hg:(defScope st).names.lookup ("_law_box" :Str)=some .globalImplicit)
  (hchk:body.chk W (defScope st) N (List.range N.length) N.length 0 rest=true)
  (hrun:∀ (cells:List Int) (i l t s:Int),0<=i->∃ Γ',body.ex cf [] (none::some (ZA cells i l t s)::List.replicate (N.length-2) none)=.ok (.ret (.d (.bool true)),Γ')):FnOk P w K mg base CX0 (k+1) fa fd ["_law_script"] (Yx K):=by
 have S:=wZ hS
 refine Fn.law S fun cdv A outer s H Q E a ns hr hSq hlen kk=>?_
 have hl2:2<=N.length:=by have:=(xb.mp hN1).1;omega
 rw[hb]
 refine zf7 (X:=(ZK CX0 P w K mg base N "law" (defScope st) fa cdv A outer s H E).nox) (N:=N) S.nd hkb (hr.mono hkb2) hSq hlen (fun b σ1 H1 s1 nb hB rs1 l1=>?_) rfl hN0 hN1 (.inl hv0) hx (.inl rfl) hg rfl rfl
 obtain⟨c,cells,i,l,t,sd,B⟩:=hB
 have hσ:σ1[1]?=some (some (.ref b)):=rs1.av 1 (.ref b) (by
  rw[xi]
  simp
  exact hl2)
 have hF:∀ j a,a∈fset (fun _=> []) 1 [b] j->j=1/\a=b:=fun j a h=>by
  by_cases hj:j=1
  ·subst hj;rw[zd]at h;exact⟨rfl,by simpa using h⟩
  ·rw[zf hj]at h;cases h
 have hM:∀ a,MM zu (fset (fun _=> []) 1 [b]) a->a=b:=fun a h=>by
  rcases h with h | ⟨j,h⟩
  ·exact h.elim
  ·exact (hF j a h).2
 have rs:RS zu (fset (fun _=> []) 1 [b]) (none::some (ZA cells i l t sd)::List.replicate (N.length-2) none) (none::some (.ref b)::List.replicate (N.length-2) none) H1:=by
  refine⟨fun a h=>h.elim,fun j a h z=>z,fun j=>?_,fun j k a h1 h2=>by rw[(hF j a h1).1,(hF k a h2).1],fun j o e=>?_,fun j h=>?_,by simp⟩
  ·by_cases hj:j=1
   ·subst hj;rw[zd];exact xy.mpr ⟨(fun z=>nomatch z),.nil⟩
   ·rw[zf hj];exact .nil
  ·match j,e with
   |0,e=>simp at e
   |1,e=>
    have e':ZA cells i l t sd=o:=by simpa using e
    subst e'
    refine⟨.ref b,rfl,?_⟩
    rw[zd]
    refine .l B.hb (.cons (A:= []) (.d (B.hc.less fun a ha _=>hM a ha)) (.cons (A:= []) (.d (.int _)) (.cons (A:= []) (.d (.int _)) (.cons (A:= []) (.d (.int _)) (.cons (A:= []) (.d (.int _)) .nil)))))
   |j+2,e=>
    rw[uc,uc,xz]at e
    split at e<;>cases e
  ·by_cases hj:j=1
   ·subst hj;exact absurd rfl (h (ZA cells i l t sd))
   ·rw[zf hj]
 have sees:Sees (List.range N.length) (none::some (.ref b)::List.replicate (N.length-2) none) σ1:=fun s' j v e1 e2=>by
  have hs:s'<N.length:=by
   have:=(xb.mp e1).1
   simpa using this
  rw[ub hs]at e1
  cases e1
  match s',e2 with
  |0,e2=>simp at e2
  |1,e2=>
   have:V.ref b=v:=by simpa using e2
   subst this;exact hσ
  |j+2,e2=>
   rw[uc,uc,xz]at e2
   split at e2<;>cases e2
 obtain⟨Γ',er⟩:=hrun cells i l t sd B.hi
 refine zeb cf W body (ZK CX0 P w K mg base N "law" (defScope st) fa cdv A outer s H E).nox XP0 k (defScope st) N (List.range N.length) N.length 0 [] zga ⟨T.bi,T.gi,T.gs,T.fn,hr,hk,rfl,T.ex,T.mr,T.gd,fun c f h=>⟨(T.fk c f h).1,(T.fk c f h).2⟩,T.mc,T.ml,Yu⟩ ⟨PassesOwn.never,S.nd,List.nodup_range,(fun i hi=>nomatch hi),(fun _ _ _ _ _ _ h=>h.elim),rfl,rfl⟩ rest hchk zu _ _ _ σ1 H1 _ rs sees l1 ?_
 rw[er]
 intro F' ν' v H' r' s' hn
 obtain⟨w',ew,q⟩:=r'.at' Γ'.length (.d (.bool true)) (by rw[xf (xh _)];simp)
 have hlen:=r'.len
 have hνl:ν'.length=Γ'.length:=by simpa using hlen
 rw[xf (by omega),hνl]at ew
 have:v=w':=by simpa using ew
 subst this
 generalize F' Γ'.length=Az at q
 cases q with
 |d q=>cases q;exact kk H'
end
noncomputable def csOf(mg:Str->Option Value):Cs:=⟨fun x=>match mg x with
 |some (.ref C)=>C
 |_=>0⟩
theorem vm{mg:Str->Option Value}{c:Str}{C:Addr}(h:mg c=some (.ref C)):(csOf mg).adr c=C:=by
 show (match mg c with
  |some (.ref C)=>C
  |_=>0)=C
 rw[h]
section
variable {K:PySem.W.Frag} {mg:Str->Option Value} {h:Heap} {d:DefI}
theorem zt(hk:d.kd=.fn)(D:Df K mg d.name d.st d.ps): @Dx (csOf mg) K mg d:=by
 obtain⟨f,fd,F,hm,hb⟩:=D.ex
 exact @Dx.mk (csOf mg) _ _ _ ⟨d.name,f,fd,F,hb,by rw[hk];exact hm⟩
structure ClsOf(K:PySem.W.Frag)(c:Str)(C:Addr):Prop where
 n:PySem.W.nsIn K mainGlobals c=some (some (.ref C))
 cl:Cls K C
structure Dm(K:PySem.W.Frag)(q c m:Str)(st:Stmt)(ps:List Str):Prop where
 ex:∃ (C f:Addr) (fd:FuncData),ClsOf K c C/\Fun K m q st f fd/\Binds K fd ps []/\yh K C m f
structure Di(K:PySem.W.Frag)(q c:Str)(st:Stmt)(ps:List Str):Prop where
 ex:∃ (C f:Addr) (fd:FuncData),ClsOf K c C/\Fun K "__init__" q st f fd/\Binds K fd ps []/\Mk K C f
theorem Dm.of{q c m:Str}{st:Stmt}{ps:List Str}{C f:Addr}{oc:Value}{od an:Option Addr}{sl:Array (Option Value)}{kV dc pm cd ct:Value}(o:ClsOf K c C)(a:PySem.W.findIn K (.ref C) m=some (some (.ref f)))(fn:PySem.W.isFn K (.ref f)=true)
  (l:K.lookup f=some ⟨oc,od,.func (PySem.W.fnOf m q (zM st) (defBody st) (defScope st) .none kV dc pm an cd ct),sl⟩) (e:PySem.W.codeIn K cd q=true) (k:PySem.W.keepIn K (.ref f)=true)
  (hb:∀ (kV doc pm:Value) (an:Option Addr) (cdv ct:Value) (us:List Value),us.length=ps.length->bindArgs (PySem.W.fnOf m q (zM st) (defBody st) (defScope st) .none kV doc pm an cdv ct) ⟨us,[]⟩=pure (ps.zip us)):Dm K q c m st ps :=
 ⟨C,f,_,o,ZO (st:=st) l e k,(ZO (st:=st) l e k).binds hb,a,fn,k⟩
theorem Di.of {q c:Str}{st:Stmt}{ps:List Str}{C f:Addr}{oc:Value}{od an:Option Addr}{sl:Array (Option Value)}{kV dc pm cd ct:Value}(o:ClsOf K c C) (mk:PySem.W.makesIn K C=true) (a:PySem.W.findIn K (.ref C) "__init__" =some (some (.ref f))) (fn:PySem.W.isFn K (.ref f)=true) (kc:PySem.W.keepIn K (.ref C)=true)
  (l:K.lookup f=some ⟨oc,od,.func (PySem.W.fnOf "__init__" q (zM st) (defBody st) (defScope st) .none kV dc pm an cd ct),sl⟩) (e:PySem.W.codeIn K cd q=true) (k:PySem.W.keepIn K (.ref f)=true)
  (hb:∀ (kV doc pm:Value) (an:Option Addr) (cdv ct:Value) (us:List Value),us.length=ps.length->bindArgs (PySem.W.fnOf "__init__" q (zM st) (defBody st) (defScope st) .none kV doc pm an cdv ct) ⟨us,[]⟩=pure (ps.zip us)):Di K q c st ps :=
 ⟨C,f,_,o,ZO (st:=st) l e k,(ZO (st:=st) l e k).binds hb,mk,a,fn,kc⟩
theorem qh{c m:Str}(X:K.In h)(G:h.Ns mainGlobals mg)(hk:d.kd=.me c m)(D:Dm K d.name c m d.st d.ps): @Dx (csOf mg) K mg d:=by
 obtain⟨C,f,fd,o,F,hb,hm⟩:=D.ex
 refine @Dx.mk (csOf mg) _ _ _ ⟨m,f,fd,F,hb,?_⟩
 rw[hk]
 show Cls K ((csOf mg).adr c)/\yh K ((csOf mg).adr c) m f
 rw[vm (PySem.W.mg_of X G o.n)]
 exact⟨o.cl,hm⟩
theorem KN{c:Str}(X:K.In h)(G:h.Ns mainGlobals mg)(hk:d.kd=.ini c)(D:Di K d.name c d.st d.ps): @Dx (csOf mg) K mg d:=by
 obtain⟨C,f,fd,o,F,hb,hm⟩:=D.ex
 refine @Dx.mk (csOf mg) _ _ _ ⟨"__init__",f,fd,F,hb,?_⟩
 rw[hk]
 show Mk K ((csOf mg).adr c) f/\mg c=some (.ref ((csOf mg).adr c))
 rw[vm (PySem.W.mg_of X G o.n)]
 exact⟨hm,PySem.W.mg_of X G o.n⟩
theorem zgq{c f:Str}{C:Addr}(X:K.In h)(G:h.Ns mainGlobals mg)(o:ClsOf K c C)(n:NoAttr K C f):Cls K ((csOf mg).adr c)/\NoAttr K ((csOf mg).adr c) f:=by
 rw[vm (PySem.W.mg_of X G o.n)]
 exact⟨o.cl,n⟩
end
section
variable [Cs] {K:PySem.W.Frag} {mg:Str->Option Value} {h:Heap} {d:DefI}
theorem el0{α:Type}{P:List α->Prop}(h:P []):∀ us:List α,us.length=0->P us:=fun us e=>by
 rw[List.length_eq_zero_iff.mp e];exact h
theorem el1{α:Type}{P:List α->Prop}(h:∀ a0,P [a0]):∀ us:List α,us.length=1->P us:=fun us e=>by
 match us,e with
 |[a0],_=>exact h a0
theorem el2{α:Type}{P:List α->Prop}(h:∀ a0 a1,P [a0,a1]):∀ us:List α,us.length=2->P us:=fun us e=>by
 match us,e with
 |[a0,a1],_=>exact h a0 a1
theorem el3{α:Type}{P:List α->Prop}(h:∀ a0 a1 a2,P [a0,a1,a2]):∀ us:List α,us.length=3->P us:=fun us e=>by
 match us,e with
 |[a0,a1,a2],_=>exact h a0 a1 a2
noncomputable def biOk(K:PySem.W.Frag)(L:List Str):Bool:=L.all fun x=>match PySem.W.nsIn K mainGlobals x with
 |some none=>true
 |_=>false
theorem bi_all{L:List Str}(X:K.In h)(G:h.Ns mainGlobals mg)(hk:biOk K L=true)(x:Str)(hx:L.contains x=true):mg x=none:=by
 have:=xA.mp hk x (xR.mp hx)
 split at this
 ·exact PySem.W.mg_none_of X G (by assumption)
 ·cases this
noncomputable def giOk(K:PySem.W.Frag)(L:List (Str×Int)):Bool:=L.all fun p=>match PySem.W.nsIn K mainGlobals p.1 with
 |some (some (.int i _))=>decide (i=p.2)
 |_=>false
theorem gi_of{L:List (Str×Int)}(X:K.In h)(G:h.Ns mainGlobals mg)(hk:giOk K L=true)(x:Str)(i:Int)(hx:L.contains (x,i)=true):∃ t,mg x=some (.int i t):=by
 have:=xA.mp hk _ (xR.mp hx)
 split at this
 ·rename_i e
  exact⟨_,(PySem.W.mg_of X G e).trans (by rw[of_decide_eq_true this])⟩
 ·cases this
noncomputable def gsOk(K:PySem.W.Frag)(L:List (Str×Str)):Bool:=L.all fun p=>match PySem.W.nsIn K mainGlobals p.1 with
 |some (some (.str i _))=>decide (i=p.2)
 |_=>false
theorem gs_of{L:List (Str×Str)}(X:K.In h)(G:h.Ns mainGlobals mg)(hk:gsOk K L=true)(x:Str)(i:Str)(hx:L.contains (x,i)=true):∃ t,mg x=some (.str i t):=by
 have:=xA.mp hk _ (xR.mp hx)
 split at this
 ·rename_i e
  exact⟨_,(PySem.W.mg_of X G e).trans (by rw[of_decide_eq_true this])⟩
 ·cases this
noncomputable def exOk(K:PySem.W.Frag)(L:List Str):Bool:=L.all fun x=>match PySem.W.nsIn K mainGlobals x with
 |some (some (.ref a))=>PySem.W.excIn K a bmV "ValueError.__new__" &&L.all fun y=>match PySem.W.nsIn K mainGlobals y with
  |some (some (.ref b))=>decide ((mroIn K a).contains (.ref b)=decide (x=y))
  |_=>false
 |_=>false
theorem ex_of {L:List Str}(X:K.In h) (G:h.Ns mainGlobals mg) (hk:exOk K L=true):(∀ x,L.contains x=true->∃ C,mg x=some (.ref C)/\PySem.W.excIn K C bmV "ValueError.__new__" =true)/\∀ x C y C2,L.contains x=true->mg x=some (.ref C)->L.contains y=true->mg y=some (.ref C2)->(mroIn K C).contains (.ref C2)=decide (x=y):=by
 have hk:=xA.mp hk
 refine⟨fun x hx=>?_,fun x C y C2 hx e1 hy e2=>?_⟩
 ·have:=hk x (xR.mp hx)
  split at this
  ·rename_i e
   simp only[xa]at this
   exact⟨_,PySem.W.mg_of X G e,this.1⟩
  ·cases this
 ·have:=hk x (xR.mp hx)
  split at this
  ·rename_i e
   simp only[xa]at this
   have h2:=xA.mp this.2 y (xR.mp hy)
   split at h2
   ·rename_i e'
    rw[PySem.W.mg_of X G e]at e1
    rw[PySem.W.mg_of X G e']at e2
    cases e1
    cases e2
    exact of_decide_eq_true h2
   ·cases h2
  ·cases this
noncomputable def fkOk(K:PySem.W.Frag)(L:List (Str×Str)):Bool:=L.all fun p=>match PySem.W.nsIn K mainGlobals p.1 with
 |some (some (.ref C))=>PySem.W.plainGet K C Str.empty&&(PySem.W.hasDictIn K C&&(PySem.W.plainOver K C&&((match PySem.W.findIn K (.ref C) "__setattr__" with
   |some (some (.builtin b))=>decide (b= "object.__setattr__")
   |_=>false)&&match PySem.W.findIn K (.ref C) p.2 with
   |some none=>true
   |_=>false)))
 |_=>false
theorem fk_all{L:List (Str×Str)}(X:K.In h)(G:h.Ns mainGlobals mg)(hk:fkOk K L=true)(c f:Str)(hx:L.contains (c,f)=true):Cls K ((csOf mg).adr c)/\NoAttr K ((csOf mg).adr c) f:=by
 have:=xA.mp hk _ (xR.mp hx)
 split at this
 ·rename_i e
  simp only[xa]at this
  obtain⟨a1,a2,a3,a4,a5⟩:=this
  refine zgq X G ⟨e,a1,a2,a3,?_⟩ ?_
  ·split at a4
   ·rename_i e2
    rw[e2,of_decide_eq_true a4]
   ·cases a4
  ·split at a5
   ·assumption
   ·cases a5
 ·cases this
noncomputable def AllX(K:PySem.W.Frag)(mg:Str->Option Value):List DefI->Prop
 |[]=>True
 |d::r=> @Dx (csOf mg) K mg d/\AllX K mg r
theorem dx_all{W:Wd}:{L:List DefI}->AllX K mg L->(L.all fun d=>d.ok W)=true->∀ d∈L,@Dx (csOf mg) K mg d/\d.ok W=true
 |[],_,_=>fun d hd=>nomatch hd
 |e::r,a,ok=>fun d hd=>by
  simp only[xW,xa]at ok
  rcases xv.mp hd with rfl | hd
  ·exact⟨a.1,ok.1⟩
  ·exact dx_all a.2 ok.2 d hd
end
end L3
namespace Wx
open PySem L2 L3
scoped instance noCs:L2.Cs:=⟨fun _=>0⟩
noncomputable def jA:IB:=(.cons (.ret (.dat (.and (.isi "int" (.var 0 0)) (.not (.isi "bool" (.var 0 0)))))) .nil)
noncomputable def b_law_wholes_1:IE:=(.call (.call "_law_whole" 1 (.cons (.var 0 1) .nil)))
noncomputable def je:IB:=(.cons (.ret (.dat (.and (.isi "list" (.var 0 0)) (.all (.new (.comp 1 1 [] ["_law_one"] (.nm 0 1) (.list (.var 0 0)) .yes b_law_wholes_1)))))) .nil)
noncomputable def jx:IB:=(.cons (.asg 2 2 (.dat (.bin .Mod (.bin .Add (.bin .Add (.bin .Mult (.var 0 0) (.cint 48271)) (.bin .Mult (.var 1 1) (.cint 69621))) (.cint 12345)) (.cint 2147483647)))) (.cons (.asg 3 3 (.dat (.bin .Mod (.bin .Add (.bin .Add (.bin .Mult (.var 2 2) (.bin .Add (.bin .Mod (.var 2 2) (.cint 65521)) (.cint 7))) (.bin .Mult (.var 1 1) (.cint 40692))) (.bin .Mod (.var 0 0) (.cint 104729))) (.cint 998244353)))) (.cons (.ret (.dat (.bin .FloorDiv (.var 3 3) (.cint 7)))) .nil)))
noncomputable def zY:IB:=(.cons (.set 0 0 (.cint 3) (.bin .Add (.ix (.var 0 0) (.cint 3)) (.cint 1))) (.cons (.ite (.cmp .Gt (.ix (.var 0 0) (.cint 2)) (.cint 0)) (.cons (.asg 2 2 (.dat (.ix (.var 0 0) (.cint 2)))) (.cons (.set 0 0 (.cint 2) (.bin .FloorDiv (.var 2 2) (.var 1 1))) (.cons (.ret (.dat (.bin .Mod (.var 2 2) (.var 1 1)))) .nil))) .nil) (.cons (.ite (.cmp .GtE (.ix (.var 0 0) (.cint 1)) (.len (.ix (.var 0 0) (.cint 0)))) (.cons (.ret (.dat (.bin .Mod (.call (.call "_law_mixed" 2 (.cons (.ix (.var 0 0) (.cint 4)) (.cons (.ix (.var 0 0) (.cint 3)) .nil)))) (.var 1 1)))) .nil) .nil) (.cons (.asg 3 3 (.dat (.ix (.ix (.var 0 0) (.cint 0)) (.ix (.var 0 0) (.cint 1))))) (.cons (.set 0 0 (.cint 1) (.bin .Add (.ix (.var 0 0) (.cint 1)) (.cint 1))) (.cons (.ite (.cmp .Lt (.var 3 3) (.bin .Pow (.cint 10) (.cint 18))) (.cons (.ret (.dat (.bin .Mod (.call (.call "_law_mixed" 2 (.cons (.var 3 3) (.cons (.ix (.var 0 0) (.cint 3)) .nil)))) (.var 1 1)))) .nil) .nil) (.cons (.set 0 0 (.cint 2) (.bin .FloorDiv (.var 3 3) (.var 1 1))) (.cons (.ret (.dat (.bin .Mod (.var 3 3) (.var 1 1)))) .nil))))))))
noncomputable def J9:IE:=(.call (.call "_law_whole" 1 (.cons (.var 0 2) .nil)))
noncomputable def vg:IB:=(.cons (.ret (.dat (.and (.isi "tuple" (.var 0 0)) (.and (.cmp .Eq (.len (.var 0 0)) (.var 1 1)) (.all (.new (.comp 2 1 [] ["_law_one"] (.nm 0 2) (.tup (.var 0 0)) .yes J9))))))) .nil)
noncomputable def qC:IB:=(.cons (.ret (.dat (.cstr "abcdefghijklmnopqrstuvwxyz"))) .nil)
noncomputable def b_law_named_1:IE:=(.six (.call (.call "_law_letters" 0 .nil)) (.call (.call "_law_take" 2 (.io 1 0 (.cons (.cint 26) .nil)))))
noncomputable def jy:IB:=(.cons (.asg 1 1 (.dat (.bin .Add (.cint 1) (.call (.call "_law_take" 2 (.io 0 0 (.cons (.cint 8) .nil))))))) (.cons (.ret (.dat (.join "" (.new (.comp 2 1 [0] ["_law_k","_law_box_here"] (.nm 0 2) (.range (.var 1 1)) .yes b_law_named_1))))) .nil))
noncomputable def jE:IE:=(.sin (.var 0 1) (.gstr "LETTERS" "abcdefghijklmnopqrstuvwxyz"))
noncomputable def Jh:IB:=(.cons (.ret (.dat (.and (.chain .LtE .LtE (.cint 1) (.slen (.var 0 0)) (.gint "MOST_LETTERS" (8))) (.all (.new (.comp 1 1 [] ["sign"] (.nm 0 1) (.chars (.var 0 0)) .yes jE)))))) .nil)
noncomputable def z6:IB:=(.cons .bad .nil)
noncomputable def p_bare_1:IE:=(.tup (.cons (.var 1 2) (.cons (.cbool false) (.cons (.var 1 2) .nil))))
noncomputable def yL:IB:=(.cons (.asg 2 2 (.dat (.bin .Mult (.tup (.cons (.cint 0) .nil)) (.var 0 0)))) (.cons (.ret (.own (.comp 3 1 [2] ["at","clear"] (.nm 0 3) (.range (.var 1 1)) .yes p_bare_1))) .nil))
noncomputable def Zu:IB:=(.cons .bad (.cons .bad (.cons .bad (.cons .bad .nil))))
noncomputable def qm:IB:=(.cons .bad (.cons .bad (.cons .bad .nil)))
noncomputable def W1:IB:=(.cons .bad (.cons .bad .nil))
noncomputable def qY:IB:=(.cons (.fset 0 0 "Stand" "fresh" (.dat (.var 1 1))) (.cons (.fset 0 0 "Stand" "cloths" (.dat (.var 2 2))) .nil))
noncomputable def jF:IB:=(.cons (.ret (.dat (.call (.make "Stand" "Stand.__init__" 3 (.cons (.new (.mul (.new (.lst (.cons (.cbool true) .nil))) (.var 0 0))) (.cons (.newD .nil) .nil)))))) .nil)
noncomputable def qK:IB:=(.cons (.asgT (.tp (.cons (.nm 2 2) (.cons (.nm 3 3) .nil))) (.var 1 1)) (.cons (.expr (.call (.call "check_new" 2 (.cons (.var 0 0) (.cons (.var 2 2) .nil))))) (.cons (.ite (.not (.chain .LtE .LtE (.cint 0) (.var 3 3) (.gint "MOST_CELLS" (40)))) (.cons (.raise "BadSize") .nil) .nil) (.cons (.ret (.call "with_cloths" 2 (.cons (.var 0 0) (.cons (.newD (.one (.var 2 2) (.call (.call "bare" 2 (.cons (.len (.attr "Stand" "fresh" (.var 0 0))) (.cons (.var 3 3) .nil)))))) .nil)))) .nil))))
noncomputable def ku:IB:=(.cons .bad (.cons .bad (.cons .bad (.cons .bad (.cons .bad (.cons .bad .nil))))))
noncomputable def wR:IB:=(.cons (.star 2 2 3 3 (.var 1 1)) (.disp 4 4 "DEEDS" [("hang","behind_hang"),("fold","behind_fold"),("twin","behind_twin"),("wish","behind_wish"),("wax","behind_wax"),("dip","behind_dip"),("boil","behind_boil"),("brew","behind_brew")] 2 (.var 2 2) (.cons (.var 0 0) (.cons (.var 3 3) .nil))))
noncomputable def qM:IB:=(.cons (.asg 2 2 (.ownD (.copy (.attr "Stand" "cloths" (.var 0 0))))) (.cons (.dupd 2 2 (.var 1 1)) (.cons (.ret (.dat (.call (.make "Stand" "Stand.__init__" 3 (.cons (.attr "Stand" "fresh" (.var 0 0)) (.cons (.frz 2 2) .nil)))))) .nil)))
noncomputable def jD:IB:=(.cons (.ite (.not (.call (.call "is_name" 1 (.cons (.var 1 1) .nil)))) (.cons (.raise "NoName") .nil) .nil) (.cons (.ite (.din (.var 1 1) (.attr "Stand" "cloths" (.var 0 0))) (.cons (.raise "Taken") .nil) .nil) .nil))
noncomputable def qL:IB:=(.cons (.ite (.dnin (.var 1 1) (.attr "Stand" "cloths" (.var 0 0))) (.cons (.raise "NoCloth") .nil) .nil) .nil)
noncomputable def z4:IB:=(.cons (.fset 0 0 "House" "pots" (.dat (.var 1 1))) (.cons (.fset 0 0 "House" "first" (.call "new_stand" 1 (.cons (.var 1 1) .nil))) (.cons (.fset 0 0 "House" "done" (.own (.lst .nil))) (.cons (.fset 0 0 "House" "undone" (.own (.lst .nil))) (.cons (.fset 0 0 "House" "places" (.ownD .nil)) .nil)))))
noncomputable def vO:IC:=(.one (.cmp .LtE (.var 1 5) (.var 2 3)))
noncomputable def vP:IE:=(.var 0 4)
noncomputable def vQ:IE:=(.var 1 5)
noncomputable def ZR:IB:=(.cons (.asg 2 2 (.dat (.call (.call "behind" 2 (.cons (.call (.meth 0 0 "House" "now" "House.now" 1 .nil)) (.cons (.var 1 1) .nil)))))) (.cons (.asg 3 3 (.dat (.flen 0 0 "House" "done"))) (.cons (.fset 0 0 "House" "places" (.ownD (.comp 4 2 [3] ["word","place","many"] (.tp (.cons (.nm 0 4) (.cons (.nm 1 5) .nil))) (.items (.ffrz 0 0 "House" "places")) vO vP vQ))) (.cons (.fapp 0 0 "House" "done" (.p (.v 1 1) (.v 2 2))) (.cons (.fset 0 0 "House" "undone" (.own (.lst .nil))) .nil)))))
noncomputable def jm:IB:=(.cons (.ite (.not (.ftru 0 0 "House" "done")) (.cons (.raise "NothingLeft") .nil) .nil) (.cons (.fpop 1 1 0 0 "House" "done") (.cons (.fapp 0 0 "House" "undone" (.w (.v 1 1))) (.cons (.ret (.dat (.ix (.var 1 1) (.cint 0)))) .nil))))
noncomputable def jl:IB:=(.cons (.ite (.not (.ftru 0 0 "House" "undone")) (.cons (.raise "NothingLeft") .nil) .nil) (.cons (.fpop 1 1 0 0 "House" "undone") (.cons (.fapp 0 0 "House" "done" (.w (.v 1 1))) (.cons (.ret (.dat (.ix (.var 1 1) (.cint 0)))) .nil))))
noncomputable def wQ:IE:=(.var 0 1)
noncomputable def jj:IB:=(.cons (.ret (.own (.compW 1 2 [] ["deed","stand"] (.tp (.cons (.nm 0 1) (.cons (.nm 1 2) .nil))) (.fld 0 0 "House" "done") .yes wQ))) .nil)
noncomputable def JS:IE:=(.var 0 1)
noncomputable def qF:IB:=(.cons (.ret (.own (.compW 1 2 [] ["deed","stand"] (.tp (.cons (.nm 0 1) (.cons (.nm 1 2) .nil))) (.frev 0 0 "House" "undone") .yes JS))) .nil)
noncomputable def jk:IB:=(.cons (.ite (.not (.call (.call "is_name" 1 (.cons (.var 1 1) .nil)))) (.cons (.raise "NoName") .nil) .nil) (.cons (.fput 0 0 "House" "places" 1 1 (.flen 0 0 "House" "done")) .nil))
noncomputable def vR:IB:=(.cons (.expr (.call (.meth 0 0 "House" "undo" "House.undo" 1 .nil))) .nil)
noncomputable def vS:IB:=(.cons (.expr (.call (.meth 0 0 "House" "redo" "House.redo" 1 .nil))) .nil)
noncomputable def ZS:IB:=(.cons (.ite (.fnin 0 0 "House" "places" 1 1) (.cons (.raise "NoMark") .nil) .nil) (.cons (.wh 1000000 (.cmp .Gt (.flen 0 0 "House" "done") (.fget 0 0 "House" "places" 1 1)) vR) (.cons (.wh 1000000 (.cmp .Lt (.flen 0 0 "House" "done") (.fget 0 0 "House" "places" 1 1)) vS) .nil)))
noncomputable def JT:IE:=(.tup (.cons (.var 0 1) (.cons (.fget 1 0 "House" "places" 0 1) .nil)))
noncomputable def qG:IB:=(.cons (.ret (.own (.comp 1 1 [0] ["word","self"] (.nm 0 1) (.list (.new (.sortF 0 0 "House" "places"))) .yes JT))) .nil)
noncomputable def qH:IB:=(.cons (.ret (.own (.sortD (.attr "Stand" "cloths" (.call (.meth 0 0 "House" "now" "House.now" 1 .nil)))))) .nil)
noncomputable def p_House_ready_1:IC:=(.one (.var 1 2))
noncomputable def p_House_ready_2:IE:=(.var 0 1)
noncomputable def qI:IB:=(.cons (.ret (.own (.comp 1 2 [] ["dye","is_fresh"] (.tp (.cons (.nm 0 1) (.cons (.nm 1 2) .nil))) (.enum (.attr "Stand" "fresh" (.call (.meth 0 0 "House" "now" "House.now" 1 .nil)))) p_House_ready_1 p_House_ready_2))) .nil)
noncomputable def Jf:IE:=(.var 0 2)
noncomputable def qt:IB:=(.cons (.ret (.own (.comp 2 3 [] ["stain","waxed","wish"] (.tp (.cons (.nm 0 2) (.cons (.nm 1 3) (.cons (.nm 2 4) .nil)))) (.list (.call (.meth 0 0 "House" "cloth" "House.cloth" 2 (.cons (.var 1 1) .nil)))) .yes Jf))) .nil)
noncomputable def Jg:IE:=(.var 2 4)
noncomputable def qu:IB:=(.cons (.ret (.own (.comp 2 3 [] ["stain","waxed","wish"] (.tp (.cons (.nm 0 2) (.cons (.nm 1 3) (.cons (.nm 2 4) .nil)))) (.list (.call (.meth 0 0 "House" "cloth" "House.cloth" 2 (.cons (.var 1 1) .nil)))) .yes Jg))) .nil)
noncomputable def JU:IC:=(.one (.var 2 4))
noncomputable def JV:IE:=(.var 0 2)
noncomputable def qJ:IB:=(.cons (.ret (.own (.comp 2 4 [] ["at","stain","waxed","wish"] (.tp (.cons (.nm 0 2) (.cons (.tp (.cons (.nm 1 3) (.cons (.nm 2 4) (.cons (.nm 3 5) .nil)))) .nil))) (.enum (.call (.meth 0 0 "House" "cloth" "House.cloth" 2 (.cons (.var 1 1) .nil)))) JU JV))) .nil)
noncomputable def qA:IB:=(.cons (.ite (.not (.ftru 0 0 "House" "done")) (.cons (.ret (.dat (.fdat 0 0 "House" "first"))) .nil) .nil) (.cons (.ret (.dat (.ix (.flast 0 0 "House" "done") (.cint 1)))) .nil))
noncomputable def z9:IB:=(.cons (.asg 2 2 (.dat (.call (.meth 0 0 "House" "now" "House.now" 1 .nil)))) (.cons (.expr (.call (.call "check_hangs" 2 (.cons (.var 2 2) (.cons (.var 1 1) .nil))))) (.cons (.ret (.dat (.dget (.attr "Stand" "cloths" (.var 2 2)) (.var 1 1)))) .nil)))
noncomputable def Qi:IE:=(.call (.call "_law_shades" 2 (.cons (.var 0 2) (.cons (.len (.var 0 2)) .nil))))
noncomputable def J8:IB:=(.cons (.ite (.or (.not (.isi "list" (.var 0 0))) (.cmp .NotEq (.var 0 0) (.var 1 1))) (.cons (.ret (.dat (.cbool false))) .nil) .nil) (.cons (.ret (.dat (.all (.new (.comp 2 1 [] ["_law_one"] (.nm 0 2) (.list (.var 0 0)) .yes Qi))))) .nil))
noncomputable def b_law_stands_1:IC:=(.one (.ix (.ix (.var 1 1) (.cint 1)) (.var 0 8)))
noncomputable def b_law_stands_2:IE:=(.var 0 8)
noncomputable def wa:IE:=(.ix (.var 0 8) (.cint 0))
noncomputable def wb:IE:=(.ix (.var 0 8) (.cint 2))
noncomputable def wc:IC:=(.one (.ix (.ix (.var 1 6) (.var 0 8)) (.cint 1)))
noncomputable def wd:IE:=(.var 0 8)
noncomputable def jz:IB:=(.cons (.asg 6 6 (.dat (.dget (.ix (.var 1 1) (.cint 2)) (.var 5 5)))) (.cons (.ite (.not (.call (.call "_law_pictures" 2 (.cons (.call (.meth 0 0 "House" "stains" "House.stains" 2 (.cons (.var 5 5) .nil))) (.cons (.new (.comp 8 1 [] ["_law_cell"] (.nm 0 8) (.list (.var 6 6)) .yes wa)) .nil))))) (.cons (.ret (.dat (.cbool false))) .nil) .nil) (.cons (.ite (.not (.call (.call "_law_pictures" 2 (.cons (.call (.meth 0 0 "House" "wishes" "House.wishes" 2 (.cons (.var 5 5) .nil))) (.cons (.new (.comp 8 1 [] ["_law_cell"] (.nm 0 8) (.list (.var 6 6)) .yes wb)) .nil))))) (.cons (.ret (.dat (.cbool false))) .nil) .nil) (.cons (.asg 7 7 (.dat (.call (.meth 0 0 "House" "waxed" "House.waxed" 2 (.cons (.var 5 5) .nil))))) (.cons (.ite (.or (.not (.call (.call "_law_wholes" 1 (.cons (.var 7 7) .nil)))) (.cmp .NotEq (.var 7 7) (.new (.comp 8 1 [6] ["_law_at","_law_rows"] (.nm 0 8) (.range (.len (.var 6 6))) wc wd)))) (.cons (.ret (.dat (.cbool false))) .nil) .nil) .nil)))))
noncomputable def jd:IB:=(.cons (.asg 2 2 (.dat (.call (.meth 0 0 "House" "ready" "House.ready" 1 .nil)))) (.cons (.asg 3 3 (.dat (.call (.meth 0 0 "House" "names" "House.names" 1 .nil)))) (.cons (.asg 4 4 (.dat (.new (.comp 8 1 [1] ["_law_dye","_law_kept"] (.nm 0 8) (.range (.ix (.var 1 1) (.cint 0))) b_law_stands_1 b_law_stands_2)))) (.cons (.ite (.or (.not (.call (.call "_law_wholes" 1 (.cons (.var 2 2) .nil)))) (.or (.cmp .NotEq (.var 2 2) (.var 4 4)) (.or (.not (.isi "list" (.var 3 3))) (.cmp .NotEq (.var 3 3) (.new (.sortD (.ix (.var 1 1) (.cint 2)))))))) (.cons (.ret (.dat (.cbool false))) .nil) .nil) (.cons (.loop (.nm 5 5) (.list (.var 3 3)) jz) (.cons (.ret (.dat (.cbool true))) .nil))))))
noncomputable def qD:IB:=(.cons (.asg 3 3 (.dat (.cstr ""))) (.cons (.tryq (.cons (.ite (.cmp .Eq (.var 2 2) (.cint 0)) (.cons (.expr (.call (.meth 0 0 "House" "undo" "House.undo" 1 .nil))) .nil) (.cons (.ite (.cmp .Eq (.var 2 2) (.cint 1)) (.cons (.expr (.call (.meth 0 0 "House" "redo" "House.redo" 1 .nil))) .nil) (.cons (.ite (.cmp .Eq (.var 2 2) (.cint 2)) (.cons (.expr (.call (.meth 0 0 "House" "go" "House.go" 2 (.cons (.var 1 1) .nil)))) .nil) (.cons (.ite (.cmp .Eq (.var 2 2) (.cint 3)) (.cons (.expr (.call (.meth 0 0 "House" "stains" "House.stains" 2 (.cons (.var 1 1) .nil)))) .nil) (.cons (.ite (.cmp .Eq (.var 2 2) (.cint 4)) (.cons (.expr (.call (.meth 0 0 "House" "wishes" "House.wishes" 2 (.cons (.var 1 1) .nil)))) .nil) (.cons (.expr (.call (.meth 0 0 "House" "waxed" "House.waxed" 2 (.cons (.var 1 1) .nil)))) .nil)) .nil)) .nil)) .nil)) .nil)) .nil) [("NothingLeft",3,3,.s "NothingLeft"),("NoMark",3,3,.s "NoMark"),("NoCloth",3,3,.s "NoCloth")]) (.cons (.ret (.dat (.var 3 3))) .nil)))
noncomputable def b_law_empty_1:IE:=(.cbool true)
noncomputable def b_law_empty_2:IE:=(.call (.call "_law_refused" 3 (.io 1 0 (.cons (.var 2 2) (.cons (.var 0 4) .nil)))))
noncomputable def jw:IB:=(.cons (.ite (.not (.call (.call "_law_stands" 2 (.io 0 0 (.cons (.new (.lst (.cons (.var 1 1) (.cons (.new (.comp 4 1 [] ["_law_dye"] (.nm 0 4) (.range (.var 1 1)) .yes b_law_empty_1)) (.cons (.newD .nil) .nil))))) .nil))))) (.cons (.ret (.dat (.cbool false))) .nil) .nil) (.cons (.ite (.or (.cmp .NotEq (.call (.meth 0 0 "House" "book" "House.book" 1 .nil)) (.new (.lst .nil))) (.or (.cmp .NotEq (.call (.meth 0 0 "House" "ahead" "House.ahead" 1 .nil)) (.new (.lst .nil))) (.cmp .NotEq (.call (.meth 0 0 "House" "marks" "House.marks" 1 .nil)) (.new (.lst .nil))))) (.cons (.ret (.dat (.cbool false))) .nil) .nil) (.cons (.asg 3 3 (.dat (.new (.lst (.cons (.cstr "NothingLeft") (.cons (.cstr "NothingLeft") (.cons (.cstr "NoMark") (.cons (.cstr "NoCloth") (.cons (.cstr "NoCloth") (.cons (.cstr "NoCloth") .nil)))))))))) (.cons (.ret (.dat (.cmp .Eq (.new (.comp 4 1 [0,2] ["_law_way","_law_house","_law_name"] (.nm 0 4) (.range (.cint 6)) .yes b_law_empty_2)) (.var 3 3)))) .nil))))
noncomputable def runI(n:Nat)(mask:List Bool)(io:List Nat)(body:IB)(cf:CF)(args:List OV):RF:=if args.length=mask.length then fin mask (body.ex cf io (args.map some++List.replicate (n-mask.length) none)) else .bad
end Wx
local macro_rules
  | `(tactic| simp![$xs,*])=>`(tactic| simp[$xs,*,Wx.runI,L3.fin,L3.outs,L3.IB.ex,L3.IS.ex,L3.IE.ev,L3.IL.ev,L3.IA.ev,L3.IN.ev,L3.IP.ev,L3.II.ev,L3.IC.ev,L3.IO.ev,L3.sSeq,L3.sNext,L3.sAsg,L3.sIf,L3.sRet,L3.sSet,L3.sFor,L3.sAsgT,L3.sExpr,L3.fVar,L3.fFrz,L3.fC,L3.fBin,L3.fCmp,L3.fB,L3.fTru,L3.fNotT,L3.fAndT,L3.fOrT,L3.fAndV,L3.fOrV,L3.fIf,L3.fIx,L3.f1,L3.fChain,L3.fTup,L3.fLst,L3.fCons,L3.fNil,L3.fNew,L3.fOwn,L3.fOD,L3.fD,L3.fMove,L3.fCall,L3.aNil,L3.aCons,L3.aIo,L3.toArg,L3.toArgs,L3.ios,L3.putBack,L3.derf,L3.derS,L3.derSs,L3.derL,L3.leaves,L3.itemF,L3.binD,L3.cmpD,L3.truD,L3.R.bind,L3.isOwn,L3.fSeqL,L3.fSeqT,L3.fRange,L3.fEnum,L3.fYes,L3.fComp,L3.fListC,L3.gLen,L3.lenD,L3.gAll,L3.fIsi,L3.isiB,L2.tyD,L3.tgF,L3.tgFs,L2.noL])
namespace Wx
open PySem L2 L3
theorem zaf(cf:CF)(a b:Int):∃ r,runI 4 [false,false] [] jx cf [.d (.int a),.d (.int b)]=.ok (.d (.int r)) [none,none]:=by
 simp![jx,OV.view,OV.views,w9,ixN,atI]
 rw[if_pos]
 ·simp[outs]
 ·omega
noncomputable def Yb (cf:CF):Prop:=∀ a b:Int,∃ r,cf "_law_mixed" [.d (.int a),.d (.int b)]=.ok (.d (.int r)) [none,none]
noncomputable def ZX(b:OV):Prop:=∃ cells i l t s,0<=i/\b=ZA cells i l t s
noncomputable def Kk(b:OV)(n:Int)(x:RF):Prop:=∃ (r:Int) (b':OV),0<=r/\r<n/\ZX b'/\x=.ok (.d (.int r)) [some b',none]
theorem zdH(cf:CF)(hm:Yb cf){b:OV}(hb:ZX b){n:Int}(h1:1<=n)(h2:n<1073741824):Kk b n (runI 4 [true,false] [0] zY cf [b,.d (.int n)]):=by
 obtain⟨cells,i,l,t,s,hi,rfl⟩:=hb
 have h0:0<n:=by omega
 have hp:((10:Int) ^ 18)=1000000000000000000:=by decide
 by_cases hl:0<l
 ·refine⟨l % n,ZA cells i (l / n) (t+1) s,ul _ (by omega),ue _ h0,⟨_,_,_,_,_,hi,rfl⟩,?_⟩
  simp![zY,ZA,hl,h0,h2,OV.view,OV.views,w9,ixN,atI]
 ·by_cases hc:(cells.length:Int)<=i
  ·obtain⟨r,er⟩:=hm s (t+1)
   refine⟨r % n,ZA cells i l (t+1) s,ul _ (by omega),ue _ h0,⟨_,_,_,_,_,hi,rfl⟩,?_⟩
   simp![zY,ZA,hl,hc,h0,h2,er,OV.view,OV.views,w9,ixN,atI]
  ·have hix:i.toNat<cells.length:=by omega
   have hlt:i<(cells.length:Int):=by omega
   have hg:cells[i.toNat]?=some cells[i.toNat]:=xB hix
   by_cases hs:cells[i.toNat]<1000000000000000000
   ·obtain⟨r,er⟩:=hm cells[i.toNat] (t+1)
    refine⟨r % n,ZA cells (i+1) l (t+1) s,ul _ (by omega),ue _ h0,⟨_,_,_,_,_,by omega,rfl⟩,?_⟩
    simp![zY,ZA,hl,hc,h0,h2,hi,hlt,hg,hs,hp,er,OV.view,OV.views,w9,ixN,atI]
   ·refine⟨cells[i.toNat] % n,ZA cells (i+1) (cells[i.toNat] / n) (t+1) s,ul _ (by omega),ue _ h0,⟨_,_,_,_,_,by omega,rfl⟩,?_⟩
    simp![zY,ZA,hl,hc,h0,h2,hi,hlt,hg,hs,hp,OV.view,OV.views,w9,ixN,atI]
theorem wm{k:Nat}{t:IT}{cond:EM Bool}{elt:EM FV}(I:List PyData->List PyData->Gv->Prop){ds:List PyData}{Γ:Gv}(h0:I [] [] Γ)
  (hs:∀ pre d post,ds=pre++d::post->∀ ys Γ,I pre ys Γ->∃ Γ2 c Γ3,tgF t d (Γ++List.replicate k none)=some Γ2/\cond Γ2=.ok (c,Γ3)/\(c=true->∃ u Γ4 y,elt Γ3=.ok (u,Γ4)/\derS Γ4 u=some y/\I (pre++ [d]) (ys++ [y]) (Γ4.take Γ.length))/\(c=false->I (pre++ [d]) ys (Γ3.take Γ.length))) :
  ∃ ys Γ',zK k t cond elt ds [] Γ=.ok (ys,Γ')/\I ds ys Γ':=by
 suffices H:∀ post pre ys Γ,ds=pre++post->I pre ys Γ->∃ ys' Γ',zK k t cond elt post ys Γ=.ok (ys',Γ')/\I ds ys' Γ' from H ds [] [] Γ rfl h0
 intro post
 induction post with
 |nil=>intro pre ys Γ e h;rw[xL]at e;subst e;exact⟨ys,Γ,rfl,h⟩
 |cons d post ih=>
  intro pre ys Γ e h
  obtain⟨Γ2,c,Γ3,e1,e2,ht,hf⟩:=hs pre d post e ys Γ h
  cases c with
  |true=>
   obtain⟨u,Γ4,y,e3,e4,h5⟩:=ht rfl
   obtain⟨ys',Γ',e6,h6⟩:=ih (pre++ [d]) _ _ (by rw[e];simp) h5
   exact⟨ys',Γ',by rw[zK,e1];simp only[e2,e3,e4];exact e6,h6⟩
  |false=>
   obtain⟨ys',Γ',e6,h6⟩:=ih (pre++ [d]) _ _ (by rw[e];simp) (hf rfl)
   exact⟨ys',Γ',by rw[zK,e1];simp only[e2];exact e6,h6⟩
theorem qj{k:Nat}{t:IT}{cond:EM Bool}{elt:EM FV}(p:PyData->Bool)(f:PyData->PyData){ds:List PyData}{Γ:Gv}
  (hs:∀ d∈ds,∃ Γ2 Γ3,tgF t d (Γ++List.replicate k none)=some Γ2/\cond Γ2=.ok (p d,Γ3)/\Γ3.take Γ.length=Γ/\(p d=true->∃ u Γ4,elt Γ3=.ok (u,Γ4)/\derS Γ4 u=some (f d)/\Γ4.take Γ.length=Γ)) :
  zK k t cond elt ds [] Γ=.ok ((ds.filter p).map f,Γ):=by
 obtain⟨ys,Γ',e,hy,rfl⟩:=wm (k:=k) (t:=t) (cond:=cond) (elt:=elt) (fun pre ys Γ'=>ys=(pre.filter p).map f/\Γ'=Γ) (ds:=ds) (Γ:=Γ) ⟨rfl,rfl⟩ (by
  rintro pre d post e ys Γ' ⟨rfl,rfl⟩
  obtain⟨Γ2,Γ3,e1,e2,e3,h⟩:=hs d (by rw[e];simp)
  refine⟨Γ2,p d,Γ3,e1,e2,fun hp=>?_,fun hp=>⟨by simp[List.filter_append,hp],e3⟩⟩
  obtain⟨u,Γ4,e4,e5,e6⟩:=h hp
  exact⟨u,Γ4,_,e4,e5,by simp[List.filter_append,hp],e6⟩)
 rw[e,hy]
noncomputable def yi (cf:CF):Prop:=∀ b,ZX b->∀ n:Int,1<=n->n<1073741824->Kk b n (cf "_law_take" [b,.d (.int n)])
structure Cl where
 st:List Int
 w:Bool
 wi:List Int
theorem zac{n:Nat}{xs:List PyData}(h:∀ x∈xs,lay n x=true):lay (n+1) (.list xs)=true:=by rw[lay];exact xA.mpr h
theorem J0{n:Nat}{d:PyData}(h:lay n d=true):PyData.eqv d d=true:=PySem.SeqAt.eqv_refl d (zG n d h).1
theorem zcj(i j:Int):PyData.eqv (.int i) (.int j)=(i==j):=rfl
noncomputable def ZE(xs:List Nat):List PyData:=xs.map fun (i:Nat)=>.int (i:Int)
theorem km(xs:List Nat):(ZE xs).length=xs.length:=by simp[ZE]
theorem qW{α:Type}(l:List α):l.filter (fun _=>true)=l:=List.filter_eq_self.mpr fun _ _=>rfl
theorem zbI(cf:CF)(i:Int):runI 1 [false] [] jA cf [.d (.int i)]=.ok (.d (.bool true)) [none]:=by
 simp![jA,OV.view,OV.views,w9,ixN,atI]
noncomputable def Yd (cf:CF):Prop:=∀ i:Int,cf "_law_whole" [.d (.int i)]=.ok (.d (.bool true)) [none]
theorem k8(cf:CF)(hw:Yd cf){xs:List Nat}(hl:xs.length<=1000):runI 1 [false] [] je cf [.d (.list (ZE xs))]=.ok (.d (.bool true)) [none]:=by
 have e:=qj (k:=1) (t:=.nm 0 1) (cond:=fYes) (elt:=(b_law_wholes_1.ev cf).1) (ds:=ZE xs) (Γ:= [some (.d (.list (ZE xs)))]) (fun _=>true) (fun _=>.bool true) (by
  intro x hx
  obtain⟨i,_,rfl⟩:=ui.mp hx
  refine⟨_,_,by simp[tgF];rfl,rfl,by simp,fun _=>⟨.dat (.bool true),[some (.d (.list (ZE xs))),some (.d (.int i))],?_,rfl,by simp⟩⟩
  simp![b_law_wholes_1,hw (i:Int),OV.view,OV.views,w9,ixN,atI])
 have hz:xs.length<=1000000:=by omega
 have hb:zI (List.map (fun _=>PyData.bool true) (List.filter (fun _=>true) (ZE xs)))=some ((ZE xs).map fun _=>true):=by
  rw[qW,<- Vm,ud];rfl
 have ha:((ZE xs).map fun _=>true).all id=true:=by simp
 simp![je,km,hz,OV.view,OV.views,w9,ixN,atI]
 rw[e]
 simp only[Option.bind_some,gAll,hb,ux,ha,outs];rfl
noncomputable def Vk (cf:CF):Prop:=∀ xs:List Nat,xs.length<=1000->cf "_law_wholes" [.d (.list (ZE xs))]=.ok (.d (.bool true)) [none]
theorem VY(s:String):PyData.strOk (Str.ofString s)=true:=by
 rw[Str.ofString_eq_toList]
 unfold PyData.strOk
 rw[Array.all_eq_true]
 intro i hi
 have key:∀ c:Char,c.toNat<0x110000:=fun c=>by
  have:=c.valid
  rcases this with h | h
  ·have h1:c.toNat<0xd800:=h
   omega
  ·exact h.2
 simp only[decide_eq_true_eq]
 have:∀ x∈(s.toList.map Char.toNat),x<0x110000:=fun x hx=>by
  obtain⟨c,_,rfl⟩:=ui.mp hx
  exact key c
 have hi':i<(s.toList.map Char.toNat).length:=by simpa using hi
 have:=this _ (List.getElem_mem hi')
 simpa using this
theorem zcs(sep:Str)(ys:List Str):Txt.join sep ys=Str.join sep ys:=StrLaws.glued_eq_join sep ys
inductive Deed where
 |hang (n:Str) (k:Int)
 |fold (n:Str)
 |twin (n m:Str)
 |wish (n:Str) (k:Int) (sh:List Int)
 |wax (n:Str) (cs:List Int)
 |dip (ns:List Str) (k:Int)
 |boil (ns:List Str)
 |brew (k:Int)
noncomputable def Nm(x:Str):Prop:=1<=x.length/\x.length<=8/\∀ c∈x.cps.toList,97<=c/\c<=122
theorem yE (cf:CF):runI 0 [] [] qC cf []=.ok (.d (.str "abcdefghijklmnopqrstuvwxyz")) []:=by
 simp![qC]
noncomputable def Wz (cf:CF):Prop:=cf "_law_letters" []=.ok (.d (.str "abcdefghijklmnopqrstuvwxyz")) []
theorem kg {i:Int}(h0:0<=i) (h1:i<26):∃ c:Nat,atI ("abcdefghijklmnopqrstuvwxyz" :Str).cps.toList i=some c/\97<=c/\c<=122:=by
 have:∀ n:Nat,n<26->∃ c:Nat,atI ("abcdefghijklmnopqrstuvwxyz" :Str).cps.toList (n:Int)=some c/\97<=c/\c<=122:=by
  intro n hn
  have key:∀ n:Fin 26,("abcdefghijklmnopqrstuvwxyz" :Str).cps.toList[(n:Nat)]?=some (97+(n:Nat)):=by decide +kernel
  exact⟨97+n,Ye (key ⟨n,hn⟩),by omega,by omega⟩
 have e:i=((i.toNat:Nat):Int):=by omega
 rw[e]
 exact this i.toNat (by omega)
theorem Vd(x:PyData):(OV.d x).view=x:=rfl
theorem zah(cf:CF)(ht:yi cf)(hl:Wz cf){b:OV}(hb:ZX b):∃ (n:Str) (b':OV),Nm n/\ZX b'/\runI 2 [true] [0] jy cf [b]=.ok (.d (.str n)) [some b']:=by
 obtain⟨r,b1,h1,h1',hb1,e1⟩:=ht b hb 8 (by decide) (by decide)
 obtain⟨ys,Γ',e2,⟨b2,cs,hcl,hcs,hb2,rfl,rfl⟩⟩:=wm (k:=1) (t:=.nm 0 2) (cond:=fYes) (elt:=(b_law_named_1.ev cf).1) (ds:=zm (1+r.toNat)) (Γ:= [some b1,some (.d (.int (1+r)))])
  (fun pre ys Γ=>∃ (b2:OV) (cs:List Nat),cs.length=pre.length/\(∀ c∈cs,97<=c/\c<=122)/\ZX b2/\ys=cs.map (fun c=>.str ⟨#[c]⟩)/\Γ= [some b2,some (.d (.int (1+r)))]) ⟨b1,[],rfl,(fun _ h=>nomatch h),hb1,rfl,rfl⟩ (by
   rintro pre d post e ys Γ ⟨b2,cs,hcl,hcs,hb2,rfl,rfl⟩
   obtain⟨j,b3,g1,g2,hb3,e3⟩:=ht b2 hb2 26 (by decide) (by decide)
   obtain⟨c,hc,hc1,hc2⟩:=kg g1 g2
   refine⟨[some b2,some (.d (.int (1+r))),some (.d d)],true,_,rfl,rfl,fun _=>⟨.dat (.str ⟨#[c]⟩),[some b3,some (.d (.int (1+r))),some (.d d)],.str ⟨#[c]⟩,?_,rfl,b3,cs++ [c],by simp[hcl],?_,hb3,by simp,rfl⟩,fun z=>nomatch z⟩
   ·have hz:("abcdefghijklmnopqrstuvwxyz" :Str).length<=1000000:=by decide
    have hl':cf "_law_letters" []=.ok (.d (.str "abcdefghijklmnopqrstuvwxyz")) []:=hl
    generalize ("abcdefghijklmnopqrstuvwxyz" :Str)=abc at *
    simp![b_law_named_1,hl',e3,zcl,hz,hc,Vd]
   ·intro x hx
    rcases xQ.mp hx with hx | hx
    ·exact hcs x hx
    ·have:x=c:=by simpa using hx
     subst this;exact⟨hc1,hc2⟩)
 rw[zo]at hcl
 have hj:Str.join "" (cs.map fun c=>(⟨#[c]⟩:Str))=⟨cs.toArray⟩:=PyProof.Rows.join_ones cs
 have hm:(cs.map fun c=>PyData.str ⟨#[c]⟩)=(cs.map fun c=>(⟨#[c]⟩:Str)).map .str:=by rw[ud];rfl
 have hs:=yT (cs.map fun c=>(⟨#[c]⟩:Str))
 have hsum:((cs.map fun c=>(⟨#[c]⟩:Str)).map (·.length)).sum=cs.length:=by
  clear hs hm hj e2 hcs hcl
  induction cs with
  |nil=>rfl
  |cons c r ih=>simp only[xu,List.sum_cons,ih,xp];show 1+_=_;omega
 have hlen:(cs.map fun c=>(⟨#[c]⟩:Str)).length=cs.length:=by simp
 have hg:wA "" (.list (cs.map fun c=>PyData.str ⟨#[c]⟩))=some (.str ⟨cs.toArray⟩):=by
  unfold wA
  simp only[hm,hs]
  rw[if_pos ⟨by rw[hsum,hlen];omega,by decide⟩,zcs,hj]
 refine⟨⟨cs.toArray⟩,b2,⟨by show 1<=cs.toArray.size;simp;omega,by show cs.toArray.size<=8;simp;omega,fun c hc=>hcs c (by simpa using hc)⟩,hb2,?_⟩
 have hz: -1000000<=1+r/\1+r<=1000000:=by omega
 have hr:(1+r).toNat=1+r.toNat:=by omega
 have hz2:1+r.toNat<=1000000:=by omega
 generalize (cs.map fun c=>PyData.str ⟨#[c]⟩)=CS at *
 generalize ({ cps:=cs.toArray }:Str)=nm at *
 unfold jy
 generalize b_law_named_1=body at *
 simp![e1,hz,hz2,hr,e2,zo,hg,Vd]
noncomputable def Yc (cf:CF):Prop:=∀ b,ZX b->∃ (n:Str) (b':OV),Nm n/\ZX b'/\cf "_law_named" [b]=.ok (.d (.str n)) [some b']
theorem zaj{x y:String}(h:Str.ofString x=Str.ofString y):x=y:=by
 rw[Str.ofString_eq_toList,Str.ofString_eq_toList]at h
 have h1:x.toList.map Char.toNat=y.toList.map Char.toNat:=by
  have:=congrArg (fun z:Str=>z.cps.toList) h
  simpa using this
 have key:∀ a b:List Char,a.map Char.toNat=b.map Char.toNat->a=b:=by
  intro a
  induction a with
  |nil=>intro b e;cases b with
   |nil=>rfl
   |cons _ _=>cases e
  |cons c r ih=>
   intro b e
   cases b with
   |nil=>cases e
   |cons d s=>
    rw[xu,xu,List.cons.injEq]at e
    rw[ih s e.2,show c=d from Char.ext (UInt32.toNat_inj.mp e.1)]
 exact String.toList_inj.mp (key _ _ h1)
theorem zeY(s:String)(n:Nat):lay n (.str (Str.ofString s))=true:=by
 have:=VY s
 cases n<;>exact this
noncomputable abbrev ch(c:Nat):Str:=⟨#[c]⟩
theorem Kv{α:Type}(xs:List α):(zI (xs.map fun _=>PyData.bool true)).map (fun bs=>PyData.bool (bs.all id))=some (.bool true):=by
 have:zI (xs.map fun _=>PyData.bool true)=some (xs.map fun _=>true):=by
  induction xs with
  |nil=>rfl
  |cons a r ih=>simp[zI,ih]
 rw[this]
 simp
theorem zem(cf:CF){body:IE}{x z:Str}(hb:body=.sin (.var 0 1) (.gstr x z)){cs:List Nat}{D:OV}(h:∀ c∈cs,Txt.contains z (ch c)=true) :
  zK 1 (.nm 0 1) fYes (body.ev cf).1 (cs.map fun c=>PyData.str (ch c)) [] [some D]=.ok (cs.map fun _=>PyData.bool true,[some D]):=by
 have e:=qj (k:=1) (t:=.nm 0 1) (cond:=fYes) (elt:=(body.ev cf).1) (ds:=cs.map fun c=>PyData.str (ch c)) (Γ:= [some D]) (fun _=>true) (fun _=>.bool true) (by
  intro y hy
  obtain⟨c,hc,rfl⟩:=ui.mp hy
  have hz:=h c hc
  refine⟨[some D,some (.d (.str (ch c)))],_,rfl,rfl,rfl,fun _=>⟨.dat (.bool true),[some D,some (.d (.str (ch c)))],?_,rfl,rfl⟩⟩
  subst hb
  generalize ch c=cc at *
  simp![K1,hz])
 rw[qW,ud]at e
 exact e
theorem yD:∀ c:Nat,97<=c->c<=122->Txt.contains (Str.ofString "abcdefghijklmnopqrstuvwxyz") (ch c)=true:=fun c h1 h2=>by
 have:∀ k:Fin 26,Txt.contains (Str.ofString "abcdefghijklmnopqrstuvwxyz") (ch (97+(k:Nat)))=true:=by decide +kernel
 have e:=this ⟨c-97,by omega⟩
 have:97+(c-97)=c:=by omega
 simp only[this]at e
 exact e
theorem Kp{x:Str}(h:∀ c∈x.cps.toList,c<=127):x.cps.all (·<128)=true:=by
 rw[Array.all_eq_true]
 intro i hi
 have:=h x.cps[i] (by simp)
 simp only[decide_eq_true_eq];omega
theorem yC(cf:CF){n:Str}(h:Nm n):runI 1 [false] [] Jh cf [.d (.str n)]=.ok (.d (.bool true)) [none]:=by
 obtain⟨h1,h2,h3⟩:=h
 have ha:=Kp (x:=n) fun c hc=>by have:=(h3 c hc).2;omega
 have e:=zem cf (body:=jE) rfl (cs:=n.cps.toList) (D:=.d (.str n)) fun c hc=>yD c (h3 c hc).1 (h3 c hc).2
 have eb:=Kv n.cps.toList
 have hs:Zv n=n.cps.toList.map fun c=>PyData.str (ch c):=rfl
 have hz:n.length<=1000000:=by omega
 have hi1:(1:Int)<=(n.length:Int):=by omega
 have hi2:(n.length:Int)<=8:=by omega
 have hi3:1<=n.length:=h1
 have hcl:(n.cps.toList.map fun c=>PyData.str (ch c)).length<=1000000:=by simp;exact hz
 unfold Jh
 generalize jE=B at *
 generalize (n.cps.toList.map fun _=>PyData.bool true)=BB at *
 generalize (n.cps.toList.map fun c=>PyData.str (ch c))=CC at *
 simp![VB,yx,ha,hs,hz,hcl,hi1,hi2,hi3,h2,e,eb]
noncomputable def J4 (cf:CF):Prop:=∀ n,Nm n->cf "is_name" [.d (.str n)]=.ok (.d (.bool true)) [none]
noncomputable def tps(l:List (PyData×PyData)):List PyData:=l.map fun p=>.tuple [p.1,p.2]
noncomputable def prs(l:List (PyData×PyData)):List OV:=(tps l).map .d
theorem yM(l:List (PyData×PyData)):leaves (prs l)=some (tps l):=zad _
theorem qv(x y:String):(Str.ofString x=Str.ofString y)=(x=y):=propext ⟨zaj,fun h=>by rw[h]⟩
noncomputable def hV (pots:Int) (first:PyData) (dn un:List (PyData×PyData)) (pl:List (Str×PyData)):OV:=.o "House" ["pots","first","done","undone","places"] [.d (.int pots),.d first,.l (prs dn),.l (prs un),.m pl]
noncomputable def stV (fr:List PyData) (cl:List (Str×PyData)):PyData:=.dict [(.none,.str "Stand"),(.str "fresh",.list fr),(.str "cloths",.dict (cl.map dK))]
theorem zC(x:PyData):(OV.d x).view=x:=rfl
theorem YH (fr:List PyData) (cl:List (Str×PyData)):(OV.o "Stand" ["fresh","cloths"] [.d (.list fr),.d (.dict (cl.map dK))]).view=stV fr cl:=rfl
theorem zdA(x y:String):(Str.ofString x==Str.ofString y)=decide (x=y):=by
 by_cases h:x=y
 ·subst h;simp
 ·rw[decide_eq_false h]
  exact beq_eq_false_iff_ne.mpr fun e=>h (zaj e)
theorem ZN (fr:List PyData) (cl:List (Str×PyData)):KY "Stand" "fresh" (stV fr cl)=some (.list fr):=rfl
theorem qd (fr:List PyData) (cl:List (Str×PyData)):KY "Stand" "cloths" (stV fr cl)=some (.dict (cl.map dK)):=rfl
noncomputable def vb (cf:CF):Prop:=∀ a b,cf "Stand.__init__" [.o "Stand" [] [],.d a,.d b]=.ok (.d .none) [some (.o "Stand" ["fresh","cloths"] [.d a,.d b]),none,none]
theorem zbf (cf:CF) (a b:PyData):runI 3 [true,false,false] [0] qY cf [.o "Stand" [] [],.d a,.d b]=.ok (.d .none) [some (.o "Stand" ["fresh","cloths"] [.d a,.d b]),none,none]:=rfl
noncomputable def zdW (cf:CF):Prop:=∀ p:Nat,p<=12->cf "new_stand" [.d (.int p)]=.ok (.d (stV (List.replicate p (.bool true)) [])) [none]
end Wx
local macro_rules
  | `(tactic| dsimp! [$xs,*])=>`(tactic| simp[$xs,*,Wx.runI,L3.fin,L3.outs,L3.IB.ex,L3.IS.ex,L3.IE.ev,L3.IL.ev,L3.IA.ev,L3.IN.ev,L3.IP.ev,L3.II.ev,L3.IC.ev,L3.IO.ev,L3.sSeq,L3.sNext,L3.sAsg,L3.sIf,L3.sRet,L3.sSet,L3.sFor,L3.sAsgT,L3.sExpr,L3.fVar,L3.fFrz,L3.fC,L3.fBin,L3.fCmp,L3.fB,L3.fTru,L3.fNotT,L3.fAndT,L3.fOrT,L3.fAndV,L3.fOrV,L3.fIf,L3.fIx,L3.f1,L3.fChain,L3.fTup,L3.fLst,L3.fCons,L3.fNil,L3.fNew,L3.fOwn,L3.fOD,L3.fD,L3.fMove,L3.fCall,L3.aNil,L3.aCons,L3.aIo,L3.toArg,L3.toArgs,L3.ios,L3.putBack,L3.derf,L3.derS,L3.derSs,L3.derL,L3.leaves,L3.itemF,L3.binD,L3.cmpD,L3.truD,L3.R.bind,L3.isOwn,L3.fSeqL,L3.fSeqT,L3.fRange,L3.fEnum,L3.fYes,L3.fComp,L3.fListC,L3.gLen,L3.lenD,L3.gAll,L3.fIsi,L3.isiB,L2.tyD,L3.tgF,L3.tgFs,L2.noL,L3.fDget,L3.derD,L3.fAttr,L3.fFdat,L3.objF,L3.ixF,L3.fFlen,L3.fFtru,L3.fFlast,L3.fFget,L3.fFnin,L3.fFfrz,L3.updF,L3.setO,L3.sFset,L3.sFapp,L3.sFpop,L3.sFput,L3.zD,L3.wD,L3.fMeth,L3.fMake,L3.IM.ev,L3.IG.ev,L3.fOwnD,L3.fNewD,L3.fDnil,L3.fDone,L3.fDcopy,L3.fCompD,L3.fCompW,L3.hid,L3.loopG,L3.fStd,L3.fItems,L3.fFldS,L3.fSortD,L3.fFsort,L3.fMul,L3.sTry,L3.IQ.ex,L3.IQs.ex,L3.pickN,L3.sRaise,L3.sDisp,L3.sStar,L3.sDupd,L3.fNo,L3.fNoV,L3.gDin,L3.gDnin])
namespace Wx
open PySem L2 L3
theorem ze3(cf:CF)(hs:vb cf){p:Nat}(hp:p<=12):runI 1 [false] [] jF cf [.d (.int p)]=.ok (.d (stV (List.replicate p (.bool true)) [])) [none]:=by
 have h:=hs (.list (List.replicate p (.bool true))) (.dict [])
 have hz:(0:Int)<=p/\(p:Int)<=1000000:=by omega
 have hz2:p<=1000000:=by omega
 have hv:(OV.m []).view=.dict []:=rfl
 have hw:=YH (List.replicate p (.bool true)) []
 dsimp! [jF,h,hz,hz2,hv,zC,hw]
 rfl
noncomputable def Ya (cf:CF):Prop:=∀ p:Nat,p<=12->cf "House.__init__" [.o "House" [] [],.d (.int p)]=.ok (.d .none) [some (hV p (stV (List.replicate p (.bool true)) []) [] [] []),none]
theorem K5 (cf:CF) (hn:zdW cf){p:Nat}(hp:p<=12):runI 2 [true,false] [0] z4 cf [.o "House" [] [],.d (.int p)]=.ok (.d .none) [some (hV p (stV (List.replicate p (.bool true)) []) [] [] []),none]:=by
 have h:=hn p hp
 generalize stV (List.replicate p (.bool true)) []=D at *
 dsimp! [z4,h,hV,prs,tps,qv]
noncomputable def qE(first:PyData)(dn:List (PyData×PyData)):PyData:=match dn.getLast? with
 |some p=>p.2
 |none=>first
noncomputable def Vj (cf:CF):Prop:=∀ (p:Int) (f:PyData) (dn un:List (PyData×PyData)) (pl:List (Str×PyData)),cf "House.now" [hV p f dn un pl]=.ok (.d (qE f dn)) [some (hV p f dn un pl)]
theorem ze4(cf:CF)(p:Int)(f:PyData)(dn un:List (PyData×PyData))(pl:List (Str×PyData)):runI 1 [true] [0] qA cf [hV p f dn un pl]=.ok (.d (qE f dn)) [some (hV p f dn un pl)]:=by
 cases q:dn.getLast? with
 |none=>
  have:dn= []:=List.getLast?_eq_none_iff.mp q
  subst this
  dsimp! [qA,hV,prs,tps,qE,qv]
 |some x=>
  have hne:dn≠ []:=fun z=>by rw[z]at q;cases q
  have h1:prs dn≠ []:=by cases dn with
   |nil=>exact absurd rfl hne
   |cons _ _=>exact fun z=>nomatch z
  have h2:(prs dn).getLast?=some (.d (.tuple [x.1,x.2])):=by
   unfold prs tps
   rw[List.getLast?_map,List.getLast?_map,q];rfl
  have hi:atI [x.1,x.2] 1=some x.2:=rfl
  simp only[hV,qE,q]
  generalize prs dn=P at *
  dsimp! [qA,h1,h2,hi,qv]
theorem zbz (cf:CF) (p:Int) (f:PyData) (un:List (PyData×PyData)) (pl:List (Str×PyData)):runI 2 [true] [0] jm cf [hV p f [] un pl]=.exc ⟨"NothingLeft",.none⟩ [some (hV p f [] un pl)]:=by
 dsimp! [jm,hV,prs,tps,qv]
theorem zaK (cf:CF) (p:Int) (f:PyData) (dn:List (PyData×PyData)) (pl:List (Str×PyData)):runI 2 [true] [0] jl cf [hV p f dn [] pl]=.exc ⟨"NothingLeft",.none⟩ [some (hV p f dn [] pl)]:=by
 dsimp! [jl,hV,prs,tps,qv]
theorem Ku(cf:CF)(p:Int)(f:PyData)(un:List (PyData×PyData))(pl:List (Str×PyData)):runI 1 [true] [0] jj cf [hV p f [] un pl]=.ok (.l []) [some (hV p f [] un pl)]:=by
 dsimp! [jj,hV,prs,tps,qv]
theorem YN(cf:CF)(p:Int)(f:PyData)(dn:List (PyData×PyData))(pl:List (Str×PyData)):runI 1 [true] [0] qF cf [hV p f dn [] pl]=.ok (.l []) [some (hV p f dn [] pl)]:=by
 dsimp! [qF,hV,prs,tps,qv]
theorem ki(cf:CF)(p:Int)(f:PyData)(dn un:List (PyData×PyData)):runI 1 [true] [0] qG cf [hV p f dn un []]=.ok (.l []) [some (hV p f dn un [])]:=by
 have h:qB []= []:=by unfold qB;simp
 dsimp! [qG,hV,qv,h,zK]
theorem zgv (cf:CF) (p:Int) (f:PyData) (dn un:List (PyData×PyData)) (w:Str):runI 2 [true,false] [0] ZS cf [hV p f dn un [],.d (.str w)]=.exc ⟨"NoMark",.none⟩ [some (hV p f dn un []),none]:=by
 have h:zF ([]:List (Str×PyData)) w=none:=rfl
 dsimp! [ZS,hV,qv,h]
noncomputable def y9 (cf:CF):Prop:=∀ (fr:List PyData) (cl:List (Str×PyData)) (n:Str),cf "check_hangs" [.d (stV fr cl),.d (.str n)]=if (zF cl n).isSome then .ok (.d .none) [none,none] else .exc ⟨"NoCloth",.none⟩ [none,none]
theorem K3 (cf:CF) (fr:List PyData) (cl:List (Str×PyData)) (n:Str):runI 2 [false,false] [] qL cf [.d (stV fr cl),.d (.str n)]=if (zF cl n).isSome then .ok (.d .none) [none,none] else .exc ⟨"NoCloth",.none⟩ [none,none]:=by
 have h1:=qd fr cl
 have h2:=jq cl
 generalize stV fr cl=D at *
 cases q:zF cl n<;>simp![qL,h1,h2,q,fAttr,gDnin,sRaise]
noncomputable def JX (cf:CF):Prop:=∀ (p:Int) (f:PyData) (dn un:List (PyData×PyData)) (pl:List (Str×PyData)) (fr:List PyData) (cl:List (Str×PyData)) (n:Str),qE f dn=stV fr cl->cf "House.cloth" [hV p f dn un pl,.d (.str n)]=match zF cl n with
 |some d=>.ok (.d d) [some (hV p f dn un pl),none]
 |none=>.exc ⟨"NoCloth",.none⟩ [some (hV p f dn un pl),none]
theorem KC(cf:CF)(hn:Vj cf)(hh:y9 cf)(p:Int)(f:PyData)(dn un:List (PyData×PyData))(pl:List (Str×PyData))(fr:List PyData)(cl:List (Str×PyData))(n:Str)(hq:qE f dn=stV fr cl):runI 3 [true,false] [0] z9 cf [hV p f dn un pl,.d (.str n)]=match zF cl n with
 |some d=>.ok (.d d) [some (hV p f dn un pl),none]
 |none=>.exc ⟨"NoCloth",.none⟩ [some (hV p f dn un pl),none]:=by
 have e1:=hn p f dn un pl
 have e2:=hh fr cl n
 rw[hq]at e1
 have h1:=qd fr cl
 have h2:=jq cl
 have hns:hV p f dn un pl=.o "House" ["pots","first","done","undone","places"] [.d (.int p),.d f,.l (prs dn),.l (prs un),.m pl]:=rfl
 generalize stV fr cl=D at *
 generalize [OV.d (.int p),.d f,.l (prs dn),.l (prs un),.m pl]=XS at *
 generalize hV p f dn un pl=HH at *
 subst hns
 cases q:zF cl n with
 |none=>
  rw[q]at e2
  dsimp! [z9,e1,e2,h1,h2,q,zC,qv]
 |some d=>
  rw[q]at e2
  dsimp! [z9,e1,e2,h1,h2,q,zC,qv]
theorem kL (cf:CF) (hc:JX cf) (p:Int) (f:PyData) (dn un:List (PyData×PyData)) (pl:List (Str×PyData)) (fr:List PyData) (cl:List (Str×PyData)) (n:Str) (hq:qE f dn=stV fr cl) (hv:zF cl n=none):runI 2 [true,false] [0] qt cf [hV p f dn un pl,.d (.str n)]=.exc ⟨"NoCloth",.none⟩ [some (hV p f dn un pl),none]:=by
 have e1:=hc p f dn un pl fr cl n hq
 rw[hv]at e1
 have hns:hV p f dn un pl=.o "House" ["pots","first","done","undone","places"] [.d (.int p),.d f,.l (prs dn),.l (prs un),.m pl]:=rfl
 generalize [OV.d (.int p),.d f,.l (prs dn),.l (prs un),.m pl]=XS at *
 generalize hV p f dn un pl=HH at *
 subst hns
 dsimp! [qt,e1,zC,qv]
theorem k9 (cf:CF) (hc:JX cf) (p:Int) (f:PyData) (dn un:List (PyData×PyData)) (pl:List (Str×PyData)) (fr:List PyData) (cl:List (Str×PyData)) (n:Str) (hq:qE f dn=stV fr cl) (hv:zF cl n=none):runI 2 [true,false] [0] qu cf [hV p f dn un pl,.d (.str n)]=.exc ⟨"NoCloth",.none⟩ [some (hV p f dn un pl),none]:=by
 have e1:=hc p f dn un pl fr cl n hq
 rw[hv]at e1
 have hns:hV p f dn un pl=.o "House" ["pots","first","done","undone","places"] [.d (.int p),.d f,.l (prs dn),.l (prs un),.m pl]:=rfl
 generalize [OV.d (.int p),.d f,.l (prs dn),.l (prs un),.m pl]=XS at *
 generalize hV p f dn un pl=HH at *
 subst hns
 dsimp! [qu,e1,zC,qv]
theorem zbH (cf:CF) (hc:JX cf) (p:Int) (f:PyData) (dn un:List (PyData×PyData)) (pl:List (Str×PyData)) (fr:List PyData) (cl:List (Str×PyData)) (n:Str) (hq:qE f dn=stV fr cl) (hv:zF cl n=none):runI 2 [true,false] [0] qJ cf [hV p f dn un pl,.d (.str n)]=.exc ⟨"NoCloth",.none⟩ [some (hV p f dn un pl),none]:=by
 have e1:=hc p f dn un pl fr cl n hq
 rw[hv]at e1
 have hns:hV p f dn un pl=.o "House" ["pots","first","done","undone","places"] [.d (.int p),.d f,.l (prs dn),.l (prs un),.m pl]:=rfl
 generalize [OV.d (.int p),.d f,.l (prs dn),.l (prs un),.m pl]=XS at *
 generalize hV p f dn un pl=HH at *
 subst hns
 dsimp! [qJ,e1,zC,qv]
noncomputable def zs(p:Nat):PyData:=.tuple (List.replicate p (.int 0))
noncomputable def zQ(p:Nat):PyData:=.tuple [zs p,.bool false,zs p]
noncomputable def Kf (cf:CF):Prop:=∀ p s:Nat,p<=12->s<=40->cf "bare" [.d (.int p),.d (.int s)]=.ok (.l ((List.replicate s (zQ p)).map .d)) [none,none]
theorem ze1{p:Nat}(hp:p<=12):binD .Mult (.tuple [.int 0]) (.int p)=some (zs p):=by
 have h1:(0:Int)<=p/\(p:Int)<1000000/\ [PyData.int 0].length*(p:Int).toNat<=1000000:=⟨by omega,by omega,by rw[List.length_singleton];omega⟩
 have e:binD .Mult (.tuple [.int 0]) (.int p)=if (0:Int)<=p/\(p:Int)<1000000/\ [PyData.int 0].length*(p:Int).toNat<=1000000 then some (.tuple (List.replicate (p:Int).toNat [.int 0]).flatten) else none:=by
  rw[binD]
 rw[e,if_pos h1]
 unfold zs
 simp
theorem mul_one(p:Int)(S:OV)(Z:PyData)(G:PyData->PyData->Option PyData)(hb:G (.tuple [.int 0]) (.int p)=some Z):fBin G (fTup (fCons (fC (.int 0)) fNil)) (fVar 0) [some (.d (.int p)),some S,none]=.ok (.dat Z,[some (.d (.int p)),some S,none]):=by
 simp[fBin,fTup,fCons,fC,fNil,fVar,R.bind,derf,derS,derSs,hb]
theorem zeC{S:Int}{s:Nat}(hz:s<=1000000)(hz2: -1000000<=S/\S<=1000000)(hn:S.toNat=s)(B:EM FV){o0 o2:Option OV}{ys:List PyData}(e:zK 1 (.nm 0 3) fYes B (zm s) [] [o0,some (.d (.int S)),o2]=.ok (ys,[o0,some (.d (.int S)),o2])):fComp 3 1 (.nm 0 3) (fRange (fVar 1)) fYes B [o0,some (.d (.int S)),o2]=.ok (ys,[o0,some (.d (.int S)),o2]):=by
 simp[fComp,fRange,fVar,R.bind,derf,hz2,hn,zo,hz,e]
theorem Kt{A1 A2:SM}{P S Z:OV}{LL:OV}(e1:A1 [some P,some S,none]=.ok (.next,[some P,some S,some Z]))(e2:A2 [some P,some S,some Z]=.ok (.ret LL,[some P,some S,some Z])):fin [false,false] (sSeq A1 A2 [some P,some S,none])=.ok LL [none,none]:=by
 simp[sSeq,e1,e2,fin,outs]
theorem zbX{G:PyData->PyData->Option PyData}{P:Int}{S:OV}{Z:PyData}(hb:G (.tuple [.int 0]) (.int P)=some Z):sAsg [] 2 (fD (fBin G (fTup (fCons (fC (.int 0)) fNil)) (fVar 0))) [some (.d (.int P)),some S,none]=.ok (.next,[some (.d (.int P)),some S,some (.d Z)]):=by
 have q1:=mul_one P S Z G hb
 unfold sAsg fD
 rw[q1];rfl
theorem zbY{S:Int}{s:Nat}(hz:s<=1000000)(hz2: -1000000<=S/\S<=1000000)(hn:S.toNat=s)(B:EM FV){o0 o2:Option OV}{ys:List PyData}(e:zK 1 (.nm 0 3) fYes B (zm s) [] [o0,some (.d (.int S)),o2]=.ok (ys,[o0,some (.d (.int S)),o2])):sRet (fOwn (fComp 3 1 (.nm 0 3) (fRange (fVar 1)) fYes B)) [o0,some (.d (.int S)),o2]=.ok (.ret (.l (ys.map .d)),[o0,some (.d (.int S)),o2]):=by
 have q2:=zeC hz hz2 hn B e
 unfold sRet fOwn
 rw[q2];rfl
theorem zbZ(cf:CF){o0 o1:Option OV}{Z:PyData}(ds:List PyData):zK 1 (.nm 0 3) fYes (p_bare_1.ev cf).1 ds [] [o0,o1,some (.d Z)]=.ok (ds.map fun _=>.tuple [Z,.bool false,Z],[o0,o1,some (.d Z)]):=by
 have e:=qj (k:=1) (t:=.nm 0 3) (cond:=fYes) (elt:=(p_bare_1.ev cf).1) (ds:=ds) (Γ:= [o0,o1,some (.d Z)]) (fun _=>true) (fun _=>.tuple [Z,.bool false,Z]) (by
  intro x hx
  refine⟨[o0,o1,some (.d Z),some (.d x)],_,rfl,rfl,rfl,fun _=>⟨.dat (.tuple [Z,.bool false,Z]),[o0,o1,some (.d Z),some (.d x)],?_,rfl,rfl⟩⟩
  simp![p_bare_1])
 rw[qW]at e
 exact e
theorem zb0(cf:CF){p s:Nat}(hp:p<=12)(hs:s<=40):runI 3 [false,false] [] yL cf [.d (.int p),.d (.int s)]=.ok (.l ((List.replicate s (zQ p)).map .d)) [none,none]:=by
 have e:=zbZ cf (o0:=some (.d (.int p))) (o1:=some (.d (.int s))) (Z:=zs p) (zm s)
 rw[List.map_const',zo]at e
 have f1:=zbX (S:=.d (.int s)) (ze1 hp)
 have f2:=zbY (by omega) (by omega) (by omega) _ e
 have hB:zQ p=.tuple [zs p,.bool false,zs p]:=rfl
 rw[hB]
 unfold yL
 simp only[IB.ex,IS.ex,IE.ev,IL.ev,IN.ev,II.ev,IC.ev,IO.ev,runI,xp,List.length_nil,if_true,xu,List.map_nil]
 generalize (p_bare_1.ev cf).1=B at *
 generalize binD .Mult=G at *
 generalize zs p=Z at *
 generalize (p:Int)=P at *
 generalize (s:Int)=S at *
 exact Kt f1 f2
noncomputable def Kl (cf:CF):Prop:=∀ (fr:List PyData) (cl ch:List (Str×PyData)),cl.length+ch.length<=1000000->cf "with_cloths" [.d (stV fr cl),.d (.dict (ch.map dK))]=.ok (.d (stV fr (zB cl ch))) [none,none]
theorem zbF(ds:List (Str×PyData)):(OV.m ds).view=.dict (ds.map dK):=rfl
theorem zdR(cf:CF)(hs:vb cf)(fr:List PyData)(cl ch:List (Str×PyData))(hl:cl.length+ch.length<=1000000):runI 3 [false,false] [] qM cf [.d (stV fr cl),.d (.dict (ch.map dK))]=.ok (.d (stV fr (zB cl ch))) [none,none]:=by
 have h1:=qd fr cl
 have h2:=jq cl
 have h3:=ZN fr cl
 have h4:=jq ch
 have e1:=hs (.list fr) (.dict ((zB cl ch).map dK))
 have hv:=zbF (zB cl ch)
 have hw:=YH fr (zB cl ch)
 generalize stV fr cl=D at *
 generalize hMC:zB cl ch=MC at e1 hv hw |-
 generalize stV fr MC=D2 at *
 generalize PyData.dict (MC.map dK)=MD at *
 generalize cl.map dK=CD at *
 generalize ch.map dK=HD at *
 dsimp! [qM,hMC,h1,h2,h3,h4,e1,hv,hw,hl,zC]
noncomputable def WA (cf:CF):Prop:=∀ (fr:List PyData) (cl:List (Str×PyData)) (n:Str),Nm n->zF cl n=none->cf "check_new" [.d (stV fr cl),.d (.str n)]=.ok (.d .none) [none,none]
theorem VO(cf:CF)(hi:J4 cf)(fr:List PyData)(cl:List (Str×PyData))(n:Str)(hn:Nm n)(hv:zF cl n=none):runI 2 [false,false] [] jD cf [.d (stV fr cl),.d (.str n)]=.ok (.d .none) [none,none]:=by
 have e1:=hi n hn
 have h1:=qd fr cl
 have h2:=jq cl
 generalize stV fr cl=D at *
 generalize cl.map dK=CD at *
 dsimp! [jD,e1,h1,h2,hv,zC]
noncomputable def Ki (cf:CF):Prop:=∀ (fr:List PyData) (cl:List (Str×PyData)) (n:Str) (k:Nat),Nm n->zF cl n=none->fr.length<=12->cl.length<=1000->k<=40->cf "behind_hang" [.d (stV fr cl),.d (.list [.str n,.int k])]=.ok (.d (stV fr (zB cl [(n,.list (List.replicate k (zQ fr.length)))]))) [none,none]
theorem zbE(xs:List PyData):(OV.l (xs.map .d)).view=.list xs:=by rw[OV.view,OV.views_d]
theorem zcp(cf:CF)(hw:Kl cf)(hc:WA cf)(hb:Kf cf)(fr:List PyData)(cl:List (Str×PyData))(n:Str)(k:Nat)(hn:Nm n)(hv:zF cl n=none)(hf:fr.length<=12)(hl:cl.length<=1000)(hk:k<=40) :
  runI 4 [false,false] [] qK cf [.d (stV fr cl),.d (.list [.str n,.int k])]=.ok (.d (stV fr (zB cl [(n,.list (List.replicate k (zQ fr.length)))]))) [none,none]:=by
 have e1:=hc fr cl n hn hv
 have e2:=hb fr.length k hf hk
 have e3:=hw fr cl [(n,.list (List.replicate k (zQ fr.length)))] (by simp;omega)
 have h1:=ZN fr cl
 have hv2:=zbE (List.replicate k (zQ fr.length))
 have hz:fr.length<=1000000:=by omega
 have hm:=zbF [(n,PyData.list (List.replicate k (zQ fr.length)))]
 have hk0:(0:Int)<=k:=by omega
 have hk1:(k:Int)<=40:=by omega
 generalize stV fr cl=D at *
 generalize stV fr (zB cl [(n,.list (List.replicate k (zQ fr.length)))])=D2 at *
 generalize PyData.dict (List.map dK [(n,PyData.list (List.replicate k (zQ fr.length)))])=MD at *
 generalize OV.l ((List.replicate k (zQ fr.length)).map .d)=BL at *
 generalize PyData.list (List.replicate k (zQ fr.length))=BD at *
 generalize (k:Int)=K at *
 dsimp! [qK,e1,e2,e3,h1,hv2,hm,hk0,hk1,zC]
theorem we(cf:CF)(hh:Ki cf)(fr:List PyData)(cl:List (Str×PyData))(n:Str)(k:Nat)(hn:Nm n)(hv:zF cl n=none)(hf:fr.length<=12)(hl:cl.length<=1000)(hk:k<=40) :
  runI 5 [false,false] [] wR cf [.d (stV fr cl),.d (.tuple [.str "hang",.str n,.int k])]=.ok (.d (stV fr (zB cl [(n,.list (List.replicate k (zQ fr.length)))]))) [none,none]:=by
 have e1:=hh fr cl n k hn hv hf hl hk
 generalize stV fr cl=D at *
 generalize stV fr (zB cl [(n,.list (List.replicate k (zQ fr.length)))])=D2 at *
 dsimp! [wR,e1,zC,zdA,List.lookup]
noncomputable def Kg (cf:CF) (S D S':PyData):Prop:=cf "behind" [.d S,.d D]=.ok (.d S') [none,none]
theorem zeG(cf:CF)(hn:Vj cf)(p:Int)(f:PyData)(dn un:List (PyData×PyData))(D S':PyData)(hl:dn.length<1000000)(hb:Kg cf (qE f dn) D S'):runI 4 [true,false] [0] ZR cf [hV p f dn un [],.d D]=.ok (.d .none) [some (hV p f (dn++ [(D,S')]) [] []),none]:=by
 have e1:=hn p f dn un []
 have e2:cf "behind" [.d (qE f dn),.d D]=.ok (.d S') [none,none]:=hb
 have h1:(prs dn).length=dn.length:=by unfold prs tps;simp
 have h2:=yM dn
 have h3:(tps dn++ [PyData.tuple [D,S']]).map OV.d=prs (dn++ [(D,S')]):=by unfold prs tps;simp
 have h4:(tps dn).length<1000000:=by unfold tps;simpa using hl
 have hv:(OV.m []).view=.dict []:=rfl
 have hu:unD []=some []:=rfl
 simp only[hV]at *
 generalize prs (dn++ [(D,S')])=P2 at *
 generalize qE f dn=NW at *
 generalize prs dn=P at *
 generalize tps dn=T at *
 generalize prs un=U at *
 have hp0:prs []= []:=rfl
 dsimp! [ZR,e1,e2,h1,h2,h3,h4,hv,hu,hp0,zC,qv]
theorem zcu(cf:CF)(hi:J4 cf)(p:Int)(f:PyData)(dn un:List (PyData×PyData))(pl:List (Str×PyData))(w:Str)(hw:Nm w)(hl:pl.length<1000000):runI 2 [true,false] [0] jk cf [hV p f dn un pl,.d (.str w)]=.ok (.d .none) [some (hV p f dn un (jJ pl w (.int dn.length))),none]:=by
 have e1:=hi w hw
 have h1:(prs dn).length=dn.length:=by unfold prs tps;simp
 simp only[hV]at *
 generalize prs dn=P at *
 generalize prs un=U at *
 dsimp! [jk,e1,h1,hl,zC,qv]
noncomputable def zbN (cf:CF):Prop:=∀ (fr:List PyData) (cl:List (Str×PyData)) (n:Str) (k:Nat),Nm n->zF cl n=none->fr.length<=12->cl.length<=1000->k<=40->cf "behind" [.d (stV fr cl),.d (.tuple [.str "hang",.str n,.int k])]=.ok (.d (stV fr (zB cl [(n,.list (List.replicate k (zQ fr.length)))]))) [none,none]
noncomputable def y8 (cf:CF):Prop:=∀ (p:Int) (fr:List PyData) (cl:List (Str×PyData)) (n:Str) (k:Nat),Nm n->zF cl n=none->fr.length<=12->cl.length<=1000->k<=40->cf "House.do" [hV p (stV fr cl) [] [] [],.d (.tuple [.str "hang",.str n,.int k])]=.ok (.d .none) [some (hV p (stV fr cl) ([]++ [(.tuple [.str "hang",.str n,.int k],stV fr (zB cl [(n,.list (List.replicate k (zQ fr.length)))]))]) [] []),none]
noncomputable def Kj (cf:CF):Prop:=∀ (p:Int) (f:PyData) (dn un:List (PyData×PyData)) (pl:List (Str×PyData)) (w:Str),Nm w->pl.length<1000000->cf "House.mark" [hV p f dn un pl,.d (.str w)]=.ok (.d .none) [some (hV p f dn un (jJ pl w (.int dn.length))),none]
noncomputable def tt(p:Nat):List PyData:=List.replicate p (.bool true)
noncomputable def rdD:PyData->Bool
 |.tuple [_,.bool b]=>b
 |_=>false
noncomputable def rdI:PyData->PyData
 |.tuple [i,_]=>i
 |_=>.none
theorem zaJ(p:Nat):((qy (tt p)).filter rdD).map rdI=zm p:=by
 have h1:∀ d∈qy (tt p),rdD d=true:=fun d hd=>by
  unfold qy tt at hd
  obtain⟨q,hq,rfl⟩:=ui.mp hd
  have:q.1=.bool true:=by
   have:=List.mem_zipIdx_iff_getElem? .. |>.mp hq
   rw[xz]at this
   split at this
   ·exact (Option.some.inj this).symm
   ·cases this
  rw[this];rfl
 rw[List.filter_eq_self.mpr h1]
 apply xI
 intro i
 unfold qy tt zm
 rw[ud,xt,List.getElem?_zipIdx,xz,xt]
 by_cases h:i<p
 ·rw[if_pos h,ub h]
  simp[rdI]
 ·rw[if_neg h,xo (by simpa using h)];rfl
theorem zaI(cf:CF)(ds:List PyData)(hd:∀ d∈ds,∃ (i:PyData) (b:Bool),d=.tuple [i,.bool b]){o0:Option OV}:zK 2 (.tp (.cons (.nm 0 1) (.cons (.nm 1 2) .nil))) (p_House_ready_1.ev cf) (p_House_ready_2.ev cf).1 ds [] [o0]=.ok ((ds.filter rdD).map rdI,[o0]):=by
 refine qj (k:=2) rdD rdI fun d h=>?_
 obtain⟨i,b,rfl⟩:=hd d h
 refine⟨[o0,some (.d i),some (.d (.bool b))],[o0,some (.d i),some (.d (.bool b))],rfl,?_,rfl,fun _=>⟨.dat i,[o0,some (.d i),some (.d (.bool b))],?_,rfl,rfl⟩⟩
 ·dsimp! [p_House_ready_1,rdD]
 ·dsimp! [p_House_ready_2]
noncomputable def Vh (cf:CF):Prop:=∀ (p:Int) (f:PyData) (dn un:List (PyData×PyData)) (pl:List (Str×PyData)) (q:Nat) (cl:List (Str×PyData)),q<=12->qE f dn=stV (tt q) cl->cf "House.ready" [hV p f dn un pl]=.ok (.l ((zm q).map .d)) [some (hV p f dn un pl)]
theorem Y5(cf:CF)(hn:Vj cf)(p:Int)(f:PyData)(dn un:List (PyData×PyData))(pl:List (Str×PyData))(q:Nat)(cl:List (Str×PyData))(hq:q<=12)(hs:qE f dn=stV (tt q) cl):runI 1 [true] [0] qI cf [hV p f dn un pl]=.ok (.l ((zm q).map .d)) [some (hV p f dn un pl)]:=by
 have e1:=hn p f dn un pl
 rw[hs]at e1
 have h1:=ZN (tt q) cl
 have e2:=zaI cf (qy (tt q)) (fun d hd=>by
  unfold qy tt at hd
  obtain⟨z,hz,rfl⟩:=ui.mp hd
  have:z.1=.bool true:=by
   have:=List.mem_zipIdx_iff_getElem? .. |>.mp hz
   rw[xz]at this
   split at this
   ·exact (Option.some.inj this).symm
   ·cases this
  exact⟨_,true,by rw[this]⟩) (o0:=some (hV p f dn un pl))
 rw[zaJ]at e2
 have hl:(qy (tt q)).length<=1000000:=by unfold qy tt;simp;omega
 have hl2:(tt q).length<=1000000:=by unfold tt;simp;omega
 have hns:hV p f dn un pl=.o "House" ["pots","first","done","undone","places"] [.d (.int p),.d f,.l (prs dn),.l (prs un),.m pl]:=rfl
 generalize stV (tt q) cl=D at *
 generalize [OV.d (.int p),.d f,.l (prs dn),.l (prs un),.m pl]=XS at *
 generalize hV p f dn un pl=HH at *
 subst hns
 unfold qI
 generalize p_House_ready_1=B1 at *
 generalize p_House_ready_2=B2 at *
 dsimp! [e1,h1,e2,hl,hl2,zC,qv]
noncomputable def Vi (cf:CF):Prop:=∀ (p:Int) (f:PyData) (dn un:List (PyData×PyData)) (pl:List (Str×PyData)) (fr:List PyData),qE f dn=stV fr []->cf "House.names" [hV p f dn un pl]=.ok (.l []) [some (hV p f dn un pl)]
theorem kl(cf:CF)(hn:Vj cf)(p:Int)(f:PyData)(dn un:List (PyData×PyData))(pl:List (Str×PyData))(fr:List PyData)(hs:qE f dn=stV fr []):runI 1 [true] [0] qH cf [hV p f dn un pl]=.ok (.l []) [some (hV p f dn un pl)]:=by
 have e1:=hn p f dn un pl
 rw[hs]at e1
 have h1:=qd fr []
 have h2:unD ([]:List (PyData×PyData))=some []:=rfl
 have h3:qB []= []:=by unfold qB;simp
 rw[List.map_nil]at h1
 have hns:hV p f dn un pl=.o "House" ["pots","first","done","undone","places"] [.d (.int p),.d f,.l (prs dn),.l (prs un),.m pl]:=rfl
 generalize stV fr []=D at *
 generalize [OV.d (.int p),.d f,.l (prs dn),.l (prs un),.m pl]=XS at *
 generalize hV p f dn un pl=HH at *
 subst hns
 dsimp! [qH,e1,h1,h2,h3,zC,qv]
theorem zcG(cf:CF){p q:Nat}(hq:q<=12){o0 o2 o3 o4 o5 o6 o7:Option OV}{KP:PyData}{C:PyData}(hk:KP=.list [.int q,.list (tt q),C]):zK 1 (.nm 0 8) (b_law_stands_1.ev cf) (b_law_stands_2.ev cf).1 (zm q) [] [o0,some (.d KP),o2,o3,o4,o5,o6,o7]=.ok (zm q,[o0,some (.d KP),o2,o3,o4,o5,o6,o7]):=by
 have e:=qj (k:=1) (t:=.nm 0 8) (cond:=b_law_stands_1.ev cf) (elt:=(b_law_stands_2.ev cf).1) (ds:=zm q) (Γ:= [o0,some (.d KP),o2,o3,o4,o5,o6,o7]) (fun _=>true) (fun d=>d) (by
  intro x hx
  obtain⟨i,hi⟩:=List.getElem?_of_mem hx
  obtain⟨hlt,rfl⟩:=jo hi
  refine⟨[o0,some (.d KP),o2,o3,o4,o5,o6,o7,some (.d (.int i))],[o0,some (.d KP),o2,o3,o4,o5,o6,o7,some (.d (.int i))],rfl,?_,rfl,fun _=>⟨.dat (.int i),[o0,some (.d KP),o2,o3,o4,o5,o6,o7,some (.d (.int i))],?_,rfl,rfl⟩⟩
  ·have h1:atI [.int q,.list (tt q),C] 1=some (.list (tt q)):=rfl
   have h2:atI (tt q) (i:Int)=some (.bool true):=by
    unfold tt
    exact Ye (by rw[xz,if_pos hlt])
   generalize tt q=TQ at *
   generalize [PyData.int q,.list TQ,C]=KL at *
   subst hk
   generalize (i:Int)=I at *
   dsimp! [b_law_stands_1,h1,h2]
  ·dsimp! [b_law_stands_2])
 rw[qW,List.map_id']at e
 exact e
theorem ke(q:Nat):lay 20 (.list (zm q))=true:=by
 show (zm q).all (lay 19)=true
 rw[xA]
 intro x hx
 obtain⟨i,hi⟩:=List.getElem?_of_mem hx
 obtain⟨_,rfl⟩:=jo hi
 rfl
noncomputable def WB (cf:CF):Prop:=∀ (p:Int) (f:PyData) (dn un:List (PyData×PyData)) (pl:List (Str×PyData)) (q:Nat),q<=12->qE f dn=stV (tt q) []->cf "_law_stands" [hV p f dn un pl,.d (.list [.int q,.list (tt q),.dict []])]=.ok (.d (.bool true)) [some (hV p f dn un pl),none]
theorem yS(cf:CF)(hr:Vh cf)(hn:Vi cf)(hw:Vk cf)(p:Int)(f:PyData)(dn un:List (PyData×PyData))(pl:List (Str×PyData))(q:Nat)(hq:q<=12)(hs:qE f dn=stV (tt q) []):runI 8 [true,false] [0] jd cf [hV p f dn un pl,.d (.list [.int q,.list (tt q),.dict []])]=.ok (.d (.bool true)) [some (hV p f dn un pl),none]:=by
 have e1:=hr p f dn un pl q [] hq hs
 have e2:=hn p f dn un pl (tt q) hs
 have e3:cf "_law_wholes" [.d (.list (zm q))]=.ok (.d (.bool true)) [none]:=hw (List.range q) (by simp;omega)
 have v1:=zbE (zm q)
 have v2:(OV.l []).view=.list []:=rfl
 have e4:=zcG cf (p:=0) hq (o0:=some (hV p f dn un pl)) (o2:=some (.d (.list (zm q)))) (o3:=some (.d (.list []))) (o4:=none) (o5:=none) (o6:=none) (o7:=none) (KP:=.list [.int q,.list (tt q),.dict []]) rfl
 have a0:atI [PyData.int q,.list (tt q),.dict []] 0=some (.int q):=rfl
 have a2:atI [PyData.int q,.list (tt q),.dict []] 2=some (.dict []):=rfl
 have hy:=ke q
 have hv:=J0 hy
 have hy0:lay 20 (.list [])=true:=rfl
 have hv0:=J0 hy0
 have h2:unD ([]:List (PyData×PyData))=some []:=rfl
 have h3:qB []= []:=by unfold qB;simp
 have hz: -1000000<=(q:Int)/\(q:Int)<=1000000:=by omega
 have hn2:(q:Int).toNat=q:=by omega
 have hl:(zm q).length<=1000000:=by rw[zo];omega
 have hns:hV p f dn un pl=.o "House" ["pots","first","done","undone","places"] [.d (.int p),.d f,.l (prs dn),.l (prs un),.m pl]:=rfl
 generalize [OV.d (.int p),.d f,.l (prs dn),.l (prs un),.m pl]=XS at *
 generalize hV p f dn un pl=HH at *
 generalize tt q=TQ at *
 generalize hK:PyData.list [PyData.int q,.list TQ,.dict []]=KK at *
 generalize [PyData.int q,.list TQ,.dict []]=KL at *
 subst hK
 generalize (q:Int)=Q at *
 unfold jd
 generalize b_law_stands_1=B1 at *
 generalize b_law_stands_2=B2 at *
 generalize jz=B7 at *
 generalize hRR:zm q=RR at *
 subst hns
 dsimp! [e1,e2,e3,e4,v1,v2,a0,a2,hy,hv,hy0,hv0,h2,h3,hz,hn2,hl,hRR,zC,qv,Jv]
noncomputable def Wv (w:Nat):String:=if w<=1 then "NothingLeft" else if w=2 then "NoMark" else "NoCloth"
structure J5(cf:CF):Prop where
 undo:∀ p f un pl,cf "House.undo" [hV p f [] un pl]=.exc ⟨"NothingLeft",.none⟩ [some (hV p f [] un pl)]
 redo:∀ p f dn pl,cf "House.redo" [hV p f dn [] pl]=.exc ⟨"NothingLeft",.none⟩ [some (hV p f dn [] pl)]
 go:∀ p f dn un w,cf "House.go" [hV p f dn un [],.d (.str w)]=.exc ⟨"NoMark",.none⟩ [some (hV p f dn un []),none]
 stains:∀ p f dn un pl fr cl n,qE f dn=stV fr cl->zF cl n=none->cf "House.stains" [hV p f dn un pl,.d (.str n)]=.exc ⟨"NoCloth",.none⟩ [some (hV p f dn un pl),none]
 wishes:∀ p f dn un pl fr cl n,qE f dn=stV fr cl->zF cl n=none->cf "House.wishes" [hV p f dn un pl,.d (.str n)]=.exc ⟨"NoCloth",.none⟩ [some (hV p f dn un pl),none]
 waxed:∀ p f dn un pl fr cl n,qE f dn=stV fr cl->zF cl n=none->cf "House.waxed" [hV p f dn un pl,.d (.str n)]=.exc ⟨"NoCloth",.none⟩ [some (hV p f dn un pl),none]
 book:∀ p f un pl,cf "House.book" [hV p f [] un pl]=.ok (.l []) [some (hV p f [] un pl)]
 ahead:∀ p f dn pl,cf "House.ahead" [hV p f dn [] pl]=.ok (.l []) [some (hV p f dn [] pl)]
 marks:∀ p f dn un,cf "House.marks" [hV p f dn un []]=.ok (.l []) [some (hV p f dn un [])]
noncomputable def ZH (cf:CF):Prop:=∀ (p:Int) (fr:List PyData) (n:Str) (w:Nat),w<6->cf "_law_refused" [hV p (stV fr []) [] [] [],.d (.str n),.d (.int w)]=.ok (.d (.str (Wv w))) [some (hV p (stV fr []) [] [] []),none,none]
theorem VV(cf:CF)(h:J5 cf)(p:Int)(fr:List PyData)(n:Str)(w:Nat)(hw:w<6):runI 4 [true,false,false] [0] qD cf [hV p (stV fr []) [] [] [],.d (.str n),.d (.int w)]=.ok (.d (.str (Wv w))) [some (hV p (stV fr []) [] [] []),none,none]:=by
 have e0:=h.undo p (stV fr []) [] []
 have e1:=h.redo p (stV fr []) [] []
 have e2:=h.go p (stV fr []) [] [] n
 have e3:=h.stains p (stV fr []) [] [] [] fr [] n rfl rfl
 have e4:=h.wishes p (stV fr []) [] [] [] fr [] n rfl rfl
 have e5:=h.waxed p (stV fr []) [] [] [] fr [] n rfl rfl
 have hns:hV p (stV fr []) [] [] []=.o "House" ["pots","first","done","undone","places"] [.d (.int p),.d (stV fr []),.l (prs []),.l (prs []),.m []]:=rfl
 have hy:∀ i:Int,lay 20 (.int i)=true:=fun _=>rfl
 generalize [OV.d (.int p),.d (stV fr []),.l (prs []),.l (prs []),.m []]=XS at *
 generalize hV p (stV fr []) [] [] []=HH at *
 subst hns
 have hc:w=0∨w=1∨w=2∨w=3∨w=4∨w=5:=by omega
 rcases hc with rfl | rfl | rfl | rfl | rfl | rfl
 all_goals dsimp! [qD,e0,e1,e2,e3,e4,e5,hy,zcj,Wv,zC,qv,HC.D]
theorem zhe(cf:CF){o0 o1 o2 o3:Option OV}(q:Nat):zK 1 (.nm 0 4) fYes (b_law_empty_1.ev cf).1 (zm q) [] [o0,o1,o2,o3]=.ok (tt q,[o0,o1,o2,o3]):=by
 have e:=qj (k:=1) (t:=.nm 0 4) (cond:=fYes) (elt:=(b_law_empty_1.ev cf).1) (ds:=zm q) (Γ:= [o0,o1,o2,o3]) (fun _=>true) (fun _=>.bool true) (by
  intro x hx
  refine⟨[o0,o1,o2,o3,some (.d x)],_,rfl,rfl,rfl,fun _=>⟨.dat (.bool true),[o0,o1,o2,o3,some (.d x)],?_,rfl,rfl⟩⟩
  dsimp! [b_law_empty_1])
 rw[qW,List.map_const',zo]at e
 exact e
noncomputable def VA:List PyData:= [.str "NothingLeft",.str "NothingLeft",.str "NoMark",.str "NoCloth",.str "NoCloth",.str "NoCloth"]
theorem zct:lay 20 (.list VA)=true:=zac fun x hx=>by
 simp only[VA,xv,List.not_mem_nil,or_false]at hx
 rcases hx with rfl | rfl | rfl | rfl | rfl | rfl<;>exact zeY _ _
theorem zcV(cf:CF)(hr:ZH cf)(p:Int)(fr:List PyData)(n:Str){o1 o3:Option OV}:zK 1 (.nm 0 4) fYes (b_law_empty_2.ev cf).1 (zm 6) [] [some (hV p (stV fr []) [] [] []),o1,some (.d (.str n)),o3]=.ok (VA,[some (hV p (stV fr []) [] [] []),o1,some (.d (.str n)),o3]):=by
 have hs:VA=(List.range 6).map fun w=>.str (Wv w):=by
  unfold VA
  simp[Wv,List.range,List.range.loop]
 obtain⟨ys,Γ',e,hy,rfl⟩:=wm (k:=1) (t:=.nm 0 4) (cond:=fYes) (elt:=(b_law_empty_2.ev cf).1) (ds:=zm 6) (Γ:= [some (hV p (stV fr []) [] [] []),o1,some (.d (.str n)),o3]) (fun pre ys Γ=>ys=(List.range pre.length).map (fun w=>.str (Wv w))/\Γ= [some (hV p (stV fr []) [] [] []),o1,some (.d (.str n)),o3]) ⟨rfl,rfl⟩ (by
  rintro pre d post e ys Γ ⟨rfl,rfl⟩
  have hi:(zm 6)[pre.length]?=some d:=by rw[e];simp
  obtain⟨hlt,rfl⟩:=jo hi
  have q:=hr p fr n pre.length hlt
  refine⟨[some (hV p (stV fr []) [] [] []),o1,some (.d (.str n)),o3,some (.d (.int pre.length))],true,_,rfl,rfl,fun _=>⟨.dat (.str (Wv pre.length)),[some (hV p (stV fr []) [] [] []),o1,some (.d (.str n)),o3,some (.d (.int pre.length))],.str (Wv pre.length),?_,rfl,?_,rfl⟩,fun z=>nomatch z⟩
  ·generalize hV p (stV fr []) [] [] []=HH at *
   generalize Str.ofString (Wv pre.length)=SD at *
   generalize (pre.length:Int)=PL at *
   dsimp! [b_law_empty_2,q,zC]
  ·rw[xK,List.length_singleton,List.range_succ,List.map_append];rfl)
 rw[e,hy,hs,zo]
noncomputable def Vg (cf:CF):Prop:=∀ (q:Nat) (n:Str),q<=12->cf "_law_empty" [hV q (stV (tt q) []) [] [] [],.d (.int q),.d (.str n)]=.ok (.d (.bool true)) [some (hV q (stV (tt q) []) [] [] []),none,none]
theorem YZ(cf:CF)(h:J5 cf)(hs:WB cf)(hr:ZH cf)(q:Nat)(n:Str)(hq:q<=12):runI 4 [true,false,false] [0] jw cf [hV q (stV (tt q) []) [] [] [],.d (.int q),.d (.str n)]=.ok (.d (.bool true)) [some (hV q (stV (tt q) []) [] [] []),none,none]:=by
 have e1:=hs q (stV (tt q) []) [] [] [] q hq rfl
 have e2:=h.book q (stV (tt q) []) [] []
 have e3:=h.ahead q (stV (tt q) []) [] []
 have e4:=h.marks q (stV (tt q) []) [] []
 have e5:=zcV cf hr q (tt q) n (o1:=some (.d (.int q))) (o3:=some (.d (.list VA)))
 have e6:=zhe cf (o0:=some (hV q (stV (tt q) []) [] [] [])) (o1:=some (.d (.int q))) (o2:=some (.d (.str n))) (o3:=none) q
 have v2:(OV.l []).view=.list []:=rfl
 have v3:(OV.m []).view=.dict []:=rfl
 have hy0:lay 20 (.list [])=true:=rfl
 have hv0:=J0 hy0
 have hy:=zct
 have hv:=J0 hy
 have hz: -1000000<=(q:Int)/\(q:Int)<=1000000:=by omega
 have hn2:(q:Int).toNat=q:=by omega
 have hl:(zm q).length<=1000000:=by rw[zo];omega
 have h6:(zm 6).length<=1000000:=by rw[zo];omega
 have hz6:((6:Int)).toNat=6:=rfl
 have hd:VA= [.str "NothingLeft",.str "NothingLeft",.str "NoMark",.str "NoCloth",.str "NoCloth",.str "NoCloth"]:=rfl
 have hns:hV q (stV (tt q) []) [] [] []=.o "House" ["pots","first","done","undone","places"] [.d (.int q),.d (stV (tt q) []),.l (prs []),.l (prs []),.m []]:=rfl
 generalize [OV.d (.int q),.d (stV (tt q) []),.l (prs []),.l (prs []),.m []]=XS at *
 generalize hV q (stV (tt q) []) [] [] []=HH at *
 generalize tt q=TQ at *
 generalize (q:Int)=Q at *
 generalize hRR:zm q=RR at *
 generalize hR6:zm 6=R6 at *
 generalize hDD:VA=DD at *
 subst hns
 unfold jw
 generalize b_law_empty_1=B1 at *
 generalize b_law_empty_2=B2 at *
 dsimp! [e1,e2,e3,e4,e5,e6,v2,v3,hy0,hv0,hy,hv,hz,hn2,hl,h6,hz6,hRR,hR6,<- hd,zC,qv]
noncomputable def top(i:Nat):Stmt:=PySem.Challenge.pw_waxcloth_k35_a_new_house.main.body.getD i (.Pass ⟨0,0,0,0⟩)
noncomputable def zA(i j:Nat):Stmt:=match top i with
 |.ClassDef _ _ _ b _ _ _ _ _ _ _=>b.getD j (.Pass ⟨0,0,0,0⟩)
 |s=>s
noncomputable def zeF:DefI:=⟨"_wall",top 0,["k"],["k"],[false],[],z6,.fn⟩
noncomputable def KF:DefI:=⟨"bare",top 18,["pots","size"],["pots","size","clear"],[false,false],[],yL,.fn⟩
noncomputable def Wr:DefI:=⟨"with_wish",top 19,["bolt","at","wish"],["bolt","at","wish","stain","waxed","gone"],[false,false,false],[],Zu,.fn⟩
noncomputable def vA:DefI:=⟨"with_wax",top 20,["bolt","cells"],["bolt","cells"],[false,false],[],qm,.fn⟩
noncomputable def yv:DefI:=⟨"dipped",top 21,["bolt","dye"],["bolt","dye"],[false,false],[],W1,.fn⟩
noncomputable def yu:DefI:=⟨"boiled",top 22,["bolt"],["bolt"],[false],[],z6,.fn⟩
noncomputable def vy:DefI:=⟨"has_cell",top 23,["bolt","at"],["bolt","at"],[false,false],[],z6,.fn⟩
noncomputable def wy:DefI:=⟨"is_picture",top 24,["shades","pots"],["shades","pots"],[false,false],[],z6,.fn⟩
noncomputable def vw:DefI:=⟨"deepened",top 25,["stain","dye"],["stain","dye"],[false,false],[],z6,.fn⟩
noncomputable def Vy:DefI:=⟨"is_name",top 29,["text"],["text"],[false],[],Jh,.fn⟩
noncomputable def ZM:DefI:=⟨"Stand.__init__",zA 32 0,["self","fresh","cloths"],["self","fresh","cloths"],[true,false,false],[0],qY,.ini "Stand"⟩
noncomputable def Wq:DefI:=⟨"new_stand",top 33,["pots"],["pots"],[false],[],jF,.fn⟩
noncomputable def JK:DefI:=⟨"behind_hang",top 34,["stand","parts"],["stand","parts","name","size"],[false,false],[],qK,.fn⟩
noncomputable def JJ:DefI:=⟨"behind_fold",top 35,["stand","parts"],["stand","parts","name"],[false,false],[],qm,.fn⟩
noncomputable def JL:DefI:=⟨"behind_twin",top 36,["stand","parts"],["stand","parts","name","new"],[false,false],[],Zu,.fn⟩
noncomputable def JM:DefI:=⟨"behind_wish",top 37,["stand","parts"],["stand","parts","name","at","wish"],[false,false],[],qm,.fn⟩
noncomputable def wx:DefI:=⟨"behind_wax",top 38,["stand","parts"],["stand","parts","name","cells"],[false,false],[],qm,.fn⟩
noncomputable def ww:DefI:=⟨"behind_dip",top 39,["stand","parts"],["stand","parts","names","dye","changed"],[false,false],[],ku,.fn⟩
noncomputable def JG:DefI:=⟨"behind_boil",top 40,["stand","parts"],["stand","parts","names"],[false,false],[],qm,.fn⟩
noncomputable def JH:DefI:=⟨"behind_brew",top 41,["stand","parts"],["stand","parts","dye"],[false,false],[],Zu,.fn⟩
noncomputable def yt:DefI:=⟨"behind",top 43,["stand","deed"],["stand","deed","word","parts","change"],[false,false],[],wR,.fn⟩
noncomputable def JP:DefI:=⟨"with_cloths",top 44,["stand","changed"],["stand","changed","cloths"],[false,false],[],qM,.fn⟩
noncomputable def vz:DefI:=⟨"with_pot",top 45,["stand","dye","is_fresh"],["stand","dye","is_fresh","fresh"],[false,false,false],[],qm,.fn⟩
noncomputable def Wp:DefI:=⟨"check_new",top 46,["stand","name"],["stand","name"],[false,false],[],jD,.fn⟩
noncomputable def JN:DefI:=⟨"check_hangs",top 47,["stand","name"],["stand","name"],[false,false],[],qL,.fn⟩
noncomputable def JO:DefI:=⟨"check_names",top 48,["stand","names"],["stand","names","name"],[false,false],[],W1,.fn⟩
noncomputable def Wo:DefI:=⟨"check_dye",top 49,["stand","dye"],["stand","dye"],[false,false],[],z6,.fn⟩
noncomputable def Vx:DefI:=⟨"bolt_of",top 51,["stand","names"],["stand","names","bolt","name"],[false,false],[],Zu,.fn⟩
noncomputable def ZL:DefI:=⟨"House.__init__",zA 53 0,["self","pots"],["self","pots"],[true,false],[0],z4,.ini "House"⟩
noncomputable def vq:DefI:=⟨"House.do",zA 53 1,["self","deed"],["self","deed","stand","many"],[true,false],[0],ZR,.me "House" "do"⟩
noncomputable def wv:DefI:=⟨"House.undo",zA 53 2,["self"],["self","pair"],[true],[0],jm,.me "House" "undo"⟩
noncomputable def wu:DefI:=⟨"House.redo",zA 53 3,["self"],["self","pair"],[true],[0],jl,.me "House" "redo"⟩
noncomputable def wr:DefI:=⟨"House.book",zA 53 4,["self"],["self"],[true],[0],jj,.me "House" "book"⟩
noncomputable def JA:DefI:=⟨"House.ahead",zA 53 5,["self"],["self"],[true],[0],qF,.me "House" "ahead"⟩
noncomputable def wt:DefI:=⟨"House.mark",zA 53 6,["self","word"],["self","word"],[true,false],[0],jk,.me "House" "mark"⟩
noncomputable def vt:DefI:=⟨"House.go",zA 53 7,["self","word"],["self","word"],[true,false],[0],ZS,.me "House" "go"⟩
noncomputable def JC:DefI:=⟨"House.marks",zA 53 8,["self"],["self"],[true],[0],qG,.me "House" "marks"⟩
noncomputable def JD:DefI:=⟨"House.names",zA 53 9,["self"],["self"],[true],[0],qH,.me "House" "names"⟩
noncomputable def JE:DefI:=⟨"House.ready",zA 53 10,["self"],["self"],[true],[0],qI,.me "House" "ready"⟩
noncomputable def Q8:DefI:=⟨"House.stains",zA 53 11,["self","name"],["self","name"],[true,false],[0],qt,.me "House" "stains"⟩
noncomputable def Q9:DefI:=⟨"House.wishes",zA 53 12,["self","name"],["self","name"],[true,false],[0],qu,.me "House" "wishes"⟩
noncomputable def JF:DefI:=⟨"House.waxed",zA 53 13,["self","name"],["self","name"],[true,false],[0],qJ,.me "House" "waxed"⟩
noncomputable def wq:DefI:=⟨"House.bolt",zA 53 14,["self","names"],["self","names"],[true,false],[0],z6,.me "House" "bolt"⟩
noncomputable def Wn:DefI:=⟨"House.now",zA 53 21,["self"],["self"],[true],[0],qA,.me "House" "now"⟩
noncomputable def JB:DefI:=⟨"House.cloth",zA 53 22,["self","name"],["self","name","stand"],[true,false],[0],z9,.me "House" "cloth"⟩
noncomputable def Vw:DefI:=⟨"_law_whole",top 55,["_law_found"],["_law_found"],[false],[],jA,.fn⟩
noncomputable def vp:DefI:=⟨"_law_wholes",top 56,["_law_found"],["_law_found"],[false],[],je,.fn⟩
noncomputable def vn:DefI:=⟨"_law_shades",top 57,["_law_found","_law_pots"],["_law_found","_law_pots"],[false,false],[],vg,.fn⟩
noncomputable def Vu:DefI:=⟨"_law_mixed",top 59,["_law_number","_law_turn"],["_law_number","_law_turn","_law_one","_law_two"],[false,false],[],jx,.fn⟩
noncomputable def yr:DefI:=⟨"_law_take",top 60,["_law_box_here","_law_many"],["_law_box_here","_law_many","_law_left","_law_cell"],[true,false],[0],zY,.fn⟩
noncomputable def Wl:DefI:=⟨"_law_letters",top 61,[],[],[],[],qC,.fn⟩
noncomputable def Vv:DefI:=⟨"_law_named",top 62,["_law_box_here"],["_law_box_here","_law_many"],[true],[0],jy,.fn⟩
noncomputable def wo:DefI:=⟨"_law_pictures",top 63,["_law_found","_law_due"],["_law_found","_law_due"],[false,false],[],J8,.fn⟩
noncomputable def vo:DefI:=⟨"_law_stands",top 64,["_law_house","_law_kept"],["_law_house","_law_kept","_law_ready","_law_names","_law_pans","_law_name","_law_rows","_law_waxed"],[true,false],[0],jd,.fn⟩
noncomputable def Wm:DefI:=⟨"_law_refused",top 65,["_law_house","_law_name","_law_way"],["_law_house","_law_name","_law_way","_law_said"],[true,false,false],[0],qD,.fn⟩
noncomputable def Vt:DefI:=⟨"_law_empty",top 66,["_law_house","_law_pots","_law_name"],["_law_house","_law_pots","_law_name","_law_due"],[true,false,false],[0],jw,.fn⟩
noncomputable def defs:List DefI:=(zeF::KF::Wr::vA::yv::yu::vy::wy::vw::Vy::ZM::Wq::JK::JJ::JL::JM::wx::ww::JG::JH::yt::JP::vz::Wp::JN::JO::Wo::Vx::ZL::vq::wv::wu::wr::JA::wt::vt::JC::JD::JE::Q8::Q9::JF::wq::Wn::JB::Vw::vp::vn::Vu::yr::Wl::Vv::wo::vo::Wm::Vt:: [])
noncomputable def lawB:IB:=(.cons (.asg 2 2 (.dat (.call (.call "_law_take" 2 (.io 1 1 (.cons (.cint 13) .nil)))))) (.cons (.asg 3 3 (.make "House" "House.__init__" 2 (.cons (.var 2 2) .nil))) (.cons (.asg 4 4 (.make "House" "House.__init__" 2 (.cons (.bin .Mod (.bin .Add (.bin .Add (.var 2 2) (.cint 1)) (.call (.call "_law_take" 2 (.io 1 1 (.cons (.cint 12) .nil))))) (.cint 13)) .nil))) (.cons (.asg 5 5 (.dat (.call (.call "_law_named" 1 (.io 1 1 .nil))))) (.cons (.ite (.not (.call (.call "_law_empty" 3 (.io 3 3 (.cons (.var 2 2) (.cons (.var 5 5) .nil)))))) (.cons (.ret (.dat (.cbool false))) .nil) .nil) (.cons (.expr (.call (.meth 4 4 "House" "do" "House.do" 2 (.cons (.tup (.cons (.cstr "hang") (.cons (.var 5 5) (.cons (.call (.call "_law_take" 2 (.io 1 1 (.cons (.cint 4) .nil)))) .nil)))) .nil)))) (.cons (.expr (.call (.meth 4 4 "House" "mark" "House.mark" 2 (.cons (.var 5 5) .nil)))) (.cons (.ret (.call "_law_empty" 3 (.io 3 3 (.cons (.var 2 2) (.cons (.var 5 5) .nil))))) .nil))))))))
noncomputable def W:Wd:=⟨["all","bool","dict","enumerate","int","isinstance","len","list","range","reversed","sorted","tuple"],[("MOST_CELLS",40),("MOST_LETTERS",8)],[("LETTERS","abcdefghijklmnopqrstuvwxyz")],(("_wall",1)::("bare",2)::("with_wish",3)::("with_wax",2)::("dipped",2)::("boiled",1)::("has_cell",2)::("is_picture",2)::("deepened",2)::("is_name",1)::("new_stand",1)::("behind_hang",2)::("behind_fold",2)::("behind_twin",2)::("behind_wish",2)::("behind_wax",2)::("behind_dip",2)::("behind_boil",2)::("behind_brew",2)::("behind",2)::("with_cloths",2)::("with_pot",3)::("check_new",2)::("check_hangs",2)::("check_names",2)::("check_dye",2)::("bolt_of",2)::("_law_whole",1)::("_law_wholes",1)::("_law_shades",2)::("_law_mixed",2)::("_law_take",2)::("_law_letters",0)::("_law_named",1)::("_law_pictures",2)::("_law_stands",2)::("_law_refused",3)::("_law_empty",3):: []),["BadSize","NoCloth","NoMark","NoName","NothingLeft","Taken"],[("DEEDS",[("hang","behind_hang"),("fold","behind_fold"),("twin","behind_twin"),("wish","behind_wish"),("wax","behind_wax"),("dip","behind_dip"),("boil","behind_boil"),("brew","behind_brew")])],[("House","done"),("House","first"),("House","places"),("House","pots"),("House","undone"),("Stand","cloths"),("Stand","fresh")],[("House","House.__init__",2),("Stand","Stand.__init__",3)],[("House","ahead","House.ahead",1),("House","book","House.book",1),("House","cloth","House.cloth",2),("House","do","House.do",2),("House","go","House.go",2),("House","mark","House.mark",2),("House","marks","House.marks",1),("House","names","House.names",1),("House","now","House.now",1),("House","ready","House.ready",1),("House","redo","House.redo",1),("House","stains","House.stains",2),("House","undo","House.undo",1),("House","waxed","House.waxed",2),("House","wishes","House.wishes",2)]⟩
noncomputable abbrev sBox:Stmt:=top 58
noncomputable abbrev sLaw:Stmt:=top 67
noncomputable def LN:List Str:= ["_law_script","_law_box_here","_law_pots","_law_house","_law_other","_law_name"]
theorem okLaw:lawB.chk W (defScope sLaw) LN (List.range LN.length) LN.length 0 (defBody sLaw).tail=true:=by kernel_rfl
structure zgg(cf:CF):Prop where
 take:yi cf
 named:Yc cf
 house:Ya cf
 empty0:Vg cf
 hdo:y8 cf
 mark:Kj cf
theorem ok35(n:Nat):zgg (zg defs (n+12)):=by
 have hmixed:∀ k,Yb (zg defs (k+1)):=fun k a b=>zaf (zg defs k) a b
 have htake:∀ k,yi (zg defs (k+2)):=fun k b hb n h1 h2=>zdH (zg defs (k+1)) (hmixed k) hb h1 h2
 have hletters:∀ k,Wz (zg defs (k+1)):=fun k=>yE (zg defs k)
 have hnamed:∀ k,Yc (zg defs (k+3)):=fun k b hb=>zah (zg defs (k+2)) (htake k) (hletters (k+1)) hb
 have hstand:∀ k,vb (zg defs (k+1)):=fun k a b=>zbf (zg defs k) a b
 have hnew:∀ k,zdW (zg defs (k+2)):=fun k p hp=>ze3 (zg defs (k+1)) (hstand k) hp
 have hhouse:∀ k,Ya (zg defs (k+3)):=fun k p hp=>K5 (zg defs (k+2)) (hnew k) hp
 have hnow:∀ k,Vj (zg defs (k+1)):=fun k p f dn un pl=>ze4 (zg defs k) p f dn un pl
 have hhangs:∀ k,y9 (zg defs (k+1)):=fun k fr cl n=>K3 (zg defs k) fr cl n
 have hcloth:∀ k,JX (zg defs (k+2)):=fun k p f dn un pl fr cl n hq=>KC (zg defs (k+1)) (hnow k) (hhangs k) p f dn un pl fr cl n hq
 have hmeth0:∀ k,J5 (zg defs (k+3)):=fun k=>⟨fun p f un pl=>zbz (zg defs (k+2)) p f un pl,fun p f dn pl=>zaK (zg defs (k+2)) p f dn pl,fun p f dn un w=>zgv (zg defs (k+2)) p f dn un w,fun p f dn un pl fr cl n hq hv=>kL (zg defs (k+2)) (hcloth k) p f dn un pl fr cl n hq hv,fun p f dn un pl fr cl n hq hv=>k9 (zg defs (k+2)) (hcloth k) p f dn un pl fr cl n hq hv,fun p f dn un pl fr cl n hq hv=>zbH (zg defs (k+2)) (hcloth k) p f dn un pl fr cl n hq hv,fun p f un pl=>Ku (zg defs (k+2)) p f un pl,fun p f dn pl=>YN (zg defs (k+2)) p f dn pl,fun p f dn un=>ki (zg defs (k+2)) p f dn un⟩
 have hhready:∀ k,Vh (zg defs (k+2)):=fun k p f dn un pl q cl hq hs=>Y5 (zg defs (k+1)) (hnow k) p f dn un pl q cl hq hs
 have hnames0:∀ k,Vi (zg defs (k+2)):=fun k p f dn un pl fr hs=>kl (zg defs (k+1)) (hnow k) p f dn un pl fr hs
 have hwhole:∀ k,Yd (zg defs (k+1)):=fun k i=>zbI (zg defs k) i
 have hwholes:∀ k,Vk (zg defs (k+2)):=fun k xs hx=>k8 (zg defs (k+1)) (hwhole k) hx
 have hstands0:∀ k,WB (zg defs (k+3)):=fun k p f dn un pl q hq hs=>yS (zg defs (k+2)) (hhready k) (hnames0 k) (hwholes k) p f dn un pl q hq hs
 have hrefused0:∀ k,ZH (zg defs (k+4)):=fun k p fr n w hw=>VV (zg defs (k+3)) (hmeth0 k) p fr n w hw
 have hempty0:∀ k,Vg (zg defs (k+5)):=fun k q n hq=>YZ (zg defs (k+4)) (hmeth0 (k+1)) (hstands0 (k+1)) (hrefused0 k) q n hq
 have hwith:∀ k,Kl (zg defs (k+2)):=fun k fr cl ch hl=>zdR (zg defs (k+1)) (hstand k) fr cl ch hl
 have hisname:∀ k,J4 (zg defs (k+1)):=fun k n h=>yC (zg defs k) h
 have hnewname:∀ k,WA (zg defs (k+2)):=fun k fr cl n hn hv=>VO (zg defs (k+1)) (hisname k) fr cl n hn hv
 have hbare:∀ k,Kf (zg defs (k+1)):=fun k p s hp hs=>zb0 (zg defs k) hp hs
 have hhang:∀ k,Ki (zg defs (k+3)):=fun k fr cl n i hn hv hf hl hk=>zcp (zg defs (k+2)) (hwith k) (hnewname k) (hbare (k+1)) fr cl n i hn hv hf hl hk
 have hbhang:∀ k,zbN (zg defs (k+4)):=fun k fr cl n i hn hv hf hl hk=>we (zg defs (k+3)) (hhang k) fr cl n i hn hv hf hl hk
 have hhdo:∀ k,y8 (zg defs (k+5)):=fun k p fr cl n i hn hv hf hl hk=>zeG (zg defs (k+4)) (hnow (k+3)) p _ [] [] _ _ (by decide) (hbhang k fr cl n i hn hv hf hl hk)
 have hmark:∀ k,Kj (zg defs (k+2)):=fun k p f dn un pl w hw hl=>zcu (zg defs (k+1)) (hisname k) p f dn un pl w hw hl
 exact⟨htake (n+10),hnamed (n+9),hhouse (n+9),hempty0 (n+7),hhdo (n+7),hmark (n+10)⟩
theorem K6 (p:Int) (f:PyData) (dn un:List (PyData×PyData)) (pl:List (Str×PyData)):∃ XS,hV p f dn un pl=.o "House" ["pots","first","done","undone","places"] XS:=⟨_,rfl⟩
end Wx
local macro_rules
  | `(tactic| simp_all! [$xs,*])=>`(tactic| simp[$xs,*,Wx.runI,L3.fin,L3.outs,L3.IB.ex,L3.IS.ex,L3.IE.ev,L3.IL.ev,L3.IA.ev,L3.IN.ev,L3.IP.ev,L3.II.ev,L3.IC.ev,L3.IO.ev,L3.sSeq,L3.sNext,L3.sAsg,L3.sIf,L3.sRet,L3.sSet,L3.sFor,L3.sAsgT,L3.sExpr,L3.fVar,L3.fFrz,L3.fC,L3.fBin,L3.fCmp,L3.fB,L3.fTru,L3.fNotT,L3.fAndT,L3.fOrT,L3.fAndV,L3.fOrV,L3.fIf,L3.fIx,L3.f1,L3.fChain,L3.fTup,L3.fLst,L3.fCons,L3.fNil,L3.fNew,L3.fOwn,L3.fOD,L3.fD,L3.fMove,L3.fCall,L3.aNil,L3.aCons,L3.aIo,L3.toArg,L3.toArgs,L3.ios,L3.putBack,L3.derf,L3.derS,L3.derSs,L3.derL,L3.leaves,L3.itemF,L3.cmpD,L3.truD,L3.R.bind,L3.isOwn,L3.fSeqL,L3.fSeqT,L3.fRange,L3.fEnum,L3.fYes,L3.fComp,L3.fListC,L3.gLen,L3.lenD,L3.gAll,L3.fIsi,L3.isiB,L2.tyD,L3.tgF,L3.tgFs,L2.noL,L3.fDget,L3.derD,L3.fAttr,L3.fFdat,L3.objF,L3.ixF,L3.fFlen,L3.fFtru,L3.fFlast,L3.fFget,L3.fFnin,L3.fFfrz,L3.updF,L3.setO,L3.sFset,L3.sFapp,L3.sFpop,L3.sFput,L3.zD,L3.wD,L3.fMeth,L3.fMake,L3.IM.ev,L3.IG.ev,L3.fOwnD,L3.fNewD,L3.fDnil,L3.fDone,L3.fDcopy,L3.fCompD,L3.fCompW,L3.hid,L3.loopG,L3.fStd,L3.fItems,L3.fFldS,L3.fSortD,L3.fFsort,L3.fMul,L3.sTry,L3.IQ.ex,L3.IQs.ex,L3.pickN,L3.sRaise,L3.sDisp,L3.sStar,L3.sDupd,L3.fNo,L3.fNoV,L3.gDin,L3.gDnin])
namespace Wx
open PySem L2 L3
theorem law_run(cf:CF)(h:zgg cf)(cells:List Int)(i l t s:Int)(hi:0<=i):∃ Γ',lawB.ex cf [] (none::some (ZA cells i l t s)::List.replicate (LN.length-2) none)=.ok (.ret (.d (.bool true)),Γ'):=by
 have hB:ZX (ZA cells i l t s):=⟨_,_,_,_,_,hi,rfl⟩
 generalize ZA cells i l t s=b at hB
 obtain⟨r1,b1,p1,p2,hb1,e1⟩:=h.take b hB 13 (by decide) (by decide)
 obtain⟨q,rfl⟩:=uo p1
 have hq:q<=12:=by omega
 obtain⟨r2,b2,p3,p4,hb2,e2⟩:=h.take b1 hb1 12 (by decide) (by decide)
 obtain⟨n,b3,hn,hb3,e3⟩:=h.named b2 hb2
 obtain⟨r4,b4,p5,p6,hb4,e4⟩:=h.take b3 hb3 4 (by decide) (by decide)
 obtain⟨k,rfl⟩:=uo p5
 have hk:k<=40:=by omega
 obtain⟨q2,hq2⟩:=uo (ul ((q:Int)+1+r2) (by decide:(13:Int)≠0))
 have hq3:q2<=12:=by have:=ue ((q:Int)+1+r2) (by decide:(0:Int)<13);omega
 have w1:=h.house q hq
 have w2:=h.house q2 hq3
 have w3:=h.empty0 q n hq
 have w4:=h.hdo q2 (tt q2) [] n k hn rfl (by simp[tt];exact hq3) (by decide) hk
 have w5:=h.mark q2 (stV (tt q2) []) ([]++ [(.tuple [.str "hang",.str n,.int k],stV (tt q2) (zB [] [(n,.list (List.replicate k (zQ (tt q2).length)))]))]) [] [] n hn (by decide)
 obtain⟨X1,g1⟩:=K6 q (stV (tt q) []) [] [] []
 obtain⟨X2,g2⟩:=K6 q2 (stV (tt q2) []) [] [] []
 obtain⟨X3,g3⟩:=K6 q2 (stV (tt q2) []) ([]++ [(.tuple [.str "hang",.str n,.int k],stV (tt q2) (zB [] [(n,.list (List.replicate k (zQ (tt q2).length)))]))]) [] []
 have t1:List.replicate q (PyData.bool true)=tt q:=rfl
 have t2:List.replicate q2 (PyData.bool true)=tt q2:=rfl
 rw[t1]at w1
 rw[t2]at w2
 rw[g1]at w1 w3
 rw[g2]at w2 w4
 rw[g3]at w4 w5
 generalize jJ _ _ _=PG at w5
 generalize hV q2 (stV (tt q2) []) ([]++ [(.tuple [.str "hang",.str n,.int k],stV (tt q2) (zB [] [(n,.list (List.replicate k (zQ (tt q2).length)))]))]) [] PG=H4 at *
 generalize hDD:PyData.tuple [.str "hang",.str n,.int k]=DD at *
 have hdd:DD=.tuple [.str "hang",.str n,.int k]:=hDD.symm
 have m1:binD .Mod (.int ((q:Int)+1+r2)) (.int 13)=some (.int q2):=by rw[<- hq2];rfl
 generalize (q:Int)=Q at *
 generalize (k:Int)=KK at *
 generalize (q2:Int)=Q2 at *
 simp only[lawB,LN]
 have m2:binD .Add (.int Q) (.int 1)=some (.int (Q+1)):=rfl
 have m3:binD .Add (.int (Q+1)) (.int r2)=some (.int (Q+1+r2)):=rfl
 simp_all! [e1,e2,e3,e4,w1,w2,w3,w4,w5,m1,m2,m3,hDD,zC,Vd,qv]
section
variable [L2.Cs] {P:Program} {w:World} {K:PySem.W.Frag} {mg:Str->Option Value} {base:Heap}
theorem KD(ns:List Int)(lo hi:Option Int):∃ ms:List Int,wn (ns.map V.int) lo hi=ms.map V.int/\ms.length<=ns.length:=by
 refine⟨(ns.drop (HT.sIx (ns.map V.int).length 0 lo)).take (HT.sIx (ns.map V.int).length (ns.map V.int).length hi-HT.sIx (ns.map V.int).length 0 lo),?_,?_⟩
 ·unfold wn
  rw[List.map_take,List.map_drop]
 ·rw[xH,List.length_drop];omega
theorem scBox:qw ["_law_script","_law_seed","_law_cell"] ["_law_script"] (defScope sBox):=⟨rfl,rfl,rfl,by decide +kernel,rfl,by decide +kernel,by decide +kernel⟩
theorem kn_box (D:Df K mg "_law_box" sBox ["_law_script"]) (B:mg "list" =none):Kn P w K mg base CX0 "_law_box" 1 (za9 K) :=
 D.kn (k:=0) scBox (fun vs H Q E ⟨a,ns,e,_⟩=>by rw[e];rfl) fun f cdv A outer s H vs Q E hr ⟨a,ns,e,hS,hlen,kk⟩=>by
  subst e
  refine PSs.wp (jH (ZT (i:=1) scBox.nd rfl (Or.inl rfl) pe_int)
   (jH (zaB PassesOwn.never rfl (vU (VT Yw (pv 0) vV (vW pe_int))) (Yq (i:=2) scBox.nd rfl (Or.inl rfl))
    (Qb (ZT (i:=1) scBox.nd rfl (Or.inl rfl) (W2 zam (W2 yJ (W2 yJ (W2 zan (pv 1) pe_int) (pv 2)) pe_int) pe_int))))
   (Qb (yO (zau (zk (Ji Z4 rfl B ZI (zk (VT Yw (pv 0) vV (vW pe_int)) pa_nil)) (zk pe_int (zk pe_int (zk pe_int (zk (pv 1) pa_nil)))))))))) ?_
  obtain⟨ms,ems,hms⟩:=KD ns none (some 63)
  refine⟨_,rfl,_,rfl,a,_,rfl,hS,fun q nq=>⟨q,rfl,⟨_,SqL.of ze⟩,KZ (K:=K) (a:=q) (xs:=wn (ns.map V.int) none (some 63)) (fun i σ H2=>H2=upd H q (.lst (wn (ns.map V.int) none (some 63)))/\∃ sd v,σ= [some (.ref a),some (.int sd),v])
   ⟨rfl,0,none,rfl⟩ (fun i σ H2 _ ⟨e,_⟩=>by rw[e];exact SqL.of ze) ?_ ?_⟩⟩
  ·rintro i x σ H2 hx ⟨rfl,sd,v,rfl⟩
   obtain⟨z,rfl⟩:∃ z,x=V.int z:=by
    rw[ems]at hx
    have:=xZ hx
    obtain⟨z,_,rfl⟩:=ui.mp this
    exact⟨z,rfl⟩
   refine⟨_,rfl,_,_,rfl,rfl,.inr (by decide),_,rfl,_,_,rfl,rfl,_,_,rfl,rfl,_,_,rfl,rfl,(by show (0:Int)<2147483647;decide),?_⟩
   exact⟨rfl,_,_,rfl⟩
  ·rintro σ H2 ⟨rfl,sd,v,rfl⟩
   have s1:Same H (upd H q (.lst (wn (ns.map V.int) none (some 63)))):=zr nq
   refine⟨_,rfl,_,rfl,a,_,rfl,s1.seq hS,fun q2 nq2=>⟨q2,_,rfl,.inl (SqL.of ze),fun l nl=>⟨_,rfl,(by show 5<=sizeLine;decide),fun b nb=>?_⟩⟩⟩
   have s2:=s1.trans (zr (o:=.lst (wn (ns.map V.int) none (some 63))) nq2)
   have s3:=s2.trans (zr (o:=.lst (wn (ns.map V.int) none (some 63))) nl)
   have hlb:l≠b:=fun e=>by rw[<- e,ze]at nb;cases nb
   refine kk b _ (s3.trans (zr nb)) (s3.free nb) (by rw[ze];exact fun z=>nomatch z) ⟨l,ms,0,0,0,sd,rfl,ze,?_,Int.le_refl 0⟩
   refine .list (vs:=ms.map V.int) (by rw[zc hlb,ze,ems]) hlb (RepL.ints ms)
theorem hw:wOk defs W=true:=by kernel_rfl
theorem hgd (GD0:GD w K mg "DEEDS" [("hang","behind_hang"),("fold","behind_fold"),("twin","behind_twin"),("wish","behind_wish"),("wax","behind_wax"),("dip","behind_dip"),("boil","behind_boil"),("brew","behind_brew")]):∀ x kf,W.gd.contains (x,kf)=true->GD w K mg x kf:=by
 intro x kf h
 have h2:=xR.mp h
 simp only[W,xv,List.not_mem_nil,or_false,Prod.mk.injEq]at h2
 obtain⟨rfl,rfl⟩:=h2
 ·exact GD0
theorem okS:wY LN ["_law_script"] (defScope sLaw)=true:=by kernel_rfl
theorem oks:(defs.all fun d=>d.ok W)=true:=by kernel_rfl
theorem hdd {h:Heap}(X:K.In h) (G:h.Ns mainGlobals mg) (D0:Df K mg "_wall" (top 0) ["k"]) (D1:Df K mg "bare" (top 18) ["pots","size"]) (D2:Df K mg "with_wish" (top 19) ["bolt","at","wish"]) (D3:Df K mg "with_wax" (top 20) ["bolt","cells"]) (D4:Df K mg "dipped" (top 21) ["bolt","dye"]) (D5:Df K mg "boiled" (top 22) ["bolt"]) (D6:Df K mg "has_cell" (top 23) ["bolt","at"]) (D7:Df K mg "is_picture" (top 24) ["shades","pots"]) (D8:Df K mg "deepened" (top 25) ["stain","dye"]) (D9:Df K mg "is_name" (top 29) ["text"]) (D10:Di K "Stand.__init__" "Stand" (zA 32 0) ["self","fresh","cloths"]) (D11:Df K mg "new_stand" (top 33) ["pots"]) (D12:Df K mg "behind_hang" (top 34) ["stand","parts"]) (D13:Df K mg "behind_fold" (top 35) ["stand","parts"]) (D14:Df K mg "behind_twin" (top 36) ["stand","parts"]) (D15:Df K mg "behind_wish" (top 37) ["stand","parts"]) (D16:Df K mg "behind_wax" (top 38) ["stand","parts"]) (D17:Df K mg "behind_dip" (top 39) ["stand","parts"]) (D18:Df K mg "behind_boil" (top 40) ["stand","parts"]) (D19:Df K mg "behind_brew" (top 41) ["stand","parts"]) (D20:Df K mg "behind" (top 43) ["stand","deed"]) (D21:Df K mg "with_cloths" (top 44) ["stand","changed"]) (D22:Df K mg "with_pot" (top 45) ["stand","dye","is_fresh"]) (D23:Df K mg "check_new" (top 46) ["stand","name"]) (D24:Df K mg "check_hangs" (top 47) ["stand","name"]) (D25:Df K mg "check_names" (top 48) ["stand","names"]) (D26:Df K mg "check_dye" (top 49) ["stand","dye"]) (D27:Df K mg "bolt_of" (top 51) ["stand","names"]) (D28:Di K "House.__init__" "House" (zA 53 0) ["self","pots"]) (D29:Dm K "House.do" "House" "do" (zA 53 1) ["self","deed"]) (D30:Dm K "House.undo" "House" "undo" (zA 53 2) ["self"]) (D31:Dm K "House.redo" "House" "redo" (zA 53 3) ["self"]) (D32:Dm K "House.book" "House" "book" (zA 53 4) ["self"]) (D33:Dm K "House.ahead" "House" "ahead" (zA 53 5) ["self"]) (D34:Dm K "House.mark" "House" "mark" (zA 53 6) ["self","word"]) (D35:Dm K "House.go" "House" "go" (zA 53 7) ["self","word"]) (D36:Dm K "House.marks" "House" "marks" (zA 53 8) ["self"]) (D37:Dm K "House.names" "House" "names" (zA 53 9) ["self"]) (D38:Dm K "House.ready" "House" "ready" (zA 53 10) ["self"]) (D39:Dm K "House.stains" "House" "stains" (zA 53 11) ["self","name"]) (D40:Dm K "House.wishes" "House" "wishes" (zA 53 12) ["self","name"]) (D41:Dm K "House.waxed" "House" "waxed" (zA 53 13) ["self","name"]) (D42:Dm K "House.bolt" "House" "bolt" (zA 53 14) ["self","names"]) (D43:Dm K "House.now" "House" "now" (zA 53 21) ["self"]) (D44:Dm K "House.cloth" "House" "cloth" (zA 53 22) ["self","name"]) (D45:Df K mg "_law_whole" (top 55) ["_law_found"]) (D46:Df K mg "_law_wholes" (top 56) ["_law_found"]) (D47:Df K mg "_law_shades" (top 57) ["_law_found","_law_pots"]) (D48:Df K mg "_law_mixed" (top 59) ["_law_number","_law_turn"]) (D49:Df K mg "_law_take" (top 60) ["_law_box_here","_law_many"]) (D50:Df K mg "_law_letters" (top 61) []) (D51:Df K mg "_law_named" (top 62) ["_law_box_here"]) (D52:Df K mg "_law_pictures" (top 63) ["_law_found","_law_due"]) (D53:Df K mg "_law_stands" (top 64) ["_law_house","_law_kept"]) (D54:Df K mg "_law_refused" (top 65) ["_law_house","_law_name","_law_way"]) (D55:Df K mg "_law_empty" (top 66) ["_law_house","_law_pots","_law_name"]):AllX K mg defs:=⟨zt rfl D0,zt rfl D1,zt rfl D2,zt rfl D3,zt rfl D4,zt rfl D5,zt rfl D6,zt rfl D7,zt rfl D8,zt rfl D9,KN X G rfl D10,zt rfl D11,zt rfl D12,zt rfl D13,zt rfl D14,zt rfl D15,zt rfl D16,zt rfl D17,zt rfl D18,zt rfl D19,zt rfl D20,zt rfl D21,zt rfl D22,zt rfl D23,zt rfl D24,zt rfl D25,zt rfl D26,zt rfl D27,KN X G rfl D28,qh X G rfl D29,qh X G rfl D30,qh X G rfl D31,qh X G rfl D32,qh X G rfl D33,qh X G rfl D34,qh X G rfl D35,qh X G rfl D36,qh X G rfl D37,qh X G rfl D38,qh X G rfl D39,qh X G rfl D40,qh X G rfl D41,qh X G rfl D42,qh X G rfl D43,qh X G rfl D44,zt rfl D45,zt rfl D46,zt rfl D47,zt rfl D48,zt rfl D49,zt rfl D50,zt rfl D51,zt rfl D52,zt rfl D53,zt rfl D54,zt rfl D55,trivial⟩
end
noncomputable def dP(s:Stmt):Arguments:=match s with
 |.FunctionDef _ a _ _ _ _ _ _ _ _=>a
 |_=>⟨[],[],none,[],[],none,[]⟩
noncomputable abbrev dB:=L2.defBody
noncomputable abbrev dS:=L2.defScope
noncomputable abbrev dE(P:PySem.Params)(n:Str)(t:Nat)(v:Value):DictEntry:=.mk (PySem.PyData.keyHash P n) (.str n t) v
noncomputable abbrev dR(P:PySem.Params)(n:Str)(t a:Nat):DictEntry:=.mk (PySem.PyData.keyHash P n) (.str n t) (.ref a)
noncomputable def v3(c:Nat):List (Nat×Nat)->List Value
 |[]=> []
 | (l,a)::r=>.int l 0::.int c 0::.ref a::v3 c r
noncomputable abbrev o3(c:Nat)(l:List (Nat×Nat)):Obj:=.mk .none none (.fields (v3 c l).toArray) #[]
noncomputable def sL:Nat->List Str->List Value
 |_,[]=> []
 |t,s::r=>.str s t::sL (t+1) r
noncomputable abbrev sN(t:Nat)(l:List Str):Array Value:=(sL t l).toArray
noncomputable def rL:List Nat->List Value
 |[]=> []
 |a::r=>.ref a::rL r
noncomputable abbrev rN(l:List Nat):Array Value:=(rL l).toArray
noncomputable abbrev oA:Obj:=PySem.Obj.mk (.type "tuple") none (.seq #[] 0) #[]
noncomputable abbrev oB (s1:Str) (n0:Nat):Obj:=PySem.Obj.mk (.type "tuple") none (.seq (sN n0 [s1]) 0) #[]
noncomputable abbrev oC (s0 s2:Str) (n1 n3 n4 n5 n6:Nat):Obj:=PySem.Obj.mk (.type "code") none (.fields #[(.str s0 n1),(.str s2 (n1+1)),(.str "/claim/cut.py" (n1+2)),(.int ((n3:Nat):Int) 0),(.int ((n4:Nat):Int) 0),(.int 0 0),(.int 0 0),(.int 3 0),(.ref n5),(.bool true),(.int 181 0),(.ref (n5+1)),.none,(.ref (n5+2)),(.ref (n5+3)),(.ref (n5+4)),(.int ((n6:Nat):Int) 0),(.int ((n3:Nat):Int) 0),(.str "/claim/cut.py" (n6+1))]) #[]
noncomputable abbrev oD (s0 s2:Str) (n1 n3 n4:Nat):Obj:=PySem.Obj.mk (.type "function") none (.func (PySem.FuncData.mk s0 s0 (dP (top n1)) (.stmts (dB (top n1))) (dS (top n1)) 3 [] .none .none .none (.str s2 n3) none (.ref n4) .none 0)) #[]
noncomputable abbrev oE (n0 n1:Nat):Obj:=PySem.Obj.mk (.type "getset_descriptor") none (.fields #[(.str "__weakref__" n0),(.ref n1),(.builtin "ExceptionGroup.__weakref__"),.none]) #[]
noncomputable abbrev oF:Obj:=PySem.Obj.mk (.type "tuple") none (.seq #[(.ref 31)] 0) #[]
noncomputable abbrev oG (P:PySem.Params) (n0 n1 n2:Nat):Obj:=PySem.Obj.mk (.type "dict") none (.dict #[(dE P "__module__" n0 (.str "waxcloth.errors" 194)),(dE P "__firstlineno__" (n0+4) (.int ((n1:Nat):Int) (n0+3))),dR P "__static_attributes__" (n0+5) n2,(dE P "__doc__" (n0+6) .none)] 2) #[]
noncomputable abbrev oH (s0:Str) (n1 n2 n3 n4:Nat):Obj:=PySem.Obj.mk (.type "type") none (.cls (PySem.ClassData.mk s0 [(.ref 31)] [(.ref n1),(.ref 31),(.type "ValueError"),(.type "Exception"),(.type "BaseException"),(.type "object")] n2 s0 true [] [] false none false)) #[(some (.ref n3)),none,(some (.str s0 n4)),(some (.str s0 (n4+8))),(some (.builtin "ValueError.__new__")),(some (.bool true))]
noncomputable abbrev oI (s0 s2:Str) (n1 n3 n4 n5:Nat):Obj:=PySem.Obj.mk (.type "code") none (.fields #[(.str s0 n1),(.str s2 (n1+1)),(.str "/claim/cut.py" (n1+2)),(.int ((n3:Nat):Int) 0),(.int ((n4:Nat):Int) 0),(.int 0 0),(.int 0 0),(.int 3 0),(.ref n5),(.bool true),(.int 181 0),(.ref (n5+1)),.none,.none,.none,(.ref (n5+2)),(.int ((n1+3:Nat):Int) 0),(.int ((n3:Nat):Int) 0),(.str "/claim/cut.py" (n1+4))]) #[]
noncomputable abbrev oJ (s1 s2:Str) (n0:Nat):Obj:=PySem.Obj.mk (.type "tuple") none (.seq (sN n0 [s1,s2]) 0) #[]
noncomputable abbrev oK (s1 s2 s3:Str) (n0:Nat):Obj:=PySem.Obj.mk (.type "tuple") none (.seq (sN n0 [s1,s2,s3]) 0) #[]
noncomputable abbrev oL (s0 s1 s4:Str) (n2 n3 n5 n6:Nat):Obj:=PySem.Obj.mk (.type "function") none (.func (PySem.FuncData.mk s0 s1 (dP (zA n2 n3)) (.stmts (dB (zA n2 n3))) (dS (zA n2 n3)) 3 [] .none .none .none (.str s4 n5) none (.ref n6) .none 0)) #[]
noncomputable abbrev oM (s0:Str) (n1 n2 n3:Nat):Obj:=PySem.Obj.mk (.type "type") none (.cls (PySem.ClassData.mk s0 [(.type "object")] [(.ref n1),(.type "object")] n2 s0 true [] [] false none false)) #[none,none,(some (.str s0 n3)),(some (.str s0 (n3+8))),(some (.builtin "object.__new__")),(some (.bool true))]
noncomputable abbrev oN (n0 n1:Nat):Obj:=PySem.Obj.mk (.type "getset_descriptor") none (.fields #[(.str "__dict__" n0),(.ref n1),(.builtin "function.__dict__"),(.builtin "function.__dict__#set")]) #[]
noncomputable abbrev oO (s1 s2 s3 s4:Str) (n0:Nat):Obj:=PySem.Obj.mk (.type "tuple") none (.seq (sN n0 [s1,s2,s3,s4]) 0) #[]
noncomputable abbrev oP (s1 s2 s3 s4 s5:Str) (n0:Nat):Obj:=PySem.Obj.mk (.type "tuple") none (.seq (sN n0 [s1,s2,s3,s4,s5]) 0) #[]
noncomputable abbrev oQ (s0:Str) (n1 n2 n3:Nat):Obj:=PySem.Obj.mk (.type "code") none (.fields #[(.str s0 n1),(.str s0 (n1+1)),(.str "/claim/cut.py" (n1+2)),(.int ((n2:Nat):Int) 0),(.int 0 0),(.int 0 0),(.int 0 0),(.int 0 0),(.ref n3),(.bool false),(.int 181 0),(.ref (n3+1)),.none,.none,.none,.none,(.int ((n1+3:Nat):Int) 0),(.int ((n2:Nat):Int) 0),(.str "/claim/cut.py" (n1+4))]) #[]
noncomputable abbrev oR (s2:Str) (n0 n1 n3:Nat):Obj:=PySem.Obj.mk (.type "frame") none .plain #[(some (.ref n0)),(some (.ref 3)),(some (.ref n1)),none,(some (.str s2 n3)),none,(some (.ref 0))]
noncomputable abbrev oS:Obj:=PySem.Obj.mk .none none (.fields #[]) #[]
noncomputable abbrev oT(s0:Str)(n1:Nat):Obj:=PySem.Obj.mk .none none (.func (PySem.FuncData.mk s0 s0 (dP (top n1)) (.stmts (dB (top n1))) (dS (top n1)) 0 [] .none .none .none .none none .none .none 0)) #[]
noncomputable abbrev oU:Obj:=PySem.Obj.mk (.type "builtin_function_or_method") none (.fields #[(.builtin "type.__prepare__"),(.type "type")]) #[]
noncomputable abbrev oV (P:PySem.Params) (s1:Str) (n0 n2 n3:Nat):Obj:=PySem.Obj.mk (.type "dict") none (.dict #[(dE P "__module__" n0 (.str "waxcloth.errors" 194)),(dE P "__qualname__" (n0+2) (.str s1 (n0+1))),(dE P "__firstlineno__" (n0+4) (.int ((n2:Nat):Int) (n0+3))),dR P "__static_attributes__" (n0+5) n3] 4) #[]
noncomputable abbrev oW (n0:Nat):Obj:=PySem.Obj.mk (.type "super") none (.fields (rN [n0,n0,n0])) #[]
noncomputable abbrev oX (n0:Nat):Obj:=PySem.Obj.mk (.type "builtin_function_or_method") none (.fields #[(.builtin "object.__init_subclass__"),(.ref n0)]) #[]
noncomputable abbrev oY(s0 s1:Str)(n2 n3:Nat):Obj:=PySem.Obj.mk .none none (.func (PySem.FuncData.mk s0 s1 (dP (zA n2 n3)) (.stmts (dB (zA n2 n3))) (dS (zA n2 n3)) 0 [] .none .none .none .none none .none .none 0)) #[]
noncomputable def K(P:PySem.Params):PySem.W.Frag :=
 (nat_lit 2,(PySem.Obj.mk .none none (.dict #[] 0) #[])) ::
 (nat_lit 3,(PySem.Obj.mk (.type "dict") none (.dict #[(dE P "__name__" 165 (.str "law_waxcloth_k35_a_new_house" 895)),(dE P "__doc__" 166 .none),(dE P "__package__" 167 .none),(dE P "__loader__" 168 (.builtin "__main__.__loader__#opaque")),(dE P "__spec__" 169 .none),dR P "__annotations__" 170 6,dR P "__builtins__" 171 4,(dE P "__file__" 173 (.str "/claim/cut.py" 172)),(dE P "__cached__" 174 .none),dR P "_wall" 193 21,dR P "WaxError" 213 31,dR P "NoName" 229 44,dR P "Taken" 245 56,dR P "BadSize" 261 68,dR P "NoCloth" 277 80,dR P "NoCell" 293 92,dR P "BadWish" 309 104,dR P "Twice" 325 116,dR P "NoDye" 341 128,dR P "Spent" 357 140,dR P "StillFresh" 373 152,dR P "TooDeep" 389 164,dR P "NothingLeft" 405 176,dR P "NoMark" 421 188,(dE P "DEEPEST" 425 (.int 9 424)),dR P "bare" 431 195,dR P "with_wish" 443 202,dR P "with_wax" 449 207,dR P "dipped" 455 212,dR P "boiled" 461 217,dR P "has_cell" 469 224,dR P "is_picture" 475 229,dR P "deepened" 483 236,(dE P "LETTERS" 487 (.str "abcdefghijklmnopqrstuvwxyz" 486)),(dE P "MOST_LETTERS" 489 (.int 8 488)),dR P "is_name" 495 241,(dE P "MOST_CELLS" 499 (.int 40 498)),dR P "Stand" 530 258,dR P "new_stand" 537 269,dR P "behind_hang" 547 276,dR P "behind_fold" 553 281,dR P "behind_twin" 563 288,dR P "behind_wish" 574 295,dR P "behind_wax" 584 302,dR P "behind_dip" 590 307,dR P "behind_boil" 596 312,dR P "behind_brew" 605 319,dR P "DEEDS" 622 320,dR P "behind" 633 327,dR P "with_cloths" 642 334,dR P "with_pot" 652 341,dR P "check_new" 660 348,dR P "check_hangs" 668 355,dR P "check_names" 677 362,dR P "check_dye" 685 369,dR P "bolt_of" 697 376,dR P "House" 894 531,dR P "_law_whole" 903 542,dR P "_law_wholes" 909 547,dR P "_law_shades" 915 552,dR P "_law_box" 924 559,dR P "_law_mixed" 934 566,dR P "_law_take" 944 573,dR P "_law_letters" 950 580,dR P "_law_named" 956 585,dR P "_law_pictures" 962 590,dR P "_law_stands" 968 595,dR P "_law_refused" 978 602,dR P "_law_empty" 984 607,dR P "law" 996 614] 70) #[])) ::
 (nat_lit 15,oA) ::
 (nat_lit 17,(oB "k" 190)) ::
 (nat_lit 18,oA) ::
 (nat_lit 20,(oC "_wall" "_wall" 187 1 1 15 191)) ::
 (nat_lit 21,(oD "_wall" "__main__" 0 164 20)) ::
 (nat_lit 22,(PySem.Obj.mk (.type "tuple") none (.seq #[(.type "ValueError")] 0) #[])) ::
 (nat_lit 29,oA) ::
 (nat_lit 30,(PySem.Obj.mk (.type "dict") none (.dict #[(dE P "__module__" 203 (.str "waxcloth.errors" 194)),(dE P "__firstlineno__" 207 (.int 5 206)),dR P "__static_attributes__" 208 29,dR P "__weakref__" 210 32,(dE P "__doc__" 211 .none)] 3) #[])) ::
 (nat_lit 31,(PySem.Obj.mk (.type "type") none (.cls (PySem.ClassData.mk "WaxError" [(.type "ValueError")] [(.ref 31),(.type "ValueError"),(.type "Exception"),(.type "BaseException"),(.type "object")] 30 "WaxError" true [] (rL [44,56,68,80,92,104,116,128,140,152,164,176,188]) false none false)) #[(some (.ref 22)),none,(some (.str "WaxError" 196)),(some (.str "WaxError" 204)),(some (.builtin "ValueError.__new__")),(some (.bool true))])) ::
 (nat_lit 32,(oE 209 31)) ::
 (nat_lit 35,oF) ::
 (nat_lit 42,oA) ::
 (nat_lit 43,(oG P 221 7 42)) ::
 (nat_lit 44,(oH "NoName" 44 43 35 214)) ::
 (nat_lit 47,oF) ::
 (nat_lit 54,oA) ::
 (nat_lit 55,(oG P 237 9 54)) ::
 (nat_lit 56,(oH "Taken" 56 55 47 230)) ::
 (nat_lit 59,oF) ::
 (nat_lit 66,oA) ::
 (nat_lit 67,(oG P 253 11 66)) ::
 (nat_lit 68,(oH "BadSize" 68 67 59 246)) ::
 (nat_lit 71,oF) ::
 (nat_lit 78,oA) ::
 (nat_lit 79,(oG P 269 13 78)) ::
 (nat_lit 80,(oH "NoCloth" 80 79 71 262)) ::
 (nat_lit 83,oF) ::
 (nat_lit 90,oA) ::
 (nat_lit 91,(oG P 285 15 90)) ::
 (nat_lit 92,(oH "NoCell" 92 91 83 278)) ::
 (nat_lit 95,oF) ::
 (nat_lit 102,oA) ::
 (nat_lit 103,(oG P 301 17 102)) ::
 (nat_lit 104,(oH "BadWish" 104 103 95 294)) ::
 (nat_lit 107,oF) ::
 (nat_lit 114,oA) ::
 (nat_lit 115,(oG P 317 19 114)) ::
 (nat_lit 116,(oH "Twice" 116 115 107 310)) ::
 (nat_lit 119,oF) ::
 (nat_lit 126,oA) ::
 (nat_lit 127,(oG P 333 21 126)) ::
 (nat_lit 128,(oH "NoDye" 128 127 119 326)) ::
 (nat_lit 131,oF) ::
 (nat_lit 138,oA) ::
 (nat_lit 139,(oG P 349 23 138)) ::
 (nat_lit 140,(oH "Spent" 140 139 131 342)) ::
 (nat_lit 143,oF) ::
 (nat_lit 150,oA) ::
 (nat_lit 151,(oG P 365 25 150)) ::
 (nat_lit 152,(oH "StillFresh" 152 151 143 358)) ::
 (nat_lit 155,oF) ::
 (nat_lit 162,oA) ::
 (nat_lit 163,(oG P 381 27 162)) ::
 (nat_lit 164,(oH "TooDeep" 164 163 155 374)) ::
 (nat_lit 167,oF) ::
 (nat_lit 174,oA) ::
 (nat_lit 175,(oG P 397 29 174)) ::
 (nat_lit 176,(oH "NothingLeft" 176 175 167 390)) ::
 (nat_lit 179,oF) ::
 (nat_lit 186,oA) ::
 (nat_lit 187,(oG P 413 31 186)) ::
 (nat_lit 188,(oH "NoMark" 188 187 179 406)) ::
 (nat_lit 191,oA) ::
 (nat_lit 194,(oI "bare" "bare" 426 35 2 191)) ::
 (nat_lit 195,(oD "bare" "waxcloth.bolt" 18 422 194)) ::
 (nat_lit 196,oA) ::
 (nat_lit 198,(PySem.Obj.mk (.type "tuple") none (.seq (sN 435 ["bolt","at","wish","stain","waxed","gone"]) 0) #[])) ::
 (nat_lit 199,oA) ::
 (nat_lit 201,(oC "with_wish" "with_wish" 432 38 3 196 441)) ::
 (nat_lit 202,(oD "with_wish" "waxcloth.bolt" 19 422 201)) ::
 (nat_lit 203,oA) ::
 (nat_lit 206,(oI "with_wax" "with_wax" 444 45 2 203)) ::
 (nat_lit 207,(oD "with_wax" "waxcloth.bolt" 20 422 206)) ::
 (nat_lit 208,oA) ::
 (nat_lit 211,(oI "dipped" "dipped" 450 51 2 208)) ::
 (nat_lit 212,(oD "dipped" "waxcloth.bolt" 21 422 211)) ::
 (nat_lit 213,oA) ::
 (nat_lit 216,(oI "boiled" "boiled" 456 55 1 213)) ::
 (nat_lit 217,(oD "boiled" "waxcloth.bolt" 22 422 216)) ::
 (nat_lit 218,oA) ::
 (nat_lit 220,(oJ "bolt" "at" 465)) ::
 (nat_lit 221,oA) ::
 (nat_lit 223,(oC "has_cell" "has_cell" 462 57 2 218 467)) ::
 (nat_lit 224,(oD "has_cell" "waxcloth.bolt" 23 422 223)) ::
 (nat_lit 225,oA) ::
 (nat_lit 228,(oI "is_picture" "is_picture" 470 59 2 225)) ::
 (nat_lit 229,(oD "is_picture" "waxcloth.bolt" 24 422 228)) ::
 (nat_lit 230,oA) ::
 (nat_lit 232,(oJ "stain" "dye" 479)) ::
 (nat_lit 233,oA) ::
 (nat_lit 235,(oC "deepened" "deepened" 476 61 2 230 481)) ::
 (nat_lit 236,(oD "deepened" "waxcloth.bolt" 25 422 235)) ::
 (nat_lit 237,oA) ::
 (nat_lit 240,(oI "is_name" "is_name" 490 66 1 237)) ::
 (nat_lit 241,(oD "is_name" "waxcloth.words" 29 484 240)) ::
 (nat_lit 249,oA) ::
 (nat_lit 251,(oK "self" "fresh" "cloths" 515)) ::
 (nat_lit 252,oA) ::
 (nat_lit 254,(oC "__init__" "Stand.__init__" 512 72 3 249 518)) ::
 (nat_lit 255,(oL "__init__" "Stand.__init__" "waxcloth.stand" 32 0 496 254)) ::
 (nat_lit 256,(oJ "cloths" "fresh" 521)) ::
 (nat_lit 257,(PySem.Obj.mk (.type "dict") none (.dict #[(dE P "__module__" 507 (.str "waxcloth.stand" 496)),(dE P "__firstlineno__" 511 (.int 70 510)),dR P "__init__" 520 255,dR P "__static_attributes__" 523 256,dR P "__dict__" 525 259,dR P "__weakref__" 527 260,(dE P "__doc__" 528 .none)] 4) #[])) ::
 (nat_lit 258,(oM "Stand" 258 257 500)) ::
 (nat_lit 259,(oN 524 258)) ::
 (nat_lit 260,(oE 526 258)) ::
 (nat_lit 263,oA) ::
 (nat_lit 265,(oB "pots" 534)) ::
 (nat_lit 266,oA) ::
 (nat_lit 268,(oC "new_stand" "new_stand" 531 75 1 263 535)) ::
 (nat_lit 269,(oD "new_stand" "waxcloth.stand" 33 496 268)) ::
 (nat_lit 270,oA) ::
 (nat_lit 272,(oO "stand" "parts" "name" "size" 541)) ::
 (nat_lit 273,oA) ::
 (nat_lit 275,(oC "behind_hang" "behind_hang" 538 77 2 270 545)) ::
 (nat_lit 276,(oD "behind_hang" "waxcloth.stand" 34 496 275)) ::
 (nat_lit 277,oA) ::
 (nat_lit 280,(oI "behind_fold" "behind_fold" 548 83 2 277)) ::
 (nat_lit 281,(oD "behind_fold" "waxcloth.stand" 35 496 280)) ::
 (nat_lit 282,oA) ::
 (nat_lit 284,(oO "stand" "parts" "name" "new" 557)) ::
 (nat_lit 285,oA) ::
 (nat_lit 287,(oC "behind_twin" "behind_twin" 554 87 2 282 561)) ::
 (nat_lit 288,(oD "behind_twin" "waxcloth.stand" 36 496 287)) ::
 (nat_lit 289,oA) ::
 (nat_lit 291,(oP "stand" "parts" "name" "at" "wish" 567)) ::
 (nat_lit 292,oA) ::
 (nat_lit 294,(oC "behind_wish" "behind_wish" 564 92 2 289 572)) ::
 (nat_lit 295,(oD "behind_wish" "waxcloth.stand" 37 496 294)) ::
 (nat_lit 296,oA) ::
 (nat_lit 298,(oO "stand" "parts" "name" "cells" 578)) ::
 (nat_lit 299,oA) ::
 (nat_lit 301,(oC "behind_wax" "behind_wax" 575 96 2 296 582)) ::
 (nat_lit 302,(oD "behind_wax" "waxcloth.stand" 38 496 301)) ::
 (nat_lit 303,oA) ::
 (nat_lit 306,(oI "behind_dip" "behind_dip" 585 100 2 303)) ::
 (nat_lit 307,(oD "behind_dip" "waxcloth.stand" 39 496 306)) ::
 (nat_lit 308,oA) ::
 (nat_lit 311,(oI "behind_boil" "behind_boil" 591 108 2 308)) ::
 (nat_lit 312,(oD "behind_boil" "waxcloth.stand" 40 496 311)) ::
 (nat_lit 313,oA) ::
 (nat_lit 315,(oK "stand" "parts" "dye" 600)) ::
 (nat_lit 316,oA) ::
 (nat_lit 318,(oC "behind_brew" "behind_brew" 597 112 2 313 603)) ::
 (nat_lit 319,(oD "behind_brew" "waxcloth.stand" 41 496 318)) ::
 (nat_lit 320,(PySem.Obj.mk (.type "dict") none (.dict #[dR P "hang" 606 276,dR P "fold" 607 281,dR P "twin" 608 288,dR P "wish" 609 295,dR P "wax" 610 302,dR P "dip" 611 307,dR P "boil" 612 312,dR P "brew" 613 319] 8) #[])) ::
 (nat_lit 321,oA) ::
 (nat_lit 323,(oP "stand" "deed" "word" "parts" "change" 626)) ::
 (nat_lit 324,oA) ::
 (nat_lit 326,(oC "behind" "behind" 623 119 2 321 631)) ::
 (nat_lit 327,(oD "behind" "waxcloth.stand" 43 496 326)) ::
 (nat_lit 328,oA) ::
 (nat_lit 330,(oK "stand" "changed" "cloths" 637)) ::
 (nat_lit 331,oA) ::
 (nat_lit 333,(oC "with_cloths" "with_cloths" 634 123 2 328 640)) ::
 (nat_lit 334,(oD "with_cloths" "waxcloth.stand" 44 496 333)) ::
 (nat_lit 335,oA) ::
 (nat_lit 337,(oO "stand" "dye" "is_fresh" "fresh" 646)) ::
 (nat_lit 338,oA) ::
 (nat_lit 340,(oC "with_pot" "with_pot" 643 127 3 335 650)) ::
 (nat_lit 341,(oD "with_pot" "waxcloth.stand" 45 496 340)) ::
 (nat_lit 342,oA) ::
 (nat_lit 344,(oJ "stand" "name" 656)) ::
 (nat_lit 345,oA) ::
 (nat_lit 347,(oC "check_new" "check_new" 653 131 2 342 658)) ::
 (nat_lit 348,(oD "check_new" "waxcloth.stand" 46 496 347)) ::
 (nat_lit 349,oA) ::
 (nat_lit 351,(oJ "stand" "name" 664)) ::
 (nat_lit 352,oA) ::
 (nat_lit 354,(oC "check_hangs" "check_hangs" 661 136 2 349 666)) ::
 (nat_lit 355,(oD "check_hangs" "waxcloth.stand" 47 496 354)) ::
 (nat_lit 356,oA) ::
 (nat_lit 358,(oK "stand" "names" "name" 672)) ::
 (nat_lit 359,oA) ::
 (nat_lit 361,(oC "check_names" "check_names" 669 139 2 356 675)) ::
 (nat_lit 362,(oD "check_names" "waxcloth.stand" 48 496 361)) ::
 (nat_lit 363,oA) ::
 (nat_lit 365,(oJ "stand" "dye" 681)) ::
 (nat_lit 366,oA) ::
 (nat_lit 368,(oC "check_dye" "check_dye" 678 144 2 363 683)) ::
 (nat_lit 369,(oD "check_dye" "waxcloth.stand" 49 496 368)) ::
 (nat_lit 370,oA) ::
 (nat_lit 372,(oO "stand" "names" "bolt" "name" 691)) ::
 (nat_lit 373,oA) ::
 (nat_lit 375,(oC "bolt_of" "bolt_of" 688 148 2 370 695)) ::
 (nat_lit 376,(oD "bolt_of" "waxcloth.together" 51 686 375)) ::
 (nat_lit 384,oA) ::
 (nat_lit 386,(oJ "self" "pots" 715)) ::
 (nat_lit 387,oA) ::
 (nat_lit 389,(oC "__init__" "House.__init__" 712 157 2 384 717)) ::
 (nat_lit 390,(oL "__init__" "House.__init__" "waxcloth.house" 53 0 698 389)) ::
 (nat_lit 391,oA) ::
 (nat_lit 394,(oI "do" "House.do" 720 164 2 391)) ::
 (nat_lit 395,(oL "do" "House.do" "waxcloth.house" 53 1 698 394)) ::
 (nat_lit 396,oA) ::
 (nat_lit 398,(oJ "self" "pair" 729)) ::
 (nat_lit 399,oA) ::
 (nat_lit 401,(oC "undo" "House.undo" 726 171 1 396 731)) ::
 (nat_lit 402,(oL "undo" "House.undo" "waxcloth.house" 53 2 698 401)) ::
 (nat_lit 403,oA) ::
 (nat_lit 405,(oJ "self" "pair" 737)) ::
 (nat_lit 406,oA) ::
 (nat_lit 408,(oC "redo" "House.redo" 734 178 1 403 739)) ::
 (nat_lit 409,(oL "redo" "House.redo" "waxcloth.house" 53 3 698 408)) ::
 (nat_lit 410,oA) ::
 (nat_lit 413,(oI "book" "House.book" 742 185 1 410)) ::
 (nat_lit 414,(oL "book" "House.book" "waxcloth.house" 53 4 698 413)) ::
 (nat_lit 415,oA) ::
 (nat_lit 418,(oI "ahead" "House.ahead" 748 188 1 415)) ::
 (nat_lit 419,(oL "ahead" "House.ahead" "waxcloth.house" 53 5 698 418)) ::
 (nat_lit 420,oA) ::
 (nat_lit 422,(oJ "self" "word" 757)) ::
 (nat_lit 423,oA) ::
 (nat_lit 425,(oC "mark" "House.mark" 754 191 2 420 759)) ::
 (nat_lit 426,(oL "mark" "House.mark" "waxcloth.house" 53 6 698 425)) ::
 (nat_lit 427,oA) ::
 (nat_lit 429,(oJ "self" "word" 765)) ::
 (nat_lit 430,oA) ::
 (nat_lit 432,(oC "go" "House.go" 762 196 2 427 767)) ::
 (nat_lit 433,(oL "go" "House.go" "waxcloth.house" 53 7 698 432)) ::
 (nat_lit 434,oA) ::
 (nat_lit 437,(oI "marks" "House.marks" 770 204 1 434)) ::
 (nat_lit 438,(oL "marks" "House.marks" "waxcloth.house" 53 8 698 437)) ::
 (nat_lit 439,oA) ::
 (nat_lit 441,(oB "self" 779)) ::
 (nat_lit 442,oA) ::
 (nat_lit 444,(oC "names" "House.names" 776 207 1 439 780)) ::
 (nat_lit 445,(oL "names" "House.names" "waxcloth.house" 53 9 698 444)) ::
 (nat_lit 446,oA) ::
 (nat_lit 449,(oI "ready" "House.ready" 783 210 1 446)) ::
 (nat_lit 450,(oL "ready" "House.ready" "waxcloth.house" 53 10 698 449)) ::
 (nat_lit 451,oA) ::
 (nat_lit 454,(oI "stains" "House.stains" 789 213 2 451)) ::
 (nat_lit 455,(oL "stains" "House.stains" "waxcloth.house" 53 11 698 454)) ::
 (nat_lit 456,oA) ::
 (nat_lit 459,(oI "wishes" "House.wishes" 795 216 2 456)) ::
 (nat_lit 460,(oL "wishes" "House.wishes" "waxcloth.house" 53 12 698 459)) ::
 (nat_lit 461,oA) ::
 (nat_lit 464,(oI "waxed" "House.waxed" 801 219 2 461)) ::
 (nat_lit 465,(oL "waxed" "House.waxed" "waxcloth.house" 53 13 698 464)) ::
 (nat_lit 466,oA) ::
 (nat_lit 468,(oJ "self" "names" 810)) ::
 (nat_lit 469,oA) ::
 (nat_lit 471,(oC "bolt" "House.bolt" 807 222 2 466 812)) ::
 (nat_lit 472,(oL "bolt" "House.bolt" "waxcloth.house" 53 14 698 471)) ::
 (nat_lit 473,oA) ::
 (nat_lit 475,(oJ "self" "names" 818)) ::
 (nat_lit 476,oA) ::
 (nat_lit 478,(oC "hindered" "House.hindered" 815 225 2 473 820)) ::
 (nat_lit 479,(oL "hindered" "House.hindered" "waxcloth.house" 53 15 698 478)) ::
 (nat_lit 480,oA) ::
 (nat_lit 482,(oJ "self" "names" 826)) ::
 (nat_lit 483,oA) ::
 (nat_lit 485,(oC "plan" "House.plan" 823 228 2 480 828)) ::
 (nat_lit 486,(oL "plan" "House.plan" "waxcloth.house" 53 16 698 485)) ::
 (nat_lit 487,oA) ::
 (nat_lit 489,(oJ "self" "names" 834)) ::
 (nat_lit 490,oA) ::
 (nat_lit 492,(oC "boilings" "House.boilings" 831 231 2 487 836)) ::
 (nat_lit 493,(oL "boilings" "House.boilings" "waxcloth.house" 53 17 698 492)) ::
 (nat_lit 494,oA) ::
 (nat_lit 496,(oJ "self" "names" 842)) ::
 (nat_lit 497,oA) ::
 (nat_lit 499,(oC "held" "House.held" 839 234 2 494 844)) ::
 (nat_lit 500,(oL "held" "House.held" "waxcloth.house" 53 18 698 499)) ::
 (nat_lit 501,oA) ::
 (nat_lit 503,(oK "self" "deeds" "names" 850)) ::
 (nat_lit 504,oA) ::
 (nat_lit 506,(oC "would" "House.would" 847 237 3 501 853)) ::
 (nat_lit 507,(oL "would" "House.would" "waxcloth.house" 53 19 698 506)) ::
 (nat_lit 508,oA) ::
 (nat_lit 510,(oO "self" "name" "cell" "dye" 859)) ::
 (nat_lit 511,oA) ::
 (nat_lit 513,(oC "sources" "House.sources" 856 240 4 508 863)) ::
 (nat_lit 514,(oL "sources" "House.sources" "waxcloth.house" 53 20 698 513)) ::
 (nat_lit 515,oA) ::
 (nat_lit 517,(oB "self" 869)) ::
 (nat_lit 518,oA) ::
 (nat_lit 520,(oC "now" "House.now" 866 243 1 515 870)) ::
 (nat_lit 521,(oL "now" "House.now" "waxcloth.house" 53 21 698 520)) ::
 (nat_lit 522,oA) ::
 (nat_lit 524,(oK "self" "name" "stand" 876)) ::
 (nat_lit 525,oA) ::
 (nat_lit 527,(oC "cloth" "House.cloth" 873 248 2 522 879)) ::
 (nat_lit 528,(oL "cloth" "House.cloth" "waxcloth.house" 53 22 698 527)) ::
 (nat_lit 529,(oP "done" "first" "places" "pots" "undone" 882)) ::
 (nat_lit 530,(PySem.Obj.mk (.type "dict") none (.dict #[(dE P "__module__" 707 (.str "waxcloth.house" 698)),(dE P "__firstlineno__" 711 (.int 155 710)),dR P "__init__" 719 390,dR P "do" 725 395,dR P "undo" 733 402,dR P "redo" 741 409,dR P "book" 747 414,dR P "ahead" 753 419,dR P "mark" 761 426,dR P "go" 769 433,dR P "marks" 775 438,dR P "names" 782 445,dR P "ready" 788 450,dR P "stains" 794 455,dR P "wishes" 800 460,dR P "waxed" 806 465,dR P "bolt" 814 472,dR P "hindered" 822 479,dR P "plan" 830 486,dR P "boilings" 838 493,dR P "held" 846 500,dR P "would" 855 507,dR P "sources" 865 514,dR P "now" 872 521,dR P "cloth" 881 528,dR P "__static_attributes__" 887 529,dR P "__dict__" 889 532,dR P "__weakref__" 891 533,(dE P "__doc__" 892 .none)] 4) #[])) ::
 (nat_lit 531,(oM "House" 531 530 700)) ::
 (nat_lit 532,(oN 888 531)) ::
 (nat_lit 533,(oE 890 531)) ::
 (nat_lit 536,oA) ::
 (nat_lit 538,(oB "_law_found" 900)) ::
 (nat_lit 539,oA) ::
 (nat_lit 541,(oC "_law_whole" "_law_whole" 897 253 1 536 901)) ::
 (nat_lit 542,(oD "_law_whole" "law_waxcloth_k35_a_new_house" 55 895 541)) ::
 (nat_lit 543,oA) ::
 (nat_lit 546,(oI "_law_wholes" "_law_wholes" 904 255 1 543)) ::
 (nat_lit 547,(oD "_law_wholes" "law_waxcloth_k35_a_new_house" 56 895 546)) ::
 (nat_lit 548,oA) ::
 (nat_lit 551,(oI "_law_shades" "_law_shades" 910 257 2 548)) ::
 (nat_lit 552,(oD "_law_shades" "law_waxcloth_k35_a_new_house" 57 895 551)) ::
 (nat_lit 553,oA) ::
 (nat_lit 555,(oK "_law_script" "_law_seed" "_law_cell" 919)) ::
 (nat_lit 556,oA) ::
 (nat_lit 558,(oC "_law_box" "_law_box" 916 259 1 553 922)) ::
 (nat_lit 559,(oD "_law_box" "law_waxcloth_k35_a_new_house" 58 895 558)) ::
 (nat_lit 560,oA) ::
 (nat_lit 562,(oO "_law_number" "_law_turn" "_law_one" "_law_two" 928)) ::
 (nat_lit 563,oA) ::
 (nat_lit 565,(oC "_law_mixed" "_law_mixed" 925 264 2 560 932)) ::
 (nat_lit 566,(oD "_law_mixed" "law_waxcloth_k35_a_new_house" 59 895 565)) ::
 (nat_lit 567,oA) ::
 (nat_lit 569,(oO "_law_box_here" "_law_many" "_law_left" "_law_cell" 938)) ::
 (nat_lit 570,oA) ::
 (nat_lit 572,(oC "_law_take" "_law_take" 935 268 2 567 942)) ::
 (nat_lit 573,(oD "_law_take" "law_waxcloth_k35_a_new_house" 60 895 572)) ::
 (nat_lit 574,oA) ::
 (nat_lit 576,oA) ::
 (nat_lit 577,oA) ::
 (nat_lit 579,(oC "_law_letters" "_law_letters" 945 282 0 574 948)) ::
 (nat_lit 580,(oD "_law_letters" "law_waxcloth_k35_a_new_house" 61 895 579)) ::
 (nat_lit 581,oA) ::
 (nat_lit 584,(oI "_law_named" "_law_named" 951 284 1 581)) ::
 (nat_lit 585,(oD "_law_named" "law_waxcloth_k35_a_new_house" 62 895 584)) ::
 (nat_lit 586,oA) ::
 (nat_lit 589,(oI "_law_pictures" "_law_pictures" 957 287 2 586)) ::
 (nat_lit 590,(oD "_law_pictures" "law_waxcloth_k35_a_new_house" 63 895 589)) ::
 (nat_lit 591,oA) ::
 (nat_lit 594,(oI "_law_stands" "_law_stands" 963 291 2 591)) ::
 (nat_lit 595,(oD "_law_stands" "law_waxcloth_k35_a_new_house" 64 895 594)) ::
 (nat_lit 596,oA) ::
 (nat_lit 598,(oO "_law_house" "_law_name" "_law_way" "_law_said" 972)) ::
 (nat_lit 599,oA) ::
 (nat_lit 601,(oC "_law_refused" "_law_refused" 969 307 3 596 976)) ::
 (nat_lit 602,(oD "_law_refused" "law_waxcloth_k35_a_new_house" 65 895 601)) ::
 (nat_lit 603,oA) ::
 (nat_lit 606,(oI "_law_empty" "_law_empty" 979 329 3 603)) ::
 (nat_lit 607,(oD "_law_empty" "law_waxcloth_k35_a_new_house" 66 895 606)) ::
 (nat_lit 608,oA) ::
 (nat_lit 610,(PySem.Obj.mk (.type "tuple") none (.seq (sN 988 ["_law_script","_law_box_here","_law_pots","_law_house","_law_other","_law_name"]) 0) #[])) ::
 (nat_lit 611,oA) ::
 (nat_lit 613,(oC "law" "law" 985 336 1 608 994)) ::
 (nat_lit 614,(oD "law" "law_waxcloth_k35_a_new_house" 67 895 613)):: []
noncomputable abbrev RR:PySem.W.RowW:=PySem.W.OpenRow.toRowW (PySem.W.OpenLaw.row PySem.Challenge.rw_waxcloth_k35_a_new_house)
noncomputable def Q:Program:={ RR.prog with main:={ RR.prog.main with body:= [top 0,top 2,top 3,top 4,top 5,top 6,top 7,top 8,top 9,top 10,top 11,top 12,top 13,top 14,top 15,top 17,top 18,top 19,top 20,top 21,top 22,top 23,top 24,top 25,top 27,top 28,top 29,top 31,top 32,top 33,top 34,top 35,top 36,top 37,top 38,top 39,top 40,top 41,top 42,top 43,top 44,top 45,top 46,top 47,top 48,top 49,top 51,top 53,top 55,top 56,top 57,top 58,top 59,top 60,top 61,top 62,top 63,top 64,top 65,top 66,top 67] } }
noncomputable def asL:List Nat:= [2,3,15,17,18,20,21,22,29,30,31,32,35,42,43,44,47,54,55,56,59,66,67,68,71,78,79,80,83,90,91,92,95,102,103,104,107,114,115,116,119,126,127,128,131,138,139,140,143,150,151,152,155,162,163,164,167,174,175,176,179,186,187,188,191,194,195,196,198,199,201,202,203,206,207,208,211,212,213,216,217,218,220,221,223,224,225,228,229,230,232,233,235,236,237,240,241,249,251,252,254,255,256,257,258,259,260,263,265,266,268,269,270,272,273,275,276,277,280,281,282,284,285,287,288,289,291,292,294,295,296,298,299,301,302,303,306,307,308,311,312,313,315,316,318,319,320,321,323,324,326,327,328,330,331,333,334,335,337,338,340,341,342,344,345,347,348,349,351,352,354,355,356,358,359,361,362,363,365,366,368,369,370,372,373,375,376,384,386,387,389,390,391,394,395,396,398,399,401,402,403,405,406,408,409,410,413,414,415,418,419,420,422,423,425,426,427,429,430,432,433,434,437,438,439,441,442,444,445,446,449,450,451,454,455,456,459,460,461,464,465,466,468,469,471,472,473,475,476,478,479,480,482,483,485,486,487,489,490,492,493,494,496,497,499,500,501,503,504,506,507,508,510,511,513,514,515,517,518,520,521,522,524,525,527,528,529,530,531,532,533,536,538,539,541,542,543,546,547,548,551,552,553,555,556,558,559,560,562,563,565,566,567,569,570,572,573,574,576,577,579,580,581,584,585,586,589,590,591,594,595,596,598,599,601,602,603,606,607,608,610,611,613,614]
theorem asE:∀ P,asL=(K P).map (·.1):=fun _=>by kernel_rfl
noncomputable def zgC(P:PySem.Params):List (Nat×Obj) :=
 (0,PySem.W.boot_o_0 P) ::
 (1,PySem.W.boot_o_1 P) ::
 (4,PySem.W.boot_o_4 P) ::
 (5,PySem.W.boot_o_5 P) ::
 (6,PySem.W.boot_o_6 P) ::
 (7,PySem.W.boot_o_7 P) ::
 (8,PySem.W.boot_o_8 P) ::
 (9,PySem.W.boot_o_9 P) ::
 (10,PySem.W.boot_o_10 P) ::
 (11,oA) ::
 (12,(o3 0 [(1,20),(5,27),(7,40),(9,52),(11,64),(13,76),(15,88),(17,100),(19,112),(21,124),(23,136),(25,148),(27,160),(29,172),(31,184),(35,194),(38,201),(45,206),(51,211),(55,216),(57,223),(59,228),(61,235),(66,240),(70,247),(75,268),(77,275),(83,280),(87,287),(92,294),(96,301),(100,306),(108,311),(112,318),(119,326),(123,333),(127,340),(131,347),(136,354),(139,361),(144,368),(148,375),(155,382),(253,541),(255,546),(257,551),(259,558),(264,565),(268,572),(282,579),(284,584),(287,589),(291,594),(307,601),(329,606),(336,613)])) ::
 (13,(oQ "<module>" 182 1 11)) ::
 (14,(oR "__main__" 13 3 164)) ::
 (16,oS) ::
 (19,(oT "_wall" 0)) ::
 (23,oU) ::
 (24,(oV P "WaxError" 203 5 29)) ::
 (25,oA) ::
 (26,oS) ::
 (27,(oQ "WaxError" 198 5 25)) ::
 (28,(oR "waxcloth.errors" 27 24 194)) ::
 (33,(oW 31)) ::
 (34,(oX 31)) ::
 (36,oU) ::
 (37,(oV P "NoName" 221 7 42)) ::
 (38,oA) ::
 (39,oS) ::
 (40,(oQ "NoName" 216 7 38)) ::
 (41,(oR "waxcloth.errors" 40 37 194)) ::
 (45,(oW 44)) ::
 (46,(oX 44)) ::
 (48,oU) ::
 (49,(oV P "Taken" 237 9 54)) ::
 (50,oA) ::
 (51,oS) ::
 (52,(oQ "Taken" 232 9 50)) ::
 (53,(oR "waxcloth.errors" 52 49 194)) ::
 (57,(oW 56)) ::
 (58,(oX 56)) ::
 (60,oU) ::
 (61,(oV P "BadSize" 253 11 66)) ::
 (62,oA) ::
 (63,oS) ::
 (64,(oQ "BadSize" 248 11 62)) ::
 (65,(oR "waxcloth.errors" 64 61 194)) ::
 (69,(oW 68)) ::
 (70,(oX 68)) ::
 (72,oU) ::
 (73,(oV P "NoCloth" 269 13 78)) ::
 (74,oA) ::
 (75,oS) ::
 (76,(oQ "NoCloth" 264 13 74)) ::
 (77,(oR "waxcloth.errors" 76 73 194)) ::
 (81,(oW 80)) ::
 (82,(oX 80)) ::
 (84,oU) ::
 (85,(oV P "NoCell" 285 15 90)) ::
 (86,oA) ::
 (87,oS) ::
 (88,(oQ "NoCell" 280 15 86)) ::
 (89,(oR "waxcloth.errors" 88 85 194)) ::
 (93,(oW 92)) ::
 (94,(oX 92)) ::
 (96,oU) ::
 (97,(oV P "BadWish" 301 17 102)) ::
 (98,oA) ::
 (99,oS) ::
 (100,(oQ "BadWish" 296 17 98)) ::
 (101,(oR "waxcloth.errors" 100 97 194)) ::
 (105,(oW 104)) ::
 (106,(oX 104)) ::
 (108,oU) ::
 (109,(oV P "Twice" 317 19 114)) ::
 (110,oA) ::
 (111,oS) ::
 (112,(oQ "Twice" 312 19 110)) ::
 (113,(oR "waxcloth.errors" 112 109 194)) ::
 (117,(oW 116)) ::
 (118,(oX 116)) ::
 (120,oU) ::
 (121,(oV P "NoDye" 333 21 126)) ::
 (122,oA) ::
 (123,oS) ::
 (124,(oQ "NoDye" 328 21 122)) ::
 (125,(oR "waxcloth.errors" 124 121 194)) ::
 (129,(oW 128)) ::
 (130,(oX 128)) ::
 (132,oU) ::
 (133,(oV P "Spent" 349 23 138)) ::
 (134,oA) ::
 (135,oS) ::
 (136,(oQ "Spent" 344 23 134)) ::
 (137,(oR "waxcloth.errors" 136 133 194)) ::
 (141,(oW 140)) ::
 (142,(oX 140)) ::
 (144,oU) ::
 (145,(oV P "StillFresh" 365 25 150)) ::
 (146,oA) ::
 (147,oS) ::
 (148,(oQ "StillFresh" 360 25 146)) ::
 (149,(oR "waxcloth.errors" 148 145 194)) ::
 (153,(oW 152)) ::
 (154,(oX 152)) ::
 (156,oU) ::
 (157,(oV P "TooDeep" 381 27 162)) ::
 (158,oA) ::
 (159,oS) ::
 (160,(oQ "TooDeep" 376 27 158)) ::
 (161,(oR "waxcloth.errors" 160 157 194)) ::
 (165,(oW 164)) ::
 (166,(oX 164)) ::
 (168,oU) ::
 (169,(oV P "NothingLeft" 397 29 174)) ::
 (170,oA) ::
 (171,oS) ::
 (172,(oQ "NothingLeft" 392 29 170)) ::
 (173,(oR "waxcloth.errors" 172 169 194)) ::
 (177,(oW 176)) ::
 (178,(oX 176)) ::
 (180,oU) ::
 (181,(oV P "NoMark" 413 31 186)) ::
 (182,oA) ::
 (183,oS) ::
 (184,(oQ "NoMark" 408 31 182)) ::
 (185,(oR "waxcloth.errors" 184 181 194)) ::
 (189,(oW 188)) ::
 (190,(oX 188)) ::
 (192,oS) ::
 (193,(oT "bare" 18)) ::
 (197,oS) ::
 (200,(oT "with_wish" 19)) ::
 (204,oS) ::
 (205,(oT "with_wax" 20)) ::
 (209,oS) ::
 (210,(oT "dipped" 21)) ::
 (214,oS) ::
 (215,(oT "boiled" 22)) ::
 (219,oS) ::
 (222,(oT "has_cell" 23)) ::
 (226,oS) ::
 (227,(oT "is_picture" 24)) ::
 (231,oS) ::
 (234,(oT "deepened" 25)) ::
 (238,oS) ::
 (239,(oT "is_name" 29)) ::
 (242,oA) ::
 (243,oU) ::
 (244,(PySem.Obj.mk (.type "dict") none (.dict #[(dE P "__module__" 507 (.str "waxcloth.stand" 496)),(dE P "__qualname__" 509 (.str "Stand" 508)),(dE P "__firstlineno__" 511 (.int 70 510)),dR P "__init__" 520 255,dR P "__static_attributes__" 523 256] 5) #[])) ::
 (245,oA) ::
 (246,(o3 4 [(72,254)])) ::
 (247,(oQ "Stand" 502 70 245)) ::
 (248,(oR "waxcloth.stand" 247 244 496)) ::
 (250,oS) ::
 (253,(oY "__init__" "Stand.__init__" 32 0)) ::
 (261,(oW 258)) ::
 (262,(oX 258)) ::
 (264,oS) ::
 (267,(oT "new_stand" 33)) ::
 (271,oS) ::
 (274,(oT "behind_hang" 34)) ::
 (278,oS) ::
 (279,(oT "behind_fold" 35)) ::
 (283,oS) ::
 (286,(oT "behind_twin" 36)) ::
 (290,oS) ::
 (293,(oT "behind_wish" 37)) ::
 (297,oS) ::
 (300,(oT "behind_wax" 38)) ::
 (304,oS) ::
 (305,(oT "behind_dip" 39)) ::
 (309,oS) ::
 (310,(oT "behind_boil" 40)) ::
 (314,oS) ::
 (317,(oT "behind_brew" 41)) ::
 (322,oS) ::
 (325,(oT "behind" 43)) ::
 (329,oS) ::
 (332,(oT "with_cloths" 44)) ::
 (336,oS) ::
 (339,(oT "with_pot" 45)) ::
 (343,oS) ::
 (346,(oT "check_new" 46)) ::
 (350,oS) ::
 (353,(oT "check_hangs" 47)) ::
 (357,oS) ::
 (360,(oT "check_names" 48)) ::
 (364,oS) ::
 (367,(oT "check_dye" 49)) ::
 (371,oS) ::
 (374,(oT "bolt_of" 51)) ::
 (377,oA) ::
 (378,oU) ::
 (379,(PySem.Obj.mk (.type "dict") none (.dict #[(dE P "__module__" 707 (.str "waxcloth.house" 698)),(dE P "__qualname__" 709 (.str "House" 708)),(dE P "__firstlineno__" 711 (.int 155 710)),dR P "__init__" 719 390,dR P "do" 725 395,dR P "undo" 733 402,dR P "redo" 741 409,dR P "book" 747 414,dR P "ahead" 753 419,dR P "mark" 761 426,dR P "go" 769 433,dR P "marks" 775 438,dR P "names" 782 445,dR P "ready" 788 450,dR P "stains" 794 455,dR P "wishes" 800 460,dR P "waxed" 806 465,dR P "bolt" 814 472,dR P "hindered" 822 479,dR P "plan" 830 486,dR P "boilings" 838 493,dR P "held" 846 500,dR P "would" 855 507,dR P "sources" 865 514,dR P "now" 872 521,dR P "cloth" 881 528,dR P "__static_attributes__" 887 529] 27) #[])) ::
 (380,oA) ::
 (381,(o3 4 [(157,389),(164,394),(171,401),(178,408),(185,413),(188,418),(191,425),(196,432),(204,437),(207,444),(210,449),(213,454),(216,459),(219,464),(222,471),(225,478),(228,485),(231,492),(234,499),(237,506),(240,513),(243,520),(248,527)])) ::
 (382,(oQ "House" 702 155 380)) ::
 (383,(oR "waxcloth.house" 382 379 698)) ::
 (385,oS) ::
 (388,(oY "__init__" "House.__init__" 53 0)) ::
 (392,oS) ::
 (393,(oY "do" "House.do" 53 1)) ::
 (397,oS) ::
 (400,(oY "undo" "House.undo" 53 2)) ::
 (404,oS) ::
 (407,(oY "redo" "House.redo" 53 3)) ::
 (411,oS) ::
 (412,(oY "book" "House.book" 53 4)) ::
 (416,oS) ::
 (417,(oY "ahead" "House.ahead" 53 5)) ::
 (421,oS) ::
 (424,(oY "mark" "House.mark" 53 6)) ::
 (428,oS) ::
 (431,(oY "go" "House.go" 53 7)) ::
 (435,oS) ::
 (436,(oY "marks" "House.marks" 53 8)) ::
 (440,oS) ::
 (443,(oY "names" "House.names" 53 9)) ::
 (447,oS) ::
 (448,(oY "ready" "House.ready" 53 10)) ::
 (452,oS) ::
 (453,(oY "stains" "House.stains" 53 11)) ::
 (457,oS) ::
 (458,(oY "wishes" "House.wishes" 53 12)) ::
 (462,oS) ::
 (463,(oY "waxed" "House.waxed" 53 13)) ::
 (467,oS) ::
 (470,(oY "bolt" "House.bolt" 53 14)) ::
 (474,oS) ::
 (477,(oY "hindered" "House.hindered" 53 15)) ::
 (481,oS) ::
 (484,(oY "plan" "House.plan" 53 16)) ::
 (488,oS) ::
 (491,(oY "boilings" "House.boilings" 53 17)) ::
 (495,oS) ::
 (498,(oY "held" "House.held" 53 18)) ::
 (502,oS) ::
 (505,(oY "would" "House.would" 53 19)) ::
 (509,oS) ::
 (512,(oY "sources" "House.sources" 53 20)) ::
 (516,oS) ::
 (519,(oY "now" "House.now" 53 21)) ::
 (523,oS) ::
 (526,(oY "cloth" "House.cloth" 53 22)) ::
 (534,(oW 531)) ::
 (535,(oX 531)) ::
 (537,oS) ::
 (540,(oT "_law_whole" 55)) ::
 (544,oS) ::
 (545,(oT "_law_wholes" 56)) ::
 (549,oS) ::
 (550,(oT "_law_shades" 57)) ::
 (554,oS) ::
 (557,(oT "_law_box" 58)) ::
 (561,oS) ::
 (564,(oT "_law_mixed" 59)) ::
 (568,oS) ::
 (571,(oT "_law_take" 60)) ::
 (575,oS) ::
 (578,(oT "_law_letters" 61)) ::
 (582,oS) ::
 (583,(oT "_law_named" 62)) ::
 (587,oS) ::
 (588,(oT "_law_pictures" 63)) ::
 (592,oS) ::
 (593,(oT "_law_stands" 64)) ::
 (597,oS) ::
 (600,(oT "_law_refused" 65)) ::
 (604,oS) ::
 (605,(oT "_law_empty" 66)) ::
 (609,oS) ::
 (612,(oT "law" 67)):: []
noncomputable def mix:Nat->Nat->List (Nat×Obj)->List (Nat×Obj)->List Obj
 |0,_,_,_=> []
 |n+1,i,(a,x)::l,(b,y)::r=>match Nat.beq a i with
  |true=>x::mix n (i+1) l ((b,y)::r)
  |false=>y::mix n (i+1) ((a,x)::l) r
 |n+1,i,(_,x)::l,[]=>x::mix n (i+1) l []
 |n+1,i,[],(_,y)::r=>y::mix n (i+1) [] r
 |_+1,_,[],[]=> []
noncomputable def ev:Bool->List Obj->List Obj
 |_,[]=> []
 |true,x::r=>x::ev false r
 |false,_::r=>ev true r
noncomputable def bt:Nat->List Obj->PySem.W.BT
 |0,_=>.nil
 |_+1,[]=>.nil
 |n+1,x::r=>.node x (bt n (ev true r)) (bt n (ev false r))
noncomputable def lf:Life:=(.mk [] [] [] 0 [] [] false #[] [] 0 false false false 0 [2000,10,10] false 0 true [] [] 0 false)
noncomputable def zcy(P:PySem.Params):List Obj:=mix 615 0 (K P) (zgC P)
noncomputable def kH:List Obj->Nat->Obj->List Obj
 |[],_,_=> []
 |x::r,n,y=>match n with
  |0=>y::r
  |n+1=>x::kH r n y
noncomputable def KO:Env:={ scope:=RR.prog.main.scope,locals:=mainNs,globals:=mainNs,cells:= [],code:=.ref 13,frame:=some 14 }
noncomputable def bH:List Stmt:=PySem.W.behindTheImports RR.prog
noncomputable def cH:Code:=.body bH KO
noncomputable abbrev BH:List Frame:= [PySem.W.topFrame ⟨0,0,0,0⟩]
noncomputable def ze5 (P:PySem.Params):List Obj:= [PySem.W.boot_o_0 P,PySem.W.boot_o_1 P,PySem.W.boot_o_2 P,PySem.W.boot_o_3 P,PySem.W.boot_o_4 P,PySem.W.boot_o_5 P,PySem.W.boot_o_6 P,PySem.W.boot_o_7 P,PySem.W.boot_o_8 P,PySem.W.boot_o_9 P,PySem.W.boot_o_10 P,oA,oS,(oQ "<module>" 182 1 11),(oR "__main__" 13 3 164)]
theorem preH:∀ w:World,(fun os=>PySem.W.topGo treeTable RR.prog w 11 (some (.ref 6)) 12 ⟨PySem.W.boot_heap w.params,Array.mk [],PySem.W.boot_drawn,PySem.W.boot_toks,os⟩ (PySem.W.topStub RR.prog))=fun os=>some (⟨⟨(ze5 w.params).toArray,lf⟩,Array.mk [],PySem.W.boot_drawn,187,os⟩,⟨denote treeTable cH,cH,⟨0,0,0,0⟩,BH⟩):=fun w=>by kernel_rfl
noncomputable def tr0(P:PySem.Params):PySem.W.BT:=bt 14 (ze5 P)
theorem zeq:∀ w:World,(fun os=>PySem.W.segRun treeTable RR.prog w 11 (some (.ref 6)) 1 1 ⟨⟨(ze5 w.params).toArray,lf⟩,Array.mk [],PySem.W.boot_drawn,187,os⟩ (PySem.W.blockOf bH KO cH ⟨0,0,0,0⟩ BH))=fun os=>some (.next,(PySem.W.SharedT.mk (tr0 w.params) 15 lf (Array.mk []) PySem.W.boot_drawn 187 os).abs,cH,⟨0,0,0,0⟩):=fun w=>by kernel_rfl
noncomputable def tr1 (P:PySem.Params):PySem.W.BT:=bt 14 (kH (kH (kH ((zcy P).take 167) 3 (PySem.Obj.mk (.type "dict") none (.dict #[(dE P "__name__" 165 (.str "waxcloth.errors" 194)),(dE P "__doc__" 166 .none),(dE P "__package__" 167 .none),(dE P "__loader__" 168 (.builtin "__main__.__loader__#opaque")),(dE P "__spec__" 169 .none),dR P "__annotations__" 170 6,dR P "__builtins__" 171 4,(dE P "__file__" 173 (.str "/claim/cut.py" 172)),(dE P "__cached__" 174 .none),dR P "_wall" 193 21,dR P "WaxError" 213 31,dR P "NoName" 229 44,dR P "Taken" 245 56,dR P "BadSize" 261 68,dR P "NoCloth" 277 80,dR P "NoCell" 293 92,dR P "BadWish" 309 104,dR P "Twice" 325 116,dR P "NoDye" 341 128,dR P "Spent" 357 140,dR P "StillFresh" 373 152,dR P "TooDeep" 389 164] 22) #[])) 12 (o3 0 [(1,20),(5,27),(7,40),(9,52),(11,64),(13,76),(15,88),(17,100),(19,112),(21,124),(23,136),(25,148),(27,160)])) 31 (PySem.Obj.mk (.type "type") none (.cls (PySem.ClassData.mk "WaxError" [(.type "ValueError")] [(.ref 31),(.type "ValueError"),(.type "Exception"),(.type "BaseException"),(.type "object")] 30 "WaxError" true [] (rL [44,56,68,80,92,104,116,128,140,152,164]) false none false)) #[(some (.ref 22)),none,(some (.str "WaxError" 196)),(some (.str "WaxError" 204)),(some (.builtin "ValueError.__new__")),(some (.bool true))]))
noncomputable def zg4:List Stmt:=(bH.drop 0).take 14
theorem zgQ:∀ w:World,(fun os=>PySem.W.segRunT treeTable RR.prog w 11 (some (.ref 6)) 1 2568 (PySem.W.SharedT.mk (tr0 w.params) 15 lf (Array.mk []) PySem.W.boot_drawn 187 os) (PySem.W.piecesOf zg4 KO cH ⟨0,0,0,0⟩ BH))=fun os=>some (.next,(PySem.W.SharedT.mk (tr1 w.params) 167 lf (Array.mk []) PySem.W.boot_drawn 390 os),cH,⟨27,0,28,8⟩):=fun w=>by kernel_rfl
noncomputable def tr2 (P:PySem.Params):PySem.W.BT:=bt 14 (kH (kH ((zcy P).take 548) 3 (PySem.Obj.mk (.type "dict") none (.dict #[(dE P "__name__" 165 (.str "law_waxcloth_k35_a_new_house" 895)),(dE P "__doc__" 166 .none),(dE P "__package__" 167 .none),(dE P "__loader__" 168 (.builtin "__main__.__loader__#opaque")),(dE P "__spec__" 169 .none),dR P "__annotations__" 170 6,dR P "__builtins__" 171 4,(dE P "__file__" 173 (.str "/claim/cut.py" 172)),(dE P "__cached__" 174 .none),dR P "_wall" 193 21,dR P "WaxError" 213 31,dR P "NoName" 229 44,dR P "Taken" 245 56,dR P "BadSize" 261 68,dR P "NoCloth" 277 80,dR P "NoCell" 293 92,dR P "BadWish" 309 104,dR P "Twice" 325 116,dR P "NoDye" 341 128,dR P "Spent" 357 140,dR P "StillFresh" 373 152,dR P "TooDeep" 389 164,dR P "NothingLeft" 405 176,dR P "NoMark" 421 188,(dE P "DEEPEST" 425 (.int 9 424)),dR P "bare" 431 195,dR P "with_wish" 443 202,dR P "with_wax" 449 207,dR P "dipped" 455 212,dR P "boiled" 461 217,dR P "has_cell" 469 224,dR P "is_picture" 475 229,dR P "deepened" 483 236,(dE P "LETTERS" 487 (.str "abcdefghijklmnopqrstuvwxyz" 486)),(dE P "MOST_LETTERS" 489 (.int 8 488)),dR P "is_name" 495 241,(dE P "MOST_CELLS" 499 (.int 40 498)),dR P "Stand" 530 258,dR P "new_stand" 537 269,dR P "behind_hang" 547 276,dR P "behind_fold" 553 281,dR P "behind_twin" 563 288,dR P "behind_wish" 574 295,dR P "behind_wax" 584 302,dR P "behind_dip" 590 307,dR P "behind_boil" 596 312,dR P "behind_brew" 605 319,dR P "DEEDS" 622 320,dR P "behind" 633 327,dR P "with_cloths" 642 334,dR P "with_pot" 652 341,dR P "check_new" 660 348,dR P "check_hangs" 668 355,dR P "check_names" 677 362,dR P "check_dye" 685 369,dR P "bolt_of" 697 376,dR P "House" 894 531,dR P "_law_whole" 903 542,dR P "_law_wholes" 909 547] 59) #[])) 12 (o3 0 [(1,20),(5,27),(7,40),(9,52),(11,64),(13,76),(15,88),(17,100),(19,112),(21,124),(23,136),(25,148),(27,160),(29,172),(31,184),(35,194),(38,201),(45,206),(51,211),(55,216),(57,223),(59,228),(61,235),(66,240),(70,247),(75,268),(77,275),(83,280),(87,287),(92,294),(96,301),(100,306),(108,311),(112,318),(119,326),(123,333),(127,340),(131,347),(136,354),(139,361),(144,368),(148,375),(155,382),(253,541),(255,546)]))
noncomputable def zg5:List Stmt:=(bH.drop 14).take 43
theorem zgR:∀ w:World,(fun os=>PySem.W.segRunT treeTable RR.prog w 11 (some (.ref 6)) 1 2600 (PySem.W.SharedT.mk (tr1 w.params) 167 lf (Array.mk []) PySem.W.boot_drawn 390 os) (PySem.W.piecesOf zg5 KO cH ⟨27,0,28,8⟩ BH))=fun os=>some (.next,(PySem.W.SharedT.mk (tr2 w.params) 548 lf (Array.mk []) PySem.W.boot_drawn 910 os),cH,⟨255,0,256,98⟩):=by
 refine PySem.W.byRow2 "special-get-raises" ?_ ?_<;>exact fun w=>by kernel_rfl
noncomputable def tr3(P:PySem.Params):PySem.W.BT:=bt 14 (zcy P)
noncomputable def zg6:List Stmt:=(bH.drop 57).take 11
theorem zgS:∀ w:World,(fun os=>PySem.W.segRunT treeTable RR.prog w 11 (some (.ref 6)) 1 320 (PySem.W.SharedT.mk (tr2 w.params) 548 lf (Array.mk []) PySem.W.boot_drawn 910 os) (PySem.W.piecesOf zg6 KO cH ⟨255,0,256,98⟩ BH))=fun os=>some (.next,(PySem.W.SharedT.mk (tr3 w.params) 615 lf (Array.mk []) PySem.W.boot_drawn 997 os),cH,⟨336,0,346,55⟩):=fun w=>by kernel_rfl
noncomputable def hE(P:PySem.Params):Heap:=⟨(zcy P).toArray,lf⟩
theorem finH:∀ w:World,(fun os=>PySem.W.topRun treeTable RR.prog w 11 (some (.ref 6)) 2 (PySem.W.SharedT.mk (tr3 w.params) 615 lf (Array.mk []) PySem.W.boot_drawn 997 os).abs ⟨PySem.W.doneF .next,cH,⟨336,0,346,55⟩,BH⟩)=fun os=>some ⟨hE w.params,Array.mk [],PySem.W.boot_drawn,997,os⟩:=fun w=>by kernel_rfl
theorem zgk:bH=zg4++(zg5++(zg6++([]))):=by kernel_rfl
theorem runH(w:World)(os:OsState):PySem.W.topRun treeTable RR.prog w 11 (some (.ref 6)) (12+(1+(2568+(2600+(320+2))))) ⟨PySem.W.boot_heap w.params,Array.mk [],PySem.W.boot_drawn,PySem.W.boot_toks,os⟩ (PySem.W.topStub RR.prog)=some ⟨hE w.params,Array.mk [],PySem.W.boot_drawn,997,os⟩:=by
 refine PySem.W.go_top (congrFun (preH w) os) (PySem.W.piece_block (congrFun (zeq w) os) ?_)
 rw[zgk]
 exact PySem.W.piece_app (PySem.W.segRun_of (congrFun (zgQ w) os)) (PySem.W.piece_app (PySem.W.segRun_of (congrFun (zgR w) os)) (PySem.W.piece_app (PySem.W.segRun_of (congrFun (zgS w) os)) (PySem.W.piece_nil (congrFun (finH w) os))))
noncomputable abbrev XtH:Shared->Bool:=fun s=>PySem.W.xlAt Q [] s&&PySem.W.recOk (PySem.W.RowW.records RR) s
theorem zeZ:∀ w:World,(fun os=>((PySem.W.staticsOk (importedModules RR.prog.main.body) (PySem.W.boot_heap w.params) (hE w.params)&&PySem.W.namesBound RR.prog (hE w.params)&&PySem.W.gensDone ⟨hE w.params,Array.mk [],PySem.W.boot_drawn,997,os⟩&&PySem.W.laidKept (PySem.W.boot_heap w.params) (hE w.params)),PySem.W.openSeen Q ["DEEDS"] (importedModules RR.prog.main.body) XtH true ⟨hE w.params,Array.mk [],PySem.W.boot_drawn,997,os⟩,(PySem.W.Hook.obs (PySem.W.kHook K asL asE)) ⟨hE w.params,Array.mk [],PySem.W.boot_drawn,997,os⟩))=fun _=>(true,PySem.W.openGood Q ["DEEDS"],PySem.W.Hook.val (PySem.W.kHook K asL asE) w):=fun w=>by kernel_rfl
theorem zgH:PySem.W.opening RR.prog=PySem.W.plainProg RR.prog.main.scope.names:=by kernel_rfl
theorem zeI:∀ s,fenceModules? RR.prog s=some s:=fun s=>by kernel_rfl
theorem zgY:∀ w:World,((PySem.W.boot_heap w.params).isNs mainGlobals&&(Array.mk ([]:List GenState)).size==0,(PySem.W.boot_heap w.params).objs.size,(PySem.W.boot_heap w.params).nsMap mainGlobals "__annotations__")=(true,11,(some (.ref 6))):=fun w=>by kernel_rfl
theorem left:PySem.W.LeftO RR.prog Q ["DEEDS"] XtH (PySem.W.Hook.obs (PySem.W.kHook K asL asE)) (PySem.W.Hook.val (PySem.W.kHook K asL asE)) 11096 :=
 PySem.W.LeftO.of_pieces (PySem.W.boot_open zgH (by decide +kernel) zeI) zgY runH (by decide +kernel) zeZ
theorem saidL:PySem.W.OpenLaw.wellSaid PySem.Challenge.rw_waxcloth_k35_a_new_house=true:=by kernel_rfl
end Wx
open PySem PySem.W PyProof.Rows
set_option hygiene false in
local macro_rules
 | `(tactic| rotate_left 0)=>`(tactic| (dsimp only [L2.KOf];refine' L2.Df.of KX G ?a ?l ?c ?k (fun _ _ _ _ _ _=>L3.el0 rfl);(case a=>k_is);(case l=>k_is);(case c=>k_is);(case k=>k_is)))
 | `(tactic| rotate_left 1)=>`(tactic| (dsimp only [L2.KOf];refine' L2.Df.of KX G ?a ?l ?c ?k (fun _ _ _ _ _ _=>L3.el1 fun _=>rfl);(case a=>k_is);(case l=>k_is);(case c=>k_is);(case k=>k_is)))
 | `(tactic| rotate_left 2)=>`(tactic| (dsimp only [L2.KOf];refine' L2.Df.of KX G ?a ?l ?c ?k (fun _ _ _ _ _ _=>L3.el2 fun _ _=>rfl);(case a=>k_is);(case l=>k_is);(case c=>k_is);(case k=>k_is)))
 | `(tactic| rotate_left 3)=>`(tactic| (dsimp only [L2.KOf];refine' L2.Df.of KX G ?a ?l ?c ?k (fun _ _ _ _ _ _=>L3.el3 fun _ _ _=>rfl);(case a=>k_is);(case l=>k_is);(case c=>k_is);(case k=>k_is)))
 | `(tactic| rotate_right 1)=>`(tactic| (dsimp only [L2.KOf];refine' L3.Dm.of (L3.ClsOf.mk ?n (L2.Cls.mk ?c1 ?c2 ?c3 ?c4)) ?a ?f ?l ?c ?k (fun _ _ _ _ _ _=>L3.el1 fun _=>rfl);(case n=>k_is);(case c1=>k_is);(case c2=>k_is);(case c3=>k_is);(case c4=>k_is);(case a=>k_is);(case f=>k_is);(case l=>k_is);(case c=>k_is);(case k=>k_is)))
 | `(tactic| rotate_right 2)=>`(tactic| (dsimp only [L2.KOf];refine' L3.Dm.of (L3.ClsOf.mk ?n (L2.Cls.mk ?c1 ?c2 ?c3 ?c4)) ?a ?f ?l ?c ?k (fun _ _ _ _ _ _=>L3.el2 fun _ _=>rfl);(case n=>k_is);(case c1=>k_is);(case c2=>k_is);(case c3=>k_is);(case c4=>k_is);(case a=>k_is);(case f=>k_is);(case l=>k_is);(case c=>k_is);(case k=>k_is)))
 | `(tactic| rotate_right 22)=>`(tactic| (dsimp only [L2.KOf];refine' L3.Di.of (L3.ClsOf.mk ?n (L2.Cls.mk ?c1 ?c2 ?c3 ?c4)) ?m ?a ?f ?kc ?l ?c ?k (fun _ _ _ _ _ _=>L3.el2 fun _ _=>rfl);(case n=>k_is);(case c1=>k_is);(case c2=>k_is);(case c3=>k_is);(case c4=>k_is);(case m=>k_is);(case a=>k_is);(case f=>k_is);(case kc=>k_is);(case l=>k_is);(case c=>k_is);(case k=>k_is)))
 | `(tactic| rotate_right 23)=>`(tactic| (dsimp only [L2.KOf];refine' L3.Di.of (L3.ClsOf.mk ?n (L2.Cls.mk ?c1 ?c2 ?c3 ?c4)) ?m ?a ?f ?kc ?l ?c ?k (fun _ _ _ _ _ _=>L3.el3 fun _ _ _=>rfl);(case n=>k_is);(case c1=>k_is);(case c2=>k_is);(case c3=>k_is);(case c4=>k_is);(case m=>k_is);(case a=>k_is);(case f=>k_is);(case kc=>k_is);(case l=>k_is);(case c=>k_is);(case k=>k_is)))
theorem PySem.Challenge.cw_waxcloth_k35_a_new_house_holds : PySem.Challenge.rw_waxcloth_k35_a_new_house.Holds := by
 w_on;refine PySem.W.holds_law Wx.saidL fun Wv=>?_
 refine PySem.W.holds_open (q:=Wx.Q) (loose:= ["DEEDS"]) (XP:=PySem.W.XL Wx.Q []) (YP:=PySem.W.Hook.says (PySem.W.kHook Wx.K Wx.asL Wx.asE)) (N:=11096) Wx.left (PySem.W.Hook.of (PySem.W.kHook Wx.K Wx.asL Wx.asE)) (PySem.W.Hook.keeps (PySem.W.kHook Wx.K Wx.asL Wx.asE)) (fun s e=>PySem.W.xl_of s (xC.mp e).1) PySem.W.XL.keeps (by rfl) (by rfl) (by rfl) (fun s e=>PySem.W.recFacts_of (xC.mp e).2) (by rfl) (by first | assumption | decide +kernel) (by decide +kernel) ⟨rfl,rfl,rfl,rfl,rfl,by decide +kernel⟩ ?hw ?hc
 (case hw=>w_witness2)
 k_fill
 haveI:L2.Cs:=⟨fun _=>0⟩
 refine L2.walkL (l:=PySem.Challenge.rw_waxcloth_k35_a_new_house) (k:=27) (st:=Wx.sLaw) rfl rfl ⟨rfl,by decide,by decide⟩ (fun w h Y=>PySem.W.kIn_of Y) ?F
 case F=>
  intro w mg fa h KX G hmg
  letI:L2.Cs:=L3.csOf mg
  have HD:L3.AllX (L2.KOf KX) mg Wx.defs:=Wx.hdd KX G (by rotate_left 1) (by rotate_left 2) (by rotate_left 3) (by rotate_left 2) (by rotate_left 2) (by rotate_left 1) (by rotate_left 2) (by rotate_left 2) (by rotate_left 2) (by rotate_left 1) (by rotate_right 23) (by rotate_left 1) (by rotate_left 2) (by rotate_left 2) (by rotate_left 2) (by rotate_left 2) (by rotate_left 2) (by rotate_left 2) (by rotate_left 2) (by rotate_left 2) (by rotate_left 2) (by rotate_left 2) (by rotate_left 3) (by rotate_left 2) (by rotate_left 2) (by rotate_left 2) (by rotate_left 2) (by rotate_left 2) (by rotate_right 22) (by rotate_right 2) (by rotate_right 1) (by rotate_right 1) (by rotate_right 1) (by rotate_right 1) (by rotate_right 2) (by rotate_right 2) (by rotate_right 1) (by rotate_right 1) (by rotate_right 1) (by rotate_right 2) (by rotate_right 2) (by rotate_right 2) (by rotate_right 2) (by rotate_right 1) (by rotate_right 2) (by rotate_left 1) (by rotate_left 1) (by rotate_left 2) (by rotate_left 2) (by rotate_left 2) (by rotate_left 0) (by rotate_left 1) (by rotate_left 2) (by rotate_left 2) (by rotate_left 3) (by rotate_left 3)
  have DB:L2.Df (L2.KOf KX) mg "_law_box" Wx.sBox ["_law_script"]:=by rotate_left 1
  have GD0:L2.GD w (L2.KOf KX) mg "DEEDS" [("hang","behind_hang"),("fold","behind_fold"),("twin","behind_twin"),("wish","behind_wish"),("wax","behind_wax"),("dip","behind_dip"),("boil","behind_boil"),("brew","behind_brew")]:=by
   dsimp only [L2.KOf]
   refine' L2.GD.of KX G (D:=320) (ep:=8) (l:= [("hang",606,276),("fold",607,281),("twin",608,288),("wish",609,295),("wax",610,302),("dip",611,307),("boil",612,312),("brew",613,319)]) ?hd ?hs ?ho ?hr ?hn
   (case hd=>k_is)
   (case hs=>decide)
   (case ho=>kernel_rfl)
   (case hr=>kernel_rfl)
   (case hn=>decide +kernel)
  have HB:∀ x,Wx.W.bi.contains x=true->mg x=none:=L3.bi_all (K:=L2.KOf KX) KX G (by kernel_rfl)
  have HX:=L3.ex_of (K:=L2.KOf KX) (L:=Wx.W.ex) KX G (by kernel_rfl)
  have L:L2.Dl (L2.KOf KX) "law" Wx.sLaw fa "_law_script" :=by
   dsimp only [L2.KOf]
   refine' L2.Dl.of KX G hmg ?a ?l ?c ?k ?b
   (case a=>k_is);(case l=>k_is);(case c=>k_is);(case k=>k_is)
   (case b=>exact fun s u=>.of_eq rfl)
  refine⟨L,fun fd Ff base=>?_⟩
  exact L3.law_ok Ff Wx.okS (Wx.kn_box DB (HB "list" (by kernel_rfl))) (by decide) (L3.wk_all (L3.dx_all HD Wx.oks) Wx.hw HB (L3.gi_of (K:=L2.KOf KX) KX G (by kernel_rfl)) (L3.gs_of (K:=L2.KOf KX) KX G (by kernel_rfl)) HX.1 HX.2 (Wx.hgd GD0) (L3.fk_all (K:=L2.KOf KX) KX G (by kernel_rfl)) 12) (by decide) rfl rfl rfl rfl (by first | exact Or.inl rfl | exact Or.inr rfl) rfl Wx.okLaw (fun cells i l t s hi=>Wx.law_run _ (Wx.ok35 0) cells i l t s hi)

