import PyProof.Rows.All
import Wide.All
import OpenK.AllK
import Wide.FinOn
import Lean
import PyProof.EqAt
import PyProof.EqKinds
import PyProof.TupleCall
import PyProof.NeData
import PyProof.DictCompW
import PyProof.WalksEnum
import PyProof.Rows.SortWalk
import PyProof.Rows.SetFrom
import PyProof.SetKind
import PyProof.SetRoads
import PyProof.Tail
import PyProof.FactsAll.set_2
import KE.KRevIter
import PyProof.Rows.StrWeight2
import PyProof.Rows.StrNews2
import PyProof.CallStr
import PyProof.FString
import PyProof.StrBlockH
import PyProof.SliceStr2
import KE.KIntText
import PyProof.Rows.StrNews
import PyProof.StrLoop
import PyProof.StrCalls
import PyProof.StrWalks
import PyProof.ZipIter
import PyProof.WalksMore
import KE.KDictList
import PyProof.Rows.SortStr
import PyProof.DictWalks
import PyProof.DictItems
import KE.KPairComp
import PyProof.Rows.ListMul
import PyProof.StrLawsTight
import PyProof.StrLawsChain
import PyProof.Rows.StrSliceCases
import PyProof.Rows.StrClose5
import PyProof.Rows.StrJoinMade
import KE.IntTextLaws
import PyProof.StrBlockI
import PySem.Challenge.RW_waxcloth_k34_charts_refused
abbrev xa:=@Bool.and_eq_true
abbrev xb:=@List.getElem?_eq_some_iff
abbrev xc:=@List.getElem?_append_left
abbrev xf:=@List.getElem?_append_right
abbrev xg:=@List.getElem?_set_ne
abbrev xh:=@List.getElem?_set_self
abbrev xi:=@Nat.le_refl
abbrev xj:=@List.mem_cons_of_mem
abbrev xk:=@Nat.lt_of_lt_of_le
abbrev xl:=@List.size_toArray
abbrev xm:=@Nat.ne_of_lt
abbrev xn:=@List.length_map
abbrev xo:=@List.length_cons
abbrev xp:=@List.mem_cons_self
abbrev xq:=@List.map_cons
abbrev xr:=@List.lookup_cons
abbrev xt:=@List.mem_append_right
abbrev xu:=@Bool.and_eq_true_iff
abbrev xv:=@List.getElem?_eq_none
abbrev xw:=@List.length_append
abbrev xy:=@List.mem_cons
abbrev xz:=@List.all_eq_true
abbrev xA:=@Nat.le_trans
abbrev xB:=@List.getElem?_map
abbrev xC:=@List.getElem?_eq_getElem
abbrev xD:=@List.nodup_cons
abbrev xE:=@Bool.or_eq_true
abbrev xF:=@List.mem_append
abbrev xG:=@List.append_nil
abbrev xH:=@List.length_set
abbrev xI:=@List.length_take
abbrev xJ:=@List.getElem?_replicate
abbrev xK:=@List.mem_map
abbrev xL:=@List.getElem?_take_of_lt
abbrev xM:=@List.any_cons
abbrev xN:=@List.map_map
abbrev xO:=@Nat.lt_irrefl
abbrev xP:=@List.nil_append
abbrev xQ:=@Bool.false_eq_true
abbrev xR:=@List.filterMap_cons
abbrev xS:=@Array.length_toList
abbrev xT:=@List.replicate_succ
abbrev xU:=@List.elem_iff
abbrev xV:=@List.mem_append_left
abbrev xW:=@List.find?_cons
abbrev xX:=@List.cons_append
abbrev xY:=@Array.getElem?_eq_some_iff
abbrev xZ:=@Nat.le_of_lt
abbrev ua:=@Nat.zero_le
abbrev ub:=@List.mem_of_getElem?
abbrev uc:=@List.flatten_cons
abbrev ud:=@List.ext_getElem?
abbrev ue:=@List.all_cons
abbrev uf:=@List.getElem?_cons_succ
abbrev ug:=@List.map_append
abbrev uh:=@List.length_replicate
abbrev ui:=@List.length_singleton
abbrev uj:=@List.set_append_right
abbrev uk:=@List.getD_eq_getElem?_getD
abbrev ul:=@List.getElem_mem
abbrev um:=@List.drop_eq_getElem_cons
abbrev uo:=@List.getElem?_range
abbrev uq:=@List.mem_filterMap
abbrev ur:=@Int.emod_lt_of_pos
abbrev ut:=@List.append_assoc
abbrev uu:=@List.nodup_append
abbrev uv:=@Array.all_eq_true
abbrev uw:=@List.drop_of_length_le
abbrev ux:=@List.filter_cons
abbrev uy:=@List.drop_length
abbrev uz:=@List.map_drop
abbrev uA:=@Int.emod_nonneg
abbrev uB:=@Bool.eq_iff_iff
set_option Elab.async false
set_option linter.all false
set_option maxRecDepth 100000
set_option bootstrap.genMatcherCode false
set_option compiler.extract_closed false
namespace L2
open PySem PySem.Spec PyProof.Rows
noncomputable abbrev Key:=Sum Int Str
noncomputable def WM:Key->Value->Bool
 |.inl k,v=>Value.isInt k v
 |.inr x,v=>Value.isStrOf x v
noncomputable def keyH(w:World):Key->Int
 |.inl k=>hashInt k
 |.inr x=>hashStr w x
theorem zF:∀ {k:Key}{v:Value},WM k v=true->(∃ i t,k=Sum.inl i/\v=Value.int i t)∨(∃ x t,k=Sum.inr x/\v=Value.str x t)
 |.inl i,v,h=>by
  obtain⟨t,e⟩:=Value.isInt_shape (k:=i) (v:=v) h
  exact .inl ⟨i,t,rfl,e⟩
 |.inr x,v,h=>by
  obtain⟨t,e⟩:=Value.isStrOf_shape (x:=x) (v:=v) h
  exact .inr ⟨x,t,rfl,e⟩
theorem kj(i:Int)(t:Tok):WM (.inl i) (.int i t)=true:=by simp[WM,Value.isInt]
theorem km(x:Str)(t:Tok):WM (.inr x) (.str x t)=true:=by simp[WM,Value.isStrOf]
theorem zes(a b:Int):decide ((Sum.inl a:Key)=Sum.inl b)=(a==b):=by
 by_cases e:a=b
 ·subst e;simp
 ·have h:¬ (Sum.inl a:Key)=Sum.inl b:=fun q=>e (Sum.inl.inj q)
  rw[decide_eq_false h]
  exact (beq_eq_false_iff_ne.mpr e).symm
theorem zev(a b:Str):decide ((Sum.inr a:Key)=Sum.inr b)=decide (a=b):=by
 by_cases e:a=b
 ·subst e;simp
 ·have h:¬ (Sum.inr a:Key)=Sum.inr b:=fun q=>e (Sum.inr.inj q)
  rw[decide_eq_false h,decide_eq_false e]
theorem zet(a:Int)(b:Str):decide ((Sum.inl a:Key)=Sum.inr b)=false:=decide_eq_false (fun q=>nomatch q)
theorem zeu(a:Str)(b:Int):decide ((Sum.inr a:Key)=Sum.inl b)=false:=decide_eq_false (fun q=>nomatch q)
noncomputable def qC(prog:Program)(w:World):PySem.KeyKind prog w Key where
 is:=WM
 hash:=keyH w
 inj:=fun v a b ha hb=>by
  rcases zF ha with ⟨i,t,rfl,rfl⟩ | ⟨x,t,rfl,rfl⟩
  ·rcases zF hb with ⟨j,u,rfl,e⟩ | ⟨y,u,rfl,e⟩
   ·injection e with e1 _;rw[e1]
   ·exact nomatch e
  ·rcases zF hb with ⟨j,u,rfl,e⟩ | ⟨y,u,rfl,e⟩
   ·exact nomatch e
   ·injection e with e1 _;rw[e1]
 byValue:=fun k v h=>by
  rcases zF h with ⟨i,t,rfl,rfl⟩ | ⟨x,t,rfl,rfl⟩<;>rfl
 pyHash:=fun hv h=>by
  rcases zF hv with ⟨i,t,rfl,rfl⟩ | ⟨x,t,rfl,rfl⟩
  ·exact wpAny_pyHash_int h
  ·exact wpAny_pyHash_str h
 eqBool:=fun hu hv h=>by
  rcases zF hu with ⟨i,t,rfl,rfl⟩ | ⟨x,t,rfl,rfl⟩
  ·rcases zF hv with ⟨j,u,rfl,rfl⟩ | ⟨y,u,rfl,rfl⟩
   ·rw[zes]at h;exact wpAny_eqBool_int h
   ·rw[zet]at h;exact SeqAt.EqAt.int_str i t y u _ _ _ _ h
  ·rcases zF hv with ⟨j,u,rfl,rfl⟩ | ⟨y,u,rfl,rfl⟩
   ·rw[zeu]at h;exact SeqAt.EqAt.str_int x t j u _ _ _ _ h
   ·rw[zev]at h;exact wpAny_eqBool_str h
 «strs»:=fun k x t v h=>by
  rcases zF h with ⟨i,u,rfl,e⟩ | ⟨y,u,rfl,e⟩
  ·exact nomatch e
  ·injection e with e1 _
   subst e1
   cases v<;>rfl
theorem VD(prog:Program)(w:World)(i:Int)(t:Tok):(qC prog w).is (.inl i) (.int i t)=true:=kj i t
theorem VE(prog:Program)(w:World)(x:Str)(t:Tok):(qC prog w).is (.inr x) (.str x t)=true:=km x t
end L2
namespace L2
open PySem PySem.Spec PyProof.Rows
inductive V where
 |non | bl (b:Bool) | int (i:Int) | str (x:Str) | byt (b:Array UInt8) | flt (b:UInt64) | ref (a:Addr) | ty (n:String)
 deriving DecidableEq
noncomputable def RelV:V->Value->Prop
 |.non,u=>u=Value.none
 |.bl b,u=>u=Value.bool b
 |.int i,u=>∃ t,u=Value.int i t
 |.str x,u=>∃ t,u=Value.str x t
 |.byt b,u=>∃ t,u=Value.bytes b t
 |.flt b,u=>∃ t,u=Value.float b t
 |.ref a,u=>u=Value.ref a
 |.ty n,u=>u=Value.type n
noncomputable abbrev Vals:List V->List Value->Prop:=Paired RelV
theorem Vals.length{xs:List V}{us:List Value}(r:Vals xs us):xs.length=us.length:=Paired.length r
theorem Vals.get:∀ {xs:List V}{us:List Value}{i:Nat}{x:V},Vals xs us->xs[i]?=some x->∃ u,us[i]?=some u/\RelV x u
 |_,_,_,_,.nil,e=>by simp at e
 |_,_,0,_,.cons r _,e=>by simp at e;subst e;exact⟨_,rfl,r⟩
 |_,_,i+1,x,.cons _ t,e=>by
  obtain⟨u,h1,h2⟩:=Vals.get (i:=i) (x:=x) t (by simpa using e)
  exact⟨u,by simpa using h1,h2⟩
theorem Vals.set{x:V}{u:Value}(r:RelV x u):∀ {xs:List V}{us:List Value}(i:Nat),Vals xs us->Vals (xs.set i x) (us.set i u)
 |_,_,_,.nil=>.nil
 |_,_,0,.cons _ t=>.cons r t
 |_,_,i+1,.cons q t=>.cons q (Vals.set r i t)
theorem Vals.append:∀ {xs ys:List V}{us ws:List Value},Vals xs us->Vals ys ws->Vals (xs++ys) (us++ws)
 |_,_,_,_,.nil,s=>s
 |_,_,_,_,.cons r t,s=>.cons r (Vals.append t s)
theorem Vals.take:∀ {xs:List V}{us:List Value}(n:Nat),Vals xs us->Vals (xs.take n) (us.take n)
 |_,_,0,_=>.nil
 |_,_,_+1,.nil=>.nil
 |_,_,n+1,.cons r t=>.cons r (Vals.take n t)
theorem Vals.drop:∀ {xs:List V}{us:List Value}(n:Nat),Vals xs us->Vals (xs.drop n) (us.drop n)
 |_,_,0,r=>r
 |_,_,_+1,.nil=>.nil
 |_,_,n+1,.cons _ t=>Vals.drop n t
noncomputable def RelO:Option V->Option Value->Prop
 |some v,some u=>RelV v u
 |none,none=>True
 |_,_=>False
noncomputable def KV{κ:Type}:List (κ×V)->List (κ×Value)->Prop:=Paired fun (p:κ×V) (q:κ×Value)=>p.1=q.1/\RelV p.2 q.2
noncomputable def kV:Key->V
 |.inl i=>.int i
 |.inr x=>.str x
inductive HO where
 /-- a list -/
 |lst (xs:List V)
 /-- a tuple (never changes) -/
 |tup (xs:List V)
 /-- a dict whose keys are ints and texts;one whose keys are tuples of ints and texts (the empty one is zO) -/
 |dK (kvs:List (Key×V)) | dT (kvs:List (List Key×V))
 /-- a set of ints: its members,its size -/
 |set (S:Int->Bool) (n:Nat)
 /-- an instance of the class at C,its dict at dx,its attributes -/
 |ins (C dx:Addr) (fs:List (Str×V))
 /-- the dict of the instance at x -/
 |own (x:Addr)
 /-- the dict of an exception -/
 |xd (fs:List (Str×V))
 /-- a bound method,f of x -/
 |met (f x:Addr)
 /-- a range object lo,lo+1,.. below hi -/
 |rng (lo hi:Int)
 /-- a thing that is known to the object (the script;a dict while a loop walks it): read,never written while it is so -/
 |frz (o:Obj) (u:HO)
 /-- a code object's table -/
 |tbl (ps:Array Value)
 /-- any other thing,by what is true of its one object (a def of one's own: SetO a S n:=HO.ext fun h=>..) -/
 |ext (φ:Heap->Prop)
noncomputable abbrev Hp:=Addr->Option HO
noncomputable def upd(H:Hp)(a:Addr)(o:HO):Hp:=fun b=>if b=a then some o else H b
theorem zh{H:Hp}{a:Addr}{o:HO}:upd H a o a=some o:=by unfold upd;rw[if_pos rfl]
theorem zf{H:Hp}{a b:Addr}{o:HO}(h:b≠a):upd H a o b=H b:=by unfold upd;rw[if_neg h]
theorem zge{H:Hp}{a b:Addr}{o u:HO}(h:H a=some o)(h':H b=some u)(d:o≠u):a≠b:=by
 intro e;subst e;rw[h]at h';exact d (Option.some.inj h')
theorem zA{H:Hp}{a b:Addr}{o:HO}(h:H a=some o)(h':H b=none):a≠b:=by
 intro e;subst e;rw[h]at h';cases h'
section
variable (P:Program) (w:World)
noncomputable def ObjOk(H:Hp)(h:Heap)(a:Addr):HO->Prop
 |.lst xs=>xs.length<=sizeLine/\∃ (its:List Value) (n:Nat),Vals xs its/\h.get? a=some { cls:=.type "list",data:=.seq its.toArray n }
 |.tup xs=>xs.length<=sizeLine/\∃ its:List Value,Vals xs its/\IsTup h a its.toArray
 |.dK kvs=>kvs.length<=sizeLine/\(a==sysModules)=false/\∃ vs,KV kvs vs/\h.DictOf (qC P w) a vs
 |.dT kvs=>kvs.length<=sizeLine/\(a==sysModules)=false/\∃ xs:List (List Key×Addr×Value),
   Paired (fun (p:List Key×V) (q:List Key×Addr×Value)=>p.1=q.1/\H q.2.1=some (.tup (p.1.map kV))/\RelV p.2 q.2.2) kvs xs /\
   ∃ o es ep,h.get? a=some o/\o.ExactDict/\o.data=.dict es ep/\es.toList=xs.map (entryOfKey (tupleKind (qC P w)))/\(xs.map (·.1)).Nodup
 |.set S n=>h.SetOf (intKind P w) a S n
 |.ins C dx fs=>H dx=some (.own a)/\fs.length<=1000/\dx≠a/\h.get? a=some (PySem.W.instObj C dx) /\
   ∃ mA,h.Ns1 dx mA/\(∀ f,RelO (fs.lookup f) (mA f))/\PySem.Within mA (fs.map (·.1))
 |.own _=>∃ o,h.get? a=some o
 |.xd fs=>∃ mA,h.Ns1 a mA/\∀ f,RelO (fs.lookup f) (mA f)
 |.rng lo hi=>∃ t u v,h.get? a=some { cls:=.type "range",data:=.fields #[.int lo t,.int hi u,.int 1 v] }
 |.frz o u=>h.get? a=some o/\ObjOk H h a u
 |.tbl ps=>h.get? a=some { cls:=.none,data:=.fields ps }
 |.met f x=>h.get? a=some (PySem.W.methodObj (.ref f) (.ref x))
 |.ext φ=>φ h/\(∃ o,h.get? a=some o)/\∀ h1 h2:Heap,φ h1->(∀ o,h1.get? a=some o->h2.get? a=some o)->φ h2
noncomputable def HOk(H:Hp)(h:Heap):Prop:=∀ a o,H a=some o->ObjOk P w H h a o
end
section
variable {P:Program} {w:World} {H H':Hp} {h h':Heap} {a:Addr} {o:HO}
theorem ObjOk.lt(x:ObjOk P w H h a o):a<h.objs.size:=by
 cases o with
 |lst xs=>obtain⟨_,_,_,_,e⟩:=x;exact Heap.lt_size e
 |tup xs=>obtain⟨_,_,_,p⟩:=x;exact p.lt
 |dK kvs=>obtain⟨_,_,_,_,o,_,_,e,_⟩:=x;exact Heap.lt_size e
 |dT kvs=>obtain⟨_,_,_,_,o,_,_,e,_⟩:=x;exact Heap.lt_size e
 |set S n=>obtain⟨o,_,_,_,e,_⟩:=x;exact Heap.lt_size e
 |ins C dx fs=>obtain⟨_,_,_,e,_⟩:=x;exact Heap.lt_size e
 |own y=>obtain⟨_,e⟩:=x;exact Heap.lt_size e
 |xd fs=>obtain⟨_,⟨_,_,_,e,_⟩,_⟩:=x;exact Heap.lt_size e
 |rng lo hi=>obtain⟨_,_,_,e⟩:=x;exact Heap.lt_size e
 |frz ob u=>obtain⟨e,_⟩:=x;exact Heap.lt_size e
 |tbl ps=>exact Heap.lt_size (show h.get? a=some _ from x)
 |met f y=>exact Heap.lt_size (show h.get? a=some _ from x)
 |ext φ=>obtain⟨_,⟨_,e⟩,_⟩:=x;exact Heap.lt_size e
theorem Paired.mapP{α β:Type}{F G:α->β->Prop}:∀ {l₁:List α} {l₂:List β},Paired F l₁ l₂->(∀ a b,F a b->G a b)->Paired G l₁ l₂
 |_,_,.nil,_=>.nil
 |_,_,.cons r t,f=>.cons (f _ _ r) (Paired.mapP t f)
theorem ObjOk.stay(x:ObjOk P w H h a o)(k:∀ b u,(b=a∨H b=some (.own a))->h.get? b=some u->h'.get? b=some u)
  (ho:∀ b,H b=some (.own a)->H' b=some (.own a)) (ht:∀ b xs,H b=some (.tup xs)->H' b=some (.tup xs)):ObjOk P w H' h' a o:=by
 induction o with
 |lst xs=>obtain⟨z,its,n,r,e⟩:=x;exact⟨z,its,n,r,k _ _ (.inl rfl) e⟩
 |tup xs=>obtain⟨z,its,r,ob,e,c⟩:=x;exact⟨z,its,r,ob,k _ _ (.inl rfl) e,c⟩
 |dK kvs=>obtain⟨z,y,vs,r,ob,es,ep,e,c⟩:=x;exact⟨z,y,vs,r,ob,es,ep,k _ _ (.inl rfl) e,c⟩
 |dT kvs=>
  obtain⟨z,y,xs,r,ob,es,ep,e,c⟩:=x
  exact⟨z,y,xs,Paired.mapP r fun p q z=>⟨z.1,ht _ _ z.2.1,z.2.2⟩,ob,es,ep,k _ _ (.inl rfl) e,c⟩
 |set S n=>obtain⟨ob,es,ep,t,e,c⟩:=x;exact⟨ob,es,ep,t,k _ _ (.inl rfl) e,c⟩
 |ins C dx fs=>
  obtain⟨d,z,ne,e,mA,⟨od,es,ep,e2,c⟩,r⟩:=x
  exact⟨ho _ d,z,ne,k _ _ (.inl rfl) e,mA,⟨od,es,ep,k _ _ (.inr d) e2,c⟩,r⟩
 |own y=>obtain⟨ob,e⟩:=x;exact⟨ob,k _ _ (.inl rfl) e⟩
 |xd fs=>obtain⟨mA,⟨od,es,ep,e,c⟩,r⟩:=x;exact⟨mA,⟨od,es,ep,k _ _ (.inl rfl) e,c⟩,r⟩
 |rng lo hi=>obtain⟨t,u,v,e⟩:=x;exact⟨t,u,v,k _ _ (.inl rfl) e⟩
 |frz ob u ih=>obtain⟨e,q⟩:=x;exact⟨k _ _ (.inl rfl) e,ih q⟩
 |tbl ps=>
  have e:h.get? a=some { cls:=.none,data:=.fields ps }:=x
  show h'.get? a=some { cls:=.none,data:=.fields ps }
  exact k a _ (.inl rfl) e
 |met f y=>
  have e:h.get? a=some (PySem.W.methodObj (.ref f) (.ref y)):=x
  show h'.get? a=some (PySem.W.methodObj (.ref f) (.ref y))
  exact k a _ (.inl rfl) e
 |ext φ=>obtain⟨p,⟨o,e⟩,st⟩:=x;exact⟨st _ _ p fun o q=>k _ _ (.inl rfl) q,⟨o,k _ _ (.inl rfl) e⟩,st⟩
theorem HOk.lt(x:HOk P w H h)(e:H a=some o):a<h.objs.size:=(x a o e).lt
theorem HOk.fresh(x:HOk P w H h)(e:h.objs.size<=a):H a=none:=by
 cases q:H a with
 |none=>rfl
 |some u=>exact absurd (xk (x.lt q) e) (xO _)
theorem HOk.kept(x:HOk P w H h)(k:∀ b u,h.get? b=some u->h'.get? b=some u):HOk P w H h':=fun a o e=>
 (x a o e).stay (fun b u _ q=>k b u q) (fun _ q=>q) fun _ _ q=>q
theorem HOk.laid(x:HOk P w H h)(k:∀ b u,h.get? b=some u->h'.get? b=some u)(hp:h.objs.size<=a)(new:ObjOk P w (upd H a o) h' a o):HOk P w (upd H a o) h':=fun b u e=>by
 have hn:=x.fresh hp
 by_cases hb:b=a
 ·subst hb;rw[zh]at e;cases e;exact new
 ·rw[zf hb]at e
  exact (x b u e).stay (fun c v _ q=>k c v q) (fun c q=>by rw[zf (zA q hn)];exact q) fun c xs q=>by rw[zf (zA q hn)];exact q
end
noncomputable def Rd(H:Hp)(a:Addr)(u:HO):Prop:=H a=some u∨∃ o,H a=some (.frz o u)
theorem Rd.ok{P:Program}{w:World}{H:Hp}{h:Heap}{a:Addr}{u:HO}(r:Rd H a u)(x:HOk P w H h):ObjOk P w H h a u:=by
 rcases r with r | ⟨o,r⟩
 ·exact x a u r
 ·obtain⟨_,q⟩:=x a _ r
  exact q
noncomputable def Mut:Option HO->Prop
 |some (.lst _)=>True
 |some (.dK _)=>True
 |some (.dT _)=>True
 |some (.set _ _)=>True
 |some (.ins _ _ _)=>True
 |some (.ext _)=>True
 |_=>False
section
variable {P:Program} {w:World} {H:Hp} {h h':Heap} {x e:Addr} {o':HO}
theorem HOk.write(ok:HOk P w H h)(mu:Mut (H x))(he:e=x∨H e=some (.own x))(k:∀ b u,b≠e->h.get? b=some u->h'.get? b=some u)(heo:∃ u,h'.get? e=some u)
  (new:ObjOk P w (upd H x o') h' x o'):HOk P w (upd H x o') h':=fun b u q=>by
 have nown:∀ c y,H c=some (.own y)->c≠x:=fun c y r z=>by subst z;rw[r]at mu;exact mu
 have ntup:∀ c xs,H c=some (.tup xs)->c≠x:=fun c xs r z=>by subst z;rw[r]at mu;exact mu
 by_cases hb:b=x
 ·subst hb;rw[zh]at q;cases q;exact new
 ·rw[zf hb]at q
  by_cases hbe:b=e
  ·have q':H b=some (.own x):=by
    rcases he with z | z
    ·exact absurd (hbe.trans z) hb
    ·rw[hbe];exact z
   rw[q]at q';cases q'
   obtain⟨v,hv⟩:=heo
   exact⟨v,by rw[hbe];exact hv⟩
  ·refine (ok b u q).stay (fun c v hc r=>k c v ?_ r) (fun c r=>by rw[zf (nown c b r)];exact r) fun c xs r=>by rw[zf (ntup c xs r)];exact r
   rcases hc with rfl | hc
   ·exact hbe
   ·rintro rfl
    rcases he with z | z
    ·exact nown c b hc z
    ·rw[hc]at z;cases z;exact hb rfl
end
structure Un(fs ex:List Addr)(H H':Hp)(h h':Heap):Prop where
 keep:∀ b o,h.get? b=some o->H b=none->b∉fs->b∉ex->h'.get? b=some o
 slot:∀ b o,h.get? b=some o->H b=none->b∈fs->b∉ex->∃ sl,h'.get? b=some { o with slots:=sl }
 free:∀ b o,h.get? b=some o->H b=none->b∉ex->H' b=none
 there:∀ b o,h.get? b=some o->b∉ex->∃ o',h'.get? b=some o'
 tups:∀ b xs,H b=some (.tup xs)->H' b=some (.tup xs)
 frzs:∀ b o u,H b=some (.frz o u)->H' b=some (.frz o u)
 tbls:∀ b ps,H b=some (.tbl ps)->∃ more,H' b=some (.tbl (ps++more))
section
variable {fs fs' ex ex':List Addr} {H H1 H2:Hp} {h h1 h2 h':Heap} {a x e:Addr} {o:HO}
theorem Un.any(u:Un fs ex H H1 h h1){b:Addr}{ob:Obj}(q:h.get? b=some ob)(n:H b=none)(hx:b∉ex):∃ sl,h1.get? b=some { ob with slots:=sl }:=by
 by_cases hb:b∈fs
 ·exact u.slot b ob q n hb hx
 ·exact⟨ob.slots,u.keep b ob q n hb hx⟩
theorem Un.kept(k:∀ b u,h.get? b=some u->h'.get? b=some u):Un fs ex H H h h' :=
 ⟨fun b ob q _ _ _=>k b ob q,fun b ob q _ _ _=>⟨ob.slots,k b ob q⟩,fun _ _ _ n _=>n,fun b ob q _=>⟨ob,k b ob q⟩,fun _ _ q=>q,fun _ _ _ q=>q,fun _ ps q=>⟨#[],by rw[q];simp⟩⟩
theorem Un.refl:Un fs ex H H h h:=Un.kept fun _ _ q=>q
theorem Un.laid(k:∀ b u,h.get? b=some u->h'.get? b=some u)(hp:h.objs.size<=a)(hn:H a=none):Un fs ex H (upd H a o) h h' where
 keep:=fun b u q _ _ _=>k b u q
 slot:=fun b u q _ _ _=>⟨u.slots,k b u q⟩
 free:=fun b u q n _=>by rw[zf (xm (xk (Heap.lt_size q) hp))];exact n
 there:=fun b u q _=>⟨u,k b u q⟩
 tups:=fun b xs q=>by rw[zf (zA q hn)];exact q
 frzs:=fun b u xs q=>by rw[zf (zA q hn)];exact q
 tbls:=fun b ps q=>⟨#[],by rw[zf (zA q hn),q];simp⟩
theorem Un.write(mu:Mut (H x))(he:e=x∨H e=some (.own x))(k:∀ b u,b≠e->h.get? b=some u->h'.get? b=some u)(heo:∃ u,h'.get? e=some u):Un fs ex H (upd H x o) h h':=by
 have hx:∀ b,H b=none->b≠x:=fun b n z=>by subst z;rw[n]at mu;exact mu
 have hb:∀ b,H b=none->b≠e:=fun b n z=>by
  subst z
  rcases he with r | r
  ·exact hx b n r
  ·rw[n]at r;cases r
 have hm:∀ b u,H b=some u->¬ Mut (some u)->b≠x:=fun b u q nm z=>by subst z;rw[q]at mu;exact nm mu
 refine⟨fun b u q n _ _=>k b u (hb b n) q,fun b u q n _ _=>⟨u.slots,k b u (hb b n) q⟩,fun b u q n _=>by rw[zf (hx b n)];exact n,fun b u q _=>?_,
  fun b xs q=>by rw[zf (hm b _ q fun z=>z)];exact q,fun b u xs q=>by rw[zf (hm b _ q fun z=>z)];exact q,fun b ps q=>⟨#[],by rw[zf (hm b _ q fun z=>z),q];simp⟩⟩
 by_cases hbe:b=e
 ·subst hbe;exact heo
 ·exact⟨u,k b u hbe q⟩
end
noncomputable def trk(h:Heap)(H:Hp):List Addr:=(List.range h.objs.size).filter fun a=>(H a).isSome
noncomputable def vw(h:Heap)(H:Hp):Heap:=PySem.W.hideAll h (trk h H)
theorem Y9(h:Heap)(H:Hp):(vw h H).objs.size=h.objs.size:=PySem.W.hideAll_size _ _
theorem KY{h:Heap}{H:Hp}{b:Addr}{o:Obj}(e:h.get? b=some o)(n:H b=none):(vw h H).get? b=some o :=
 PySem.W.hideAll_get _ e fun hm=>by
  have q:(H b).isSome=true:=(List.mem_filter.mp hm).2
  rw[n]at q;simp at q
theorem zci{h:Heap}{H:Hp}{b:Addr}{o:Obj}(e:(vw h H).get? b=some o):h.get? b=some o/\H b=none:=by
 have e':h.get? b=some o:=PySem.W.of_hideAll (trk h H) e
 refine⟨e',?_⟩
 cases q:H b with
 |none=>rfl
 |some x=>
  have hm:b∈trk h H:=List.mem_filter.mpr ⟨List.mem_range.mpr (Heap.lt_size e'),by simp[q]⟩
  have z:(vw h H).get? b=none:=PySem.W.hideAll_none (trk h H) hm
  rw[z]at e;cases e
end L2
namespace L2
open PySem PySem.Spec PyProof.Rows
structure Mod(K:PySem.W.Frag)(mg:Str->Option Value)(base:Heap):Prop where
 kin:K.In base
 glob:base.Ns mainGlobals mg
 blt:∃ mb,base.Ns builtinsNs mb/\∀ x:Str,x≠ "__name__" ->mb x=bootBuiltins x
 nolimit:base.NoLimit
structure Cx where
 prog:Program
 w:World
 K:PySem.W.Frag
 mg:Str->Option Value
 base:Heap
 A:Around
 N:List Str
 s₀:Shared
 H₀:Hp
 env:Env
 outer:List Env
 stack:List Env
 ex:List Addr
 fn:Str->Bool
 calm:Bool
 pn:List (Addr×Obj)
 xe:Value->Shared->Prop
noncomputable def frs(l:List Env):List Addr:=l.filterMap (·.frame)
noncomputable abbrev Cx.fs(X:Cx):List Addr:=frs X.outer
noncomputable def Vis(sc:Scope)(x:Str):Prop:=sc.names.lookup x=some .local∨sc.names.lookup x=some .cell∨sc.names.lookup x=some .free
noncomputable def Loc(sc:Scope)(x:Str):Prop:=sc.names.lookup x=some .local∨sc.names.lookup x=some .cell
noncomputable def Look(env:Env)(h:Heap)(m:Str->Option Value)(x:Str)(u:Value):Prop :=
 (env.kindOf x=some .local/\m x=some u)∨((env.kindOf x=some .cell∨env.kindOf x=some .free)/\∃ c,env.cells.lookup x=some c/\h.IsCell c (some u))
structure Cx.Ok(X:Cx):Prop where
 mod:Mod X.K X.mg X.base
 kind:X.env.scope.kind=.function
 glob:X.env.globals=mainGlobals
 blt:X.env.builtins=builtinsNs
 above:X.s₀.heap.objs.size<=X.env.locals
 inj:∀ x y c,X.env.cells.lookup x=some c->X.env.cells.lookup y=some c->x=y
 has:∀ x,(X.env.kindOf x=some .cell∨X.env.kindOf x=some .free)->∃ c,X.env.cells.lookup x=some c
 cab:∀ x c,X.fn x=true->X.env.cells.lookup x=some c->X.s₀.heap.objs.size<=c
 hd:X.calm=true->X.A.handled=none
 frames:X.A.frames=some X.stack
 stk:X.stack=X.outer∨(X.stack=X.env::X.outer/\X.env.frame=some X.env.locals)
 exf:∀ b∈X.ex,b≠X.env.locals/\∀ x c,X.env.cells.lookup x=some c->c≠b
 bs:∀ b o,X.base.get? b=some o->X.s₀.heap.get? b=some o/\X.H₀ b=none
 bsz:X.base.objs.size<=X.s₀.heap.objs.size
 noex:∀ b o,X.base.get? b=some o->b∉X.ex
 exfs:∀ b∈X.ex,b∉X.fs
 funs:X.s₀.heap.FunFrames X.base X.outer
 frf:∀ b∈X.fs,X.H₀ b=none
structure Inv(X:Cx)(pins:List (Addr×Obj))(σ:List (Option V))(H:Hp)(s:Shared):Prop where
 ok:X.Ok
 os:s.os=X.s₀.os
 bare:AllBare s.gens
 base:Un X.fs X.ex X.H₀ H X.s₀.heap s.heap
 loc:∃ m,s.heap.Ns X.env.locals m/\∀ (i:Nat) (x:Str) (v:V),X.N[i]?=some x->σ[i]?=some (some v)->Vis X.env.scope x->∃ u,RelV v u/\Look X.env s.heap m x u
 cell:∀ x c,X.env.cells.lookup x=some c->∃ v,s.heap.IsCell c v
 free:H X.env.locals=none
 freeC:∀ x c,X.env.cells.lookup x=some c->H c=none
 pin:∀ p∈X.pn++pins,s.heap.get? p.1=some p.2/\H p.1=none/\p.1≠X.env.locals/\p.1∉X.fs/\∀ v,p.2.data≠ .cell v
 hok:HOk X.prog X.w H s.heap
 len:σ.length=X.N.length
section
variable {X:Cx} {pins:List (Addr×Obj)} {σ:List (Option V)} {H H':Hp} {s:Shared} {h':Heap}
theorem Cx.Ok.nofr(ok:X.Ok){b:Addr}{o:Obj}(e:X.base.get? b=some o):b∉X.fs:=fun hb=>by
 have:=(ok.funs.mem hb).1
 rw[e]at this;cases this
theorem Inv.bs(I:Inv X pins σ H s):∀ b o,X.base.get? b=some o->s.heap.get? b=some o/\H b=none:=fun b o e=>
 ⟨I.base.keep b o (I.ok.bs b o e).1 (I.ok.bs b o e).2 (I.ok.nofr e) (I.ok.noex b o e),I.base.free b o (I.ok.bs b o e).1 (I.ok.bs b o e).2 (I.ok.noex b o e)⟩
theorem Inv.bk(I:Inv X pins σ H s):∀ b o,X.base.get? b=some o->s.heap.get? b=some o:=fun b o e=>(I.bs b o e).1
theorem Inv.mod(I:Inv X pins σ H s):Mod X.K X.mg X.base:=I.ok.mod
theorem Inv.kIn(I:Inv X pins σ H s):X.K.In s.heap:=I.ok.mod.kin.keeps I.bk
theorem Inv.fr(I:Inv X pins σ H s):∃ m,Fr X.base X.env.locals s.heap m :=
 let ⟨m,hn,_⟩:=I.loc
 ⟨m,hn,I.bk,xA I.ok.bsz I.ok.above⟩
theorem Inv.lt(I:Inv X pins σ H s):X.env.locals<s.heap.objs.size:=let ⟨_,hn,_⟩:=I.loc;hn.lt
theorem Inv.sz(I:Inv X pins σ H s):X.s₀.heap.objs.size<=s.heap.objs.size:=xA I.ok.above (xZ I.lt)
theorem Inv.nofs(I:Inv X pins σ H s){a:Addr}(h:s.heap.objs.size<=a):a∉X.fs:=fun hb=>by
 obtain⟨_,o,ho,_⟩:=I.ok.funs.mem hb
 exact absurd (xk (Heap.lt_size ho) (xA I.sz h)) (xO _)
theorem Inv.cne(I:Inv X pins σ H s):∀ x c,X.env.cells.lookup x=some c->c≠X.env.locals:=fun x c e z=>by
 obtain⟨v,o,ho,hd⟩:=I.cell x c e
 obtain⟨m,⟨o',es,ep,ho',hd',_⟩,_⟩:=I.loc
 rw[z,ho']at ho;cases ho;rw[hd']at hd;cases hd
theorem Inv.funs(I:Inv X pins σ H s):s.heap.FunFrames X.base X.outer:=by
 have all:∀ (l:List Env),(∀ b∈frs l,b∈X.fs)->X.s₀.heap.FunFrames X.base l->s.heap.FunFrames X.base l:=by
  intro l
  induction l with
  |nil=>intro _ _;trivial
  |cons env r ih=>
   intro hs hl
   obtain⟨hk,⟨L,o,hf,hn,ho,hd⟩,hr⟩:=hl
   have hL:L∈X.fs:=hs L (by unfold frs;rw[xR,hf];exact xp)
   obtain⟨sl,e⟩:=I.base.slot L o ho (I.ok.frf L hL) hL fun z=>I.ok.exfs L z hL
   exact⟨hk,⟨L,_,hf,hn,e,hd⟩,ih (fun b hb=>hs b (by unfold frs;rw[xR,hf];exact xj _ hb)) hr⟩
 exact all X.outer (fun _ hb=>hb) I.ok.funs
theorem Inv.stack(I:Inv X pins σ H s):s.heap.FunFrames X.base X.stack:=by
 rcases I.ok.stk with e | ⟨e,hf⟩
 ·rw[e];exact I.funs
 ·rw[e]
  obtain⟨m,hn,_⟩:=I.loc
  refine .cons (by rw[I.ok.kind];decide) hf hn ?_ I.funs
  exact Heap.get?_none_of_le (xA I.ok.bsz I.ok.above)
theorem Inv.stkSub(I:Inv X pins σ H s):∀ b∈frs X.stack,b∈X.env.locals::X.fs:=fun b hb=>by
 rcases I.ok.stk with e | ⟨e,hf⟩
 ·rw[e]at hb;exact xj _ hb
 ·rw[e]at hb
  unfold frs at hb
  rw[xR,hf]at hb
  exact hb
theorem Inv.stkFree(I:Inv X pins σ H s):∀ b∈frs X.stack,H b=none:=fun b hb=>by
 rcases xy.mp (I.stkSub b hb)with e | hb
 ·rw[e];exact I.free
 ·obtain⟨_,o,ho,_⟩:=I.ok.funs.mem hb
  exact I.base.free b o ho (I.ok.frf b hb) fun z=>I.ok.exfs b z hb
theorem Inv.step{g':Array GenState}{t':Nat}{d':Drawn}{ch:List Addr}(I:Inv X pins σ H s)
  (hch:∀ b∈ch,(b∈X.ex∨X.s₀.heap.objs.size<=b)/\b≠X.env.locals/\(∀ x c,X.env.cells.lookup x=some c->c≠b)/\∀ p∈X.pn++pins,p.1≠b)
  (keep:∀ b o,b≠X.env.locals->b∉X.fs->b∉ch->s.heap.get? b=some o->H b=none->h'.get? b=some o)
  (slot:∀ b o,b≠X.env.locals->b∈X.fs->b∉ch->s.heap.get? b=some o->H b=none->∃ sl,h'.get? b=some { o with slots:=sl }) (free:∀ b o,b∉ch->s.heap.get? b=some o->H b=none->H' b=none)
  (there:∀ b o,b∉ch->s.heap.get? b=some o->∃ o',h'.get? b=some o')
  (tups:∀ b xs,H b=some (.tup xs)->H' b=some (.tup xs)) (frzs:∀ b o u,H b=some (.frz o u)->H' b=some (.frz o u)) (tbls:∀ b ps,H b=some (.tbl ps)->∃ more,H' b=some (.tbl (ps++more)))
  (ns:∀ m,s.heap.Ns X.env.locals m->h'.Ns X.env.locals m) (hok:HOk X.prog X.w H' h') (hg:AllBare g') :
  Inv X pins σ H' { s with heap:=h',gens:=g',drawn:=d',toks:=t' }:=by
 have neL:∀ b o,X.s₀.heap.get? b=some o->b≠X.env.locals:=fun b o e=>xm (xk (Heap.lt_size e) I.ok.above)
 have neC:∀ b o,X.s₀.heap.get? b=some o->b∉X.ex->b∉ch:=fun b o e hx hb=>by
  rcases (hch b hb).1 with z | z
  ·exact hx z
  ·exact absurd (xk (Heap.lt_size e) z) (xO _)
 have cellK:∀ x c,X.env.cells.lookup x=some c->∀ v,s.heap.IsCell c v->h'.IsCell c v:=fun x c e v ⟨o,ho,hd⟩=>by
  have nch:c∉ch:=fun z=>(hch c z).2.2.1 x c e rfl
  by_cases hc:c∈X.fs
  ·obtain⟨sl,q⟩:=slot c o (I.cne x c e) hc nch ho (I.freeC x c e)
   exact⟨_,q,hd⟩
  ·exact⟨o,keep c o (I.cne x c e) hc nch ho (I.freeC x c e),hd⟩
 refine⟨I.ok,I.os,hg,⟨fun b o e n hb hx=>?_,fun b o e n hb hx=>?_,fun b o e n hx=>?_,fun b o e hx=>?_,fun b xs e=>tups b xs (I.base.tups b xs e),fun b o xs e=>frzs b o xs (I.base.frzs b o xs e),fun b ps e=>?_⟩,?_,fun x c e=>?_,?_,fun x c e=>?_,fun p hp=>?_,hok,I.len⟩
 ·exact keep b o (neL b o e) hb (neC b o e hx) (I.base.keep b o e n hb hx) (I.base.free b o e n hx)
 ·obtain⟨sl,e1⟩:=I.base.slot b o e n hb hx
  obtain⟨sl',e2⟩:=slot b _ (neL b o e) hb (neC b o e hx) e1 (I.base.free b o e n hx)
  exact⟨sl',e2⟩
 ·obtain⟨o',e1⟩:=I.base.there b o e hx
  exact free b o' (neC b o e hx) e1 (I.base.free b o e n hx)
 ·obtain⟨o',e1⟩:=I.base.there b o e hx
  exact there b o' (neC b o e hx) e1
 ·obtain⟨m1,e1⟩:=I.base.tbls b ps e
  obtain⟨m2,e2⟩:=tbls b _ e1
  exact⟨m1++m2,by rw[e2,Array.append_assoc]⟩
 ·obtain⟨m,hn,hl⟩:=I.loc
  refine⟨m,ns m hn,fun i x v e1 e2 e3=>?_⟩
  obtain⟨u,r,l⟩:=hl i x v e1 e2 e3
  refine⟨u,r,?_⟩
  rcases l with l | ⟨k,c,e,z⟩
  ·exact .inl l
  ·exact .inr ⟨k,c,e,cellK x c e _ z⟩
 ·obtain⟨v,z⟩:=I.cell x c e
  exact⟨v,cellK x c e v z⟩
 ·obtain⟨m,⟨o,_,_,ho,_⟩,_⟩:=I.loc
  exact free _ o (fun z=>(hch _ z).2.1 rfl) ho I.free
 ·obtain⟨v,o,ho,hd⟩:=I.cell x c e
  exact free c o (fun z=>(hch c z).2.2.1 x c e rfl) ho (I.freeC x c e)
 ·obtain⟨e,n,ne,nf,d⟩:=I.pin p hp
  have nch:p.1∉ch:=fun z=>(hch p.1 z).2.2.2 p hp rfl
  exact⟨keep p.1 p.2 ne nf nch e n,free p.1 p.2 nch e n,ne,nf,d⟩
theorem Inv.un{t':Nat}(I:Inv X pins σ H s)(u:Un X.fs [] H H' s.heap h')(hok:HOk X.prog X.w H' h'):Inv X pins σ H' { s with heap:=h',toks:=t' }:=by
 obtain⟨m,⟨o,es,ep,ho,r⟩,_⟩:=id I.loc
 obtain⟨sl,hL⟩:=u.any ho I.free (by simp)
 exact I.step (g':=s.gens) (d':=s.drawn) (ch:= []) (fun _ z=>nomatch z) (fun b o _ hb _ e n=>u.keep b o e n hb (by simp)) (fun b o _ hb _ e n=>u.slot b o e n hb (by simp)) (fun b o _ e n=>u.free b o e n (by simp)) (fun b o _ e=>u.there b o e (by simp)) u.tups u.frzs u.tbls (fun m' hm=>by
  obtain⟨o',es',ep',ho',r'⟩:=hm
  rw[ho]at ho';cases ho'
  exact⟨_,es',ep',hL,r'⟩) hok I.bare
theorem Inv.call{g':Array GenState}{t':Nat}{d':Drawn}{ch:List Addr}(I:Inv X pins σ H s)(u:Un (frs X.stack) ch H H' s.heap h')(hok:HOk X.prog X.w H' h')(hg:AllBare g')
  (hch:∀ b∈ch,(b∈X.ex∨X.s₀.heap.objs.size<=b)/\b≠X.env.locals/\(∀ x c,X.env.cells.lookup x=some c->c≠b)/\∀ p∈X.pn++pins,p.1≠b) :
  Inv X pins σ H' { s with heap:=h',gens:=g',drawn:=d',toks:=t' }:=by
 obtain⟨m,⟨o,es,ep,ho,r⟩,_⟩:=id I.loc
 obtain⟨sl,hL⟩:=u.any ho I.free fun z=>(hch _ z).2.1 rfl
 exact I.step (ch:=ch) hch (fun b o hL hb hc e n=>u.keep b o e n (fun z=>(xy.mp (I.stkSub b z)).elim hL hb) hc) (fun b o _ _ hc e n=>u.any e n hc) (fun b o hc e n=>u.free b o e n hc) (fun b o hc e=>u.there b o e hc) u.tups u.frzs u.tbls (fun m' hm=>by
  obtain⟨o',es',ep',ho',r'⟩:=hm
  rw[ho]at ho';cases ho'
  exact⟨_,es',ep',hL,r'⟩) hok hg
theorem Inv.turned{t':Nat}{it:Addr}(I:Inv X pins σ H s)(k:∀ b o,b≠it->s.heap.get? b=some o->h'.get? b=some o)(hn:H it=none)(hL:it≠X.env.locals)
  (h1:it∈X.ex∨X.s₀.heap.objs.size<=it) (h2:∀ x c,X.env.cells.lookup x=some c->c≠it) (h3:∀ p∈X.pn++pins,p.1≠it):Inv X pins σ H { s with heap:=h',toks:=t' }:=by
 have nit:∀ b u,H b=some u->b≠it:=fun b u e z=>by rw[z,hn]at e;cases e
 refine I.step (g':=s.gens) (d':=s.drawn) (ch:= [it]) (fun b hb=>?_) (fun b o _ _ hc e _=>k b o (fun z=>hc (by simp[z])) e) (fun b o _ _ hc e _=>⟨o.slots,k b o (fun z=>hc (by simp[z])) e⟩) (fun _ _ _ _ n=>n)
  (fun b o hc e=>⟨o,k b o (fun z=>hc (by simp[z])) e⟩) (fun _ _ e=>e) (fun _ _ _ e=>e) (fun b ps e=>⟨#[],by rw[e];simp⟩) (fun m hm=>?_) (fun b u e=>?_) I.bare
 ·have e:b=it:=by simpa using hb
  subst e
  exact⟨h1,hL,h2,h3⟩
 ·obtain⟨o,es,ep,ho,r⟩:=hm
  exact⟨o,es,ep,k _ o (Ne.symm hL) ho,r⟩
 ·refine (I.hok b u e).stay (fun c v hc q=>k c v ?_ q) (fun _ q=>q) fun _ _ q=>q
  rcases hc with z | z
  ·rw[z];exact nit b u e
  ·exact nit c _ z
theorem Inv.tok(I:Inv X pins σ H s)(t:Nat):Inv X pins σ H { s with toks:=t }:=I.un (h':=s.heap) (t':=t) Un.refl I.hok
theorem Inv.kept{t':Nat}(I:Inv X pins σ H s)(k:∀ b u,s.heap.get? b=some u->h'.get? b=some u):Inv X pins σ H { s with heap:=h',toks:=t' }:=I.un (Un.kept k) (I.hok.kept k)
theorem Inv.laid{a:Addr}{o:HO}{t':Nat}(I:Inv X pins σ H s)(k:∀ b u,s.heap.get? b=some u->h'.get? b=some u)(hp:s.heap.objs.size<=a)(new:ObjOk X.prog X.w (upd H a o) h' a o) :
  Inv X pins σ (upd H a o) { s with heap:=h',toks:=t' }:=I.un (Un.laid k hp (I.hok.fresh hp)) (I.hok.laid k hp new)
theorem Inv.write{x e:Addr}{o:HO}{t':Nat}(I:Inv X pins σ H s)(mu:Mut (H x))(he:e=x∨H e=some (.own x))(k:∀ b u,b≠e->s.heap.get? b=some u->h'.get? b=some u)(heo:∃ u,h'.get? e=some u)
  (new:ObjOk X.prog X.w (upd H x o) h' x o):Inv X pins σ (upd H x o) { s with heap:=h',toks:=t' }:=I.un (Un.write mu he k heo) (I.hok.write mu he k heo new)
theorem Inv.weak{σ':List (Option V)}(I:Inv X pins σ H s)(hl:σ'.length=σ.length)(w:∀ (i:Nat) v,σ'[i]?=some (some v)->σ[i]?=some (some v)):Inv X pins σ' H s :=
 ⟨I.ok,I.os,I.bare,I.base,let ⟨m,hn,hl'⟩:=I.loc;⟨m,hn,fun i x v e1 e2 e3=>hl' i x v e1 (w i v e2) e3⟩,I.cell,I.free,I.freeC,I.pin,I.hok,hl.trans I.len⟩
theorem Inv.pins_of{pins':List (Addr×Obj)}(I:Inv X pins σ H s)(h:∀ p∈pins',s.heap.get? p.1=some p.2/\H p.1=none/\p.1≠X.env.locals/\p.1∉X.fs/\∀ v,p.2.data≠ .cell v):Inv X pins' σ H s :=
 ⟨I.ok,I.os,I.bare,I.base,I.loc,I.cell,I.free,I.freeC,fun p hp=>(xF.mp hp).elim (fun z=>I.pin p (xV _ z)) (h p),I.hok,I.len⟩
theorem VF{N:List Str}(hN:N.Nodup){i j:Nat}{x:Str}(a:N[i]?=some x)(b:N[j]?=some x):i=j:=by
 obtain⟨h1,e1⟩:=xb.mp a
 obtain⟨h2,e2⟩:=xb.mp b
 exact (List.getElem_inj hN).mp (e1.trans e2.symm)
theorem JK{M:Model}{A:Around}{E:Value->Shared->Prop}{i:Nat}{x:Str}{v:V}{u:Value}{Q:Unit->Shared->Prop}(I:Inv X pins σ H s)(hN:X.N.Nodup)(hi:X.N[i]?=some x)(hx:Loc X.env.scope x)(r:RelV v u)
  (h:∀ s',Inv X pins (σ.set i (some v)) H s'->(∃ a,Heap.SameBut a s.heap s'.heap/\(a=X.env.locals∨X.env.cells.lookup x=some a))->Q () s') (hf:X.fn x=true∨X.env.scope.names.lookup x=some .local:=by first | exact .inl rfl | exact .inr rfl | assumption):wpAny M A (storeName X.env x u) Q E s:=by
 obtain⟨m,hn,hl⟩:=id I.loc
 have hcls:(X.env.scope.kind==.class||(X.env.scope.kind==.module&&X.env.locals !=X.env.globals))=false:=by rw[I.ok.kind];rfl
 have hiσ:i<σ.length:=by rw[I.len];exact (xb.mp hi).1
 have cne:=I.cne
 have tracked:∀ {a:Addr} {h':Heap},(∃ o,s.heap.get? a=some o/\H a=none)->Heap.SameBut a s.heap h'->HOk X.prog X.w H h':=fun {a h'} ha hs b ob e=>by
  obtain⟨_,_,hfree⟩:=ha
  refine (I.hok b ob e).stay (fun c w' hc q=>(hs.2 c ?_).trans q) (fun _ q=>q) fun _ _ q=>q
  rintro rfl
  rcases hc with rfl | hc
  ·rw[hfree]at e;cases e
  ·rw[hfree]at hc;cases hc
 rcases hx with hk | hk
 ·refine wpAny_storeName_local hk hn (fun h' hn' hs=>?_) hcls
  obtain⟨oL,_,_,hoL,_⟩:=id hn
  refine h _ ⟨I.ok,I.os,I.bare,⟨fun b o e n hb hx=>?_,fun b o e n hb hx=>?_,I.base.free,fun b o e hx=>?_,I.base.tups,I.base.frzs,I.base.tbls⟩,⟨_,hn',fun j y v' e1 e2 e3=>?_⟩,fun y c e=>?_,I.free,I.freeC,fun p hp=>?_,tracked ⟨oL,hoL,I.free⟩ hs,by simpa using I.len⟩ ⟨_,hs,.inl rfl⟩
  ·exact (hs.2 b (xm (xk (Heap.lt_size e) I.ok.above))).trans (I.base.keep b o e n hb hx)
  ·obtain⟨sl,e1⟩:=I.base.slot b o e n hb hx
   exact⟨sl,(hs.2 b (xm (xk (Heap.lt_size e) I.ok.above))).trans e1⟩
  ·obtain⟨o',e1⟩:=I.base.there b o e hx
   exact⟨o',(hs.2 b (xm (xk (Heap.lt_size e) I.ok.above))).trans e1⟩
  ·by_cases hj:j=i
   ·subst hj
    rw[hi]at e1;cases e1
    rw[xh hiσ]at e2
    cases e2
    exact⟨u,r,.inl ⟨hk,by simp⟩⟩
   ·rw[xg (Ne.symm hj)]at e2
    obtain⟨u',r',q⟩:=hl j y v' e1 e2 e3
    refine⟨u',r',?_⟩
    rcases q with ⟨k,e⟩ | ⟨k,c,e,z⟩
    ·refine .inl ⟨k,?_⟩
     have:y≠x:=fun e=>hj (VF hN e1 (e ▸ hi))
     simp[this,e]
    ·exact .inr ⟨k,c,e,z.sameBut hs (cne y c e)⟩
  ·obtain⟨w',z⟩:=I.cell y c e
   exact⟨w',z.sameBut hs (cne y c e)⟩
  ·obtain⟨e,n,ne,nf,d⟩:=I.pin p hp
   exact⟨(hs.2 p.1 ne).trans e,n,ne,nf,d⟩
 ·have hfn:X.fn x=true:=by
   rcases hf with z | z
   ·exact z
   ·rw[z]at hk;cases hk
  obtain⟨c,hc⟩:=I.ok.has x (.inl hk)
  obtain⟨w',z⟩:=I.cell x c hc
  refine wpAny_storeName_cell I.ok.kind hk hc z (fun h' hc' hs=>?_)
  obtain⟨oc,hoc,hocd⟩:=id z
  refine h { s with heap:=h' } ⟨I.ok,I.os,I.bare,⟨fun b o e n hb hx=>?_,fun b o e n hb hx=>?_,I.base.free,fun b o e hx=>?_,I.base.tups,I.base.frzs,I.base.tbls⟩,⟨m,hn.sameBut hs (Ne.symm (cne x c hc)),fun j y v' e1 e2 e3=>?_⟩,fun y c' e=>?_,I.free,I.freeC,fun p hp=>?_,tracked ⟨oc,hoc,I.freeC x c hc⟩ hs,by simpa using I.len⟩ ⟨c,hs,.inr hc⟩
  ·exact (hs.2 b (xm (xk (Heap.lt_size e) (I.ok.cab x c hfn hc)))).trans (I.base.keep b o e n hb hx)
  ·obtain⟨sl,e1⟩:=I.base.slot b o e n hb hx
   exact⟨sl,(hs.2 b (xm (xk (Heap.lt_size e) (I.ok.cab x c hfn hc)))).trans e1⟩
  ·obtain⟨o',e1⟩:=I.base.there b o e hx
   exact⟨o',(hs.2 b (xm (xk (Heap.lt_size e) (I.ok.cab x c hfn hc)))).trans e1⟩
  ·by_cases hj:j=i
   ·subst hj
    rw[hi]at e1;cases e1
    rw[xh hiσ]at e2
    cases e2
    exact⟨u,r,.inr ⟨.inl hk,c,hc,hc'⟩⟩
   ·rw[xg (Ne.symm hj)]at e2
    obtain⟨u',r',q⟩:=hl j y v' e1 e2 e3
    refine⟨u',r',?_⟩
    rcases q with q | ⟨k,c',e,z'⟩
    ·exact .inl q
    ·refine .inr ⟨k,c',e,z'.sameBut hs ?_⟩
     rintro rfl
     exact hj (VF hN e1 (I.ok.inj _ _ _ e hc ▸ hi))
  ·by_cases hcc:c'=c
   ·subst hcc;exact⟨_,hc'⟩
   ·obtain⟨w2,z2⟩:=I.cell y c' e
    exact⟨w2,z2.sameBut hs hcc⟩
  ·obtain⟨e,n,ne,nf,d⟩:=I.pin p hp
   refine⟨(hs.2 p.1 ?_).trans e,n,ne,nf,d⟩
   intro q
   rw[q,hoc]at e
   have q':oc=p.2:=Option.some.inj e
   exact d w' (by rw[<- q'];exact hocd)
theorem Qt{M:Model}{A:Around}{E:Value->Shared->Prop}{i:Nat}{x:Str}{v:V}{u:Value}{Q:Unit->Shared->Prop}(I:Inv X pins σ H s)(hN:X.N.Nodup)(hi:X.N[i]?=some x)(hx:Loc X.env.scope x)(r:RelV v u)
  (h:∀ s',Inv X pins (σ.set i (some v)) H s'->Q () s') (hf:X.fn x=true∨X.env.scope.names.lookup x=some .local:=by first | exact .inl rfl | exact .inr rfl | assumption):wpAny M A (storeName X.env x u) Q E s :=
 JK I hN hi hx r (fun s' I' _=>h s' I') hf
theorem Inv.call'{s':Shared}{ch:List Addr}(I:Inv X pins σ H s)(ho:s'.os=s.os)(u:Un (frs X.stack) ch H H' s.heap s'.heap)(hok:HOk X.prog X.w H' s'.heap)(hg:AllBare s'.gens)
  (hch:∀ b∈ch,(b∈X.ex∨X.s₀.heap.objs.size<=b)/\b≠X.env.locals/\(∀ x c,X.env.cells.lookup x=some c->c≠b)/\∀ p∈X.pn++pins,p.1≠b):Inv X pins σ H' s':=by
 obtain⟨h',g',d',t',o'⟩:=s'
 have e:o'=s.os:=ho
 subst e
 exact I.call (g':=g') (t':=t') (d':=d') u hok hg hch
end
noncomputable abbrev XK:=Value->Option Addr->Hp->Prop
noncomputable abbrev St:=List (Option V)
noncomputable abbrev VK:=V->Hp->Prop
noncomputable abbrev TE:=St->Hp->VK->Prop
noncomputable abbrev TT:=St->Hp->(Bool->Hp->Prop)->Prop
noncomputable abbrev TA:=St->Hp->(List V->Hp->Prop)->Prop
structure qF where
 nx:St->Hp->Prop
 rt:VK
 bk:St->Hp->Prop:=fun _ _=>False
 ct:St->Hp->Prop:=fun _ _=>False
noncomputable abbrev TS:=qF->St->Hp->Prop
noncomputable def EP(X:Cx)(pins:List (Addr×Obj))(σ:St)(Q:VK)(u:Value)(s':Shared):Prop:=∃ v H',Inv X pins σ H' s'/\RelV v u/\Q v H'
noncomputable def TP(X:Cx)(pins:List (Addr×Obj))(σ:St)(Q:Bool->Hp->Prop)(b:Bool)(s':Shared):Prop:=∃ H',Inv X pins σ H' s'/\Q b H'
noncomputable def AP(X:Cx)(pins:List (Addr×Obj))(σ:St)(Q:List V->Hp->Prop)(us:List Value)(s':Shared):Prop:=∃ vs H',Inv X pins σ H' s'/\Vals vs us/\Q vs H'
noncomputable def SP(X:Cx)(pins:List (Addr×Obj))(D:qF)(f:Flow)(s':Shared):Prop :=
 match f with
 |.next=>∃ σ' H',Inv X pins σ' H' s'/\D.nx σ' H'
 |.brk=>∃ σ' H',Inv X pins σ' H' s'/\D.bk σ' H'
 |.cont=>∃ σ' H',Inv X pins σ' H' s'/\D.ct σ' H'
 |.ret u=>∃ v σ' H',Inv X pins σ' H' s'/\RelV v u/\D.rt v H'
noncomputable def PE(X:Cx)(e:Expr)(t:TE):Prop :=
 ∀ (pins:List (Addr×Obj)) (s:Shared) (σ:St) (H:Hp) (Q:VK),Inv X pins σ H s->t σ H Q->wpAny (model X.prog X.w) X.A (eval e X.env) (EP X pins σ Q) X.xe s
noncomputable def PT(X:Cx)(e:Expr)(t:TT):Prop :=
 ∀ (pins:List (Addr×Obj)) (s:Shared) (σ:St) (H:Hp) (Q:Bool->Hp->Prop),Inv X pins σ H s->t σ H Q->wpAny (model X.prog X.w) X.A (isTrue e X.env (eval e X.env)) (TP X pins σ Q) X.xe s
noncomputable def PW(X:Cx)(e:Expr)(t:TT):Prop :=
 ∀ (whole:Sem Value) (pins:List (Addr×Obj)) (s:Shared) (σ:St) (H:Hp) (Q:Bool->Hp->Prop),Inv X pins σ H s->t σ H Q->wpAny (model X.prog X.w) X.A (isTrue e X.env whole) (TP X pins σ Q) X.xe s
noncomputable def PA(X:Cx)(es:List Expr)(t:TA):Prop :=
 ∀ (pos:Pos) (pins:List (Addr×Obj)) (s:Shared) (σ:St) (H:Hp) (Q:List V->Hp->Prop),Inv X pins σ H s->t σ H Q->wpAny (model X.prog X.w) X.A (spliced (backTo pos (starEach es X.env))) (AP X pins σ Q) X.xe s
noncomputable def PS(X:Cx)(st:Stmt)(t:TS):Prop :=
 ∀ (pins:List (Addr×Obj)) (s:Shared) (σ:St) (H:Hp) (D:qF),Inv X pins σ H s->t D σ H->wpAny (model X.prog X.w) X.A (exec st X.env) (SP X pins D) X.xe s
noncomputable def PSs(X:Cx)(st:List Stmt)(t:TS):Prop :=
 ∀ (pins:List (Addr×Obj)) (s:Shared) (σ:St) (H:Hp) (D:qF),Inv X pins σ H s->t D σ H->wpAny (model X.prog X.w) X.A (execs st X.env) (SP X pins D) X.xe s
theorem thn{α:Type}{t:Sem α}{Q Q':α->Shared->Prop}{M:Model}{A:Around}{E:Value->Shared->Prop}{s:Shared}(h:wpAny M A t Q E s)(hQ:∀ a s,Q a s->Q' a s):wpAny M A t Q' E s:=wpAny_mono h hQ fun _ _ x=>x
end L2
namespace L2
open PySem PySem.Spec PyProof.Rows
section
variable {X:Cx}
theorem bin{a b:Expr}{ta tb:TE}(ha:PE X a ta)(hb:PE X b tb){pins:List (Addr×Obj)}{s:Shared}{σ:St}{H:Hp}{R:V->V->Hp->Prop}(I:Inv X pins σ H s)(h:ta σ H fun x H1=>tb σ H1 fun y H2=>R x y H2)
  {α:Type} {Q:α->Shared->Prop} {f:Value->Value->Sem α}
  (hf:∀ v u s2 x y H2,Inv X pins σ H2 s2->RelV x v->RelV y u->R x y H2->wpAny (model X.prog X.w) X.A (f v u) Q X.xe s2) :
  wpAny (model X.prog X.w) X.A (eval a X.env) (fun v s₁=>wpAny (model X.prog X.w) X.A (eval b X.env) (fun u s₂=>wpAny (model X.prog X.w) X.A (f v u) Q X.xe s₂) X.xe s₁) X.xe s:=by
 refine thn (ha pins s σ H _ I h) fun v s1 ⟨x,H1,I1,r1,q1⟩=>?_
 refine thn (hb pins s1 σ H1 _ I1 q1) fun u s2 ⟨y,H2,I2,r2,q2⟩=>?_
 exact hf v u s2 x y H2 I2 r1 r2 q2
noncomputable def zfD(i:Nat):TE:=fun σ H Q=>∃ v,σ[i]?=some (some v)/\Q v H
noncomputable def tC(v:V):TE:=fun _ H Q=>Q v H
theorem zT {i:Nat}{x:Str}{pos:Pos}(hN:X.N[i]?=some x) (hv:Vis X.env.scope x) (hd:(x==("__debug__" :Str))=false:=by decide) (hcd:(x==("__classdict__" :Str))=false:=by decide):PE X (.Name x pos) (zfD i):=by
 intro pins s σ H Q I h
 obtain⟨v,e,h⟩:=h
 obtain⟨m,hn,hl⟩:=I.loc
 obtain⟨u,r,l⟩:=hl i x v hN e hv
 have fin:EP X pins σ Q u s:=⟨v,H,I,r,h⟩
 rcases l with ⟨hk,hm⟩ | ⟨hk,c,hc,hcell⟩
 ·exact wpAny_Name (wpAny_loadName_local I.ok.kind hk hn hm fin) hd
 ·rcases hk with hk | hk
  ·exact wpAny_Name (wpAny_loadName_cell I.ok.kind hk hc hcell fin) hd
  ·exact wpAny_Name (wpAny_loadName_free I.ok.kind hk hc hcell fin hcd) hd
theorem pe_int{i j pos}:PE X (.Constant (.int i) j pos) (tC (.int i)):=fun _ _ _ H _ I h=>wpAny_Constant_int ⟨.int i,H,I.tok _,⟨_,rfl⟩,h⟩
theorem pe_bl{b j pos}:PE X (.Constant (.bool b) j pos) (tC (.bl b)):=fun _ _ _ H _ I h=>Constant_bool ⟨.bl b,H,I,rfl,h⟩
theorem pe_non{j pos}:PE X (.Constant .none j pos) (tC .non):=fun _ _ _ H _ I h=>Constant_none ⟨.non,H,I,rfl,h⟩
theorem pe_str{x j pos}:PE X (.Constant (.str x) j pos) (tC (.str x)):=fun _ _ _ H _ I h=>Calls.Constant_str ⟨.str x,H,I.tok _,⟨_,rfl⟩,h⟩
noncomputable def Gl(X:Cx)(x:Str):Prop:=X.env.kindOf x=some .globalImplicit
theorem jD{E:Value->Shared->Prop}{pins:List (Addr×Obj)}{s:Shared}{σ:St}{H:Hp}{x:Str}{u:Value}{pos:Pos}{Q:Value->Shared->Prop}(I:Inv X pins σ H s)(hg:Gl X x)(hm:X.mg x=some u)(h:Q u s)
  (hd:(x==("__debug__" :Str))=false:=by decide):wpAny (model X.prog X.w) X.A (eval (.Name x pos) X.env) Q E s :=
 Calls.Name_function_global I.ok.kind hg (Calls.loadGlobal_global (by rw[I.ok.glob];exact I.mod.glob.keeps I.bk) hm h) hd
theorem vB{E:Value->Shared->Prop}{pins:List (Addr×Obj)}{s:Shared}{σ:St}{H:Hp}{x:Str}{u:Value}{pos:Pos}{Q:Value->Shared->Prop}(I:Inv X pins σ H s)(hg:Gl X x)(hm:X.mg x=none)(hv:bootBuiltins x=some u)(h:Q u s)
  (hn:x≠ "__name__" :=by decide) (hd:(x==("__debug__" :Str))=false:=by decide):wpAny (model X.prog X.w) X.A (eval (.Name x pos) X.env) Q E s:=by
 obtain⟨mb,h1,h2⟩:=I.mod.blt
 exact Calls.Name_function_global I.ok.kind hg (Calls.loadGlobal_builtin (by rw[I.ok.glob];exact I.mod.glob.keeps I.bk) hm (by rw[I.ok.blt];exact h1.keeps I.bk) ((h2 x hn).trans hv) h) hd
theorem Yq {x:Str}{v:V}{u:Value}{pos:Pos}(hg:Gl X x) (hm:X.mg x=some u) (r:RelV v u) (hd:(x==("__debug__" :Str))=false:=by decide):PE X (.Name x pos) (tC v) :=
 fun _ _ _ H _ I h=>jD I hg hm ⟨v,H,I,r,h⟩ hd
theorem zco {x:Str}{v:V}{u:Value}{pos:Pos}(hg:Gl X x) (hm:X.mg x=none) (hv:bootBuiltins x=some u) (r:RelV v u) (hn:x≠ "__name__" :=by decide) (hd:(x==("__debug__" :Str))=false:=by decide):PE X (.Name x pos) (tC v) :=
 fun _ _ _ H _ I h=>vB I hg hm hv ⟨v,H,I,r,h⟩ hn hd
variable {a b:Expr} {ta tb:TE} {pos:Pos}
variable {tA tB':TT} {rest:List Expr}
noncomputable def tAnd(t u:TT):TT:=fun σ H Q=>t σ H fun c H1=>if c=true then u σ H1 Q else Q false H1
noncomputable def tOr(t u:TT):TT:=fun σ H Q=>t σ H fun c H1=>if c=true then Q true H1 else u σ H1 Q
noncomputable def tNot(t:TT):TT:=fun σ H Q=>t σ H fun c H1=>Q (!c) H1
theorem zcy(ha:PT X a tA):PW X (.BoolOp .And [a] pos) tA:=by
 intro wh pins s σ H Q I h
 refine isTrue_and (thn (ha pins s σ H Q I h) fun c s1 e=>?_)
 cases c with
 |true=>exact isTrue_and_nil e
 |false=>exact e
theorem zeU(ha:PT X a tA):PW X (.BoolOp .Or [a] pos) tA:=by
 intro wh pins s σ H Q I h
 refine isTrue_or (thn (ha pins s σ H Q I h) fun c s1 e=>?_)
 cases c with
 |false=>exact isTrue_or_nil e
 |true=>exact e
theorem zeT(ha:PT X a tA)(hb:PW X (.BoolOp .And (b::rest) pos) tB'):PW X (.BoolOp .And (a::b::rest) pos) (tAnd tA tB'):=by
 intro wh pins s σ H Q I h
 refine isTrue_and (thn (ha pins s σ H _ I h) fun c s1 ⟨H1,I1,q1⟩=>?_)
 cases c with
 |true=>exact hb wh pins s1 σ H1 Q I1 q1
 |false=>exact⟨H1,I1,q1⟩
theorem zgr(ha:PT X a tA)(hb:PW X (.BoolOp .Or (b::rest) pos) tB'):PW X (.BoolOp .Or (a::b::rest) pos) (tOr tA tB'):=by
 intro wh pins s σ H Q I h
 refine isTrue_or (thn (ha pins s σ H _ I h) fun c s1 ⟨H1,I1,q1⟩=>?_)
 cases c with
 |true=>exact⟨H1,I1,q1⟩
 |false=>exact hb wh pins s1 σ H1 Q I1 q1
theorem zeR(ha:PT X a tA):PT X (.UnaryOp .Not a pos) (tNot tA):=by
 intro pins s σ H Q I h
 exact isTrue_not (ha pins s σ H (fun c H1=>Q (!c) H1) I h)
noncomputable def zgI(ta tb:TE):TE:=fun σ H Q=>ta σ H fun x H1=>∃ c,x=.bl c/\if c=true then tb σ H1 Q else Q (.bl false) H1
noncomputable def tOrV(ta tb:TE):TE:=fun σ H Q=>ta σ H fun x H1=>∃ c,x=.bl c/\if c=true then Q (.bl true) H1 else tb σ H1 Q
theorem zeM{op}{t:TE}(h:PE X a t):PE X (.BoolOp op [a] pos) t:=fun pins s σ H Q I hw=>BoolOp_one (h pins s σ H Q I hw)
theorem zeL(ha:PE X a ta)(hb:PE X (.BoolOp .And (b::rest) pos) tb):PE X (.BoolOp .And (a::b::rest) pos) (zgI ta tb):=by
 intro pins s σ H Q I h
 refine BoolOp_and (thn (ha pins s σ H _ I h) fun v s1 ⟨x,H1,I1,r1,q1⟩=>?_)
 obtain⟨c,rfl,q1⟩:=q1
 cases r1
 refine wpAny_truthy_bool ?_
 cases c with
 |true=>exact hb pins s1 σ H1 Q I1 q1
 |false=>exact⟨.bl false,H1,I1,rfl,q1⟩
theorem zgp(ha:PE X a ta)(hb:PE X (.BoolOp .Or (b::rest) pos) tb):PE X (.BoolOp .Or (a::b::rest) pos) (tOrV ta tb):=by
 intro pins s σ H Q I h
 refine BoolOp_or (thn (ha pins s σ H _ I h) fun v s1 ⟨x,H1,I1,r1,q1⟩=>?_)
 obtain⟨c,rfl,q1⟩:=q1
 cases r1
 refine wpAny_truthy_bool ?_
 cases c with
 |false=>exact hb pins s1 σ H1 Q I1 q1
 |true=>exact⟨.bl true,H1,I1,rfl,q1⟩
noncomputable def tIf(t:TT)(ta tb:TE):TE:=fun σ H Q=>t σ H fun c H1=>if c=true then ta σ H1 Q else tb σ H1 Q
theorem zar{c:Expr}(hc:PT X c tA)(ha:PE X a ta)(hb:PE X b tb):PE X (.IfExp c a b pos) (tIf tA ta tb):=by
 intro pins s σ H Q I h
 refine wpAny_IfExp (thn (hc pins s σ H _ I h) fun d s1 ⟨H1,I1,q1⟩=>?_)
 cases d with
 |true=>exact ha pins s1 σ H1 Q I1 q1
 |false=>exact hb pins s1 σ H1 Q I1 q1
end
end L2
namespace L2
open PySem PySem.Spec PyProof.Rows
noncomputable def SqL(K:PySem.W.Frag)(H:Hp)(a:Addr)(xs:List V):Prop :=
 Rd H a (.lst xs) ∨
  ∃ (o:Obj) (its:Array Value) (n:Nat),K.lookup a=some o/\o.cls=.type "list" /\o.dict=none/\o.data=.seq its n/\its.size<=sizeLine/\Vals xs its.toList
noncomputable def SqT(K:PySem.W.Frag)(H:Hp)(a:Addr)(xs:List V):Prop :=
 Rd H a (.tup xs) ∨
  ∃ (o:Obj) (its:Array Value) (n:Nat),K.lookup a=some o/\o.cls=.type "tuple" /\o.data=.seq its n/\its.size<=sizeLine/\Vals xs its.toList
noncomputable def absV:Value->Option V
 |.none=>some .non
 |.bool b=>some (.bl b)
 |.int i _=>some (.int i)
 |.str x _=>some (.str x)
 |.bytes b _=>some (.byt b)
 |.float b _=>some (.flt b)
 |.ref a=>some (.ref a)
 |.type n=>some (.ty n)
 |_=>none
theorem RelV.abs{x:V}{u:Value}(r:RelV x u):absV u=some x:=by
 cases x with
 |non=>cases r;rfl
 |bl _=>cases r;rfl
 |int _=>obtain⟨t,rfl⟩:=r;rfl
 |str _=>obtain⟨t,rfl⟩:=r;rfl
 |byt _=>obtain⟨t,rfl⟩:=r;rfl
 |flt _=>obtain⟨t,rfl⟩:=r;rfl
 |ref _=>cases r;rfl
 |ty _=>cases r;rfl
theorem RelV.inj{x y:V}{u:Value}(r:RelV x u)(q:RelV y u):x=y:=Option.some.inj (r.abs.symm.trans q.abs)
theorem Vals.inj:∀ {xs ys:List V}{us:List Value},Vals xs us->Vals ys us->xs=ys
 |_,_,_,.nil,.nil=>rfl
 |_,_,_,.cons r t,.cons r' t'=>by rw[r.inj r',Vals.inj t t']
section
variable {X:Cx} {pins:List (Addr×Obj)} {σ:St} {H:Hp} {s:Shared} {a:Addr} {xs ys:List V}
theorem SqL.of{K:PySem.W.Frag}(h:H a=some (.lst xs)):SqL K H a xs:=.inl (.inl h)
theorem SqT.of{K:PySem.W.Frag}(h:H a=some (.tup xs)):SqT K H a xs:=.inl (.inl h)
theorem Inv.list(I:Inv X pins σ H s)(h:SqL X.K H a xs):∃ its:List Value,Vals xs its/\PlainL s.heap a its.toArray/\xs.length<=sizeLine:=by
 rcases h with h | ⟨o,its,n,hk,hc,hd,hs,hz,r⟩
 ·obtain⟨z,its,n,r,e⟩:=h.ok I.hok
  exact⟨its,r,⟨_,n,e,rfl,rfl,rfl⟩,z⟩
 ·refine⟨its.toList,r,⟨o,n,I.kIn a o hk,hc,hd,by simpa using hs⟩,?_⟩
  have e:=r.length
  simp only[xS]at e
  omega
theorem Inv.tuple(I:Inv X pins σ H s)(h:SqT X.K H a xs):∃ its:List Value,Vals xs its/\IsTup s.heap a its.toArray/\xs.length<=sizeLine:=by
 rcases h with h | ⟨o,its,n,hk,hc,hs,hz,r⟩
 ·obtain⟨z,its,r,p⟩:=h.ok I.hok
  exact⟨its,r,p,z⟩
 ·refine⟨its.toList,r,⟨o,I.kIn a o hk,hc,n,by simpa using hs⟩,?_⟩
  have e:=r.length
  simp only[xS]at e
  omega
theorem Inv.list_inj(I:Inv X pins σ H s)(h:SqL X.K H a xs)(h':SqL X.K H a ys):xs=ys:=by
 obtain⟨its,r,⟨o,n,e,_,_,d⟩,_⟩:=I.list h
 obtain⟨its',r',⟨o',n',e',_,_,d'⟩,_⟩:=I.list h'
 rw[e]at e';cases e'
 rw[d]at d'
 injection d' with d1 _
 have:its=its':=by simpa using congrArg Array.toList d1
 subst this
 exact r.inj r'
theorem Inv.tuple_inj(I:Inv X pins σ H s)(h:SqT X.K H a xs)(h':SqT X.K H a ys):xs=ys:=by
 obtain⟨its,r,⟨o,e,_,n,d⟩,_⟩:=I.tuple h
 obtain⟨its',r',⟨o',e',_,n',d'⟩,_⟩:=I.tuple h'
 rw[e]at e';cases e'
 rw[d]at d'
 injection d' with d1 _
 have:its=its':=by simpa using congrArg Array.toList d1
 subst this
 exact r.inj r'
end
noncomputable abbrev Cx.wish(X:Cx)(E:Value->Shared->Prop):Cx:={ X with xe:=E }
noncomputable abbrev Cx.nox(X:Cx):Cx:=X.wish fun _ _=>False
theorem Cx.Ok.wish{X:Cx}(ok:X.Ok)(E:Value->Shared->Prop):(X.wish E).Ok :=
 ⟨ok.mod,ok.kind,ok.glob,ok.blt,ok.above,ok.inj,ok.has,ok.cab,ok.hd,ok.frames,ok.stk,ok.exf,ok.bs,ok.bsz,ok.noex,ok.exfs,ok.funs,ok.frf⟩
theorem Cx.Ok.unwish{X:Cx}{E:Value->Shared->Prop}(ok:(X.wish E).Ok):X.Ok :=
 ⟨ok.mod,ok.kind,ok.glob,ok.blt,ok.above,ok.inj,ok.has,ok.cab,ok.hd,ok.frames,ok.stk,ok.exf,ok.bs,ok.bsz,ok.noex,ok.exfs,ok.funs,ok.frf⟩
section
variable {X:Cx} {pins:List (Addr×Obj)} {σ:St} {H:Hp} {s:Shared} {E:Value->Shared->Prop}
theorem Inv.wish(I:Inv X pins σ H s)(E:Value->Shared->Prop):Inv (X.wish E) pins σ H s:=⟨I.ok.wish E,I.os,I.bare,I.base,I.loc,I.cell,I.free,I.freeC,I.pin,I.hok,I.len⟩
theorem Inv.unwish(I:Inv (X.wish E) pins σ H s):Inv X pins σ H s:=⟨I.ok.unwish,I.os,I.bare,I.base,I.loc,I.cell,I.free,I.freeC,I.pin,I.hok,I.len⟩
theorem SP.unwish{D:qF}{f:Flow}{s':Shared}(h:SP (X.wish E) pins D f s'):SP X pins D f s':=by
 cases f with
 |next=>obtain⟨σ',H',I,q⟩:=h;exact⟨σ',H',I.unwish,q⟩
 |brk=>obtain⟨σ',H',I,q⟩:=h;exact⟨σ',H',I.unwish,q⟩
 |cont=>obtain⟨σ',H',I,q⟩:=h;exact⟨σ',H',I.unwish,q⟩
 |ret u=>obtain⟨v,σ',H',I,r,q⟩:=h;exact⟨v,σ',H',I.unwish,r,q⟩
theorem PSs.nox{st:List Stmt}{t:TS}(h:PSs X.nox st t):PSs X st t:=fun pins s σ H D I hw=>
 wpAny_mono (h pins s σ H D (I.wish _) hw) (fun _ _ q=>q.unwish) fun _ _ z=>False.elim z
end
section
variable {X:Cx} {st:Stmt} {rest:List Stmt} {t u:TS} {e:Expr} {te:TE} {pos:Pos}
noncomputable def zdL:TS:=fun D σ H=>D.nx σ H
noncomputable def tSeq(t u:TS):TS:=fun D σ H=>t { D with nx:=u D } σ H
theorem pss_nil:PSs X [] zdL:=fun _ _ σ H _ I h=>wpAny_execs_nil ⟨σ,H,I,h⟩
theorem qX(h1:PS X st t)(h2:PSs X rest u):PSs X (st::rest) (tSeq t u):=by
 intro pins s σ H D I h
 refine wpAny_execs_cons (thn (h1 pins s σ H { D with nx:=u D } I h) fun f s1 q=>?_)
 cases f with
 |next=>
  obtain⟨σ',H',I',q⟩:=q
  exact h2 pins s1 σ' H' D I' q
 |ret v=>exact q
 |brk=>exact q
 |cont=>exact q
theorem Qo(h1:PS X st t):PSs X [st] t:=by
 intro pins s σ H D I h
 refine wpAny_execs_cons (thn (h1 pins s σ H D I h) fun f s1 q=>?_)
 cases f with
 |next=>exact wpAny_execs_nil q
 |ret v=>exact q
 |brk=>exact q
 |cont=>exact q
theorem ps_pass:PS X (.Pass pos) zdL:=fun _ _ σ H _ I h=>wpAny_Pass ⟨σ,H,I,h⟩
theorem Inv.quiet{pins:List (Addr×Obj)}{σ:St}{H:Hp}{s:Shared}(I:Inv X pins σ H s):interactive X.env=false:=by simp[interactive,I.ok.kind]
noncomputable def zgL(te:TE):TS:=fun D σ H=>te σ H fun _ H1=>D.nx σ H1
theorem J6(he:PE X e te)(hs:swapsWith e none pos.line X.env=pure false:=by rfl):PS X (.Expr e pos) (zgL te):=by
 intro pins s σ H D I h
 exact wpAny_Expr_any (thn (he pins s σ H _ I h) fun v s1 ⟨x,H1,I1,r1,q1⟩=>⟨σ,H1,I1,q1⟩) I.quiet hs
noncomputable def tRet(te:TE):TS:=fun D σ H=>te σ H D.rt
theorem yH(he:PE X e te):PS X (.Return (some e) pos) (tRet te):=by
 intro pins s σ H D I h
 exact wpAny_Return_some (thn (he pins s σ H _ I h) fun v s1 ⟨x,H1,I1,r1,q1⟩=>⟨x,σ,H1,I1,r1,q1⟩)
noncomputable def tIfS(c:TT)(t u:TS):TS:=fun D σ H=>c σ H fun b H1=>if b=true then t D σ H1 else u D σ H1
theorem zgq{c:Expr}{a b:List Stmt}{tc:TT}(hc:PT X c tc)(ha:PSs X a t)(hb:PSs X b u):PS X (.If c a b pos) (tIfS tc t u):=by
 intro pins s σ H D I h
 refine wpAny_If (thn (hc pins s σ H _ I h) fun d s1 ⟨H1,I1,q1⟩=>?_)
 cases d with
 |true=>exact ha pins s1 σ H1 D I1 q1
 |false=>exact hb pins s1 σ H1 D I1 q1
end
noncomputable abbrev TG:=V->St->Hp->(St->Hp->Prop)->Prop
noncomputable abbrev TGs:=List V->St->Hp->(St->Hp->Prop)->Prop
noncomputable def PG(X:Cx)(target:Expr)(t:TG):Prop :=
 ∀ (pins:List (Addr×Obj)) (s:Shared) (σ:St) (H:Hp) (v:V) (u:Value) (Q:St->Hp->Prop),Inv X pins σ H s->RelV v u->t v σ H Q ->
  wpAny (model X.prog X.w) X.A (assign target X.env u) (fun _ s'=>∃ σ' H',Inv X pins σ' H' s'/\Q σ' H') X.xe s
noncomputable def PGs(X:Cx)(ts:List Expr)(t:TGs):Prop :=
 ∀ (pins:List (Addr×Obj)) (s:Shared) (σ:St) (H:Hp) (vs:List V) (us:List Value) (Q:St->Hp->Prop),Inv X pins σ H s->Vals vs us->t vs σ H Q ->
  wpAny (model X.prog X.w) X.A (assignInOrder ((assignEach ts X.env).map (·.2)) us) (fun _ s'=>∃ σ' H',Inv X pins σ' H' s'/\Q σ' H') X.xe s
noncomputable abbrev zbJ:=V->V->V->Hp->(Hp->Prop)->Prop
noncomputable def zdR(X:Cx)(t:zbJ):Prop :=
 ∀ (pins:List (Addr×Obj)) (s:Shared) (σ:St) (H:Hp) (o i v:V) (ov iv u:Value) (Q:Hp->Prop),Inv X pins σ H s->RelV o ov->RelV i iv->RelV v u->t o i v H Q ->
  wpAny (model X.prog X.w) X.A (setItem ov iv u) (fun _ s'=>∃ H',Inv X pins σ H' s'/\Q H') X.xe s
section
variable {X:Cx} {pos:Pos}
noncomputable def wm(i:Nat):TG:=fun v σ H Q=>Q (σ.set i (some v)) H
theorem Yr{i:Nat}{x:Str}(hN:X.N.Nodup)(hi:X.N[i]?=some x)(hx:Loc X.env.scope x)(hf:X.fn x=true∨X.env.scope.names.lookup x=some .local:=by first | exact .inl rfl | exact .inr rfl | assumption):PG X (.Name x pos) (wm i):=by
 intro pins s σ H v u Q I r h
 exact wpAny_assign_Name (Qt I hN hi hx r (fun s' I'=>⟨_,H,I',h⟩) hf)
noncomputable def gNil:TGs:=fun vs σ H Q=>vs= []/\Q σ H
noncomputable def zf5(t:TG)(u:TGs):TGs:=fun vs σ H Q=>∃ v r,vs=v::r/\t v σ H fun σ' H'=>u r σ' H' Q
theorem pgs_nil:PGs X [] gNil:=by
 intro pins s σ H vs us Q I r h
 obtain⟨e,h⟩:=h
 subst e
 cases r
 exact assignInOrder_nil ⟨σ,H,I,h⟩
theorem zaw{e:Expr}{es:List Expr}{t:TG}{u:TGs}(h1:PG X e t)(h2:PGs X es u)
  (hs:(assignEach (e::es) X.env).map (·.2)=assign e X.env::(assignEach es X.env).map (·.2):=by rfl):PGs X (e::es) (zf5 t u):=by
 intro pins s σ H vs us Q I r h
 obtain⟨v,vr,e1,h⟩:=h
 subst e1
 cases r with
 |cons r rr=>
  rw[hs]
  refine assignInOrder_cons (thn (h1 pins s σ H _ _ _ I r h) fun _ s1 ⟨σ1,H1,I1,q1⟩=>?_)
  exact h2 pins s1 σ1 H1 _ _ Q I1 rr q1
noncomputable def gTup(K:PySem.W.Frag)(n:Nat)(t:TGs):TG:=fun v σ H Q=>∃ a xs,v=.ref a/\SqT K H a xs/\xs.length=n/\t xs σ H Q
theorem zeP{es:List Expr}{k:Nat}{t:TGs}{n:Nat}(hc:X.calm=true)(h:PGs X es t)
  (hn:(assignEach es X.env).length=n:=by rfl) (hst:(assignEach es X.env).findIdx? (·.1)=none:=by rfl):PG X (.Tuple es k pos) (gTup X.K n t):=by
 intro pins s σ H v u Q I r hw
 obtain⟨a,xs,e1,hq,hl,hw⟩:=hw
 subst e1
 cases r
 obtain⟨its,rv,ht,hz⟩:=I.tuple hq
 refine assign_Tuple_tuple (I.ok.hd hc) ht (by simp[hn,<- hl,rv.length]) hst fun h' hx=>?_
 have I1:Inv X pins σ H { s with heap:=h' }:=I.kept (t':=s.toks) fun b o e=>hx b o (xm (Heap.lt_size e)) e
 exact h pins _ σ H xs _ Q I1 (by simpa using rv) hw
noncomputable def zf6(to ti:TE)(t:zbJ):TG:=fun v σ H Q=>to σ H fun o H1=>ti σ H1 fun i H2=>t o i v H2 fun H3=>Q σ H3
theorem zeO{o i:Expr}{to ti:TE}{t:zbJ}(ho:PE X o to)(hi:PE X i ti)(hs:zdR X t)
  (ha:∀ v,assign (.Subscript o i pos) X.env v=(do
   let ov<-holding [v] (eval o X.env)
   let iv<-holding [v,ov] (eval i X.env)
   standAt pos
   holding [v,ov,iv] (setItem ov iv v)
   release [v,ov,iv] []):=by intro _;rfl):PG X (.Subscript o i pos) (zf6 to ti t):=by
 intro pins s σ H v u Q I r h
 rw[ha]
 refine wpAny_bind (wpAny_holding (thn (ho pins s σ H _ I h) fun ov s1 ⟨x,H1,I1,r1,q1⟩=>?_))
 refine wpAny_bind (wpAny_holding (thn (hi pins s1 σ H1 _ I1 q1) fun iv s2 ⟨y,H2,I2,r2,q2⟩=>?_))
 refine wpAny_bind (wpAny_standAt (wpAny_bind (wpAny_holding (thn (hs pins s2 σ H2 x y v ov iv u _ I2 r1 r2 r q2) fun _ s3 ⟨H3,I3,q3⟩=>?_))))
 exact wpAny_release ⟨σ,H3,I3,q3⟩
noncomputable def vO(te:TE)(g:TG):TS:=fun D σ H=>te σ H fun x H1=>g x σ H1 D.nx
theorem yG{tg e:Expr}{te:TE}{g:TG}(he:PE X e te)(hg:PG X tg g)(hs:swapsWithSole [tg] e pos.line X.env=pure false:=by rfl)(hw:swappedStores [tg] e X.env=pure none:=by rfl)
    (h1:(assignEach [tg] X.env).map (·.2)= [assign tg X.env]:=by rfl):PS X (.Assign [tg] e pos) (vO te g):=by
  intro pins s σ H D I h
  refine wpAny_Assign_stores (thn (he pins s σ H _ I h) fun v s1 ⟨x,H1,I1,r1,q1⟩=>?_) hs hw
  rw[h1]
  exact thn (hg pins s1 σ H1 x v _ I1 r1 q1) fun _ s2 q=>q
theorem JH{i:Nat}{x:Str}{e:Expr}{te:TE}{pos':Pos}(hN:X.N.Nodup)(hi:X.N[i]?=some x)(hx:Loc X.env.scope x)(he:PE X e te)(hs:swapsWith e (some (.Name x pos')) pos.line X.env=pure false:=by rfl)(hf:X.fn x=true∨X.env.scope.names.lookup x=some .local:=by first | exact .inl rfl | exact .inr rfl | assumption) :
    PS X (.Assign [.Name x pos'] e pos) (vO te (wm i)):=by
  intro pins s σ H D I h
  refine wpAny_Assign_Name (thn (he pins s σ H _ I h) fun v s1 ⟨y,H1,I1,r1,q1⟩=>?_) hs
  exact Qt I1 hN hi hx r1 (fun s2 I2=>⟨_,H1,I2,q1⟩) hf
end
section
variable {X:Cx} {pos:Pos}
end
structure It where
 go:Nat->Hp->Prop
 yld:Nat->Hp->V->Hp->Prop
 stop:Nat->Hp->Prop
noncomputable def Qv(X:Cx)(pins:List (Addr×Obj))(H:Hp)(b:Addr):Prop :=
 H b=none/\b≠X.env.locals/\b∉X.fs/\(b∈X.ex∨X.s₀.heap.objs.size<=b)/\(∀ x c,X.env.cells.lookup x=some c->c≠b)/\∀ p∈X.pn++pins,p.1≠b
theorem Inv.fpOk{X:Cx}{pins:List (Addr×Obj)}{σ:St}{H H':Hp}{s:Shared}{b:Addr}(I:Inv X pins σ H s)(hb:s.heap.objs.size<=b)(hn:H' b=none):Qv X pins H' b:=by
 refine⟨hn,Nat.ne_of_gt (xk I.lt hb),I.nofs hb,.inr (xA I.sz hb),fun x c e z=>?_,fun p hp z=>?_⟩
 ·obtain⟨v,q⟩:=I.cell x c e
  exact absurd (xk q.lt (by rw[z];exact hb)) (xO _)
 ·exact absurd (xk (Heap.lt_size (I.pin p hp).1) (by rw[z];exact hb)) (xO _)
structure v0(P:Program)(w:World)(K:PySem.W.Frag)(tg:Expr)(J:It)(fp:List Addr)(it:Addr)(tn:Nat->Heap->Prop):Prop where
 mem:it∈fp
 obj:∀ i h,tn i h->∀ b∈fp,∃ o,h.get? b=some o/\∀ v,o.data≠ .cell v
 keep:∀ i h h',tn i h->(∀ b∈fp,∀ o,h.get? b=some o->h'.get? b=some o)->tn i h'
 item:∀ (X:Cx),X.prog=P->X.w=w->X.K=K->X.calm=true->∀ (i:Nat) (pins:List (Addr×Obj)) (s:Shared) (σ:St) (H:Hp) (E:Value->Shared->Prop),Inv X pins σ H s->(∀ b∈fp,Qv X pins H b)->tn i s.heap->J.go i H ->
  wpAny (model P w) X.A (pyNext (.ref it)) (fun r s1=>∃ u,r=some u /\
   wpAny (model P w) X.A (letOwnedTupleGo tg (.ref it) u) (fun _ s2=>∃ x H',Inv X pins σ H' s2/\RelV x u/\J.yld i H x H'/\tn (i+1) s2.heap/\∀ b∈fp,H' b=none) E s1) E s
 done:∀ (X:Cx),X.prog=P->X.w=w->X.K=K->X.calm=true->∀ (i:Nat) (pins:List (Addr×Obj)) (s:Shared) (σ:St) (H:Hp) (E:Value->Shared->Prop),Inv X pins σ H s->(∀ b∈fp,Qv X pins H b)->tn i s.heap->J.stop i H ->
  wpAny (model P w) X.A (pyNext (.ref it)) (fun r s1=>r=none/\Inv X pins σ H s1) E s
 self:∀ (A:Around) (i:Nat) (s:Shared) (Q:Value->Shared->Prop) (E:Value->Shared->Prop),tn i s.heap->Q (.ref it) s->wpAny (model P w) A (pyIter (.ref it)) Q E s
noncomputable abbrev TI:=St->Hp->(It->Hp->Prop)->Prop
noncomputable def PIE(X:Cx)(pins:List (Addr×Obj))(σ:St)(tg:Expr)(R:It->Hp->Prop)(itv:Value)(s2:Shared):Prop :=
 ∃ (it:Addr) (fp:List Addr) (tn:Nat->Heap->Prop) (J:It) (H':Hp),itv=.ref it/\Inv X pins σ H' s2/\v0 X.prog X.w X.K tg J fp it tn/\tn 0 s2.heap/\(∀ b∈fp,Qv X pins H' b)/\R J H'
noncomputable def PI(X:Cx)(tg iter:Expr)(wi:TI):Prop :=
 ∀ (pins:List (Addr×Obj)) (s:Shared) (σ:St) (H:Hp) (R:It->Hp->Prop),Inv X pins σ H s->wi σ H R ->
  wpAny (model X.prog X.w) X.A (eval iter X.env) (fun v s1=>wpAny (model X.prog X.w) X.A (pyIter v) (PIE X pins σ tg R) X.xe s1) X.xe s
theorem Ym{M:Model}{A:Around}{E:Value->Shared->Prop}{s:Shared}{tg:Expr}{it:Addr}{u:Value}{o:Obj}{n:String}{vs:Array Value}{Q:Unit->Shared->Prop}(ho:s.heap.get? it=some o)(hc:o.cls=.type n)(hd:o.data=.fields vs)
    (hn: ["enumerate","zip","dict_itemiterator","dict_reverseitemiterator","odict_iterator","itertools.zip_longest","itertools.pairwise"].contains n=false) (hQ:Q () s):wpAny M A (letOwnedTupleGo tg (.ref it) u) Q E s:=by
  unfold letOwnedTupleGo
  cases tg<;>first
    |exact wpAny_pure hQ
    | (cases u<;>first
        |exact wpAny_pure hQ
        | (refine wpAny_bind (wpAny_load ho ?_)
           rw[hc,hd]
           show wpAny M A (if (["enumerate","zip","dict_itemiterator","dict_reverseitemiterator","odict_iterator","itertools.zip_longest","itertools.pairwise"].contains n&&vs[0]?==some (rawInt _))=true then _ else _) Q E s
           rw[if_neg (by intro h;rw[hn,Bool.false_and]at h;cases h)]
           exact wpAny_pure hQ))
noncomputable def Itl(K:PySem.W.Frag)(a:Addr):It :=
 ⟨fun i H=>∃ xs x,SqL K H a xs/\xs[i]?=some x,fun i H x H'=>H'=H/\∀ xs,SqL K H a xs->xs[i]?=some x,fun i H=>∃ xs,SqL K H a xs/\xs.length<=i⟩
noncomputable def Itt(K:PySem.W.Frag)(a:Addr):It :=
 ⟨fun i H=>∃ xs x,SqT K H a xs/\xs[i]?=some x,fun i H x H'=>H'=H/\∀ xs,SqT K H a xs->xs[i]?=some x,fun i H=>∃ xs,SqT K H a xs/\xs.length<=i⟩
noncomputable def Itr(lo:Int)(n:Nat):It:=⟨fun i _=>i<n,fun i H x H'=>H'=H/\x=.int (lo+i),fun i _=>n<=i⟩
theorem kT{P:Program}{w:World}{K:PySem.W.Frag}{tg:Expr}(a it:Addr):v0 P w K tg (Itl K a) [it] it (fun i h=>h.IsListIter it a i) where
 mem:=by simp
 obj:=fun i h st b hb=>by
  have e:b=it:=by simpa using hb
  subst e
  obtain⟨o,e,c,d⟩:=st
  exact⟨o,e,fun v z=>by rw[d]at z;cases z⟩
 keep:=fun i h h' st k=>st.at fun o e=>k it (by simp) o e
 item:=by
  intro X hP hw hK hc i pins s σ H E I hf st hg
  subst hP hw hK
  obtain⟨xs,x,hq,hx⟩:=hg
  obtain⟨its,rv,p,hz⟩:=I.list hq
  obtain⟨u,hu,ru⟩:=rv.get hx
  obtain⟨f0,f1,f2,f3,f4,f5⟩:=hf it (by simp)
  refine wpAny_pyNext_list_item st p.isList (x:=u) (by simpa using hu) fun h' st' sb=>?_
  have I1:Inv X pins σ H { s with heap:=h' }:=I.turned (t':=s.toks) (fun b o hb e=>(sb.2 b hb).trans e) f0 f1 f3 f4 f5
  obtain⟨o,e,c,d⟩:=id st'
  exact⟨u,rfl,Ym (s:={ s with heap:=h' }) e c d (by decide) ⟨x,H,I1,ru,⟨rfl,fun ys hy=>by rw[I.list_inj hy hq];exact hx⟩,st',fun b hb=>(hf b hb).1⟩⟩
 done:=by
  intro X hP hw hK hc i pins s σ H E I hf st hg
  subst hP hw hK
  obtain⟨xs,hq,hx⟩:=hg
  obtain⟨its,rv,p,hz⟩:=I.list hq
  obtain⟨f0,f1,f2,f3,f4,f5⟩:=hf it (by simp)
  have hl:=rv.length
  exact wpAny_pyNext_list_end (I.ok.hd hc) st p.isList (by simp;omega) fun h' eb=>⟨rfl,I.turned (t':=s.toks) (fun b o hb e=>eb b o hb e) f0 f1 f3 f4 f5⟩
 self:=fun _ _ _ _ _ st h=>wpAny_pyIter_listiter st h
theorem yV{P:Program}{w:World}{K:PySem.W.Frag}{tg:Expr}(a it:Addr):v0 P w K tg (Itt K a) [it] it (fun i h=>h.IsTupleIter it a i) where
 mem:=by simp
 obj:=fun i h st b hb=>by
  have e:b=it:=by simpa using hb
  subst e
  obtain⟨o,e,c,d⟩:=st
  exact⟨o,e,fun v z=>by rw[d]at z;cases z⟩
 keep:=fun i h h' st k=>st.at fun o e=>k it (by simp) o e
 item:=by
  intro X hP hw hK hc i pins s σ H E I hf st hg
  subst hP hw hK
  obtain⟨xs,x,hq,hx⟩:=hg
  obtain⟨its,rv,p,hz⟩:=I.tuple hq
  obtain⟨u,hu,ru⟩:=rv.get hx
  obtain⟨f0,f1,f2,f3,f4,f5⟩:=hf it (by simp)
  refine wpAny_pyNext_tuple_item st (show s.heap.IsTuple a its.toArray from p) (x:=u) (by simpa using hu) fun h' st' sb=>?_
  have I1:Inv X pins σ H { s with heap:=h' }:=I.turned (t':=s.toks) (fun b o hb e=>(sb.2 b hb).trans e) f0 f1 f3 f4 f5
  obtain⟨o,e,c,d⟩:=id st'
  exact⟨u,rfl,Ym (s:={ s with heap:=h' }) e c d (by decide) ⟨x,H,I1,ru,⟨rfl,fun ys hy=>by rw[I.tuple_inj hy hq];exact hx⟩,st',fun b hb=>(hf b hb).1⟩⟩
 done:=by
  intro X hP hw hK hc i pins s σ H E I hf st hg
  subst hP hw hK
  obtain⟨xs,hq,hx⟩:=hg
  obtain⟨its,rv,p,hz⟩:=I.tuple hq
  obtain⟨f0,f1,f2,f3,f4,f5⟩:=hf it (by simp)
  have hl:=rv.length
  exact wpAny_pyNext_tuple_end (I.ok.hd hc) st (show s.heap.IsTuple a its.toArray from p) (by simp;omega) fun h' eb=>⟨rfl,I.turned (t':=s.toks) (fun b o hb e=>eb b o hb e) f0 f1 f3 f4 f5⟩
 self:=fun _ _ _ _ _ st h=>wpAny_pyIter_tupleiter st h
theorem yU{P:Program}{w:World}{K:PySem.W.Frag}{tg:Expr}(it:Addr)(lo:Int)(n:Nat):v0 P w K tg (Itr lo n) [it] it (fun i h=>IsRangeIter h it (lo+(i:Nat)*1) ((n:Int)-(i:Nat)) 1) where
 mem:=by simp
 obj:=fun i h st b hb=>by
  have e:b=it:=by simpa using hb
  subst e
  exact⟨_,st,fun v z=>by
   have z':Data.fields _=Data.cell v:=z
   cases z'⟩
 keep:=fun i h h' st k=>k it (by simp) _ st
 item:=by
  intro X hP hw hK hc i pins s σ H E I hf st hg
  subst hP hw hK
  obtain⟨f0,f1,f2,f3,f4,f5⟩:=hf it (by simp)
  have W:=Walks.range (prog:=X.prog) (w:=X.w) (I.ok.hd hc) it lo 1 n
  refine W.item i s _ _ hg st fun v h' tk hv st' kk=>?_
  obtain⟨t,rfl⟩:=hv
  have I1:Inv X pins σ H { s with heap:=h',toks:=tk }:=I.turned (fun b o hb e=>kk b o (by simpa using hb) e) f0 f1 f3 f4 f5
  refine⟨_,rfl,Ym (s:={ s with heap:=h',toks:=tk }) (n:= "range_iterator") st' rfl rfl (by decide) ⟨.int (lo+i),H,I1,⟨t,?_⟩,⟨rfl,rfl⟩,st',fun b hb=>(hf b hb).1⟩⟩
  rw[Int.mul_one]
 done:=by
  intro X hP hw hK hc i pins s σ H E I hf st hg
  subst hP hw hK
  obtain⟨f0,f1,f2,f3,f4,f5⟩:=hf it (by simp)
  exact wpAny_pyNext_range_end (I.ok.hd hc) st (by have:n<=i:=hg;omega) fun h' eb=>⟨rfl,I.turned (t':=s.toks) (fun b o hb e=>eb b o hb e) f0 f1 f3 f4 f5⟩
 self:=fun _ _ _ _ _ st h=>wpAny_pyIter_rangeiter st h
end L2
namespace L2
open PySem PySem.Spec PyProof.Rows
section
variable {X:Cx} {tg:Expr}
noncomputable def zf8(K:PySem.W.Frag)(tl:TE):TI:=fun σ H R=>tl σ H fun x H1=>∃ a,x=.ref a/\(∃ xs,SqL K H1 a xs)/\R (Itl K a) H1
noncomputable def iTup(K:PySem.W.Frag)(tl:TE):TI:=fun σ H R=>tl σ H fun x H1=>∃ a,x=.ref a/\(∃ xs,SqT K H1 a xs)/\R (Itt K a) H1
theorem Ys{l:Expr}{tl:TE}(hl:PE X l tl):PI X tg l (zf8 X.K tl):=by
 intro pins s σ H R I h
 refine thn (hl pins s σ H _ I h) fun v s1 ⟨x,H1,I1,r1,q1⟩=>?_
 obtain⟨a,e,⟨xs,hq⟩,q⟩:=q1
 subst e
 cases r1
 obtain⟨its,rv,p,hz⟩:=I1.list hq
 refine wpAny_pyIter_list p.isList ?_
 refine⟨s1.heap.objs.size,[s1.heap.objs.size],_,_,H1,rfl,I1.kept (t':=s1.toks) fun b o e=>Heap.get?_push_of_some _ e,kT a _,⟨_,Heap.get?_push_size _ rfl,rfl,rfl⟩,fun b hb=>?_,q⟩
 have e:b=s1.heap.objs.size:=by simpa using hb
 subst e
 exact I1.fpOk (xi _) (I1.hok.fresh (xi _))
theorem zeQ{l:Expr}{tl:TE}(hl:PE X l tl):PI X tg l (iTup X.K tl):=by
 intro pins s σ H R I h
 refine thn (hl pins s σ H _ I h) fun v s1 ⟨x,H1,I1,r1,q1⟩=>?_
 obtain⟨a,e,⟨xs,hq⟩,q⟩:=q1
 subst e
 cases r1
 obtain⟨its,rv,p,hz⟩:=I1.tuple hq
 refine wpAny_pyIter_tuple (show s1.heap.IsTuple a its.toArray from p) ?_
 refine⟨s1.heap.objs.size,[s1.heap.objs.size],_,_,H1,rfl,I1.kept (t':=s1.toks) fun b o e=>Heap.get?_push_of_some _ e,yV a _,⟨_,Heap.get?_push_size _ rfl,rfl,rfl⟩,fun b hb=>?_,q⟩
 have e:b=s1.heap.objs.size:=by simpa using hb
 subst e
 exact I1.fpOk (xi _) (I1.hok.fresh (xi _))
theorem zaG{pins:List (Addr×Obj)}{σ:St}{H:Hp}{s:Shared}{R:It->Hp->Prop}{E:Value->Shared->Prop}{lo hi:Int}{t u v:Tok}{tk:Nat}(I:Inv X pins σ H s)(h1: -(2 ^ 62)<=lo)(h2:lo<2 ^ 62)(h3: -(2 ^ 62)<=hi)(h4:hi<2 ^ 62)
  (q:R (Itr lo (hi-lo).toNat) H):wpAny (model X.prog X.w) X.A (pyIter (.ref s.heap.objs.size)) (PIE X pins σ tg R) E { s with heap:=s.heap.push { cls:=.type "range",data:=.fields #[.int lo t,.int hi u,.int 1 v] },toks:=tk }:=by
 refine wpAny_pyIter_range (IsRange.new ..) (small_one h1 h2 h3 h4) ?_
 have I1:Inv X pins σ H { s with heap:=s.heap.push { cls:=.type "range",data:=.fields #[.int lo t,.int hi u,.int 1 v] },toks:=tk }:=I.kept fun b o e=>Heap.get?_push_of_some _ e
 refine⟨(s.heap.push { cls:=.type "range",data:=.fields #[.int lo t,.int hi u,.int 1 v] }).objs.size,[(s.heap.push { cls:=.type "range",data:=.fields #[.int lo t,.int hi u,.int 1 v] }).objs.size],_,_,H,rfl,
  I1.kept (t':=tk) fun b o e=>Heap.get?_push_of_some _ e,yU _ lo (hi-lo).toNat,?_,fun b hb=>?_,q⟩
 ·have e1:lo+((0:Nat):Int)*1=lo:=by simp
  have e2:(((hi-lo).toNat:Nat):Int)-((0:Nat):Int)=Builtin.Range.rangeSize lo hi 1:=by rw[rangeSize_one];split<;>omega
  show IsRangeIter _ _ (lo+((0:Nat):Int)*1) ((((hi-lo).toNat:Nat):Int)-((0:Nat):Int)) 1
  rw[e1,e2]
  exact Heap.get?_push_size _ rfl
 ·have e:b=(s.heap.push { cls:=.type "range",data:=.fields #[.int lo t,.int hi u,.int 1 v] }).objs.size:=by simpa using hb
  subst e
  exact I1.fpOk (xi _) (I1.hok.fresh (xi _))
noncomputable def zf9(ta:TA):TI:=fun σ H R=>ta σ H fun vs H1=>∃ j:Int,vs= [.int j]/\ -(2 ^ 62)<=j/\j<2 ^ 62/\R (Itr 0 j.toNat) H1
theorem kC {a:Expr}{ta:TA}{p pos:Pos}(hg:Gl X "range") (hm:X.mg "range" =none) (ha:PA X [a] ta) (hs:starEach [a] X.env= [(false,eval a X.env)]:=by rfl):PI X tg (.Call (.Name "range" p) [a] [] pos) (zf9 ta):=by
 intro pins s σ H R I h
 refine Call_ (vB I hg hm boot_range (PyProof.Rows.callWith_type1 (thn (ha pos pins s σ H _ I h) fun us s1 ⟨vs,H1,I1,r1,q1⟩=>?_) hs rfl))
 obtain⟨j,e,q1,q2,q⟩:=q1
 subst e
 cases r1 with
 |cons r rr=>
  cases rr
  obtain⟨t,rfl⟩:=r
  exact call_range_1 (zaG I1 (by omega) (by omega) q1 q2 (by simpa using q))
noncomputable def tFor(wi:TI)(g:TG)(tb:TS):TS:=fun D σ H=>wi σ H fun J H1=>∃ W:Nat->Nat->St->Hp->Prop,(∃ m,W 0 m σ H1)/\∀ i m σ H,W i m σ H ->
 (J.stop i H/\D.nx σ H)∨(J.go i H/\∃ N:St->Hp->Prop,(∀ σ' H',N σ' H'->∃ m',m'<m/\W (i+1) m' σ' H')/\∀ x H',J.yld i H x H'->g x σ H' fun σ2 H2=>tb { D with nx:=N,ct:=N,bk:=D.nx } σ2 H2)
noncomputable def wE(fp:List Addr)(h:Heap):List (Addr×Obj):=fp.filterMap fun b=>(h.get? b).map fun o=>(b,o)
theorem qV{fp:List Addr}{h:Heap}{b:Addr}{o:Obj}(hb:b∈fp)(e:h.get? b=some o):(b,o)∈wE fp h:=uq.mpr ⟨b,hb,by rw[e];rfl⟩
theorem kw{fp:List Addr}{h:Heap}{p:Addr×Obj}(hp:p∈wE fp h):p.1∈fp/\h.get? p.1=some p.2:=by
 obtain⟨b,hb,e⟩:=uq.mp hp
 cases q:h.get? b with
 |none=>rw[q]at e;cases e
 |some o=>
  rw[q]at e
  have e':(b,o)=p:=Option.some.inj e
  subst e'
  exact⟨hb,q⟩
theorem Inv.pinned{pins:List (Addr×Obj)}{σ:St}{H:Hp}{s:Shared}{fp:List Addr}(I:Inv X pins σ H s)(hf:∀ b∈fp,Qv X pins H b)(ho:∀ b∈fp,∃ o,s.heap.get? b=some o/\∀ v,o.data≠ .cell v):Inv X (pins++wE fp s.heap) σ H s :=
 I.pins_of fun p hp=>(xF.mp hp).elim (fun z=>I.pin p (xt _ z)) fun z=>by
  obtain⟨hb,e⟩:=kw z
  obtain⟨f0,f1,f2,_⟩:=hf p.1 hb
  obtain⟨o,e',d⟩:=ho p.1 hb
  rw[e]at e';cases e'
  exact⟨e,f0,f1,f2,d⟩
theorem Inv.unpinned{pins pl:List (Addr×Obj)}{σ:St}{H:Hp}{s:Shared}(I:Inv X (pins++pl) σ H s):Inv X pins σ H s:=I.pins_of fun p hp=>I.pin p (xt _ (xV _ hp))
theorem zaz{iter:Expr}{body:List Stmt}{wi:TI}{g:TG}{tb:TS}{pos:Pos}(hp:PassesOwn (model X.prog X.w) X.A X.env X.xe)(hc:X.calm=true)(hi:PI X tg iter wi)(hg:PG X tg g)(hb:PSs X body tb)
  (hs:∀ x,foldedSetIterable iter X.env x=pure x:=by intro _;rfl):PS X (.For tg iter body [] pos) (tFor wi g tb):=by
 intro pins s σ H D I h
 refine wpAny_For (thn (hi pins s σ H _ I h) fun v s1 h1=>thn h1 fun itv s2 h2=>?_) hs
 obtain⟨it,fp,tn,J,H2,e,I2,T,st2,f2,W,⟨m0,w0⟩,turn⟩:=h2
 subst e
 -- what stays true of the iterator's objects through the loop
 have stat:∀ {H':Hp},(∀ b∈fp,H' b=none)->∀ b∈fp,Qv X pins H' b:=fun hn b hb=>⟨hn b hb,(f2 b hb).2⟩
 refine codeAny_forLoop_any (fun n s'=>∃ i σ' H',Inv X pins σ' H' s'/\tn i s'.heap/\(∀ b∈fp,H' b=none)/\W i n σ' H') ?_ m0 ⟨0,σ,H2,I2,st2,fun b hb=>(f2 b hb).1,w0⟩
 rintro n s3 ⟨i,σ3,H3,I3,st3,fr3,w3⟩
 rcases turn i n σ3 H3 w3 with ⟨stop,qn⟩ | ⟨go,N,hN,step⟩
 ·refine wpAny_passesOwn hp (thn (T.done X rfl rfl rfl hc i pins s3 σ3 H3 X.xe I3 (stat fr3) st3 stop) fun r s4 ⟨hr,I4⟩=>?_)
  subst hr
  exact wpAny_execs_nil ⟨σ3,H3,I4,qn⟩
 ·refine wpAny_passesOwn hp (thn (T.item X rfl rfl rfl hc i pins s3 σ3 H3 X.xe I3 (stat fr3) st3 go) fun r s4 ⟨u,hr,h4⟩=>?_)
  subst hr
  refine wpAny_passesOwn hp (thn h4 fun _ s5 ⟨x,H5,I5,r5,y5,st5,fr5⟩=>?_)
  have I5':=I5.pinned (stat fr5) (T.obj _ _ st5)
  refine wpAny_passesOwn hp (thn (hg _ s5 σ3 H5 x u _ I5' r5 (step x H5 y5)) fun _ s6 ⟨σ6,H6,I6,q6⟩=>?_)
  refine wpAny_passesOwn hp (thn (hb _ s6 σ6 H6 _ I6 q6) fun f s7 q7=>?_)
  have again:∀ {σ7:St} {H7:Hp},Inv X (pins++wE fp s5.heap) σ7 H7 s7->N σ7 H7->∃ m,m<n/\∃ i σ' H',Inv X pins σ' H' s7/\tn i s7.heap/\(∀ b∈fp,H' b=none)/\W i m σ' H':=fun {σ7 H7} I7 n7=>by
   obtain⟨m',hm,w7⟩:=hN σ7 H7 n7
   refine⟨m',hm,i+1,σ7,H7,I7.unpinned,T.keep _ _ _ st5 fun b hb o e=>(I7.pin (b,o) (xt _ (xt _ (qV hb e)))).1,fun b hb=>?_,w7⟩
   obtain⟨o,e,d⟩:=T.obj _ _ st5 b hb
   exact (I7.pin (b,o) (xt _ (xt _ (qV hb e)))).2.1
  cases f with
  |next=>obtain⟨σ7,H7,I7,n7⟩:=q7;exact again I7 n7
  |cont=>obtain⟨σ7,H7,I7,n7⟩:=q7;exact again I7 n7
  |brk=>obtain⟨σ7,H7,I7,q7⟩:=q7;exact⟨σ7,H7,I7.unpinned,q7⟩
  |ret v=>obtain⟨x7,σ7,H7,I7,r7,q7⟩:=q7;exact⟨x7,σ7,H7,I7.unpinned,r7,q7⟩
end
theorem KP{K:PySem.W.Frag}{a:Addr}{xs:List V}{g:TG}{tb:TS}{D:qF}{σ:St}{H:Hp}(Pv:Nat->St->Hp->Prop)(h0:Pv 0 σ H)(hl:∀ i σ H,i<=xs.length->Pv i σ H->SqL K H a xs)
  (hs:∀ i x σ H,xs[i]?=some x->Pv i σ H->g x σ H fun σ2 H2=>tb { D with nx:=Pv (i+1),ct:=Pv (i+1),bk:=D.nx } σ2 H2) (hd:∀ σ H,Pv xs.length σ H->D.nx σ H) :
  ∃ W:Nat->Nat->St->Hp->Prop,(∃ m,W 0 m σ H)/\∀ i m σ H,W i m σ H ->
   ((Itl K a).stop i H/\D.nx σ H)∨((Itl K a).go i H/\∃ N:St->Hp->Prop,(∀ σ' H',N σ' H'->∃ m',m'<m/\W (i+1) m' σ' H')/\∀ x H',(Itl K a).yld i H x H'->g x σ H' fun σ2 H2=>tb { D with nx:=N,ct:=N,bk:=D.nx } σ2 H2):=by
 refine⟨fun i m σ H=>m=xs.length-i/\i<=xs.length/\Pv i σ H,⟨xs.length,by simp,ua _,h0⟩,?_⟩
 rintro i m σ H ⟨rfl,hi,p⟩
 have q:=hl i σ H hi p
 by_cases hlt:i<xs.length
 ·refine .inr ⟨⟨xs,xs[i],q,by simp[hlt]⟩,Pv (i+1),fun σ' H' p'=>⟨xs.length-(i+1),by omega,rfl,hlt,p'⟩,fun x H' y=>?_⟩
  obtain⟨e,y⟩:=y
  subst e
  exact hs i x σ _ (y xs q) p
 ·have e:i=xs.length:=by omega
  subst e
  exact .inl ⟨⟨xs,q,xi _⟩,hd σ H p⟩
end L2
namespace L2
open PySem PySem.Spec PyProof.Rows
noncomputable abbrev R2:=V->V->Hp->VK->Prop
noncomputable def OpR(X:Cx)(f:Value->Value->Sem Value)(r:R2):Prop :=
 ∀ (pins:List (Addr×Obj)) (s:Shared) (σ:St) (H:Hp) (x y:V) (v u:Value) (Q:VK),Inv X pins σ H s->RelV x v->RelV y u->r x y H Q ->
  wpAny (model X.prog X.w) X.A (f v u) (EP X pins σ Q) X.xe s
noncomputable def UnR(X:Cx)(f:Value->Sem Value)(r:V->Hp->VK->Prop):Prop :=
 ∀ (pins:List (Addr×Obj)) (s:Shared) (σ:St) (H:Hp) (x:V) (v:Value) (Q:VK),Inv X pins σ H s->RelV x v->r x H Q ->
  wpAny (model X.prog X.w) X.A (f v) (EP X pins σ Q) X.xe s
noncomputable def qL(X:Cx)(f:Value)(r:List V->Hp->VK->Prop):Prop :=
 ∀ (pins:List (Addr×Obj)) (s:Shared) (σ:St) (H:Hp) (xs:List V) (us:List Value) (Q:VK),Inv X pins σ H s->Vals xs us->r xs H Q ->
  wpAny (model X.prog X.w) X.A (call f us) (EP X pins σ Q) X.xe s
noncomputable def TruR(X:Cx)(r:V->Hp->(Bool->Hp->Prop)->Prop):Prop :=
 ∀ (pins:List (Addr×Obj)) (s:Shared) (σ:St) (H:Hp) (x:V) (v:Value) (Q:Bool->Hp->Prop),Inv X pins σ H s->RelV x v->r x H Q ->
  wpAny (model X.prog X.w) X.A (truthy v) (TP X pins σ Q) X.xe s
noncomputable def tOp(r:R2)(ta tb:TE):TE:=fun σ H Q=>ta σ H fun x H1=>tb σ H1 fun y H2=>r x y H2 Q
noncomputable def tUn(r:V->Hp->VK->Prop)(ta:TE):TE:=fun σ H Q=>ta σ H fun x H1=>r x H1 Q
noncomputable def rI(C:Int->Int->Prop)(g:Int->Int->V):R2:=fun x y H Q=>∃ i j,x=.int i/\y=.int j/\C i j/\Q (g i j) H
noncomputable def rI0(g:Int->Int->V):R2:=fun x y H Q=>∃ i j,x=.int i/\y=.int j/\Q (g i j) H
noncomputable def rU(g:Int->V):V->Hp->VK->Prop:=fun x H Q=>∃ i,x=.int i/\Q (g i) H
section
variable {X:Cx} {a b c:Expr} {ta tb tc:TE} {pos:Pos}
theorem zdU(ha:PE X a ta)(hb:PE X b tb){pins:List (Addr×Obj)}{s:Shared}{σ:St}{H:Hp}{R:V->V->Hp->Prop}(I:Inv X pins σ H s)
  (h:ta σ H fun x H1=>tb σ H1 fun y H2=>R x y H2) {Q:Value->Shared->Prop} {f:Value->Value->Sem Value}
  (hf:∀ v u s2 x y H2,Inv X pins σ H2 s2->RelV x v->RelV y u->R x y H2->wpAny (model X.prog X.w) X.A (f v u) Q X.xe s2) :
  wpAny (model X.prog X.w) X.A (eval a X.env) (fun v s₁=>wpAny (model X.prog X.w) X.A (eval b X.env) (fun u s₂=>wpAny (model X.prog X.w) X.A (f v u) Q X.xe s₂) X.xe s₁) X.xe s:=by
 refine thn (ha pins s σ H _ I h) fun v s1 ⟨x,H1,I1,r1,q1⟩=>?_
 refine thn (hb pins s1 σ H1 _ I1 q1) fun u s2 ⟨y,H2,I2,r2,q2⟩=>?_
 exact hf v u s2 x y H2 I2 r1 r2 q2
theorem WQ{op:Operator}{r:R2}(ho:OpR X (binaryOp op) r)(ha:PE X a ta)(hb:PE X b tb):PE X (.BinOp a op b pos) (tOp r ta tb):=by
 intro pins s σ H Q I h
 exact wpAny_BinOp (zdU ha hb I h fun v u s2 x y H2 I2 rx ry q=>ho pins s2 σ H2 x y v u Q I2 rx ry q)
theorem zdC{op:UnaryOp}{r:V->Hp->VK->Prop}(ho:UnR X (unaryOp op) r)(ha:PE X a ta):PE X (.UnaryOp op a pos) (tUn r ta):=by
 intro pins s σ H Q I h
 exact UnaryOp_ (thn (ha pins s σ H _ I h) fun v s1 ⟨x,H1,I1,r1,q1⟩=>ho pins s1 σ H1 x v Q I1 r1 q1)
theorem opI{f:Value->Value->Sem Value}{C:Int->Int->Prop}{g:Int->Int->Int}
  (rule:∀ (i j:Int) (t u:Tok) (s:Shared) (Q:Value->Shared->Prop) (E:Value->Shared->Prop),C i j->Q (.int (g i j) s.toks) { s with toks:=s.toks+1 }->wpAny (model X.prog X.w) X.A (f (.int i t) (.int j u)) Q E s) :
  OpR X f (rI C fun i j=>.int (g i j)):=by
 intro pins s σ H x y v u Q I rx ry h
 obtain⟨i,j,rfl,rfl,hc,q⟩:=h
 obtain⟨t,rfl⟩:=rx
 obtain⟨t',rfl⟩:=ry
 exact rule i j t t' s _ _ hc ⟨.int (g i j),H,I.tok _,⟨_,rfl⟩,q⟩
theorem zeC{f:Value->Value->Sem Value}{g:Int->Int->Int}
  (rule:∀ (i j:Int) (t u:Tok) (s:Shared) (Q:Value->Shared->Prop) (E:Value->Shared->Prop),Q (.int (g i j) s.toks) { s with toks:=s.toks+1 }->wpAny (model X.prog X.w) X.A (f (.int i t) (.int j u)) Q E s) :
  OpR X f (rI0 fun i j=>.int (g i j)):=by
 intro pins s σ H x y v u Q I rx ry h
 obtain⟨i,j,rfl,rfl,q⟩:=h
 obtain⟨t,rfl⟩:=rx
 obtain⟨t',rfl⟩:=ry
 exact rule i j t t' s _ _ ⟨.int (g i j),H,I.tok _,⟨_,rfl⟩,q⟩
theorem zcj{f:Value->Value->Sem Value}{g:Int->Int->Bool}
  (rule:∀ (i j:Int) (t u:Tok) (s:Shared) (Q:Value->Shared->Prop) (E:Value->Shared->Prop),Q (.bool (g i j)) s->wpAny (model X.prog X.w) X.A (f (.int i t) (.int j u)) Q E s) :
  OpR X f (rI0 fun i j=>.bl (g i j)):=by
 intro pins s σ H x y v u Q I rx ry h
 obtain⟨i,j,rfl,rfl,q⟩:=h
 obtain⟨t,rfl⟩:=rx
 obtain⟨t',rfl⟩:=ry
 exact rule i j t t' s _ _ ⟨.bl (g i j),H,I,rfl,q⟩
noncomputable def CDiv(i j:Int):Prop:=0<j/\j<1073741824
noncomputable def zfS(i j:Int):Prop:=0<=j/\j<=1000000/\i.natAbs<2 ^ 64
noncomputable def CMul(i j:Int):Prop:=(-(2 ^ 64)<i/\i<2 ^ 64)∨(-(2 ^ 64)<j/\j<2 ^ 64)
theorem CMul.ok{i j:Int}(h:CMul i j):IntMulOk i j:=by
 rcases h with ⟨h1,h2⟩ | ⟨h1,h2⟩
 ·exact .of_left (intBits_le_64 h1 h2)
 ·exact .of_right (intBits_le_64 h1 h2)
theorem yW(k:Nat):(0:Int)<=2 ^ k:=by
 rw[two_pow_cast]
 exact Int.natCast_nonneg _
theorem yF:OpR X (binaryOp .Add) (rI0 fun i j=>.int (i+j)):=zeC fun _ _ _ _ _ _ _ q=>add_int q
theorem zeK:OpR X (binaryOp .Sub) (rI0 fun i j=>.int (i-j)):=zeC fun _ _ _ _ _ _ _ q=>sub_int q
theorem zam:OpR X (binaryOp .Mult) (rI CMul fun i j=>.int (i*j)):=opI fun _ _ _ _ _ _ _ hc q=>mul_int q hc.ok
theorem zck:OpR X (binaryOp .FloorDiv) (rI CDiv fun i j=>.int (i / j)):=opI fun i j _ _ _ _ _ hc q=>by
 have h1:(0:Int)<j:=hc.1
 have h2:j<1073741824:=hc.2
 exact floordiv_int (by omega) (by rw[Int.fdiv_eq_ediv_of_nonneg i (by omega)];exact q) (.inl (PyProof.noPylong_small (by omega)))
theorem zal:OpR X (binaryOp .Mod) (rI (fun _ j=>0<j) fun i j=>.int (i % j)):=opI fun i j _ _ _ _ _ hc q=>by
 have h1:(0:Int)<j:=hc
 exact mod_int' (by omega) (by rw[Int.fmod_eq_emod_of_nonneg i (by omega)];exact q)
theorem zeG:OpR X (binaryOp .Pow) (rI zfS fun i j=>.int (i ^ j.toNat)):=opI fun _ _ _ _ _ _ _ hc q=>pow_int_small hc.1 hc.2.1 hc.2.2 q
theorem zeH:OpR X (binaryOp .LShift) (rI zfS fun i j=>.int (i*2 ^ j.toNat)):=opI fun _ _ _ _ _ _ _ hc q=>lshift_int_small hc.1 hc.2.1 hc.2.2 q
theorem zeI:OpR X (binaryOp .RShift) (rI (fun _ j=>0<=j) fun i j=>.int (i / 2 ^ j.toNat)):=opI fun i j _ _ _ _ _ hc q=>
 rshift_int hc (by rw[Int.fdiv_eq_ediv_of_nonneg i (yW _)];exact q)
theorem zeD:OpR X (binaryOp .BitAnd) (rI0 fun i j=>.int (Builtin.bitAnd i j)):=zeC fun _ _ _ _ _ _ _ q=>and_int q
theorem unI{f:Value->Sem Value}{g:Int->Int}
  (rule:∀ (i:Int) (t:Tok) (s:Shared) (Q:Value->Shared->Prop) (E:Value->Shared->Prop),Q (.int (g i) s.toks) { s with toks:=s.toks+1 }->wpAny (model X.prog X.w) X.A (f (.int i t)) Q E s) :
  UnR X f (rU fun i=>.int (g i)):=by
 intro pins s σ H x v Q I rx h
 obtain⟨i,rfl,q⟩:=h
 obtain⟨t,rfl⟩:=rx
 exact rule i t s _ _ ⟨.int (g i),H,I.tok _,⟨_,rfl⟩,q⟩
theorem zfM:UnR X (unaryOp .USub) (rU fun i=>.int (-i)):=unI fun _ _ _ _ _ q=>neg_int q
end
section
variable {X:Cx} {a b c:Expr} {ta tb tc:TE} {pos:Pos}
theorem KO{pins:List (Addr×Obj)}{σ:St}{H:Hp}{s:Shared}{Q:VK}{k k':Bool}(I:Inv X pins σ H s)(q:Q (.bl k) H)(e:k=k'):EP X pins σ Q (.bool k') s:=by
 subst e
 exact⟨.bl k,H,I,rfl,q⟩
theorem zgl:OpR X (compareOp .Lt) (rI0 fun i j=>.bl (decide (i<j))):=zcj fun _ _ _ _ _ _ _ q=>lt_int q
theorem zgk:OpR X (compareOp .LtE) (rI0 fun i j=>.bl (decide (i<=j))):=zcj fun _ _ _ _ _ _ _ q=>le_int q
theorem zgj:OpR X (compareOp .Gt) (rI0 fun i j=>.bl (decide (j<i))):=zcj fun _ _ _ _ _ _ _ q=>gt_int q
theorem zgi:OpR X (compareOp .GtE) (rI0 fun i j=>.bl (decide (j<=i))):=zcj fun _ _ _ _ _ _ _ q=>ge_int q
theorem zeF:OpR X (compareOp .Is) (fun x y H Q=>y=.non/\Q (.bl (decide (x=.non))) H):=by
 intro pins s σ H x y v u Q I rx ry h
 obtain⟨rfl,q⟩:=h
 cases ry
 refine is_none_gen (KO I q ?_)
 cases x<;>first
  | (cases rx;rfl)
  | (obtain⟨t,rfl⟩:=rx;rfl)
theorem zcl:OpR X (compareOp .IsNot) (fun x y H Q=>y=.non/\Q (.bl (!decide (x=.non))) H):=by
 intro pins s σ H x y v u Q I rx ry h
 obtain⟨rfl,q⟩:=h
 cases ry
 refine isnot_none_gen (KO I q ?_)
 cases x<;>first
  | (cases rx;rfl)
  | (obtain⟨t,rfl⟩:=rx;rfl)
theorem zcq{op:CmpOp}{r:R2}(ho:OpR X (compareOp op) r)(ha:PE X a ta)(hb:PE X b tb)(hm:behindInMarks op b=false):PE X (.Compare a [op] [b] pos) (tOp r ta tb):=by
 intro pins s σ H Q I h
 exact wpAny_Compare1 (zdU ha hb I h fun v u s2 x y H2 I2 rx ry q=>ho pins s2 σ H2 x y v u Q I2 rx ry q) hm
noncomputable def zdM(t:TE):TT:=fun σ H Q=>t σ H fun x H'=>∃ k,x=.bl k/\Q k H'
theorem zcw{op:CmpOp}{r:R2}(ho:OpR X (compareOp op) r)(ha:PE X a ta)(hb:PE X b tb)(hm:behindInMarks op b=false):PT X (.Compare a [op] [b] pos) (zdM (tOp r ta tb)):=by
 intro pins s σ H Q I h
 refine wpAny_isTrue_Compare1 (thn (ha pins s σ H _ I h) fun v s1 ⟨x,H1,I1,r1,q1⟩=>thn (hb pins s1 σ H1 _ I1 q1) fun u s2 ⟨y,H2,I2,r2,q2⟩=>
  thn (ho pins s2 σ H2 x y v u _ I2 r1 r2 q2) fun c s3 ⟨z,H3,I3,r3,k,e,q3⟩=>?_) hm
 subst e
 cases r3
 exact wpAny_truthy_bool ⟨H3,I3,q3⟩
noncomputable def yQ(r r':R2)(ta tb tc:TE):TE:=fun σ H Q=>ta σ H fun x H1=>tb σ H1 fun y H2=>r x y H2 fun z H3=>∃ k,z=.bl k /\
 (if k=true then tc σ H3 fun w' H4=>r' y w' H4 Q else Q (.bl false) H3)
theorem zan{op op':CmpOp}{r r':R2}(ho:OpR X (compareOp op) r)(ho':OpR X (compareOp op') r')(ha:PE X a ta)(hb:PE X b tb)(hc:PE X c tc)
  (hm:lastMarks [op,op'] [b,c]=false:=by with_unfolding_all rfl):PE X (.Compare a [op,op'] [b,c] pos) (yQ r r' ta tb tc):=by
 intro pins s σ H Q I h
 refine Compare_chain (thn (ha pins s σ H _ I h) fun v s1 ⟨x,H1,I1,r1,q1⟩=>chain_link (thn (hb pins s1 σ H1 _ I1 q1) fun u s2 ⟨y,H2,I2,r2,q2⟩=>
  thn (ho pins s2 σ H2 x y v u _ I2 r1 r2 q2) fun d s3 ⟨z,H3,I3,r3,k,e,q3⟩=>?_)) hm
 subst e
 cases r3
 refine wpAny_truthy_bool ?_
 cases k with
 |false=>exact ite_ff ⟨.bl false,H3,I3,rfl,q3⟩
 |true=>exact ite_tt (chain_last (thn (hc pins s3 σ H3 _ I3 q3) fun w' s4 ⟨z',H4,I4,r4,q4⟩=>ho' pins s4 σ H4 y z' u w' Q I4 r2 r4 q4))
theorem zaC{op op':CmpOp}{r r':R2}(ho:OpR X (compareOp op) r)(ho':OpR X (compareOp op') r')(ha:PE X a ta)(hb:PE X b tb)(hc:PE X c tc)
  (hm:lastMarks [op,op'] [b,c]=false:=by with_unfolding_all rfl):PT X (.Compare a [op,op'] [b,c] pos) (zdM (yQ r r' ta tb tc)):=by
 intro pins s σ H Q I h
 refine isTrue_chain (thn (ha pins s σ H _ I h) fun v s1 ⟨x,H1,I1,r1,q1⟩=>test_link (thn (hb pins s1 σ H1 _ I1 q1) fun u s2 ⟨y,H2,I2,r2,q2⟩=>
  thn (ho pins s2 σ H2 x y v u _ I2 r1 r2 q2) fun d s3 ⟨z,H3,I3,r3,k,e,q3⟩=>?_)) hm
 subst e
 cases r3
 refine wpAny_truthy_bool ?_
 cases k with
 |false=>
  obtain⟨k',e',q'⟩:=q3
  cases e'
  exact ite_ff ⟨H3,I3,q'⟩
 |true=>
  refine ite_tt (test_last (thn (hc pins s3 σ H3 _ I3 q3) fun w' s4 ⟨z',H4,I4,r4,q4⟩=>thn (ho' pins s4 σ H4 y z' u w' _ I4 r2 r4 q4) fun d' s5 ⟨z2,H5,I5,r5,k2,e2,q5⟩=>?_))
  subst e2
  cases r5
  exact wpAny_truthy_bool ⟨H5,I5,q5⟩
noncomputable def zbK(K:PySem.W.Frag)(x:V)(H:Hp)(k:Bool):Prop :=
 match x with
 |.non=>k=false
 |.bl b=>k=b
 |.int i=>k=(i !=0)
 |.str y=>y.length<=sizeLine/\k=((y.length:Int) !=0)
 |.byt y=>y.size<=sizeLine/\k=((y.size:Int) !=0)
 |.ref p=>(∃ xs,SqL K H p xs/\k= !xs.isEmpty)∨(∃ xs,SqT K H p xs/\k= !xs.isEmpty)∨∃ kvs,H p=some (.dK kvs)/\k= !kvs.isEmpty
 |_=>False
theorem yz{κ:Type}{kvs:List (κ×V)}{vs:List (κ×Value)}(r:KV kvs vs):(!vs.isEmpty)= !kvs.isEmpty:=by
 cases r<;>rfl
theorem wt{xs:List V}{its:List Value}(r:Vals xs its):(!its.toArray.isEmpty)= !xs.isEmpty:=by
 cases r<;>simp
theorem JE:(sizeLine:Nat)<2 ^ 63:=by rw[sizeLine_eq];decide
theorem zbf:TruR X (fun x H Q=>∃ k,zbK X.K x H k/\Q k H):=by
 intro pins s σ H x v Q I rx h
 obtain⟨k,e,q⟩:=h
 have hl:=JE
 have hs:sizeLine=16777216:=sizeLine_eq
 cases x with
 |non=>
  cases rx
  have e':k=false:=e
  subst e'
  exact truthy_none ⟨H,I,q⟩
 |bl b=>
  cases rx
  have e':k=b:=e
  subst e'
  exact wpAny_truthy_bool ⟨H,I,q⟩
 |int i=>
  obtain⟨t,rfl⟩:=rx
  have e':k=(i !=0):=e
  subst e'
  exact PySem.P.truthy_int ⟨H,I,q⟩
 |str y=>
  obtain⟨t,rfl⟩:=rx
  obtain⟨hy,e'⟩:y.length<=sizeLine/\k=((y.length:Int) !=0):=e
  subst e'
  exact PySem.P.truthy_str (by omega) ⟨H,I.tok _,q⟩
 |byt y=>
  obtain⟨t,rfl⟩:=rx
  obtain⟨hy,e'⟩:y.size<=sizeLine/\k=((y.size:Int) !=0):=e
  subst e'
  exact PySem.W.truthy_bytes (by omega) ⟨H,I.tok _,q⟩
 |ref p=>
  cases rx
  have e':(∃ xs,SqL X.K H p xs/\k= !xs.isEmpty)∨(∃ xs,SqT X.K H p xs/\k= !xs.isEmpty)∨∃ kvs,H p=some (.dK kvs)/\k= !kvs.isEmpty:=e
  rcases e' with ⟨xs,hx,e'⟩ | ⟨xs,hx,e'⟩ | ⟨kvs,hx,e'⟩
  ·subst e'
   obtain⟨its,r,pl,hz⟩:=I.list hx
   have hlen:=r.length
   exact wpAny_truthy_list pl.isList (by simp only[xl];omega) ⟨H,I.tok _,by rw[wt r];exact q⟩
  ·subst e'
   obtain⟨its,r,pl,hz⟩:=I.tuple hx
   have hlen:=r.length
   exact truthy_tuple pl (by simp only[xl];omega) ⟨H,I.tok _,by rw[wt r];exact q⟩
  ·subst e'
   obtain⟨hz,hS,vs,r,m⟩:kvs.length<=sizeLine/\(p==sysModules)=false/\∃ vs,KV kvs vs/\s.heap.DictOf (qC X.prog X.w) p vs:=I.hok p _ hx
   have hlen:kvs.length=vs.length:=Paired.length r
   exact wpAny_truthy_dict hS m (by omega) ⟨H,I.tok _,by rw[yz r];exact q⟩
 |_=>exact (show False from e).elim
theorem zaD(ha:PE X a ta)(he:∀ whole,isTrue a X.env whole=(do let v<-whole;standAt a.pos;holding [v] (truthy v))) :
  PT X a (fun σ H Q=>ta σ H fun x H'=>∃ k,zbK X.K x H' k/\Q k H'):=by
 intro pins s σ H Q I h
 exact isTrue_plain (thn (ha pins s σ H _ I h) fun v s1 ⟨x,H1,I1,r1,q1⟩=>zbf pins s1 σ H1 x v Q I1 r1 q1) (he _)
theorem jf{x:V}{us:List Value}(r:Vals [x] us):∃ u,us= [u]/\RelV x u:=by
 cases r with
 |cons r1 r2=>cases r2;exact⟨_,rfl,r1⟩
theorem zbx{x y:V}{us:List Value}(r:Vals [x,y] us):∃ u w',us= [u,w']/\RelV x u/\RelV y w':=by
 cases r with
 |cons r1 r2=>
  cases r2 with
  |cons r3 r4=>cases r4;exact⟨_,_,rfl,r1,r3⟩
theorem Y4 (hc:X.calm=true):qL X (.builtin "max") (fun xs H Q=>∃ i j,xs= [.int i,.int j]/\Q (.int (if j>i then j else i)) H):=by
 intro pins s σ H xs us Q I r h
 obtain⟨i,j,rfl,q⟩:=h
 obtain⟨u,w',rfl,⟨t,rfl⟩,⟨t',rfl⟩⟩:=zbx r
 refine max_two_ints (I.ok.hd hc) fun h' tk k=>⟨_,H,I.kept k,?_,q⟩
 by_cases hj:j>i
 ·rw[if_pos hj,if_pos hj];exact⟨_,rfl⟩
 ·rw[if_neg hj,if_neg hj];exact⟨_,rfl⟩
theorem Y5 (hc:X.calm=true):qL X (.builtin "min") (fun xs H Q=>∃ i j,xs= [.int i,.int j]/\Q (.int (if j<i then j else i)) H):=by
 intro pins s σ H xs us Q I r h
 obtain⟨i,j,rfl,q⟩:=h
 obtain⟨u,w',rfl,⟨t,rfl⟩,⟨t',rfl⟩⟩:=zbx r
 refine min_two_ints (I.ok.hd hc) fun h' tk k=>⟨_,H,I.kept k,?_,q⟩
 by_cases hj:j<i
 ·rw[if_pos hj,if_pos hj];exact⟨_,rfl⟩
 ·rw[if_neg hj,if_neg hj];exact⟨_,rfl⟩
theorem Wv:qL X (.type "int") (fun xs H Q=>(∃ i,xs= [.int i]/\Q (.int i) H)∨∃ k,xs= [.bl k]/\Q (.int (if k then 1 else 0)) H):=by
 intro pins s σ H xs us Q I r h
 rcases h with ⟨i,rfl,q⟩ | ⟨k,rfl,q⟩
 ·obtain⟨u,rfl,t,rfl⟩:=jf r
  exact call_int_int ⟨.int i,H,I,⟨_,rfl⟩,q⟩
 ·obtain⟨u,rfl,r1⟩:=jf r
  cases r1
  exact call_int_bool ⟨.int (if k then 1 else 0),H,I.tok _,⟨_,rfl⟩,q⟩
end
end L2
namespace L2
open PySem PySem.Spec PyProof.Rows
structure ObjM(h:Heap)(x dx C:Addr)(mA:Str->Option Value):Prop where
 obj:h.get? x=some (PySem.W.instObj C dx)
 ns:h.Ns1 dx mA
 ne:dx≠x
theorem kt{h:Heap}{dx:Addr}{mA:Str->Option Value}(n:h.Ns1 dx mA):∃ od,h.get? dx=some od/\∀ name,PySem.W.lookIn name od=some (mA name):=by
 obtain⟨o,es,ep,ho,hd,hk,_,hm⟩:=n
 refine⟨o,ho,fun name=>?_⟩
 have e:=hm name
 unfold nsFind findBy at e
 rw[<- Array.find?_toList]at e
 unfold PySem.W.lookIn
 rw[hd]
 dsimp only
 split
 ·rename_i y q
  rw[q]at e
  exact congrArg some e
 ·rename_i q
  rw[q]at e
  have a:es.toList.any (·.refKey)=false:=by
   rw[List.any_eq_false]
   intro y hy
   obtain⟨z,t,hkey⟩:=hk y (Array.mem_toList_iff.mp hy)
   simp[DictEntry.refKey,hkey]
  have a':¬ es.toList.any (·.refKey)=true:=by rw[a];exact Bool.false_ne_true
  rw[if_neg a']
  exact congrArg some e
theorem ObjM.look{h:Heap}{x dx C:Addr}{mA:Str->Option Value}(I:ObjM h x dx C mA):∃ od,PySem.W.InstAt h x (PySem.W.instObj C dx) C (some od)/\∀ name,PySem.W.lookIn name od=some (mA name) :=
 let ⟨od,ho,hl⟩:=kt I.ns
 ⟨od,⟨I.obj,rfl,rfl,ho⟩,hl⟩
section
variable {prog:Program} {w:World} {A:Around} {E:Value->Shared->Prop} {s:Shared} {K:PySem.W.Frag} {x dx C f:Addr} {mA:Str->Option Value} {name:Str} {v:Value}
end
section
variable {P:Program} {w:World} {H H':Hp} {h h':Heap} {a C dx:Addr} {fs fs':List (Str×V)}
theorem zcb(hok:HOk P w H h)(e:H a=some (.ins C dx fs)):∃ mA,ObjM h a dx C mA/\(∀ f,RelO (fs.lookup f) (mA f))/\PySem.Within mA (fs.map (·.1))/\fs.length<=1000/\H dx=some (.own a):=by
 obtain⟨d,z,ne,ob,mA,n,r,q⟩:=(show ObjOk P w H h a (.ins C dx fs) from hok a _ e)
 exact⟨mA,⟨ob,n,ne⟩,r,q,z,d⟩
end
structure Cls(K:PySem.W.Frag)(C:Addr):Prop where
 pg:PySem.W.plainGet K C Str.empty=true
 hd:PySem.W.hasDictIn K C=true
 po:PySem.W.plainOver K C=true
 sa:PySem.W.findIn K (.ref C) "__setattr__" =some (some (.builtin "object.__setattr__"))
theorem Cls.get{K:PySem.W.Frag}{C:Addr}(c:Cls K C)(f:Str):PySem.W.plainGet K C f=true:=c.pg
noncomputable def ZL(K:PySem.W.Frag)(C:Addr)(f:Str):Prop:=PySem.W.findIn K (.ref C) f=some none
structure zdP(K:PySem.W.Frag)(C:Addr)(m:Str)(f:Addr):Prop where
 at_:PySem.W.findIn K (.ref C) m=some (some (.ref f))
 fn:PySem.W.isFn K (.ref f)=true
 kp:PySem.W.keepIn K (.ref f)=true
section
variable {X:Cx} {pins:List (Addr×Obj)} {σ:St} {H:Hp} {s:Shared} {a C dx:Addr} {fs:List (Str×V)} {f:Str} {v:V} {A:Around} {E:Value->Shared->Prop}
end
section
variable {X:Cx} {o e value:Expr} {f:Str} {pos pos' tpos:Pos} {ta tv:TE}
end
section
variable {X:Cx} {pins:List (Addr×Obj)} {σ:St} {H:Hp} {s:Shared} {A:Around} {E:Value->Shared->Prop} {Q:Value->Shared->Prop} {c:Value} {b:Bool}
inductive Z3(K:PySem.W.Frag)(H:Hp):V->Value->Prop where
 |non:Z3 K H .non (.type "NoneType")
 |bl (x:Bool):Z3 K H (.bl x) (.type "bool")
 |int (i:Int):Z3 K H (.int i) (.type "int")
 |str (x:Str):Z3 K H (.str x) (.type "str")
 |flt (x:UInt64):Z3 K H (.flt x) (.type "float")
 |lst {a:Addr} {xs:List V} (e:H a=some (.lst xs)):Z3 K H (.ref a) (.type "list")
 |frz {a:Addr} {o:Obj} {xs:List V} (e:H a=some (.frz o (.lst xs))):Z3 K H (.ref a) (.type "list")
 |tup {a:Addr} {xs:List V} (e:H a=some (.tup xs)):Z3 K H (.ref a) (.type "tuple")
 |dK {a:Addr} {kvs:List (Key×V)} (e:H a=some (.dK kvs)):Z3 K H (.ref a) (.type "dict")
 |dT {a:Addr} {kvs:List (List Key×V)} (e:H a=some (.dT kvs)):Z3 K H (.ref a) (.type "dict")
 |ins {a C dx:Addr} {fs:List (Str×V)} (e:H a=some (.ins C dx fs)) (cl:Cls K C) (ha:PySem.W.findIn K (.ref C) "__class__" =some (some (.builtin "object.__class__")))
   (hn:PySem.W.specialIn K (.builtin "object.__class__") "__get__" =some (some (.builtin "getset_descriptor.__get__"))) (htk:PySem.W.takesIn K (.builtin "object.__class__")=some true)
   (hm:PySem.W.mroIn K C (.type "object")=some true):Z3 K H (.ref a) (.ref C)
theorem ki{x:V}{u t:Value}(I:Inv X pins σ H s)(rx:RelV x u)(ty:Z3 X.K H x t)(e:PySem.W.kitOne X.K t c=some b)(h:∀ tk,Q (.bool b) { s with toks:=tk }) :
  wpAny (model X.prog X.w) A (call (.builtin "isinstance") [u,c]) Q E s:=by
 cases ty with
 |non=>cases (show u=Value.none from rx);exact PySem.W.kia_one PySem.W.kitx_none I.kIn True.intro e (fun z=>nomatch z) h
 |bl y=>cases (show u=Value.bool y from rx);exact PySem.W.kia_one PySem.W.kitx_bool I.kIn True.intro e (fun z=>nomatch z) h
 |int i=>obtain⟨t,q⟩:=(show ∃ t,u=Value.int i t from rx);cases q;exact PySem.W.kia_one PySem.W.kitx_int I.kIn True.intro e (fun z=>nomatch z) h
 |str y=>obtain⟨t,q⟩:=(show ∃ t,u=Value.str y t from rx);cases q;exact PySem.W.kia_one PySem.W.kitx_str I.kIn True.intro e (fun z=>nomatch z) h
 |flt y=>obtain⟨t,q⟩:=(show ∃ t,u=Value.float y t from rx);cases q;exact PySem.W.kia_one PySem.W.kitx_float I.kIn True.intro e (fun z=>nomatch z) h
 | @lst a xs ea=>
  cases (show u=Value.ref a from rx)
  obtain⟨_,_,n,_,h1⟩:=(show ObjOk X.prog X.w H s.heap a (.lst xs) from I.hok a _ ea)
  exact PySem.W.kia_one PySem.W.kitx_list I.kIn ⟨_,h1,rfl⟩ e (fun z=>nomatch z) h
 | @frz a ob xs ea=>
  cases (show u=Value.ref a from rx)
  obtain⟨_,_,_,n,_,h1⟩:=(show ObjOk X.prog X.w H s.heap a (.frz ob (.lst xs)) from I.hok a _ ea)
  exact PySem.W.kia_one PySem.W.kitx_list I.kIn ⟨_,h1,rfl⟩ e (fun z=>nomatch z) h
 | @tup a xs ea=>
  cases (show u=Value.ref a from rx)
  obtain⟨_,_,_,p⟩:=(show ObjOk X.prog X.w H s.heap a (.tup xs) from I.hok a _ ea)
  obtain⟨o,h1,h2,_⟩:=p
  exact PySem.W.kia_one PySem.W.kitx_tuple I.kIn ⟨o,h1,h2⟩ e (fun z=>nomatch z) h
 | @dK a kvs ea=>
  cases (show u=Value.ref a from rx)
  obtain⟨_,_,vs,_,p⟩:=(show ObjOk X.prog X.w H s.heap a (.dK kvs) from I.hok a _ ea)
  obtain⟨o,es,ep,h1,h2,_⟩:=p
  exact PySem.W.kia_one PySem.W.kitx_dict I.kIn ⟨o,h1,h2.1⟩ e (fun z=>nomatch z) h
 | @dT a kvs ea=>
  cases (show u=Value.ref a from rx)
  obtain⟨_,_,xs,_,o,es,ep,h1,h2,_⟩:=(show ObjOk X.prog X.w H s.heap a (.dT kvs) from I.hok a _ ea)
  exact PySem.W.kia_one PySem.W.kitx_dict I.kIn ⟨o,h1,h2.1⟩ e (fun z=>nomatch z) h
 | @ins a C dx fs ea cl ha hn htk hm=>
  cases (show u=Value.ref a from rx)
  obtain⟨mA,O,_⟩:=zcb I.hok ea
  obtain⟨od,J,_⟩:=O.look
  exact PySem.W.kia_one (PySem.W.kitx_own (cl.get _) cl.hd ha hn htk hm) I.kIn J e (fun z=>nomatch z) h
end
end L2
namespace L2
open PySem PySem.Spec PyProof.Rows
structure Room(k:Nat)(A:Around):Prop where
 hd:A.handled=none
 dp:A.depth+3*k+5<recursionLimit
 un:A.units+16*k+200<cLine
theorem Room.mono{j k:Nat}{A:Around}(r:Room k A)(h:j<=k):Room j A:=⟨r.hd,by have:=r.dp;omega,by have:=r.un;omega⟩
theorem Room.deeper{k:Nat}{A:Around}(r:Room (k+1) A)(env:Env):Room k (A.deeper env) :=
 ⟨r.hd,by have:=r.dp;show A.depth+1+3*k+5<_;omega,by have:=r.un;show A.units+3+16*k+200<_;omega⟩
theorem Room.in1{k:Nat}{A:Around}(r:Room (k+1) A):Room k A.in1 :=
 ⟨r.hd,by have:=r.dp;show A.depth+3*k+5<_;omega,by have:=r.un;show A.units+1+16*k+200<_;omega⟩
theorem Room.depth{k:Nat}{A:Around}(r:Room k A):A.depth<recursionLimit:=by have:=r.dp;omega
theorem Room.units{k:Nat}{A:Around}(r:Room k A):A.units+64<cLine:=by have:=r.un;omega
noncomputable def tNil:TA:=fun _ H Q=>Q [] H
noncomputable def zgK(ta:TE)(tr:TA):TA:=fun σ H Q=>ta σ H fun x H1=>tr σ H1 fun xs H2=>Q (x::xs) H2
section
variable {X:Cx} {e:Expr} {es:List Expr} {te:TE} {t:TA} {pos:Pos}
theorem pa_nil:PA X [] tNil:=fun _ _ _ _ H Q I h=>Calls.spliced_nil ⟨[],H,I,.nil,h⟩
theorem zp(ha:PE X e te)(hr:PA X es t)(hs:starEach (e::es) X.env=(false,eval e X.env)::starEach es X.env:=by rfl):PA X (e::es) (zgK te t):=by
 intro pos pins s σ H Q I h
 rw[hs]
 show wpAny _ _ (spliced ((false,eval e X.env)::backTo pos (starEach es X.env))) _ _ s
 refine Calls.spliced_cons (thn (ha pins s σ H _ I h) fun u s1 ⟨x,H1,I1,r1,q1⟩=>?_)
 exact thn (hr pos pins s1 σ H1 _ I1 q1) fun us s2 ⟨xs,H2,I2,r2,q2⟩=>⟨x::xs,H2,I2,.cons r1 r2,q2⟩
noncomputable def tTup(t:TA):TE:=fun σ H Q=>t σ H fun xs H1=>xs.length<=sizeLine/\∀ p,H1 p=none->Q (.ref p) (upd H1 p (.tup xs))
noncomputable def tLst(t:TA):TE:=fun σ H Q=>t σ H fun xs H1=>xs.length<=sizeLine/\∀ p,H1 p=none->Q (.ref p) (upd H1 p (.lst xs))
theorem zat{x1}(h:PA X es t):PE X (.Tuple es x1 pos) (tTup t):=by
 intro pins s σ H Q I hq
 refine wpAny_Tuple_spliced (thn (h pos pins s σ H _ I hq) fun us s1 ⟨xs,H1,I1,r,z,q⟩=>⟨by rw[<- r.length];exact z,?_⟩)
 have hf:H1 s1.heap.objs.size=none:=I1.hok.fresh (xi _)
 refine⟨.ref s1.heap.objs.size,upd H1 s1.heap.objs.size (.tup xs),I1.laid (t':=s1.toks) (fun b u e=>Heap.get?_push_of_some _ e) (xi _) ?_,rfl,q _ hf⟩
 exact⟨z,us,r,⟨_,Heap.get?_push_size _ rfl,rfl,_,rfl⟩⟩
theorem zas(h:PA X es t):PE X (.List es pos) (tLst t):=by
 intro pins s σ H Q I hq
 refine wpAny_List_spliced (thn (h pos pins s σ H _ I hq) fun us s1 ⟨xs,H1,I1,r,z,q⟩=>⟨by rw[<- r.length];exact z,?_⟩)
 have hf:H1 s1.heap.objs.size=none:=I1.hok.fresh (xi _)
 refine⟨.ref s1.heap.objs.size,upd H1 s1.heap.objs.size (.lst xs),I1.laid (t':=s1.toks) (fun b u e=>Heap.get?_push_of_some _ e) (xi _) ?_,rfl,q _ hf⟩
 exact⟨z,us,0,r,Heap.get?_push_size _ rfl⟩
end
noncomputable abbrev Sp:=List V->Hp->VK->XK->Prop
noncomputable abbrev CXT:=List Env->Hp->Shared->XK->Value->Shared->Prop
structure zbH(P:Program)(w:World)(K:PySem.W.Frag)(mg:Str->Option Value)(base:Heap)(A:Around)(outer:List Env)(s:Shared)(H:Hp):Prop where
 frames:A.frames=some outer
 mod:Mod K mg base
 bs:∀ b o,base.get? b=some o->s.heap.get? b=some o/\H b=none
 bsz:base.objs.size<=s.heap.objs.size
 funs:s.heap.FunFrames base outer
 frf:∀ b∈frs outer,H b=none
 hok:HOk P w H s.heap
 bare:AllBare s.gens
noncomputable def CE(outer:List Env)(P:Program)(w:World)(H:Hp)(s:Shared)(Q:VK)(u:Value)(s':Shared):Prop :=
 ∃ v H',s'.os=s.os/\AllBare s'.gens/\Un (frs outer) [] H H' s.heap s'.heap/\HOk P w H' s'.heap/\RelV v u/\Q v H'
noncomputable def CR(CX:CXT)(outer:List Env)(P:Program)(w:World)(H:Hp)(s:Shared)(Q:VK)(E:XK)(r:Result)(s':Shared):Prop :=
 match r with
 |.ok (.ret u)=>CE outer P w H s Q u s'
 |.ok _=>False
 |.error e=>CX outer H s E e s'
structure FnOk(P:Program)(w:World)(K:PySem.W.Frag)(mg:Str->Option Value)(base:Heap)(CX:CXT)(k:Nat)(f:Addr)(fd:FuncData)(ps:List Str)(sp:Sp):Prop where
 len:∀ vs H Q E,sp vs H Q E->vs.length=ps.length
 run:∀ (A:Around) (outer:List Env) (s:Shared) (H:Hp) (args:Args) (us:List Value) (vs:List V) (Q:VK) (E:XK),Room k A->zbH P w K mg base A outer s H->BindsTo s fd args (ps.zip us)->Vals vs us->sp vs H Q E ->
  codeAny (model P w) A (.call (.ref f) args) (CR CX outer P w H s Q E) s
theorem FnOk.mono{P:Program}{w:World}{K:PySem.W.Frag}{mg:Str->Option Value}{base:Heap}{CX:CXT}{j k:Nat}{f:Addr}{fd:FuncData}{ps:List Str}{sp:Sp}(F:FnOk P w K mg base CX j f fd ps sp)(h:j<=k) :
  FnOk P w K mg base CX k f fd ps sp:=⟨F.len,fun A outer s H args us vs Q E hr=>F.run A outer s H args us vs Q E (hr.mono h)⟩
section
variable {X:Cx} {pins:List (Addr×Obj)} {σ:St} {H:Hp} {s s':Shared}
theorem Inv.env0(I:Inv X pins σ H s):zbH X.prog X.w X.K X.mg X.base X.A X.stack s H :=
 ⟨I.ok.frames,I.ok.mod,I.bs,xA I.ok.bsz I.sz,I.stack,I.stkFree,I.hok,I.bare⟩
theorem Inv.after{Q:VK}{u:Value}(I:Inv X pins σ H s)(h:CE X.stack X.prog X.w H s Q u s'):EP X pins σ Q u s':=by
 obtain⟨v,H',os,bare,un,hok,r,q⟩:=h
 obtain⟨hh,g,d,t,os'⟩:=s'
 obtain rfl:os'=s.os:=os
 exact⟨v,H',I.call (h':=hh) (g':=g) (d':=d) (t':=t) (ch:= []) un hok bare (fun b z=>absurd z (by simp)),r,q⟩
end
noncomputable def zgJ(sp:Sp)(dvs:List V)(E:XK)(t:TA):TE:=fun σ H Q=>t σ H fun vs H1=>sp (vs++dvs) H1 Q E
noncomputable def Binds(K:PySem.W.Frag)(fd:FuncData)(ps:List Str)(ds:List Value):Prop :=
 ∀ (s:Shared) (us:List Value),K.In s.heap->(us++ds).length=ps.length->BindsTo s fd ⟨us,[]⟩ (ps.zip (us++ds))
theorem Binds.all{K:PySem.W.Frag}{fd:FuncData}{ps:List Str}(h:∀ us:List Value,us.length=ps.length->bindArgs fd ⟨us,[]⟩=pure (ps.zip us)):Binds K fd ps []:=fun s us _ hl=>by
 rw[xG]at hl |-
 exact .of_eq (h us hl)
noncomputable def W7(CX:CXT)(X:Cx)(E:XK):Prop:=∀ (pins:List (Addr×Obj)) (σ:St) (H:Hp) (s:Shared) (e:Value) (s':Shared),Inv X pins σ H s->CX X.stack H s E e s'->X.xe e s'
section
variable {X:Cx} {CX:CXT} {k:Nat} {f C:Addr} {fd:FuncData} {ps:List Str} {sp:Sp} {dvs:List V} {ds:List Value} {E:XK} {x m:Str} {p pos apos:Pos} {e o:Expr} {es:List Expr} {ta:TE} {t:TA}
theorem zeY{pins:List (Addr×Obj)}{σ:St}{H:Hp}{s:Shared}{Q:VK}{us:List Value}{vs:List V}(F:FnOk X.prog X.w X.K X.mg X.base CX k f fd ps sp)(hr:Room k X.A)(hb:Binds X.K fd ps ds)(hd:Vals dvs ds)(hx:W7 CX X E)
  (I:Inv X pins σ H s) (r:Vals vs us) (h:sp (vs++dvs) H Q E):wpAny (model X.prog X.w) X.A (call (.ref f) us) (EP X pins σ Q) X.xe s:=by
 have r2:Vals (vs++dvs) (us++ds):=r.append hd
 have hl:(us++ds).length=ps.length:=by rw[<- r2.length];exact F.len _ _ _ _ h
 refine wpAny_call (codeAny_mono (F.run X.A X.stack s H ⟨us,[]⟩ (us++ds) (vs++dvs) Q E hr I.env0 (hb s us I.kIn hl) r2 h) fun r s' hq=>?_)
 cases r with
 |error e=>exact hx pins σ H s e s' I hq
 |ok fl=>
  cases fl with
  |ret u=>exact I.after hq
  |next=>exact False.elim hq
  |brk=>exact False.elim hq
  |cont=>exact False.elim hq
theorem zcp(F:FnOk X.prog X.w X.K X.mg X.base CX k f fd ps sp)(hr:Room k X.A)(hg:Gl X x)(hm:X.mg x=some (.ref f))(hk:PySem.W.keepIn X.K (.ref f)=true)(hb:Binds X.K fd ps ds)(hd:Vals dvs ds)(hx:W7 CX X E)
  (ha:PA X (e::es) t) (hdb:(x==("__debug__" :Str))=false:=by decide) (he:starEach (e::es) X.env=(false,eval e X.env)::starEach es X.env:=by rfl) (hpl:(backTo pos (starEach es X.env)).any (·.1)=false:=by rfl) :
  PE X (.Call (.Name x p) (e::es) [] pos) (zgJ sp dvs E t):=by
 intro pins s σ H Q I h
 refine wpAny_Call_Name_kw (jD I hg hm ?_ hdb)
 refine PySem.W.callWith_K (h₀:=X.base) I.ok.mod.kin hk (thn (ha pos pins s σ H _ I h) fun us s1 ⟨vs,H1,I1,r,q⟩=>⟨I1.kIn,?_⟩) he hpl
 exact zeY F hr hb hd hx I1 r q
structure Mk(K:PySem.W.Frag)(C f:Addr):Prop where
 makes:PySem.W.makesIn K C=true
 init:PySem.W.findIn K (.ref C) "__init__" =some (some (.ref f))
 fn:PySem.W.isFn K (.ref f)=true
 kp:PySem.W.keepIn K (.ref C)=true
end
section
variable {X:Cx} {CX:CXT} {k:Nat} {f C:Addr} {fd:FuncData} {ps ks:List Str} {sp:Sp} {E:XK} {x m:Str} {p pos apos kpos:Pos} {e o:Expr} {es:List Expr} {kws:List Keyword} {te ta:TE} {t tk:TA} {nm:Option Str}
variable {g:List Value->List Value->List Value} {gV:List V->List V->List V}
end
structure ja(N P:List Str)(sc:Scope):Prop where
 kind:sc.kind=.function
 co:sc.isCoroutine=false
 gen:sc.isGenerator=false
 nd:N.Nodup
 pre:N.take P.length=P
 par:∀ x∈P,sc.names.lookup x=some .local∨sc.names.lookup x=some .cell
 nofree:∀ y∈sc.names,y.2≠ .free
theorem Wm{kindOf:Str->Option NameKind}{x:Str}:∀ {binds:List (Str×Value)}{m:Str->Option Value},(∀ v,(x,v)∉binds)->bindL kindOf binds m x=m x
 |[],_,_=>rfl
 | (n,v)::r,m,h=>by
  unfold bindL
  rw[Wm fun w hw=>h w (xj _ hw)]
  split
  ·have:x≠n:=by rintro rfl;exact h v xp
   simp[this]
  ·rfl
theorem Wj{kindOf:Str->Option NameKind}{x:Str}:∀ {binds:List (Str×Value)}{m:Str->Option Value},(∀ v,(x,v)∉binds)->bindC kindOf binds m x=m x
 |[],_,_=>rfl
 | (n,v)::r,m,h=>by
  unfold bindC
  rw[Wj fun w hw=>h w (xj _ hw)]
  split
  ·rfl
  ·have:x≠n:=by rintro rfl;exact h v xp
   simp[this]
theorem Wl{kindOf:Str->Option NameKind}{x:Str}{v:Value}:∀ {P:List Str}{vs:List Value}{i:Nat}{m:Str->Option Value},P.Nodup->P[i]?=some x->vs[i]?=some v->kindOf x=some .local ->
  bindL kindOf (P.zip vs) m x=some v
 |[],_,_,_,_,h,_,_=>by simp at h
 |_::_,[],_,_,_,_,h,_=>by simp at h
 |p::P,w::vs,0,m,nd,h1,h2,hk=>by
  simp at h1 h2;subst h1;subst h2
  show bindL kindOf ((p,w)::P.zip vs) m p=_
  unfold bindL
  rw[Wm fun v hv=>(xD.mp nd).1 (List.of_mem_zip hv).1,if_pos hk]
  simp
 |p::P,w::vs,i+1,m,nd,h1,h2,hk=>by
  show bindL kindOf ((p,w)::P.zip vs) m x=_
  unfold bindL
  exact Wl (i:=i) (xD.mp nd).2 (by simpa using h1) (by simpa using h2) hk
theorem Wi{kindOf:Str->Option NameKind}{x:Str}{v:Value}:∀ {P:List Str}{vs:List Value}{i:Nat}{m:Str->Option Value},P.Nodup->P[i]?=some x->vs[i]?=some v->kindOf x≠some .local ->
  bindC kindOf (P.zip vs) m x=some v
 |[],_,_,_,_,h,_,_=>by simp at h
 |_::_,[],_,_,_,_,h,_=>by simp at h
 |p::P,w::vs,0,m,nd,h1,h2,hk=>by
  simp at h1 h2;subst h1;subst h2
  show bindC kindOf ((p,w)::P.zip vs) m p=_
  unfold bindC
  rw[Wj fun v hv=>(xD.mp nd).1 (List.of_mem_zip hv).1,if_neg hk]
  simp
 |p::P,w::vs,i+1,m,nd,h1,h2,hk=>by
  show bindC kindOf ((p,w)::P.zip vs) m x=_
  unfold bindC
  exact Wi (i:=i) (xD.mp nd).2 (by simpa using h1) (by simpa using h2) hk
noncomputable def start(N:List Str)(vs:List V):St:=vs.map some++List.replicate (N.length-vs.length) none
noncomputable def ZS(CX:CXT)(P:Program)(w:World)(K:PySem.W.Frag)(mg:Str->Option Value)(base:Heap)(N:List Str)(qual:Str)(scope:Scope)(f:Addr)(cd:Value)(A:Around)(outer:List Env)(s:Shared)(H:Hp)(E:XK):Cx where
 prog:=P
 w:=w
 K:=K
 mg:=mg
 base:=base
 A:=A.deeper (envOfC qual scope s.heap.objs.size f cd)
 N:=N
 s₀:=s
 H₀:=H
 env:=envOfC qual scope s.heap.objs.size f cd
 outer:=outer
 stack:=envOfC qual scope s.heap.objs.size f cd::outer
 ex:= []
 calm:=true
 fn:=fun _=>true
 pn:= []
 xe:=fun e s'=>wpAny (model P w) (A.deeper (envOfC qual scope s.heap.objs.size f cd)) (leaving (envOfC qual scope s.heap.objs.size f cd) e) (fun _ s''=>CX outer H s E e s'') (fun e' s''=>CX outer H s E e' s'') s'
theorem Z9{sc:Scope}{n:Nat}{x:Str}(h:sc.names.lookup x=some .cell):∃ c,(cellsFrom n sc.names []).lookup x=some c:=by
 have q:=PySem.W.cellsFrom_some sc.names n [] (.inl h)
 exact Option.isSome_iff_exists.mp q
theorem ke{CX:CXT}{P:Program}{w:World}{K:PySem.W.Frag}{mg:Str->Option Value}{base:Heap}{N ps:List Str}{qual:Str}{scope:Scope}{f:Addr}{cd:Value}{A:Around}{outer:List Env}{s s1:Shared}{H:Hp}{E:XK}{us:List Value}{vs:List V}
  (S:ja N ps scope) (hd:A.handled=none) (e0:zbH P w K mg base A outer s H) (hl:vs.length=ps.length) (r:Vals vs us)
  (x:InCallC s s.heap.objs.size (bindL (envOfC qual scope s.heap.objs.size f cd).kindOf (ps.zip us) fun _=>none) (cellsFrom (s.heap.objs.size+1) scope.names []) (bindC (envOfC qual scope s.heap.objs.size f cd).kindOf (ps.zip us) fun _=>none) s1) :
  Inv (ZS CX P w K mg base N qual scope f cd A outer s H E) [] (start N vs) H s1:=by
 have hpl:ps.length<=N.length:=by have:=congrArg List.length S.pre;rw[xI]at this;omega
 obtain⟨h1,tk,rfl,hk⟩:=x.done
 have noA:∀ b:Addr,b∉(ZS CX P w K mg base N qual scope f cd A outer s H E).ex:=fun b z=>absurd (show b∈([]:List Addr) from z) (by simp)
 refine⟨⟨e0.mod,S.kind,rfl,rfl,xi _,fun y z c h1 h2=>?_,fun y hy=>?_,fun y c _ h=>?_,fun _=>hd,Around.frames_deeper e0.frames,.inr ⟨rfl,rfl⟩,fun b z=>absurd z (noA b),e0.bs,e0.bsz,fun b _ _=>noA b,fun b z=>absurd z (noA b),e0.funs,e0.frf⟩,
  rfl,e0.bare,Un.kept hk,⟨_,x.toInCall.ns,fun i y v h1 h2 h3=>?_⟩,fun y c h=>⟨_,x.cell y c h⟩,e0.hok.fresh (xi _),fun y c h=>?_,fun p hp=>absurd (show p∈([]:List (Addr×Obj)) from hp) (by simp),e0.hok.kept hk,?_⟩
 ·exact name_of_addr x.apart (PySem.mem_of_lookup h1) (PySem.mem_of_lookup h2)
 ·have hy:scope.names.lookup y=some .cell∨scope.names.lookup y=some .free:=hy
  rcases hy with hy | hy
  ·exact Z9 hy
  ·exact absurd rfl (S.nofree _ (PySem.mem_of_lookup hy))
 ·exact xZ (x.above y c (PySem.mem_of_lookup h))
 ·have hi:i<vs.length:=by
   unfold start at h2
   by_cases hi:i<vs.length
   ·exact hi
   ·rw[xf (by simpa using hi)]at h2
    rw[xJ]at h2
    split at h2<;>cases h2
  have ha:vs[i]?=some v:=by
   unfold start at h2
   rw[xc (by simpa using hi),xB]at h2
   cases e:vs[i]? with
   |none=>rw[e]at h2;cases h2
   |some a=>rw[e]at h2;cases h2;rfl
  obtain⟨u,hu,rv⟩:=r.get ha
  have hp:ps[i]?=some y:=by
   rw[<- S.pre,xL (by omega)];exact h1
  have ndP:ps.Nodup:=by rw[<- S.pre];exact S.nd.sublist (List.take_sublist _ _)
  refine⟨u,rv,?_⟩
  rcases S.par y (ub hp)with k | k
  ·exact .inl ⟨k,Wl ndP hp hu k⟩
  ·obtain⟨c,e⟩:=Z9 (n:=s.heap.objs.size+1) k
   refine .inr ⟨.inl k,c,e,?_⟩
   have q:=x.cell y c e
   rw[Wi ndP hp hu (by show scope.names.lookup y≠_;rw[k];decide)]at q
   exact q
 ·exact e0.hok.fresh (xZ (x.above y c (PySem.mem_of_lookup h)))
 ·unfold start
  show _=N.length
  rw[xw,xn,uh]
  omega
theorem zdy{CX:CXT}{P:Program}{w:World}{K:PySem.W.Frag}{mg:Str->Option Value}{base:Heap}{k:Nat}{f:Addr}{name qual:Str}{params:Arguments}{body:List Stmt}{scope:Scope}{dV kV doc pm cdv ct oc:Value}{an od:Option Addr}
  {osl:Array (Option Value)} {N ps:List Str} {sp:Sp} (lk:K.lookup f=some ⟨oc,od,.func (PySem.W.fnOf name qual params body scope dV kV doc pm an cdv ct),osl⟩) (hcd:PySem.W.codeIn K cdv qual=true) (S:ja N ps scope)
  (len:∀ vs H Q E,sp vs H Q E->vs.length=ps.length)
  (hbody:∀ (A:Around) (outer:List Env) (s:Shared) (H:Hp) (vs:List V) (Q:VK) (E:XK),Room k (A.deeper (envOfC qual scope s.heap.objs.size f cdv))->sp vs H Q E ->
   ∃ t,PSs (ZS CX P w K mg base N qual scope f cdv A outer s H E) body t/\t { nx:=fun _ H'=>Q .non H',rt:=Q } (start N vs) H) :
  FnOk P w K mg base CX (k+1) f (PySem.W.fnOf name qual params body scope dV kV doc pm an cdv ct) ps sp:=by
 refine⟨len,fun A outer s H args us vs Q E hr e0 hb r hsp=>?_⟩
 have hl:=len _ _ _ _ hsp
 have KX:K.In s.heap:=e0.mod.kin.keeps fun b o e=>(e0.bs b o e).1
 have lim:s.heap.NoLimit:=e0.mod.nolimit.keeps fun b o e=>(e0.bs b o e).1
 have hkind:∀ y∈ps.zip us,scope.names.lookup y.1=some .local∨(scope.names.lookup y.1=some .cell/\((cellsFrom (s.heap.objs.size+1) scope.names []).lookup y.1).isSome=true):=fun ⟨n,v⟩ hy=>by
  rcases S.par n (List.of_mem_zip hy).1 with q | q
  ·exact .inl q
  ·exact .inr ⟨q,PySem.W.cellsFrom_some _ _ _ (.inl q)⟩
 refine codeAny_call_function hr.depth (KX _ _ lk) rfl S.co S.gen rfl (PySem.W.codeRec_of KX hcd) (hb _ _ _ _ ?_)
 refine wpAny_newFunctionEnv_cells S.kind hkind fun env he s1 x=>?_
 subst he
 refine⟨lim.keeps x.toInCall.keep,codeAny_func ?_⟩
 obtain⟨t,ht,hq⟩:=hbody A outer s H vs Q E (hr.deeper _) hsp
 have I:Inv (ZS CX P w K mg base N qual scope f cdv A outer s H E) [] (start N vs) H s1:=ke S hr.hd e0 hl r x
 refine wpAny_mono (ht [] s1 (start N vs) H _ I hq) (fun fl s' hs=>?_) fun e s' hs=>hs
 have fin:∀ {σ':St} {H':Hp} {v:V} {u:Value},Inv (ZS CX P w K mg base N qual scope f cdv A outer s H E) [] σ' H' s'->RelV v u->Q v H'->CE outer P w H s Q u s' :=
  fun {σ' H' v u} J rv q=>⟨v,H',J.os,J.bare,J.base,J.hok,rv,q⟩
 cases fl with
 |ret u=>
  obtain⟨v,σ',H',J,rv,q⟩:=hs
  exact fin J rv q
 |next=>
  obtain⟨σ',H',J,q⟩:=hs
  exact fin (v:=V.non) (u:=Value.none) J rfl q
 |brk=>
  obtain⟨_,_,_,q⟩:=hs
  exact False.elim q
 |cont=>
  obtain⟨_,_,_,q⟩:=hs
  exact False.elim q
end L2
namespace L2
open PySem PySem.Spec PyProof.Rows
section
variable {X:Cx} {x:Str} {p pos:Pos} {e:Expr} {es:List Expr} {t:TA} {id T:String} {r:List V->Hp->VK->Prop}
noncomputable def tCB(r:List V->Hp->VK->Prop)(t:TA):TE:=fun σ H Q=>t σ H fun vs H1=>r vs H1 Q
theorem Ql (hc:qL X (.builtin id) r) (hg:Gl X x) (hm:X.mg x=none) (hv:bootBuiltins x=some (.builtin id)) (ha:PA X (e::es) t) (hn:x≠ "__name__" :=by decide) (hdb:(x==("__debug__" :Str))=false:=by decide)
    (he:starEach (e::es) X.env=(false,eval e X.env)::starEach es X.env:=by rfl) (hpl:(backTo pos (starEach es X.env)).any (·.1)=false:=by rfl):PE X (.Call (.Name x p) (e::es) [] pos) (tCB r t):=by
  intro pins s σ H Q I h
  refine wpAny_Call_Name_kw (vB I hg hm hv ?_ hn hdb)
  exact PyProof.Rows.callWith_builtin1 (thn (ha pos pins s σ H _ I h) fun us s1 ⟨vs,H1,I1,r1,q1⟩=>hc pins s1 σ H1 vs us Q I1 r1 q1) he hpl
theorem ZC (hc:qL X (.type T) r) (hg:Gl X x) (hm:X.mg x=none) (hv:bootBuiltins x=some (.type T)) (ha:PA X (e::es) t) (hn:x≠ "__name__" :=by decide) (hdb:(x==("__debug__" :Str))=false:=by decide)
    (he:starEach (e::es) X.env=(false,eval e X.env)::starEach es X.env:=by rfl) (hpl:(backTo pos (starEach es X.env)).any (·.1)=false:=by rfl):PE X (.Call (.Name x p) (e::es) [] pos) (tCB r t):=by
  intro pins s σ H Q I h
  refine wpAny_Call_Name_kw (vB I hg hm hv ?_ hn hdb)
  exact PyProof.Rows.callWith_type1 (thn (ha pos pins s σ H _ I h) fun us s1 ⟨vs,H1,I1,r1,q1⟩=>hc pins s1 σ H1 vs us Q I1 r1 q1) he hpl
end
end L2
namespace HT
open PySem PyProof.Rows
section
open PySem.SeqAt
open PySem.AutoSeq1 (wpAny_loadPart')
open PySem.MeetsSeq PySem.MeetsSeq2 PySem.MeetsSeq3
end
section
variable {prog:Program} {w:World} {A:Around} {E:Value->Shared->Prop} {s:Shared}
theorem cat_tup{t b:Addr}{vs ws:List Value}{Q:Value->Shared->Prop}(ht:IsTup s.heap t vs.toArray)(hb:IsTup s.heap b ws.toArray)(hv:vs≠ [])
  (h1:ws= []->Q (.ref t) s) (h2:ws≠ []->Q (.ref s.heap.objs.size) { s with heap:=s.heap.push { cls:=.type "tuple",data:=.seq (vs++ws).toArray } })
  (hsz:vs.length+ws.length<=sizeLine):wpAny (model prog w) A (binaryOp .Add (.ref t) (.ref b)) Q E s:=by
 obtain⟨⟨cls,dd,data,sl⟩,ho,hc,n,hd⟩:=id ht
 obtain⟨⟨cls2,dd2,data2,sl2⟩,ho2,hc2,n2,hd2⟩:=id hb
 simp only at hc hd hc2 hd2
 subst hc hd hc2 hd2
 have e:vs.toArray++ws.toArray=(vs++ws).toArray:=by simp
 by_cases hw:ws= []
 ·exact concat_meets ⟨_,ho,rfl⟩ ⟨_,ho2,rfl⟩ noFill_tuple_add seq_tuple_add PySem.F.slot_tuple_add PySem.F.entry_tuple_add (PySem.F.args_tuple_add_2 _ _)
   (tuple_addW1 t b vs.toArray ws.toArray n n2 dd dd2 sl sl2 (by simpa using hv) (by simp[hw])) ⟨ho,ho2,h1 hw⟩
 ·refine concat_meets ⟨_,ho,rfl⟩ ⟨_,ho2,rfl⟩ noFill_tuple_add seq_tuple_add PySem.F.slot_tuple_add PySem.F.entry_tuple_add (PySem.F.args_tuple_add_2 _ _)
   (tuple_addW2 t b vs.toArray ws.toArray n n2 dd dd2 sl sl2 (by simpa using hv) (by simpa using hw) (by rw[xl,xl];exact hsz)) ⟨ho,ho2,?_⟩
  rw[e]
  exact h2 hw
noncomputable def sIx(n d:Nat):Option Int->Nat
 |none=>d
 |some v=>if v<0 then (v+(n:Int)).toNat else min v.toNat n
theorem sIx_nat(n d k:Nat):sIx n d (some (k:Int))=min k n:=by
 show (if (k:Int)<0 then ((k:Int)+(n:Int)).toNat else min (k:Int).toNat n)=min k n
 rw[if_neg (by omega),Int.toNat_natCast]
end
end HT
namespace L2
open PySem PySem.Spec PyProof.Rows
noncomputable abbrev TO:=St->Hp->(Option Int->Hp->Prop)->Prop
noncomputable def PO(X:Cx)(e:Option Expr)(t:TO):Prop :=
 ∀ (pins:List (Addr×Obj)) (s:Shared) (σ:St) (H:Hp) (Q:Option Int->Hp->Prop),Inv X pins σ H s->t σ H Q ->
  wpAny (model X.prog X.w) X.A (evalPart e X.env) (fun u s'=>∃ o H',Inv X pins σ H' s'/\IsPart u o/\Q o H') X.xe s
noncomputable def zdc:TO:=fun _ H Q=>Q none H
noncomputable def zgM(t:TE):TO:=fun σ H Q=>t σ H fun x H1=>∃ i,x=.int i/\Q (some i) H1
section
variable {X:Cx} {e:Expr} {te:TE} {lo hi:Option Expr} {tl th:TO} {pos p2:Pos}
theorem vG:PO X none zdc:=by
 intro pins s σ H Q I h
 rw[evalPart_none]
 exact wpAny_pure ⟨none,H,I,.none,h⟩
theorem vH(h:PE X e te):PO X (some e) (zgM te):=by
 intro pins s σ H Q I hw
 rw[evalPart_some]
 refine thn (h pins s σ H _ I hw) fun u s1 ⟨x,H1,I1,r1,q1⟩=>?_
 obtain⟨i,rfl,q⟩:=q1
 obtain⟨t,rfl⟩:=r1
 exact⟨some i,H1,I1,.int i t,q⟩
noncomputable def SlR(X:Cx)(r:V->Option Int->Option Int->Hp->VK->Prop):Prop :=
 ∀ (pins:List (Addr×Obj)) (s:Shared) (σ:St) (H:Hp) (x:V) (v vl vu:Value) (lo hi:Option Int) (sl:Addr) (Q:VK),Inv X pins σ H s->RelV x v->s.heap.IsSliceOf sl vl vu .none->IsPart vl lo->IsPart vu hi->r x lo hi H Q ->
  ∃ T id,typeLookup (.type T) "__getitem__" =pure (some (.builtin id))/\s.TypeIs v T/\wpAny (model X.prog X.w) X.A (getItem v (.ref sl)) (EP X pins σ Q) X.xe s
noncomputable def tSl(r:V->Option Int->Option Int->Hp->VK->Prop)(te:TE)(tl th:TO):TE:=fun σ H Q=>te σ H fun x H1=>tl σ H1 fun l H2=>th σ H2 fun u H3=>r x l u H3 Q
theorem Qm{r:V->Option Int->Option Int->Hp->VK->Prop}(hr:SlR X r)(he:PE X e te)(hl:PO X lo tl)(hu:PO X hi th):PE X (.Subscript e (.Slice lo hi none p2) pos) (tSl r te tl th):=by
 intro pins s σ H Q I h
 refine Subscript_ (thn (he pins s σ H _ I h) fun v s1 ⟨x,H1,I1,r1,q1⟩=>?_)
 refine wpAny_Slice (thn (hl pins s1 σ H1 _ I1 q1) fun vl s2 ⟨l,H2,I2,pl,q2⟩=>thn (hu pins s2 σ H2 _ I2 q2) fun vu s3 ⟨u,H3,I3,pu,q3⟩=>?_)
 rw[evalPart_none]
 refine wpAny_pure ?_
 have I4:Inv X pins σ H3 { s3 with heap:=s3.heap.push { cls:=.type "slice",data:=.fields #[vl,vu,.none] } }:=I3.kept (t':=s3.toks) fun b ob q=>Heap.get?_push_of_some _ q
 obtain⟨T,id,hT,ht,hg⟩:=hr pins { s3 with heap:=s3.heap.push { cls:=.type "slice",data:=.fields #[vl,vu,.none] } } σ H3 x v vl vu l u s3.heap.objs.size Q I4 r1 (Heap.IsSliceOf.new ..) pl pu q3
 show wpAny (model X.prog X.w) X.A (subscriptTail e (.Slice lo hi none p2) v (.ref s3.heap.objs.size)) (EP X pins σ Q) X.xe { s3 with heap:=s3.heap.push { cls:=.type "slice",data:=.fields #[vl,vu,.none] } }
 exact tail_any (ops:= [.ref s3.heap.objs.size,v]) ht hT hg (by with_unfolding_all rfl)
noncomputable def Jt(xs:List V)(lo hi:Option Int):List V:=(xs.drop (HT.sIx xs.length 0 lo)).take (HT.sIx xs.length xs.length hi-HT.sIx xs.length 0 lo)
theorem Vf(xs:List V)(lo hi:Option Int):(Jt xs lo hi).length<=xs.length:=by
 unfold Jt
 rw[xI,List.length_drop]
 omega
theorem Vals.nil_iff{xs:List V}{us:List Value}(r:Vals xs us):us= []↔xs= []:=by
 cases r with
 |nil=>simp
 |cons _ _=>simp
end
end L2
namespace L2
open PySem PySem.Spec PyProof.Rows
noncomputable def ixN(n:Nat)(i:Int):Option Nat:=if 0<=i then (if i<n then some i.toNat else none) else if -(n:Int)<=i then some (i+n).toNat else none
noncomputable def atI{α:Type}(xs:List α)(i:Int):Option α:=(ixN xs.length i).bind fun j=>xs[j]?
theorem Yn{n:Nat}{i:Int}{j:Nat}(h:ixN n i=some j):seqIndex? i n=some j/\j<n/\ -(n:Int)<=i/\i<n:=by
 unfold ixN at h
 by_cases h0:0<=i
 ·rw[if_pos h0]at h
  by_cases h1:i<n
  ·rw[if_pos h1]at h
   have e:i.toNat=j:=Option.some.inj h
   exact⟨by rw[seqIndex_of h0 h1,e],by omega,by omega,h1⟩
  ·rw[if_neg h1]at h;cases h
 ·rw[if_neg h0]at h
  by_cases h1: -(n:Int)<=i
  ·rw[if_pos h1]at h
   have e:(i+n).toNat=j:=Option.some.inj h
   exact⟨by rw[seqIndex_neg (by omega) h1,e],by omega,h1,by omega⟩
  ·rw[if_neg h1]at h;cases h
theorem vc{α:Type}{xs:List α}{i:Int}{v:α}(h:atI xs i=some v):∃ j,seqIndex? i xs.length=some j/\xs[j]?=some v/\j<xs.length/\ -(xs.length:Int)<=i/\i<xs.length:=by
 unfold atI at h
 cases e:ixN xs.length i with
 |none=>rw[e]at h;cases h
 |some j=>
  rw[e]at h
  obtain⟨h1,h2,h3,h4⟩:=Yn e
  exact⟨j,h1,h,h2,h3,h4⟩
theorem jv{α:Type}{xs:List α}{j:Nat}{v:α}(h:xs[j]?=some v):atI xs (j:Int)=some v:=by
 have hj:j<xs.length:=(xb.mp h).1
 have e:ixN xs.length (j:Int)=some j:=by
  unfold ixN
  rw[if_pos (by omega),if_pos (by omega)];simp
 unfold atI;rw[e];exact h
theorem Kx{α:Type}(xs:List α)(v:α):atI (xs++ [v]) (-1)=some v:=by
 have hl:(xs++ [v]).length=xs.length+1:=by simp
 have e:ixN (xs++ [v]).length (-1)=some xs.length:=by
  unfold ixN
  rw[hl,if_neg (by decide),if_pos (by omega)]
  congr 1
  omega
 unfold atI
 rw[e]
 show (xs++ [v])[xs.length]?=some v
 simp
noncomputable def J2(b:Expr):Prop:=∀ o i,subscripted b false o i=operate [o,i] (getItem o i)
noncomputable def IxR(X:Cx)(r:R2):Prop :=
 ∀ (value slice:Expr) (pins:List (Addr×Obj)) (s:Shared) (σ:St) (H:Hp) (x y:V) (v u:Value) (Q:VK),Inv X pins σ H s->RelV x v->RelV y u->r x y H Q ->
  subscripted slice false v u=operate [v,u] (getItem v u)->wpAny (model X.prog X.w) X.A (subscriptTail value slice v u) (EP X pins σ Q) X.xe s
noncomputable def MtR(X:Cx)(id:String)(r:V->List V->Hp->VK->Prop):Prop :=
 ∀ (pins:List (Addr×Obj)) (s:Shared) (σ:St) (H:Hp) (x:V) (xs:List V) (v:Value) (us:List Value) (Q:VK),Inv X pins σ H s->RelV x v->Vals xs us->r x xs H Q ->
  wpAny (model X.prog X.w) X.A (call (.builtin id) (v::us)) (EP X pins σ Q) X.xe s
section
variable {X:Cx} {a b:Expr} {ta tb:TE} {pos:Pos}
theorem IxR.or{r r':R2}(h:IxR X r)(h':IxR X r'):IxR X (fun x y H Q=>r x y H Q∨r' x y H Q):=by
 intro value slice pins s σ H x y v u Q I rx ry q hs
 rcases q with q | q
 ·exact h value slice pins s σ H x y v u Q I rx ry q hs
 ·exact h' value slice pins s σ H x y v u Q I rx ry q hs
theorem VI{r:R2}(hr:IxR X r)(ha:PE X a ta)(hb:PE X b tb)(hs:J2 b):PE X (.Subscript a b pos) (tOp r ta tb):=by
 intro pins s σ H Q I h
 exact Subscript_ (zdU ha hb I h fun v u s2 x y H2 I2 rx ry q=>hr a b pins s2 σ H2 x y v u Q I2 rx ry q (hs _ _))
noncomputable def rIxL(K:PySem.W.Frag):R2:=fun x y H Q=>∃ p xs i v,x=.ref p/\y=.int i/\SqL K H p xs/\atI xs i=some v/\Q v H
noncomputable def rIxT(K:PySem.W.Frag):R2:=fun x y H Q=>∃ p xs i v,x=.ref p/\y=.int i/\SqT K H p xs/\atI xs i=some v/\Q v H
noncomputable def rIxS:R2:=fun x y H Q=>∃ z i c,x=.str z/\y=.int i/\z.length<=sizeLine/\atI z.cps.toList i=some c/\Q (.str ⟨#[c]⟩) H
theorem ix_list:IxR X (rIxL X.K):=by
 intro value slice pins s σ H x y v u Q I rx ry h hs
 obtain⟨p,xs,i,z,rfl,rfl,hq,he,q⟩:=h
 cases rx
 obtain⟨t,rfl⟩:=ry
 obtain⟨its,r,pl,hz⟩:=I.list hq
 obtain⟨j,h1,h2,h3,h4,h5⟩:=vc he
 obtain⟨w,ew,rw'⟩:=r.get h2
 have hl:=r.length
 have hn:=JE
 have fin:EP X pins σ Q w s:=⟨z,H,I,rw',q⟩
 by_cases h0:0<=i
 ·have hj:i.toNat=j:=by
   rw[seqIndex_of h0 h5]at h1
   exact Option.some.inj h1
  exact item_listR pl.isList h0 (by omega) (by rw[hj];simpa using ew) fin hs
 ·have hj:(i+(its.toArray.size:Int)).toNat=j:=by
   rw[seqIndex_neg (by omega) h4]at h1
   rw[xl,<- hl]
   exact Option.some.inj h1
  exact subscriptTail_builtinR (x:=w) pl.isList.typeIs slot_list_getitem.lookup
   (wpAny_getItem_list_neg (Q:=fun r s'=>r=w/\EP X pins σ Q r s') pl.isList (by omega) (by rw[xl]<;>omega) (by omega) (by rw[hj];simpa using ew) ⟨rfl,fin⟩) hs
theorem vz:IxR X (rIxT X.K):=by
 intro value slice pins s σ H x y v u Q I rx ry h hs
 obtain⟨p,xs,i,z,rfl,rfl,hq,he,q⟩:=h
 cases rx
 obtain⟨t,rfl⟩:=ry
 obtain⟨its,r,pl,hz⟩:=I.tuple hq
 obtain⟨j,h1,h2,h3,h4,h5⟩:=vc he
 obtain⟨w,ew,rw'⟩:=r.get h2
 have hl:=r.length
 have hn:=JE
 have fin:EP X pins σ Q w s:=⟨z,H,I,rw',q⟩
 exact subscriptTail_builtinR (x:=w) pl.typeIs slot_tuple_getitem.lookup
  (getItem_tuple (j:=j) (Q:=fun r s'=>r=w/\EP X pins σ Q r s') pl (by omega) (by omega) (by rw[xl,<- hl];exact h1) (by simpa using ew) ⟨rfl,fin⟩) hs
theorem zeq:IxR X rIxS:=by
 intro value slice pins s σ H x y v u Q I rx ry h hs
 obtain⟨z,i,c,rfl,rfl,hz,he,q⟩:=h
 obtain⟨t,rfl⟩:=rx
 obtain⟨t',rfl⟩:=ry
 obtain⟨j,h1,h2,h3,h4,h5⟩:=vc he
 have hl:z.cps.toList.length=z.length:=by simp[Str.length]
 rw[hl]at h1 h4 h5
 have hn:=JE
 exact tail_any (typeIs_str s z t) slot_str_getitem.lookup (getItem_str (c:=c) (by
  have e1:decide (i< -(2 ^ 63:Int))=false:=decide_eq_false (by omega)
  have e2:decide (i≥2 ^ 63)=false:=decide_eq_false (by omega)
  rw[e1,e2,Bool.or_false]) (by rw[h1];simpa using h2) ⟨.str ⟨#[c]⟩,H,I.tok _,⟨_,rfl⟩,q⟩) hs
theorem yD (its:List Value) (n j:Nat) (u:Value):Obj.mapSeq (·.setIfInBounds j u) { cls:=.type "list",data:=.seq its.toArray n }={ cls:=.type "list",data:=.seq (its.set j u).toArray n }:=by
 simp[Obj.mapSeq]
theorem Inv.lst{pins:List (Addr×Obj)}{σ:St}{H:Hp}{s:Shared}{p:Addr}{xs:List V}(I:Inv X pins σ H s)(h:H p=some (.lst xs)) :
  ∃ (its:List Value) (n:Nat),Vals xs its/\s.heap.get? p=some { cls:=.type "list",data:=.seq its.toArray n }/\xs.length<=sizeLine:=by
 obtain⟨z,its,n,r,e⟩:=I.hok p _ h
 exact⟨its,n,r,e,z⟩
theorem Inv.lstUpd{pins:List (Addr×Obj)}{σ:St}{H:Hp}{s:Shared}{p:Addr}{xs ys:List V}{its its':List Value}{n n':Nat}{f:Obj->Obj}(I:Inv X pins σ H s)(h:H p=some (.lst xs))
  (ho:s.heap.get? p=some { cls:=.type "list",data:=.seq its.toArray n }) (hf:f { cls:=.type "list",data:=.seq its.toArray n }={ cls:=.type "list",data:=.seq its'.toArray n' }) (r:Vals ys its') (hz:ys.length<=sizeLine) (t:Nat) :
  Inv X pins σ (upd H p (.lst ys)) { s with heap:=s.heap.update p f,toks:=t }:=by
 have e:(s.heap.update p f).get? p=some { cls:=.type "list",data:=.seq its'.toArray n' }:=by
  rw[Heap.get?_update_self f ho (by rw[hf]<;>rfl),hf]
 refine I.write (x:=p) (e:=p) (by rw[h];trivial) (.inl rfl) (fun b u hb q=>(Heap.get?_update_other _ _ (Ne.symm hb)).trans q) ⟨_,e⟩ ?_
 exact⟨hz,its',n',r,e⟩
noncomputable def zgu:V->V->V->Hp->(Hp->Prop)->Prop:=fun o i v H Q=>∃ p xs k j,o=.ref p/\i=.int k/\H p=some (.lst xs)/\ixN xs.length k=some j/\Q (upd H p (.lst (xs.set j v)))
theorem zaV:zdR X zgu:=by
 intro pins s σ H o i v ov iv u Q I ro ri rv h
 obtain⟨p,xs,k,j,rfl,rfl,hp,hj,q⟩:=h
 cases ro
 obtain⟨t,rfl⟩:=ri
 obtain⟨its,n,r,ho,hz⟩:=I.lst hp
 obtain⟨h1,h2,h3,h4⟩:=Yn hj
 have hl:=r.length
 have hn:=JE
 have I':Inv X pins σ (upd H p (.lst (xs.set j v))) { s with heap:=s.heap.update p (Obj.mapSeq (·.setIfInBounds j u)) } :=
  I.lstUpd hp ho (yD its n j u) (r.set rv j) (by rw[xH];exact hz) s.toks
 by_cases h0:0<=k
 ·have hk:k.toNat=j:=by
   rw[seqIndex_of h0 h4]at h1
   exact Option.some.inj h1
  exact PySem.W.ki_setAt ho h0 (by omega) (by rw[xl,<- hl];exact h4) (by rw[hk];exact⟨_,I',q⟩)
 ·have hk:(k+(its.toArray.size:Int)).toNat=j:=by
   rw[seqIndex_neg (by omega) h3]at h1
   rw[xl,<- hl]
   exact Option.some.inj h1
  exact PySem.W.ki_setBack ho (by omega) (by rw[xl,<- hl];exact h3) (by omega) (by rw[hk];exact⟨_,I',q⟩)
theorem vL(lo hi:Option Int)(n:Nat):(sliceBounds lo hi none n).1=((HT.sIx n 0 lo:Nat):Int)/\(sliceBounds lo hi none n).2.1=((HT.sIx n n hi:Nat):Int)/\(sliceBounds lo hi none n).2.2=1:=by
 refine⟨?_,?_,rfl⟩
 ·cases lo with
  |none=>simp[sliceBounds,HT.sIx]
  |some i=>
   simp only[sliceBounds,HT.sIx,Option.getD_none,show (1:Int)>0 by decide,if_true]
   by_cases h:i<0
   ·simp only[h,if_true]<;>omega
   ·simp only[h,if_false]<;>omega
 ·cases hi with
  |none=>simp[sliceBounds,HT.sIx]
  |some i=>
   simp only[sliceBounds,HT.sIx,Option.getD_none,show (1:Int)>0 by decide,if_true]
   by_cases h:i<0
   ·simp only[h,if_true]<;>omega
   ·simp only[h,if_false]<;>omega
theorem We(its:List Value)(lo hi:Option Int):slicePick its.toArray lo hi none=((its.drop (HT.sIx its.length 0 lo)).take (HT.sIx its.length its.length hi-HT.sIx its.length 0 lo)).toArray:=by
 obtain⟨h1,h2,h3⟩:=vL lo hi its.toArray.size
 unfold slicePick
 rw[h1,h2,h3]
 simp only[sliceRange_one,pick_run,xl]<;>rfl
noncomputable def rSlL(K:PySem.W.Frag):V->Option Int->Option Int->Hp->VK->Prop:=fun x lo hi H Q=>∃ a xs,x=.ref a/\SqL K H a xs/\∀ p,H p=none->Q (.ref p) (upd H p (.lst (Jt xs lo hi)))
theorem vK:SlR X (rSlL X.K):=by
 intro pins s σ H x v vl vu lo hi sl Q I rx hs pl pu h
 obtain⟨a,xs,rfl,hx,q⟩:=h
 cases rx
 obtain⟨its,r,ht,hz⟩:=I.list hx
 have hlen:=r.length
 refine⟨"list",_,slot_list_getitem.lookup,ht.isList.typeIs,?_⟩
 refine wpAny_getItem_list_slice ht.isList hs pl pu .none (by simp) ?_ (by rw[xl]<;>omega)
 rw[We,<- hlen]
 refine⟨.ref s.heap.objs.size,_,I.laid (t':=s.toks) (o:=.lst (Jt xs lo hi)) (fun b ob q=>Heap.get?_push_of_some _ q) (xi _) ?_,rfl,q _ (I.hok.fresh (xi _))⟩
 exact⟨xA (Vf xs lo hi) hz,_,0,(r.drop (HT.sIx xs.length 0 lo)).take (HT.sIx xs.length xs.length hi-HT.sIx xs.length 0 lo),Heap.get?_push_size _ rfl⟩
theorem Z7:qL X (.builtin "len") (fun xs H Q=>∃ p ys,xs= [.ref p]/\(SqL X.K H p ys∨SqT X.K H p ys)/\Q (.int ys.length) H):=by
 intro pins s σ H xs us Q I r h
 obtain⟨p,ys,rfl,hq,q⟩:=h
 obtain⟨u,rfl,rx⟩:=jf r
 cases rx
 have hn:=JE
 rcases hq with hq | hq
 ·obtain⟨its,r',pl,hz⟩:=I.list hq
  have hlen:=r'.length
  exact Calls.call_len_list pl.isList (by simp only[xl]<;>omega) ⟨.int ys.length,H,I.tok _,⟨s.toks+1,by rw[xl,hlen]⟩,q⟩
 ·obtain⟨its,r',pl,hz⟩:=I.tuple hq
  have hlen:=r'.length
  exact len_tuple pl (by simp only[xl]<;>omega) ⟨.int ys.length,H,I.tok _,⟨s.toks+1,by rw[xl,hlen]⟩,q⟩
theorem Z8:qL X (.type "list") (fun xs H Q=>∃ p ys,xs= [.ref p]/\(SqL X.K H p ys∨SqT X.K H p ys)/\∀ l,H l=none->Q (.ref l) (upd H l (.lst ys))):=by
 intro pins s σ H xs us Q I r h
 obtain⟨p,ys,rfl,hq,q⟩:=h
 obtain⟨u,rfl,rx⟩:=jf r
 cases rx
 have fin:∀ (its:List Value),Vals ys its->ys.length<=sizeLine->∀ (h':Heap) (c':Nat),(∀ b o',s.heap.get? b=some o'->h'.get? b=some o') ->
   h'.get? s.heap.objs.size=some { cls:=.type "list",dict:=none,data:=.seq its.toArray c',slots:=#[] }->EP X pins σ Q (.ref s.heap.objs.size) { s with heap:=h' }:=fun its r' hz h' c' kp e=>
  ⟨.ref s.heap.objs.size,_,I.laid (t':=s.toks) kp (xi _) (show ObjOk X.prog X.w _ h' _ (.lst ys) from ⟨hz,its,c',r',e⟩),rfl,q _ (I.hok.fresh (xi _))⟩
 rcases hq with hq | hq
 ·obtain⟨its,r',pl,hz⟩:=I.list hq
  have hlen:=r'.length
  obtain⟨o,ho,hc,n,hd⟩:=pl.isList
  exact call_list_seq p (.inl rfl) ho hc hd (fun h' c' kp e=>fin its r' hz h' c' kp e) (by simp only[xl]<;>omega)
 ·obtain⟨its,r',pl,hz⟩:=I.tuple hq
  have hlen:=r'.length
  obtain⟨o,ho,hc,n,hd⟩:=pl
  exact call_list_seq p (.inr rfl) ho hc hd (fun h' c' kp e=>fin its r' hz h' c' kp e) (by simp only[xl]<;>omega)
theorem wV:qL X (.type "tuple") (fun xs H Q=>∃ p ys,xs= [.ref p]/\((SqL X.K H p ys/\∀ l,H l=none->Q (.ref l) (upd H l (.tup ys)))∨(SqT X.K H p ys/\Q (.ref p) H))):=by
 intro pins s σ H xs us Q I r h
 obtain⟨p,ys,rfl,h⟩:=h
 obtain⟨u,rfl,rx⟩:=jf r
 cases rx
 rcases h with ⟨hq,q⟩ | ⟨hq,q⟩
 ·obtain⟨its,r',pl,hz⟩:=I.list hq
  have hlen:=r'.length
  refine call_tuple_list pl.isList (fun h' kp=>?_) (by simp only[xl]<;>omega)
  have I1:Inv X pins σ H { s with heap:=h' }:=I.kept (t':=s.toks) kp
  have I2:Inv X pins σ (upd H h'.objs.size (.tup ys)) { s with heap:=h'.push { cls:=.type "tuple",data:=.seq its.toArray } } :=
   I1.laid (t':=s.toks) (fun b o e=>Heap.get?_push_of_some _ e) (xi _) (show ObjOk X.prog X.w _ _ _ (.tup ys) from ⟨hz,its,r',IsTup.new _ _⟩)
  exact⟨.ref h'.objs.size,_,I2,rfl,q _ (I1.hok.fresh (xi _))⟩
 ·obtain⟨its,r',pl,hz⟩:=I.tuple hq
  exact call_tuple_same pl ⟨.ref p,H,I,rfl,q⟩
noncomputable def tyV(K:PySem.W.Frag)(T:String)(x:V)(H:Hp):Prop:=match x with
 |.str _=>T= "str"
 |.int _=>T= "int"
 |.ref p=>(T= "list" /\∃ xs,SqL K H p xs)∨(T= "tuple" /\∃ o,K.lookup p=some o/\o.cls=.type "tuple" /\o.dict=none) ∨
   (T= "dict" /\((∃ kvs,H p=some (.dK kvs))∨∃ kvs,H p=some (.dT kvs)))∨(T= "set" /\∃ S n,H p=some (.set S n))
 |_=>False
theorem zfF{pins:List (Addr×Obj)}{σ:St}{H:Hp}{s:Shared}{T:String}{x:V}{v:Value}(I:Inv X pins σ H s)(r:RelV x v)(ty:tyV X.K T x H) :
  s.TypeIs v T/\∀ a,v=.ref a->∃ ob,s.heap.get? a=some ob/\ob.dict=none:=by
 cases x with
 |str z=>
  obtain⟨t,rfl⟩:=r
  cases (show T= "str" from ty)
  exact⟨typeIs_str s z t,fun _ e=>nomatch e⟩
 |int i=>
  obtain⟨t,rfl⟩:=r
  cases (show T= "int" from ty)
  exact⟨typeIs_int s i t,fun _ e=>nomatch e⟩
 |ref p=>
  cases r
  rcases ty with ⟨rfl,xs,hq⟩ | ⟨rfl,o,hk,hc,hd⟩ | ⟨rfl,hk⟩ | ⟨rfl,S,n,hk⟩
  ·obtain⟨its,_,pl,_⟩:=I.list hq
   refine⟨pl.isList.typeIs,fun a e=>?_⟩
   cases e
   obtain⟨o,n,e,c,hd,_⟩:=pl
   exact⟨o,e,hd⟩
  ·refine⟨⟨o,I.kIn p o hk,hc⟩,fun a e=>?_⟩
   cases e
   exact⟨o,I.kIn _ o hk,hd⟩
  ·have z:∃ o,s.heap.get? p=some o/\o.ExactDict:=by
    rcases hk with ⟨kvs,hk⟩ | ⟨kvs,hk⟩
    ·obtain⟨_,_,_,_,o,_,_,e,ex,_⟩:=I.hok p _ hk
     exact⟨o,e,ex⟩
    ·obtain⟨_,_,_,_,o,_,_,e,ex,_⟩:=I.hok p _ hk
     exact⟨o,e,ex⟩
   obtain⟨o,e,ex⟩:=z
   refine⟨⟨o,e,ex.1⟩,fun a e2=>?_⟩
   cases e2
   exact⟨o,e,ex.2.1⟩
  ·obtain⟨o,_,_,_,e,ex,_⟩:=I.hok p _ hk
   refine⟨⟨o,e,ex.1⟩,fun a e2=>?_⟩
   cases e2
   exact⟨o,e,ex.2.1⟩
 |_=>exact False.elim ty
noncomputable def tBM(K:PySem.W.Frag)(T:String)(r:V->List V->Hp->VK->Prop)(to:TE)(t:TA):TE:=fun σ H Q=>to σ H fun x H1=>tyV K T x H1/\t σ H1 fun xs H2=>r x xs H2 Q
variable {o e:Expr} {es:List Expr} {to:TE} {t:TA} {name:Str} {apos cpos:Pos} {T id:String} {r:V->List V->Hp->VK->Prop}
theorem WP (pa:PlainAttrs T) (slot:Slot T name id) (hty:typeOf (.builtin id)=pure (.type "method_descriptor")) (hm:MtR X id r) (ho:PE X o to) (ha:PA X (e::es) t)
  (hbase:attributeBase o name X.env (eval o X.env)=eval o X.env:=by rfl)
  (hfew:((backTo cpos (starEach (e::es) X.env)).all (fun x=> !x.1)&&(backToKw cpos (keywordEach [] X.env)).all (fun x=>x.1.isSome)
   && decide ((e::es).length+([]:List Keyword).length+(if ([]:List Keyword).isEmpty then 0 else 1)<30))=true:=by rfl)
  (hline:(apos.endLine==cpos.line)=true:=by rfl) (hs:starEach (e::es) X.env=(false,eval e X.env)::starEach es X.env:=by rfl) (hplain:(backTo cpos (starEach es X.env)).any (·.1)=false:=by rfl) :
  PE X (.Call (.Attribute o name apos) (e::es) [] cpos) (tBM X.K T r to t):=by
 intro pins s σ H Q I h
 refine wpAny_Call_method_late hbase hfew hline rfl (thn (ho pins s σ H _ I h) fun v s1 ⟨x,H1,I1,r1,ty,q1⟩=>?_)
 obtain⟨h1,h2⟩:=zfF I1 r1 ty
 refine⟨T,id,pa,slot,hty,h1,h2,?_⟩
 have hA:=ha cpos pins s1 σ H1 _ I1 q1
 rw[hs]at hA |-
 refine Calls.callWith_builtin (by show (false||(backTo cpos (starEach es X.env)).any (·.1))=false;rw[hplain]<;>rfl) (Calls.evalArgs_plain ?_)
 exact thn hA fun us s2 ⟨vs,H2,I2,r2,q2⟩=>hm pins s2 σ H2 x vs v us Q I2 r1 r2 q2
end
end L2
namespace L2
open PySem PySem.Spec PyProof.Rows
noncomputable def MtM(X:Cx)(id:String)(r:V->List V->Hp->VK->Prop):Prop :=
 ∀ (pins:List (Addr×Obj)) (s:Shared) (σ:St) (H:Hp) (x:V) (xs:List V) (v:Value) (us:List Value) (Q:VK),Inv X pins σ H s->RelV x v->Vals xs us->r x xs H Q ->
  wpAny (model X.prog X.w) X.A (call (.builtin id) (v::us)) (EP X pins σ Q) X.xe s
theorem Vals.one:∀ {x:V}{us:List Value},Vals [x] us->∃ u,us= [u]/\RelV x u
 |_,_,.cons r .nil=>⟨_,rfl,r⟩
theorem Vals.zero:∀ {us:List Value},Vals [] us->us= []
 |_,.nil=>rfl
theorem Vals.dropLast{xs:List V}{us:List Value}(h:Vals xs us):Vals xs.dropLast us.dropLast:=by
 induction h with
 |nil=>exact .nil
 |cons r t ih=>
  cases t with
  |nil=>exact .nil
  |cons q t'=>exact .cons r ih
theorem Vals.rep{xs:List V}{us:List Value}(h:Vals xs us):∀ k:Nat,Vals (List.replicate k xs).flatten (List.replicate k us).flatten
 |0=>.nil
 |k+1=>by
  rw[xT,xT,uc,uc]
  exact Vals.append h (Vals.rep h k)
theorem WF(its:List Value):∀ (k:Nat) (acc:List Value),
  List.foldl (fun x1 x2=>x1++x2) acc.toArray (List.replicate k its.toArray)=(acc++(List.replicate k its).flatten).toArray
 |0,acc=>by simp
 |k+1,acc=>by
  have e:acc.toArray++its.toArray=(acc++its).toArray:=by simp
  have e2:(acc++its)++(List.replicate k its).flatten=acc++(List.replicate (k+1) its).flatten:=by
   rw[xT,uc,ut]
  rw[<- e2,<- WF its k (acc++its),<- e,xT,List.foldl_cons]
section
variable {X:Cx} {pins:List (Addr×Obj)} {σ:St} {H:Hp} {s:Shared} {l b:Addr} {xs ys zs:List V}
theorem Inv.lset{its its':List Value}{n:Nat}{f:Array Value->Array Value}{t':Nat}(I:Inv X pins σ H s)(hH:H l=some (.lst xs))
  (e:s.heap.get? l=some { cls:=.type "list",data:=.seq its.toArray n }) (hf:f its.toArray=its'.toArray) (hv:Vals ys its') (hz:ys.length<=sizeLine) :
  Inv X pins σ (upd H l (.lst ys)) { s with heap:=s.heap.update l (Obj.mapSeq f),toks:=t' }:=by
 have q:=PySem.IsL.update e f
 rw[hf]at q
 refine I.write (x:=l) (e:=l) (by rw[hH];exact trivial) (.inl rfl) (fun b' u hb hu=>(Heap.get?_update_other s.heap (Obj.mapSeq f) (Ne.symm hb)).trans hu) ⟨_,q⟩ ?_
 exact⟨hz,its',_,hv,q⟩
theorem Inv.lnew{its:List Value}{t':Nat}(I:Inv X pins σ H s)(hv:Vals ys its)(hz:ys.length<=sizeLine) :
  Inv X pins σ (upd H s.heap.objs.size (.lst ys)) { s with heap:=s.heap.push { cls:=.type "list",data:=.seq its.toArray },toks:=t' } :=
 I.laid (fun _ _ q=>Heap.get?_push_of_some _ q) (xi _) ⟨hz,its,0,hv,Heap.get?_push_size _ rfl⟩
theorem Inv.fresh(I:Inv X pins σ H s):H s.heap.objs.size=none:=I.hok.fresh (xi _)
theorem Inv.lstM (I:Inv X pins σ H s) (hH:H l=some (.lst xs)):xs.length<=sizeLine/\∃ (its:List Value) (n:Nat),Vals xs its/\xs.length=its.length/\s.heap.get? l=some { cls:=.type "list",data:=.seq its.toArray n }:=by
 obtain⟨z,its,n,r,e⟩:=I.hok l _ hH
 exact⟨z,its,n,r,r.length,e⟩
end
section
variable {X:Cx}
noncomputable def zcB:V->List V->Hp->VK->Prop:=fun x vs H Q=>∃ l xs y,x=.ref l/\vs= [y]/\H l=some (.lst xs)/\xs.length<sizeLine/\Q .non (upd H l (.lst (xs++ [y])))
theorem JF:MtM X "list.append" zcB:=by
 intro pins s σ H x vs v us Q I rx rv h
 obtain⟨l,xs,y,rfl,rfl,hH,hz,q⟩:=h
 cases rx
 obtain⟨u,rfl,ru⟩:=rv.one
 obtain⟨z,its,n,r,hl,e⟩:=I.lstM hH
 refine call_meets F.slot_list_append ⟨_,e,rfl⟩ F.entry_list_append (F.args_list_append_2 _ _) (PySem.list_append l its.toArray n u (by rw[xl];omega)) ⟨e,?_⟩
 refine⟨.non,_,I.lset (its':=its++ [u]) hH e (by simp) (r.append (.cons ru .nil)) ?_,rfl,q⟩
 rw[xw,ui]
 omega
noncomputable def rCat:R2:=fun x y H Q=>∃ l b xs zs,x=.ref l/\y=.ref b/\H l=some (.lst xs)/\H b=some (.lst zs)/\xs.length+zs.length<=sizeLine/\∀ p,H p=none->Q (.ref p) (upd H p (.lst (xs++zs)))
theorem zeE:OpR X (binaryOp .Add) rCat:=by
 intro pins s σ H x y v u Q I rx ry h
 obtain⟨l,b,xs,zs,rfl,rfl,hH,hB,hz,q⟩:=h
 cases rx
 cases ry
 obtain⟨z,its,n,r,hl,e⟩:=I.lstM hH
 obtain⟨z2,its2,n2,r2,hl2,e2⟩:=I.lstM hB
 refine PySem.P.add_list e e2 ?_ (by rw[xl,xl];omega)
 have ea:its.toArray++its2.toArray=(its++its2).toArray:=by simp
 rw[ea]
 exact⟨.ref _,_,I.lnew (t':=s.toks) (r.append r2) (by rw[xw];omega),rfl,q _ I.fresh⟩
theorem Yp{α:Type}(xs:List α)(k:Nat):(List.replicate k xs).flatten.length=k*xs.length:=by
 induction k with
 |zero=>simp
 |succ k ih=>rw[xT,uc,xw,ih,Nat.succ_mul,Nat.add_comm]
end
section
variable {prog:Program} {w:World} {A:Around} {E:Value->Shared->Prop} {s:Shared}
end
section
variable {X:Cx}
end
end L2
namespace Att
open PySem PySem.W PySem.Calls PyProof.Rows
theorem J1{P:Params}{h:Heap}:∀ (ns:List Int) (vs:List Value),WellAll P h vs (ns.map WData.int)->IntsAre vs ns:=by
 intro ns
 induction ns with
 |nil=>
  intro vs w
  rw[List.map_nil]at w
  cases w
  exact .nil
 |cons n ns ih=>
  intro vs w
  rw[xq]at w
  cases w with
  |cons a b=>
   cases a
   exact .cons _ _ (ih _ b)
theorem kL{l:OpenLaw}{n:Nat}(hn:l.most=some n){P:Params}{h:Heap}{args:List WData}{vals:List Value}
  (hpre:l.row.toRowW.claim.pre args=true) (hwl:WellAll P h vals args) :
  ∃ a vs ns,vals= [Value.ref a]/\args= [WData.list (ns.map WData.int)]/\h.get? a=some { cls:=.type "list",data:=.seq vs.toArray }/\IntsAre vs ns/\ns.length<=n:=by
 have hsh:WShape.hasAll [] args [.list .int]=true:=(pre_splitW hpre).1
 have hc:l.pre.holds [] { args:=args }=true:=(pre_splitW hpre).2
 obtain⟨d,r,rfl,h1,h2⟩:=hasAllW_cons hsh
 obtain rfl:=hasAllW_nil h2
 obtain⟨xs,rfl,h3⟩:=hasW_list h1
 obtain⟨ns,rfl⟩:=items_int h3
 have hlen:ns.length<=n:=by
  unfold OpenLaw.pre at hc
  have h4:(WTm.not (.lt (.lit (.int (n:Int))) (.len (.arg 0)))).holds [] { args:= [.list (ns.map .int)] }=true:=by
   have h4:=(holds_andW hc).1
   rw[hn]at h4
   exact h4
  have h5:=condW_of h4 (w_not (w_lt w_lit (w_len_list (w_arg rfl))))
  rw[xn]at h5
  refine Nat.le_of_not_lt fun q=>?_
  have q':(n:Int)<((ns.length:Nat):Int):=by omega
  first
   | (rw[decide_eq_true q']at h5;exact absurd h5 (by decide))
   | (simp at h5;omega)
 cases hwl with
 |cons w1 w2=>
  cases w2
  cases w1 with
  |list ho hall=>exact⟨_,_,ns,rfl,rfl,ho,J1 ns _ hall,hlen⟩
theorem kF(l:OpenLaw)(args:List WData):l.row.toRowW.claim.post args (.bool true) args=true :=
 postW_of (r:=l.row.toRowW) (X:=(true==true))
  (show WShape.has [] (.bool true) .bool=true by first | rfl | decide | simp[WShape.has,WShape.arms,WShape.armsAll])
  (show (WTm.eq .res (.lit (.bool true))).value [] { args:=args,res:=some (.bool true),after:=args }=some (.bool (true==true)) from w_eq_bool (w_res rfl) w_lit) rfl
theorem attach_call{l:OpenLaw}{n:Nat}{q:Program}{loose:List Str}{XP:(Str->Option Value)->Heap->Prop}{YP:World->Heap->Prop}{d:DefRec}
  (hn:l.most=some n) (hdf:d.params.defaults= [])
  (call:∀ (w:World) (s₀ s₁:Shared) (mg mb:Str->Option Value) (fa:Addr) (o:Obj) (pm cd doc:Value) (a:Addr) (vs:List Value) (ns:List Int),
   Ground q loose [] XP w s₀ mg mb s₁.heap->YP w s₁.heap ->
   s₁.heap.get? fa=some o->o.data=.func (docDef d.name d.params d.body d.scope pm cd doc)->s₁.heap.CodeRec cd d.name->mg d.name=some (.ref fa) ->
   s₁.heap.get? a=some { cls:=.type "list",data:=.seq vs.toArray }->IntsAre vs ns->ns.length<=n->s₁.gens=#[] ->
   codeAny (model l.prog w) callerA (.call (.ref fa) ⟨[.ref a],[]⟩) (fun r s'=>r=.ok (.ret (.bool true))/\OldK s₁.heap s'.heap/\s'.os=s₁.os/\AllBare s'.gens) s₁) :
  WalkO q loose XP YP l.row.toRowW d [] (fun f vs=>PySem.call f vs):=by
 intro w s₀ s₁ mg mb G Y fa o pm cd doc dV kV ho hd hcd hD hmg hg args vals as hpre hlay hrd hwl hlo
 obtain rfl:dV=.none:=Dflts.none hD hdf
 obtain rfl:kV=.none:=Dflts.noKw hD
 obtain⟨a,vs,ns,rfl,rfl,hobj,hints,hlen⟩:=kL hn hpre hwl
 refine enter_call (codeAny_mono (call w s₀ s₁ mg mb fa o pm cd doc a vs ns G Y ho (fd_plain hd) hcd hmg hobj hints hlen hg) fun r s' hq=>?_)
 obtain⟨rfl,h2,h3,h4⟩:=hq
 exact⟨.inl ⟨.bool true,.bool true,[],rfl,fun _=>rfl,.bool true,kF l _,fun _=>⟨List.Pairwise.nil,fun _ hm=>(nomatch hm)⟩⟩,h2,h3,h4⟩
section
variable {prog:Program} {w:World} {A:Around} {E:Value->Shared->Prop} {s:Shared} {K:Frag}
end
end Att
namespace L2
open PySem PySem.Spec PyProof.Rows
theorem ZG:∀ {vs:List Value}{ns:List Int},IntsAre vs ns->Vals (ns.map V.int) vs
 |_,_,.nil=>.nil
 |_,_,.cons n t h=>.cons ⟨t,rfl⟩ (ZG h)
noncomputable def zdQ(H:Hp):Prop:=∀ b,H b=none∨∃ o xs,H b=some (.frz o (.lst xs))
theorem K4{P:Program}{w:World}{K:PySem.W.Frag}{mg mb:Str->Option Value}{CX:CXT}{k:Nat}{fa a:Addr}{fd:FuncData}{x:Str}{sp:Sp}{s₁:Shared}{vs:List Value}{ns:List Int}
  (KX:K.In s₁.heap) (hns:s₁.heap.Ns mainGlobals mg) (hb:s₁.heap.Ns builtinsNs mb) (hbb:∀ x:Str,x≠ "__name__" ->mb x=bootBuiltins x) (hlim:s₁.heap.NoLimit) (hg:s₁.gens=#[])
  (ha:s₁.heap.get? a=some { cls:=.type "list",data:=.seq vs.toArray }) (hi:IntsAre vs ns) (hl:ns.length<=sizeLine) (hr:Room k callerA)
  (F:∀ base:Heap,K.In base->base.Ns mainGlobals mg->FnOk P w K mg base CX k fa fd [x] sp) (hbind:∀ (s:Shared) (u:Value),BindsTo s fd ⟨[u],[]⟩ [(x,u)])
  (hsp:∀ H:Hp,zdQ H->SqL K H a (ns.map V.int)->sp [.ref a] H (fun v _=>v=.bl true) fun _ _ _=>False)
  (hCX:∀ H e s',CX [] H s₁ (fun _ _ _=>False) e s'->False) :
  codeAny (model P w) callerA (.call (.ref fa) ⟨[.ref a],[]⟩) (fun r s'=>r=.ok (.ret (.bool true))/\OldK s₁.heap s'.heap/\s'.os=s₁.os/\AllBare s'.gens) s₁:=by
 have rv:=ZG hi
 have lenV:=hi.length
 -- from an abstract heap in which nothing but the script may be tracked
 have core:∀ H:Hp,zdQ H->SqL K H a (ns.map V.int)->HOk P w H s₁.heap->(∀ b,H b≠none->b=a)->(H a≠none->K.lookup a=none) ->
   codeAny (model P w) callerA (.call (.ref fa) ⟨[.ref a],[]⟩) (fun r s'=>r=.ok (.ret (.bool true))/\OldK s₁.heap s'.heap/\s'.os=s₁.os/\AllBare s'.gens) s₁:=by
  intro H hO hS hok hA hK
  have Z6:∀ {b:Addr} {o:Obj},s₁.heap.get? b=some o->H b=none->(vw s₁.heap H).get? b=some o:=fun e n=>KY e n
  have noA:∀ {b:Addr} {o:Obj} {es:Array DictEntry} {ep:Nat},s₁.heap.get? b=some o->o.data=.dict es ep->H b=none:=fun {b o es ep} e d=>by
   cases q:H b with
   |none=>rfl
   |some u=>
    have e':b=a:=hA b (by rw[q];simp)
    subst e'
    rw[ha]at e;cases e
    have d':Data.seq vs.toArray _=Data.dict es ep:=d
    cases d'
  have nsK:∀ {b:Addr} {m:Str->Option Value},s₁.heap.Ns b m->(vw s₁.heap H).Ns b m:=fun {b m} ⟨o,es,ep,e,d,r⟩=>⟨o,es,ep,Z6 e (noA e d),d,r⟩
  have hKb:K.In (vw s₁.heap H):=fun b o e=>Z6 (KX b o e) (by
   cases q:H b with
   |none=>rfl
   |some u=>
    have e':b=a:=hA b (by rw[q];simp)
    subst e'
    rw[hK (by rw[q];simp)]at e;cases e)
  have hM:Mod K mg (vw s₁.heap H):=⟨hKb,nsK hns,⟨mb,nsK hb,hbb⟩,let ⟨mc,h1,h2⟩:=hlim;⟨mc,nsK h1,h2⟩⟩
  have e0:zbH P w K mg (vw s₁.heap H) callerA [] s₁ H:=⟨rfl,hM,fun b o e=>zci e,Nat.le_of_eq (Y9 _ _),trivial,fun b hb=>absurd (show b∈([]:List Addr) from hb) (by simp),hok,.of_eq hg⟩
  refine codeAny_mono ((F _ hKb (nsK hns)).run callerA [] s₁ H ⟨[.ref a],[]⟩ [.ref a] [.ref a] _ _ hr e0 (hbind s₁ (.ref a)) (.cons rfl .nil) (hsp H hO hS)) fun r s' h=>?_
  cases r with
  |error e=>exact (hCX H e s' h).elim
  |ok fl=>
   cases fl with
   |next=>exact False.elim h
   |brk=>exact False.elim h
   |cont=>exact False.elim h
   |ret u=>
    obtain⟨v,H',os,bare,un,hok',r',q⟩:=h
    have q':v=.bl true:=q
    subst q'
    obtain rfl:u=Value.bool true:=r'
    refine⟨rfl,OldK.of_keep fun b o e=>?_,os,bare⟩
    cases q:H b with
    |none=>exact un.keep b o e q (by intro z;exact absurd (show b∈([]:List Addr) from z) (by simp)) (by simp)
    |some u=>
     rcases hO b with z | ⟨ob,xs,z⟩
     ·rw[q]at z;cases z
     ·have z2:=un.frzs b ob _ z
      obtain⟨e1,_⟩:=hok b _ z
      obtain⟨e2,_⟩:=hok' b _ z2
      rw[e]at e1;cases e1
      exact e2
 cases hk:K.lookup a with
 |some o=>
  -- the script is one of the module's own objects
  have e:=KX a o hk
  rw[ha]at e
  cases e
  refine core (fun _=>none) (fun _=>.inl rfl) (.inr ⟨_,vs.toArray,_,hk,rfl,rfl,rfl,by rw[xl,lenV];exact hl,by simpa using rv⟩) (fun b u z=>by have z':(none:Option HO)=some u:=z;cases z') (fun b z=>absurd rfl z) fun z=>absurd rfl z
 |none=>
  refine core (fun b=>if b=a then some (.frz { cls:=.type "list",data:=.seq vs.toArray } (.lst (ns.map V.int))) else none) (fun b=>?_) (.inl (.inr ⟨{ cls:=.type "list",data:=.seq vs.toArray },if_pos rfl⟩)) (fun b u z=>?_) (fun b z=>?_) fun _=>hk
  ·by_cases hb:b=a
   ·exact .inr ⟨_,_,if_pos hb⟩
   ·exact .inl (if_neg hb)
  ·by_cases hb:b=a
   ·have z':=(if_pos hb).symm.trans z
    cases z'
    subst hb
    exact⟨ha,by rw[xn];exact hl,vs,_,rv,ha⟩
   ·have z':=(if_neg hb).symm.trans z
    cases z'
  ·by_cases hb:b=a
   ·exact hb
   ·exact absurd (if_neg hb) z
end L2
namespace L2
open PySem PySem.Spec PyProof.Rows
noncomputable abbrev KOf{K:PySem.W.Frag}{h:Heap}(_:K.In h):PySem.W.Frag:=K
theorem walk_of{l:PySem.W.OpenLaw}{n k:Nat}{q:Program}{loose:List Str}{XP:(Str->Option Value)->Heap->Prop}{YP:World->Heap->Prop}{d:DefRec}{K:Params->PySem.W.Frag}{CX:World->CXT}{sp:World->Sp}{x:Str}
  (hn:l.most=some n) (hn2:n<=sizeLine) (hdf:d.params.defaults= []) (hr:Room k callerA)
  (hY:∀ (w:World) (h:Heap),YP w h->(K w.params).In h)
  (F:∀ (w:World) (mg:Str->Option Value) (fa:Addr) (h:Heap),(K w.params).In h->h.Ns mainGlobals mg->mg d.name=some (.ref fa) ->
   ∃ fd:FuncData,(∀ (s:Shared) (u:Value),BindsTo s fd ⟨[u],[]⟩ [(x,u)]) /\
    ∀ base:Heap,(K w.params).In base->base.Ns mainGlobals mg->FnOk l.prog w (K w.params) mg base (CX w) k fa fd [x] (sp w))
  (hsp:∀ (w:World) (H:Hp) (a:Addr) (ns:List Int),ns.length<=n->zdQ H->SqL (K w.params) H a (ns.map V.int)->sp w [.ref a] H (fun v _=>v=.bl true) fun _ _ _=>False)
  (hCX:∀ (w:World) (H:Hp) (s:Shared) (e:Value) (s':Shared),CX w [] H s (fun _ _ _=>False) e s'->False) :
  PySem.W.WalkO q loose XP YP l.row.toRowW d [] (fun f vs=>PySem.call f vs):=by
 refine Att.attach_call hn hdf fun w s₀ s₁ mg mb fa o pm cd doc a vs ns G Y ho hd hcd hmg hobj hints hlen hg=>?_
 have KX:=hY w _ Y
 obtain⟨fd,hb,hF⟩:=F w mg fa _ KX G.T.g hmg
 exact K4 KX G.T.g G.T.b G.T.builtins G.T.nolimit hg hobj hints (xA hlen hn2) hr hF hb (fun H hO hS=>hsp w H a ns hlen hO hS) fun H e s'=>hCX w H s₁ e s'
end L2
namespace L2
open PySem PySem.Spec PyProof.Rows
noncomputable def zZ(s:Stmt):Arguments:=match s with
 |.FunctionDef _ a _ _ _ _ _ _ _ _=>a
 |_=>{ posonlyargs:= [],args:= [],vararg:=none,kwonlyargs:= [],kw_defaults:= [],kwarg:=none,defaults:= [] }
noncomputable def defBody(s:Stmt):List Stmt:=match s with
 |.FunctionDef _ _ b _ _ _ _ _ _ _=>b
 |_=> []
noncomputable def defScope(s:Stmt):Scope:=match s with
 |.FunctionDef _ _ _ _ _ _ sc _ _ _=>sc
 |_=>{ kind:=.function,names:= [],isGenerator:=false,isCoroutine:=false }
noncomputable abbrev CX0:CXT:=fun _ _ _ _ _ _=>False
noncomputable abbrev E0:XK:=fun _ _ _=>False
theorem zgn{X:Cx}:W7 CX0 X E0:=fun _ _ _ _ _ _ _ h=>h.elim
structure Fun(K:PySem.W.Frag)(x qual:Str)(st:Stmt)(f:Addr)(fd:FuncData):Prop where
 ex:∃ (oc:Value) (od:Option Addr) (kV doc pm:Value) (an:Option Addr) (cdv ct:Value) (osl:Array (Option Value)),
  fd=PySem.W.fnOf x qual (zZ st) (defBody st) (defScope st) .none kV doc pm an cdv ct/\K.lookup f=some ⟨oc,od,.func fd,osl⟩/\PySem.W.codeIn K cdv qual=true
 kp:PySem.W.keepIn K (.ref f)=true
section
variable {P:Program} {w:World} {K:PySem.W.Frag} {mg:Str->Option Value} {base:Heap}
theorem Fun.ok{x qual:Str}{st:Stmt}{f:Addr}{fd:FuncData}{N ps:List Str}{k:Nat}{sp:Sp}(F:Fun K x qual st f fd)(S:ja N ps (defScope st))(len:∀ vs H Q E,sp vs H Q E->vs.length=ps.length)
  (hbody:∀ (cdv:Value) (A:Around) (outer:List Env) (s:Shared) (H:Hp) (vs:List V) (Q:VK) (E:XK),Room k (A.deeper (envOfC qual (defScope st) s.heap.objs.size f cdv))->sp vs H Q E ->
   ∃ t,PSs (ZS CX0 P w K mg base N qual (defScope st) f cdv A outer s H E).nox (defBody st) t/\t { nx:=fun _ H'=>Q .non H',rt:=Q } (start N vs) H):FnOk P w K mg base CX0 (k+1) f fd ps sp:=by
 obtain⟨oc,od,kV,doc,pm,an,cdv,ct,osl,rfl,lk,hcd⟩:=F.ex
 refine zdy lk hcd S len fun A outer s H vs Q E hr hsp=>?_
 obtain⟨t,h,q⟩:=hbody cdv A outer s H vs Q E hr hsp
 exact⟨t,h.nox,q⟩
theorem Fun.binds{x qual:Str}{st:Stmt}{f:Addr}{fd:FuncData}{ps:List Str}(F:Fun K x qual st f fd)
  (h:∀ (kV doc pm:Value) (an:Option Addr) (cdv ct:Value) (us:List Value),us.length=ps.length->bindArgs (PySem.W.fnOf x qual (zZ st) (defBody st) (defScope st) .none kV doc pm an cdv ct) ⟨us,[]⟩=pure (ps.zip us)):Binds K fd ps []:=by
 obtain⟨oc,od,kV,doc,pm,an,cdv,ct,osl,rfl,lk,hcd⟩:=F.ex
 exact .all (h kV doc pm an cdv ct)
theorem ZU{x qual:Str}{st:Stmt}{f:Addr}{oc:Value}{od an:Option Addr}{osl:Array (Option Value)}{kV doc pm cdv ct:Value}(l:K.lookup f=some ⟨oc,od,.func (PySem.W.fnOf x qual (zZ st) (defBody st) (defScope st) .none kV doc pm an cdv ct),osl⟩)
  (c:PySem.W.codeIn K cdv qual=true) (k:PySem.W.keepIn K (.ref f)=true):Fun K x qual st f (PySem.W.fnOf x qual (zZ st) (defBody st) (defScope st) .none kV doc pm an cdv ct):=⟨⟨oc,od,kV,doc,pm,an,cdv,ct,osl,rfl,l,c⟩,k⟩
end
section
variable {X:Cx}
theorem pv (i:Nat){x:Str}{pos:Pos}(hN:X.N[i]?=some x:=by rfl) (hv:Vis X.env.scope x:=by first | exact Or.inl rfl | exact Or.inr (Or.inl rfl) | exact Or.inr (Or.inr rfl)) (hd:(x==("__debug__" :Str))=false:=by decide)
    (hcd:(x==("__classdict__" :Str))=false:=by decide):PE X (.Name x pos) (zfD i):=zT hN hv hd hcd
end
theorem Vt{A B:Prop}(h:B):if false=true then A else B:=by
 rw[if_neg Bool.false_ne_true]
 exact h
theorem Vu{A B:Prop}(h:A):if true=true then A else B:=by
 rw[if_pos rfl]
 exact h
noncomputable def Same(H H':Hp):Prop:=∀ b o,H b=some o->H' b=some o
theorem Same.refl(H:Hp):Same H H:=fun _ _ h=>h
theorem Same.trans{H H1 H2:Hp}(a:Same H H1)(b:Same H1 H2):Same H H2:=fun c o h=>b c o (a c o h)
theorem Same.free{H H':Hp}(e:Same H H'){l:Addr}(h:H' l=Option.none):H l=Option.none:=by
 cases q:H l with
 |none=>rfl
 |some o=>
  rw[e l o q]at h
  cases h
theorem Same.seq{K:PySem.W.Frag}{H H':Hp}{a:Addr}{xs:List V}(e:Same H H')(h:SqL K H a xs):SqL K H' a xs:=by
 rcases h with (h | ⟨o,h⟩) | h
 ·exact .inl (.inl (e _ _ h))
 ·exact .inl (.inr ⟨o,e _ _ h⟩)
 ·exact .inr h
end L2
namespace L2
open PySem PySem.Spec PyProof.Rows
section
variable {κ:Type} [DecidableEq κ]
noncomputable def V8(kvs:List (κ×V))(k:κ):Option V:=(kvs.find? fun kv=>decide (kv.1=k)).map (·.2)
noncomputable def yI(kvs:List (κ×V))(k:κ)(v:V):List (κ×V) :=
 if (kvs.any fun kv=>decide (kv.1=k))=true then kvs.map (fun kv=>if kv.1=k then (kv.1,v) else kv) else kvs++ [(k,v)]
noncomputable def zdu(kvs:List (κ×V))(k:κ):List (κ×V):=kvs.filter fun kv=>decide (kv.1≠k)
theorem wU{p:κ×V}{r:List (κ×V)}{k:κ}(e:p.1=k):V8 (p::r) k=some p.2:=by simp[V8,xW,e]
theorem wT{p:κ×V}{r:List (κ×V)}{k:κ}(e:¬ p.1=k):V8 (p::r) k=V8 r k:=by simp[V8,xW,e]
theorem V9(k:κ):∀ kvs:List (κ×V),(kvs.any fun kv=>decide (kv.1=k))=(V8 kvs k).isSome
 |[]=>rfl
 |p::r=>by
  rw[xM]
  by_cases e:p.1=k
  ·simp only[wU e,decide_eq_true e,Bool.true_or,Option.isSome_some]
  ·rw[wT e,decide_eq_false e,Bool.false_or];exact V9 k r
theorem RelO.isSome_eq{o:Option V}{u:Option Value}(r:RelO o u):o.isSome=u.isSome:=by
 cases o with
 |none=>cases u with
  |none=>rfl
  |some _=>exact (show False from r).elim
 |some _=>cases u with
  |none=>exact (show False from r).elim
  |some _=>rfl
theorem KV.val{kvs:List (κ×V)}{vs:List (κ×Value)}(r:KV kvs vs)(k:κ):RelO (V8 kvs k) (valueAt vs k):=by
 unfold KV at r
 induction r with
 |nil=>exact True.intro
 | @cons p q ps qs h t ih=>
  obtain⟨h1,h2⟩:=h
  by_cases e:p.1=k
  ·have e':q.1=k:=h1.symm.trans e
   have b:valueAt (q::qs) k=some q.2:=by simp[valueAt,xW,e']
   rw[wU e,b];exact h2
  ·have e':¬ q.1=k:=fun z=>e (h1.trans z)
   have b:valueAt (q::qs) k=valueAt qs k:=by simp[valueAt,xW,e']
   rw[wT e,b];exact ih
theorem KV.any{kvs:List (κ×V)}{vs:List (κ×Value)}(r:KV kvs vs)(k:κ):(kvs.any fun kv=>decide (kv.1=k))=vs.any fun kv=>decide (kv.1=k):=by
 unfold KV at r
 induction r with
 |nil=>rfl
 |cons h t ih=>rw[xM,xM,ih,h.1]
theorem KV.repl{kvs:List (κ×V)}{vs:List (κ×Value)}(r:KV kvs vs)(k:κ){y:V}{u:Value}(ry:RelV y u) :
  KV (kvs.map fun kv=>if kv.1=k then (kv.1,y) else kv) (vs.map fun kv=>if kv.1=k then (kv.1,u) else kv):=by
 unfold KV at r |-
 induction r with
 |nil=>exact .nil
 | @cons p q ps qs h t ih=>
  rw[xq,xq]
  refine .cons ?_ ih
  obtain⟨h1,h2⟩:=h
  by_cases e:p.1=k
  ·rw[if_pos e,if_pos (h1.symm.trans e)];exact⟨h1,ry⟩
  ·rw[if_neg e,if_neg (fun z=>e (h1.trans z))];exact⟨h1,h2⟩
theorem KV.put{kvs:List (κ×V)}{vs:List (κ×Value)}(r:KV kvs vs)(k:κ){y:V}{u:Value}(ry:RelV y u):KV (yI kvs k y) (stored vs k u):=by
 unfold yI stored
 rw[r.any k]
 by_cases e:(vs.any fun kv=>decide (kv.1=k))=true
 ·rw[if_pos e,if_pos e];exact r.repl k ry
 ·rw[if_neg e,if_neg e];exact Paired.snoc r ⟨rfl,ry⟩
theorem KV.drop{kvs:List (κ×V)}{vs:List (κ×Value)}(r:KV kvs vs)(k:κ):KV (zdu kvs k) (without vs k):=by
 unfold KV at r |-
 unfold zdu without
 induction r with
 |nil=>exact .nil
 | @cons p q ps qs h t ih=>
  obtain⟨h1,h2⟩:=h
  rw[ux,ux]
  by_cases e:p.1=k
  ·have a:¬ decide (p.1≠k)=true:=by simp[e]
   have b:¬ decide (q.1≠k)=true:=by simp[h1.symm.trans e]
   rw[if_neg a,if_neg b];exact ih
  ·have e':¬ q.1=k:=fun z=>e (h1.trans z)
   have a:decide (p.1≠k)=true:=by simp[e]
   have b:decide (q.1≠k)=true:=by simp[e']
   rw[if_pos a,if_pos b];exact .cons ⟨h1,h2⟩ ih
theorem KV.keys{kvs:List (κ×V)}{vs:List (κ×Value)}(r:KV kvs vs):kvs.map (·.1)=vs.map (·.1):=by
 unfold KV at r
 induction r with
 |nil=>rfl
 |cons h t ih=>rw[xq,xq,ih,h.1]
theorem KV.length{kvs:List (κ×V)}{vs:List (κ×Value)}(r:KV kvs vs):kvs.length=vs.length:=Paired.length r
end
theorem zdB{P:Program}{w:World}{k:Key}{u:Value}(r:RelV (kV k) u):(qC P w).is k u=true:=by
 cases k with
 |inl i=>obtain⟨t,e⟩:=(show ∃ t,u=Value.int i t from r);subst e;exact VD P w i t
 |inr x=>obtain⟨t,e⟩:=(show ∃ t,u=Value.str x t from r);subst e;exact VE P w x t
noncomputable abbrev KT(H:Hp):List (List Key×V)->List (List Key×Addr×Value)->Prop:=Paired fun p q=>p.1=q.1/\H q.2.1=some (.tup (p.1.map kV))/\RelV p.2 q.2.2
theorem KT.val{H:Hp}{kvs:List (List Key×V)}{xs:List (List Key×Addr×Value)}(r:KT H kvs xs)(k:List Key):RelO (V8 kvs k) ((atKey xs k).map (·.2)):=by
 induction r with
 |nil=>exact True.intro
 | @cons p q ps qs h t ih=>
  obtain⟨h1,_,h2⟩:=h
  by_cases e:p.1=k
  ·have e':q.1=k:=h1.symm.trans e
   have b:atKey (q::qs) k=some q.2:=by simp[atKey,xW,e']
   rw[wU e,b];exact h2
  ·have e':¬ q.1=k:=fun z=>e (h1.trans z)
   have b:atKey (q::qs) k=atKey qs k:=by simp[atKey,xW,e']
   rw[wT e,b];exact ih
theorem KT.repl{H:Hp}{kvs:List (List Key×V)}{xs:List (List Key×Addr×Value)}(r:KT H kvs xs)(k:List Key){y:V}{u:Value}(ry:RelV y u) :
  KT H (kvs.map fun kv=>if kv.1=k then (kv.1,y) else kv) (xs.map (putAt k u)):=by
 induction r with
 |nil=>exact .nil
 | @cons p q ps qs h t ih=>
  rw[xq,xq]
  refine .cons ?_ ih
  obtain⟨h1,h2,h3⟩:=h
  unfold putAt
  by_cases e:p.1=k
  ·rw[if_pos e,if_pos (h1.symm.trans e)];exact⟨h1,h2,ry⟩
  ·rw[if_neg e,if_neg (fun z=>e (h1.trans z))];exact⟨h1,h2,h3⟩
theorem KT.put{H:Hp}{kvs:List (List Key×V)}{xs:List (List Key×Addr×Value)}(r:KT H kvs xs)(k:List Key){b:Addr}{y:V}{u:Value}(hb:H b=some (.tup (k.map kV)))(ry:RelV y u) :
  KT H (yI kvs k y) (storedH xs k b u):=by
 have e:(kvs.any fun kv=>decide (kv.1=k))=(atKey xs k).isSome:=by
  rw[V9,(r.val k).isSome_eq,Option.isSome_map]
 unfold yI storedH
 rw[e]
 by_cases q:(atKey xs k).isSome=true
 ·rw[if_pos q,if_pos q];exact r.repl k ry
 ·rw[if_neg q,if_neg q];exact Paired.snoc r ⟨rfl,hb,ry⟩
theorem KT.keeps{H H':Hp}{kvs:List (List Key×V)}{xs:List (List Key×Addr×Value)}(r:KT H kvs xs)(ht:∀ b ys,H b=some (.tup ys)->H' b=some (.tup ys)):KT H' kvs xs :=
 Paired.mapP r fun _ _ z=>⟨z.1,ht _ _ z.2.1,z.2.2⟩
section
variable {P:Program} {w:World} {H:Hp} {h:Heap} {a:Addr}
end
section
variable {X:Cx} {pins:List (Addr×Obj)} {σ:St} {H:Hp} {s:Shared} {a:Addr} {y v:V} {u r:Value} {o:Option V} {A:Around} {E:Value->Shared->Prop}
theorem Inv.big(I:Inv X pins σ H s):sysModules<s.heap.objs.size:=by
 have h:mainGlobals<s.heap.objs.size:=(I.mod.glob.keeps I.bk).lt
 exact Nat.lt_trans (by decide) h
theorem zef{P:Program}{w:World}{H':Hp}{h':Heap}{kvs:List (Key×V)}{vs:List (Key×Value)}(z:kvs.length<=sizeLine)(hd:(a==sysModules)=false)(rel:KV kvs vs)(dd:h'.DictOf (qC P w) a vs) :
  ObjOk P w H' h' a (.dK kvs):=⟨z,hd,vs,rel,dd⟩
end
section
variable {X:Cx} {pins:List (Addr×Obj)} {σ:St} {H:Hp} {s:Shared} {a:Addr} {kvs:List (Key×V)} {k:Key} {u:Value} {A:Around} {E:Value->Shared->Prop}
end
section
variable {X:Cx} {o i e value:Expr} {pos pos' tpos:Pos} {td ty tv:TE}
end
theorem KJ {P:Program}{w:World}{H:Hp}(h:Heap) (hb:sysModules<h.objs.size):ObjOk P w H (h.push { cls:=.type "dict",data:=.dict #[] }) h.objs.size (.dK []) :=
 ⟨ua _,beq_eq_false_iff_ne.mpr (Ne.symm (xm hb)),[],.nil,Heap.DictOf.new h⟩
noncomputable def zfy:TE:=fun _ H Q=>∀ p,H p=none->Q (.ref p) (upd H p (.dK []))
section
variable {X:Cx} {pos:Pos}
theorem pe_dnewK:PE X (.Dict [] [] pos) zfy:=fun pins s σ H Q I h=>
 wpAny_Dict_empty ⟨.ref s.heap.objs.size,_,I.laid (a:=s.heap.objs.size) (o:=.dK []) (t':=s.toks) (fun _ _ q=>Heap.get?_push_of_some _ q) (xi _) (KJ s.heap I.big),rfl,h _ (I.hok.fresh (xi _))⟩
end
section
variable {X:Cx} {pins:List (Addr×Obj)} {σ:St} {H:Hp} {s:Shared} {a:Addr} {y d:V} {u r:Value} {o:Option V} {A:Around} {E:Value->Shared->Prop}
end
section
variable {X:Cx} {o e f:Expr} {apos cpos:Pos} {td ty tx:TE}
end
section
variable {X:Cx} {pins:List (Addr×Obj)} {σ:St} {H:Hp} {s:Shared} {a:Addr} {kvs:List (Key×V)} {A:Around} {E:Value->Shared->Prop}
end
section
variable {X:Cx} {pins:List (Addr×Obj)} {σ:St} {H:Hp} {s:Shared} {a:Addr} {y:V} {u:Value} {A:Around} {E:Value->Shared->Prop}
end
end L2
namespace L2
open PySem PySem.Spec PyProof.Rows
section
variable {X:Cx}
end
end L2
namespace L2
open PySem PySem.Spec PyProof.Rows
theorem zQ{α β:Type}[BEq α][LawfulBEq α]:∀ {l:List (α×β)}{x:α}{v:β},l.lookup x=some v->(x,v)∈l
 |[],_,_,h=>by simp at h
 | (a,b)::r,x,v,h=>by
  rw[xr]at h
  cases e:x==a with
  |true=>rw[e]at h;have e':=eq_of_beq e;subst e';cases h;exact xp
  |false=>rw[e]at h;exact xj _ (zQ h)
theorem ZR{env:Env}:∀ (names:List (Str×NameKind)) (cs:List (Str×Addr)),
    (∀ y∈names,y.2=.free->∃ c,env.cells.lookup y.1=some c)->(∀ x c,cs.lookup x=some c->env.cells.lookup x=some c) ->
    ∃ cl,(forIn names cs fun x r=>if (x.snd==NameKind.free)=true then do
                let z<-cellOf env x.fst
                pure (ForInStep.yield ((x.fst,z)::r))
              else pure (ForInStep.yield r):Sem (List (Str×Addr)))=pure cl/\(∀ x c,cl.lookup x=some c->env.cells.lookup x=some c) /\
      (∀ x,(∃ c,cs.lookup x=some c)∨(x,NameKind.free)∈names->∃ c,cl.lookup x=some c)
  |[],cs,_,h2=>⟨cs,by simp,h2,fun x hx=>by
      rcases hx with h | h
      · exact h
      · cases h⟩
  | (n,k)::r,cs,h1,h2=>by
    rw[List.forIn_cons]
    by_cases hk:k=.free
    · subst hk
      obtain⟨c,hc⟩:=h1 (n,.free) xp rfl
      have e:cellOf env n=pure c:=by unfold cellOf;rw[hc]
      obtain⟨cl,e1,h3,h4⟩:=ZR r ((n,c)::cs) (fun y hy=>h1 y (xj _ hy)) (fun x c' hx=>by
        rw[xr]at hx
        cases q:x==n with
        |true=>rw[q]at hx;cases hx;rw[eq_of_beq q];exact hc
        |false=>rw[q]at hx;exact h2 x c' hx)
      refine⟨cl,?_,h3,fun x hx=>h4 x ?_⟩
      · simp only [beq_self_eq_true, if_true, e, pure_bind]
        exact e1
      · by_cases q : x = n
        · subst q;exact .inl ⟨c,by simp⟩
        · rcases hx with ⟨c', hx⟩ | hx
          · exact .inl ⟨c',by rw[xr,beq_eq_false_iff_ne.mpr q];exact hx⟩
          · rcases List.mem_cons.mp hx with z | z
            · exact absurd (congrArg Prod.fst z) q
            · exact .inr z
    · have hb : (k == NameKind.free) = false := by simpa using hk
      obtain⟨cl,e1,h3,h4⟩:=ZR r cs (fun y hy=>h1 y (xj _ hy)) h2
      refine⟨cl,?_,h3,fun x hx=>h4 x ?_⟩
      · simp only [hb, Bool.false_eq_true, if_false, pure_bind]
        exact e1
      · rcases hx with hx | hx
        · exact .inl hx
        · rcases List.mem_cons.mp hx with z | z
          · exact absurd (congrArg Prod.snd z).symm hk
          · exact .inr z
theorem yk{sc:Scope}{env:Env}(h:∀ y∈sc.names,y.2=.free->∃ c,env.cells.lookup y.1=some c) :
  ∃ cl,closureFor sc env=pure cl/\(∀ x c,cl.lookup x=some c->env.cells.lookup x=some c)/\(∀ x,(x,NameKind.free)∈sc.names->∃ c,cl.lookup x=some c):=by
 obtain⟨cl,e,h1,h2⟩:=ZR (env:=env) sc.names [] h (fun x c z=>by simp at z)
 refine⟨cl,?_,h1,fun x hx=>h2 x (.inr hx)⟩
 simp only[closureFor]
 rw[bind_pure]
 exact e
noncomputable def YO (X:Cx) (C:Addr) (x:Value) (s':Shared):Prop:=∃ m,s'.heap.Ns C m/\∀ h',Heap.SameBut C s'.heap h'->∀ cenv:Env,cenv.locals=C->wpAny (model X.prog X.w) X.A (passOn "comprehension.variables-let-go" x cenv:Sem Value) (fun _ _=>False) X.xe { s' with heap:=h' }
noncomputable abbrev Cx.comp(X:Cx)(N':List Str)(scope:Scope)(cl:List (Str×Addr))(C:Addr)(s2:Shared)(H2:Hp)(fp:List Addr):Cx :=
 { X with N:=N',env:=compEnvC scope cl C X.env,s₀:=s2,H₀:=H2,outer:=X.stack,stack:=X.stack,ex:=fp,fn:=fun x=>decide (scope.names.lookup x=some .cell),pn:= [],xe:=notedBy (model X.prog X.w) X.A (compEnvC scope cl C X.env) (YO X C) }
noncomputable def Cat(X:Cx)(σ:St)(C:Addr)(s2:Shared)(H2:Hp)(fp:List Addr):Prop:=∃ pins,Inv X pins σ H2 s2/\(∀ b∈fp,Qv X pins H2 b)/\s2.heap.objs.size<=C
structure CSc(psc:Scope)(N:List Str)(sc:Scope)(N':List Str)(k:Nat)(ix:List Nat):Prop where
 kind:sc.kind=.function
 cel:∀ y∈sc.names,y.2=.cell->sc.names.lookup y.1=some .cell
 loc:∀ y∈sc.names,y.2=.local->sc.names.lookup y.1=some .local
 fre:∀ y∈sc.names,y.2=.free->psc.names.lookup y.1=some .cell∨psc.names.lookup y.1=some .free
 len:N'.length=k+ix.length
 nd:N'.Nodup
 cap:∀ (j i:Nat),ix[j]?=some i->∃ y,N'[k+j]?=some y/\N[i]?=some y/\sc.names.lookup y=some .free
noncomputable def Ye(psc:Scope)(N:List Str)(sc:Scope)(N':List Str)(k:Nat)(ix:List Nat):Bool :=
 decide (sc.kind=.function)&&sc.names.all (fun y=>(decide (y.2≠ .cell)||decide (sc.names.lookup y.1=some .cell))&&(decide (y.2≠ .local)||decide (sc.names.lookup y.1=some .local))&&(decide (y.2≠ .free)||decide (psc.names.lookup y.1=some .cell)||decide (psc.names.lookup y.1=some .free))) &&
 decide (N'.length=k+ix.length)&&decide N'.Nodup&&(List.range ix.length).all (fun j=>match N'[k+j]?,N[ix.getD j 0]? with
  |some y,some z=>decide (y=z)&&decide (sc.names.lookup y=some .free)
  |_,_=>false)
theorem CSc.of{psc:Scope}{N:List Str}{sc:Scope}{N':List Str}{k:Nat}{ix:List Nat}(h:Ye psc N sc N' k ix=true):CSc psc N sc N' k ix:=by
 unfold Ye at h
 simp only[xa,decide_eq_true_eq,xz,xE]at h
 obtain⟨⟨⟨⟨h1,h2⟩,h3⟩,h4⟩,h5⟩:=h
 refine⟨h1,fun y hy e=>?_,fun y hy e=>?_,fun y hy e=>?_,h3,h4,fun j i e=>?_⟩
 ·rcases (h2 y hy).1.1 with z | z
  ·exact absurd e z
  ·exact z
 ·rcases (h2 y hy).1.2 with z | z
  ·exact absurd e z
  ·exact z
 ·rcases (h2 y hy).2 with (z | z) | z
  ·exact absurd e z
  ·exact .inl z
  ·exact .inr z
 ·obtain⟨hj,ei⟩:=xb.mp e
  have:=h5 j (List.mem_range.mpr hj)
  have e2:ix.getD j 0=i:=by rw[uk,e];rfl
  rw[e2]at this
  split at this
  ·rename_i y z ey ez
   simp only[xa,decide_eq_true_eq]at this
   obtain⟨rfl,hl⟩:=this
   exact⟨y,ey,ez,hl⟩
  ·cases this
noncomputable def cS(k:Nat)(ix:List Nat)(σ:St):St:=List.replicate k none++ix.map fun i=>(σ[i]?).join
theorem Qp{env:Env}:∀ {names:List (Str×NameKind)}{x:Str},
    ((names.map fun (n,k)=>if (k==NameKind.free&&env.scope.kind==.function&&env.kindOf n==some .cell) then (n,NameKind.cell) else (n,k)).lookup x=some .cell ∨
     (names.map fun (n,k)=>if (k==NameKind.free&&env.scope.kind==.function&&env.kindOf n==some .cell) then (n,NameKind.cell) else (n,k)).lookup x=some .free)->names.lookup x=some .free∨names.lookup x=some .cell
  |[],_,h=>by simp at h
  | (n,k)::r,x,h=>by
    have ih:=@Qp env r x
    rw[xq]at h
    dsimp only at h
    by_cases hcd:(k==NameKind.free&&env.scope.kind==.function&&env.kindOf n==some .cell)=true
    · have hkf : k = .free := by
        simp only[xa]at hcd
        exact eq_of_beq hcd.1.1
      rw[if_pos hcd]at h
      cases hx:x==n with
      |true=>rw[xr,hx,hkf];exact .inl rfl
      |false=>simp only[xr,hx]at h;simp only[xr,hx];exact ih h
    · rw [if_neg hcd] at h
      cases hx:x==n with
      |true=>
        simp only[xr,hx]at h
        rw[xr,hx]
        rcases h with h | h
        · exact .inr h
        · exact .inl h
      |false=>simp only[xr,hx]at h;simp only[xr,hx];exact ih h
theorem JV{env:Env}:∀ {names:List (Str×NameKind)}{x:Str},names.lookup x=some .free ->
    ((names.map fun (n,k)=>if (k==NameKind.free&&env.scope.kind==.function&&env.kindOf n==some .cell) then (n,NameKind.cell) else (n,k)).lookup x=some .cell ∨
     (names.map fun (n,k)=>if (k==NameKind.free&&env.scope.kind==.function&&env.kindOf n==some .cell) then (n,NameKind.cell) else (n,k)).lookup x=some .free)
  |[],_,h=>by simp at h
  | (n,k)::r,x,h=>by
    have ih:=@JV env r x
    rw[xq]
    dsimp only
    cases hx:x==n with
    |true=>
      rw[xr,hx]at h
      cases h
      by_cases hcd:(NameKind.free==NameKind.free&&env.scope.kind==.function&&env.kindOf n==some .cell)=true
      · rw[if_pos hcd];simp[xr,hx]
      · rw[if_neg hcd];simp[xr,hx]
    |false=>
      rw[xr,hx]at h
      by_cases hcd:(k==NameKind.free&&env.scope.kind==.function&&env.kindOf n==some .cell)=true
      · rw[if_pos hcd];simp only[xr,hx];exact ih h
      · rw[if_neg hcd];simp only[xr,hx];exact ih h
structure ClOk(X:Cx)(sc:Scope)(cl:List (Str×Addr))(C:Addr)(h4:Heap):Prop where
 src:∀ x c,cl.lookup x=some c->X.env.cells.lookup x=some c∨(C<c/\h4.IsCell c none)
 inj:∀ x y c,cl.lookup x=some c->cl.lookup y=some c->x=y
 has:∀ x,(sc.names.lookup x=some .free∨sc.names.lookup x=some .cell)->∃ c,cl.lookup x=some c
 own:∀ x c,sc.names.lookup x=some .cell->cl.lookup x=some c->C<c
 old:∀ x c,sc.names.lookup x=some .free->cl.lookup x=some c->X.env.cells.lookup x=some c
theorem zX:∀ (names:List (Str×NameKind)) (n:Nat) (acc:List (Str×Addr)),cellsFrom n names acc=cellsFrom n names []++acc
 |[],n,acc=>rfl
 | (x,k)::r,n,acc=>by
  unfold cellsFrom
  split
  ·rw[zX r (n+1) ((x,n)::acc),zX r (n+1) [(x,n)],ut];rfl
  ·exact zX r n acc
theorem jz:∀ (names:List (Str×NameKind)) (n:Nat) (y:Str×Addr),y∈cellsFrom n names []->(y.1,NameKind.cell)∈names
 |[],n,y,h=>by cases h
 | (x,k)::r,n,y,h=>by
  unfold cellsFrom at h
  split at h
  ·rename_i hk
   rw[zX]at h
   rcases xF.mp h with h | h
   ·exact xj _ (jz r _ y h)
   ·have e:y=(x,n):=by simpa using h
    subst e
    have hk':k=.cell:=eq_of_beq hk
    subst hk'
    exact xp
  ·exact xj _ (jz r _ y h)
theorem ZV{β:Type}:∀ (l1 l2:List (Str×β)) (x:Str),(l1++l2).lookup x=(match l1.lookup x with | some v=>some v | none=>l2.lookup x)
 |[],l2,x=>rfl
 | (a,b)::l1,l2,x=>by
  rw[xX,xr,xr]
  cases x==a with
  |true=>rfl
  |false=>exact ZV l1 l2 x
theorem Wf{M:Model}{A:Around}{E:Value->Shared->Prop}{s:Shared}{scope:Scope}{globals:Addr}{cl:List (Str×Addr)}{qual:Str}{env:Env}{builtins:Addr}{Q:Env->Shared->Prop}
  (hQ:Q (newEnv scope s.heap.objs.size globals (cellsFrom (s.heap.objs.size+1) scope.names cl) qual none .none (some env) builtins) { s with heap:=pushCells (s.heap.push { cls:=.type "dict",data:=.dict #[] }) scope.names }) :
  wpAny M A (newFunctionEnv scope globals cl [] qual none .none (some env) builtins) Q E s:=by
 simp only[newFunctionEnv,Option.isSome_some,if_true]
 refine wpAny_bind (wpAny_alloc ?_)
 refine wpAny_bind (wpAny_layCells _ (fun name kind cells=>by cases hkc:kind==NameKind.cell<;>simp[hkc]) _ _ _ _ ?_)
 rw[show ({ s with heap:=s.heap.push { cls:=.type "dict",data:=.dict #[] } }:Shared).heap.objs.size=s.heap.objs.size+1 from Heap.size_push ..]
 simp only[List.forIn_nil]
 exact wpAny_bind (wpAny_pure (wpAny_pure hQ))
section
variable {X:Cx} {pins:List (Addr×Obj)} {σ:St} {H:Hp} {s2:Shared}
theorem ClOk.of{sc:Scope}{N':List Str}{ix:List Nat}{k:Nat}(I:Inv X pins σ H s2)(S:CSc X.env.scope X.N sc N' k ix){cl:List (Str×Addr)}(hcl1:∀ x c,cl.lookup x=some c->X.env.cells.lookup x=some c)(hcl2:∀ x,(x,NameKind.free)∈sc.names->∃ c,cl.lookup x=some c)
  {g:Heap} {o:Obj} (hg:s2.heap.objs.size<=g.objs.size):ClOk X sc (cellsFrom (g.objs.size+1) sc.names cl) g.objs.size (pushCells (g.push o) sc.names):=by
 have ok:=cellsFrom_ok sc.names (g.push o) (g.objs.size+1) [] ⟨(fun _ _ hm=>nomatch hm),List.Pairwise.nil⟩ (by rw[Heap.size_push];exact xi _)
 rw[Heap.size_push]at ok
 rw[zX]
 have hnew:∀ x c,(cellsFrom (g.objs.size+1) sc.names []).lookup x=some c->g.objs.size<c/\(pushCells (g.push o) sc.names).IsCell c none/\(x,NameKind.cell)∈sc.names:=fun x c e=>by
  have hm:=zQ e
  have:=ok.empty x c hm
  exact⟨Nat.lt_of_succ_le this.2,this.1,jz _ _ _ hm⟩
 have hold:∀ x c,cl.lookup x=some c->c<g.objs.size:=fun x c e=>by
  obtain⟨v,ob,hob,_⟩:=I.cell x c (hcl1 x c e)
  exact xk (Heap.lt_size hob) hg
 have hget:∀ x c,(cellsFrom (g.objs.size+1) sc.names []++cl).lookup x=some c->((cellsFrom (g.objs.size+1) sc.names []).lookup x=some c)∨((cellsFrom (g.objs.size+1) sc.names []).lookup x=none/\cl.lookup x=some c):=fun x c e=>by
  rw[ZV]at e
  cases q:(cellsFrom (g.objs.size+1) sc.names []).lookup x with
  |some v=>rw[q]at e;exact .inl e
  |none=>rw[q]at e;exact .inr ⟨rfl,e⟩
 have hnone:∀ x,sc.names.lookup x=some .free->(cellsFrom (g.objs.size+1) sc.names []).lookup x=none:=fun x hx=>by
  cases q:(cellsFrom (g.objs.size+1) sc.names []).lookup x with
  |none=>rfl
  |some c=>
   have:=S.cel (x,.cell) (hnew x c q).2.2 rfl
   rw[hx]at this;cases this
 refine⟨fun x c e=>?_,fun x y c e1 e2=>?_,fun x hx=>?_,fun x c hx e=>?_,fun x c hx e=>?_⟩
 ·rcases hget x c e with q | ⟨_,q⟩
  ·exact .inr ⟨(hnew x c q).1,(hnew x c q).2.1⟩
  ·exact .inl (hcl1 x c q)
 ·rcases hget x c e1 with q1 | ⟨_,q1⟩
  ·rcases hget y c e2 with q2 | ⟨_,q2⟩
   ·have m1:=zQ q1
    have m2:=zQ q2
    by_cases hxy:x=y
    ·exact hxy
    ·exfalso
     have:=ok.apart
     obtain⟨i,hi,ei⟩:=List.getElem_of_mem m1
     obtain⟨j,hj,ej⟩:=List.getElem_of_mem m2
     have pw:=List.pairwise_iff_getElem.mp this
     rcases Nat.lt_trichotomy i j with h | h | h
     ·have:=pw i j hi hj h
      rw[ei,ej]at this;exact this rfl
     ·subst h
      rw[ei]at ej
      exact hxy (congrArg Prod.fst ej)
     ·have:=pw j i hj hi h
      rw[ei,ej]at this;exact this rfl
   ·exact absurd (hold y c q2) (Nat.not_lt.mpr (xZ (hnew x c q1).1))
  ·rcases hget y c e2 with q2 | ⟨_,q2⟩
   ·exact absurd (hold x c q1) (Nat.not_lt.mpr (xZ (hnew y c q2).1))
   ·exact I.ok.inj x y c (hcl1 x c q1) (hcl1 y c q2)
 ·rw[ZV]
  rcases hx with hx | hx
  ·rw[hnone x hx]
   exact hcl2 x (zQ hx)
  ·obtain⟨c,hc⟩:=Z9 (n:=g.objs.size+1) hx
   rw[hc];exact⟨c,rfl⟩
 ·rcases hget x c e with q | ⟨q,_⟩
  ·exact (hnew x c q).1
  ·obtain⟨c',hc⟩:=Z9 (n:=g.objs.size+1) hx
   rw[hc]at q;cases q
 ·rcases hget x c e with q | ⟨_,q⟩
  ·rw[hnone x hx]at q;cases q
  ·exact hcl1 x c q
theorem Inv.child{fp:List Addr}{sc:Scope}{N':List Str}{ix:List Nat}{k:Nat}(I:Inv X pins σ H s2)(S:CSc X.env.scope X.N sc N' k ix)(hf:∀ b∈fp,Qv X pins H b)
  (hfo:∀ b∈fp,∃ o,s2.heap.get? b=some o) {cl:List (Str×Addr)}
  {C:Addr} {s4:Shared} (L:ClOk X sc cl C s4.heap) (hC:s2.heap.objs.size<=C) (keep:∀ b o,s2.heap.get? b=some o->s4.heap.get? b=some o) {m0:Str->Option Value} (hns:s4.heap.Ns C m0) (ho:s4.os=s2.os) (hg:AllBare s4.gens) :
  Inv (X.comp N' sc cl C s2 H fp) [] (cS k ix σ) H s4 where
 ok:={
  mod:=I.ok.mod
  kind:=S.kind
  glob:=I.ok.glob
  blt:=I.ok.blt
  above:=hC
  inj:=L.inj
  has:=fun x hx=>L.has x (Qp (env:=X.env) hx)
  cab:=fun x c h e=>xA hC (xZ (L.own x c (of_decide_eq_true h) e))
  hd:=I.ok.hd
  frames:=I.ok.frames
  stk:=.inl rfl
  exf:=fun b hb=>by
   obtain⟨f0,f1,f2,f3,f4,f5⟩:=hf b hb
   obtain⟨o,e⟩:=hfo b hb
   refine⟨xm (xk (Heap.lt_size e) hC),fun x c z=>?_⟩
   rcases L.src x c z with z | z
   ·exact f4 x c z
   ·exact Ne.symm (xm (Nat.lt_trans (xk (Heap.lt_size e) hC) z.1))
  bs:=fun b o e=>I.bs b o e
  bsz:=xA I.ok.bsz I.sz
  noex:=fun b o e hb=>by
   obtain⟨f0,f1,f2,f3,f4,f5⟩:=hf b hb
   rcases f3 with z | z
   ·exact I.ok.noex b o e z
   ·exact absurd (xk (Heap.lt_size (I.ok.bs b o e).1) z) (xO _)
  exfs:=fun b hb hz=>by
   obtain⟨f0,f1,f2,f3,f4,f5⟩:=hf b hb
   rcases xy.mp (I.stkSub b hz)with z | z
   ·exact f1 z
   ·exact f2 z
  funs:=I.stack
  frf:=I.stkFree }
 os:=ho
 bare:=hg
 base:=Un.kept keep
 loc:=⟨m0,hns,fun i x v e1 e2 e3=>by
  unfold cS at e2
  by_cases hi:i<k
  ·rw[xc (by simpa using hi),xJ,if_pos hi]at e2
   cases e2
  ·obtain⟨j,rfl⟩:∃ j,i=k+j:=⟨i-k,by omega⟩
   rw[xf (by simp),uh,Nat.add_sub_cancel_left,xB]at e2
   cases q:ix[j]? with
   |none=>rw[q]at e2;cases e2
   |some i0=>
    rw[q]at e2
    obtain⟨y,hy1,hy2,hy3⟩:=S.cap j i0 q
    have ey:y=x:=by
     have:(X.comp N' sc cl C s2 H fp).N[k+j]?=some y:=hy1
     rw[this]at e1;exact Option.some.inj e1
    subst ey
    have ev:σ[i0]?=some (some v):=by
     simp only[Option.map_some,Option.some.injEq]at e2
     cases r:σ[i0]? with
     |none=>rw[r]at e2;cases e2
     |some z=>rw[r]at e2;exact congrArg some e2
    obtain⟨m,hn,hl⟩:=I.loc
    have hfr:=S.fre (y,.free) (zQ hy3) rfl
    have hv:Vis X.env.scope y:=.inr hfr
    obtain⟨u,r1,l1⟩:=hl i0 y v hy2 ev hv
    refine⟨u,r1,.inr ⟨JV (env:=X.env) hy3,?_⟩⟩
    obtain⟨c,hc⟩:=L.has y (.inl hy3)
    refine⟨c,hc,?_⟩
    have hc':=L.old y c hy3 hc
    rcases l1 with ⟨hk,_⟩ | ⟨_,c',hc2,z⟩
    ·have hk':X.env.scope.names.lookup y=some .local:=hk
     rcases hfr with w | w
     ·rw[hk']at w;cases w
     ·rw[hk']at w;cases w
    ·rw[hc']at hc2;cases hc2
     obtain⟨ob,hob,hd⟩:=z
     exact⟨ob,keep _ _ hob,hd⟩⟩
 cell:=fun x c e=>by
  rcases L.src x c e with e | e
  ·obtain⟨v,ob,hob,hd⟩:=I.cell x c e
   exact⟨v,ob,keep _ _ hob,hd⟩
  ·exact⟨none,e.2⟩
 free:=I.hok.fresh hC
 freeC:=fun x c e=>by
  rcases L.src x c e with e | e
  ·exact I.freeC x c e
  ·exact I.hok.fresh (xA hC (xZ e.1))
 pin:=fun p hp=>by cases hp
 hok:=I.hok.kept keep
 len:=by
  show (cS k ix σ).length=N'.length
  rw[S.len];unfold cS;simp
theorem Inv.back{fp:List Addr}{sc:Scope}{N':List Str}{cl:List (Str×Addr)}{C:Addr}{pl:List (Addr×Obj)}{σc:St}{H5:Hp}{s5:Shared}(I:Inv X pins σ H s2)(hf:∀ b∈fp,Qv X pins H b)(J:Inv (X.comp N' sc cl C s2 H fp) pl σc H5 s5):Inv X pins σ H5 s5 :=
 I.call' (ch:=fp) J.os J.base J.hok J.bare fun b hb=>by
  obtain⟨f0,f1,f2,f3,f4,f5⟩:=hf b hb
  exact⟨f3,f1,f4,f5⟩
end
section
variable {X:Cx} {pins:List (Addr×Obj)} {σ:St} {H:Hp} {s:Shared}
theorem Inv.track{a:Addr}{o:HO}(I:Inv X pins σ H s)(ha:X.s₀.heap.objs.size<=a)(hn:H a=none)(hL:a≠X.env.locals)(hc:∀ x c,X.env.cells.lookup x=some c->c≠a)(hp:∀ p∈X.pn++pins,p.1≠a)
  (new:ObjOk X.prog X.w (upd H a o) s.heap a o):Inv X pins σ (upd H a o) s where
 ok:=I.ok
 os:=I.os
 bare:=I.bare
 base:={
  keep:=I.base.keep
  slot:=I.base.slot
  free:=fun b ob e n hx=>by
   rw[zf (xm (xk (Heap.lt_size e) ha))]
   exact I.base.free b ob e n hx
  there:=I.base.there
  tups:=fun b xs e=>by
   have:=I.base.tups b xs e
   rw[zf (zA this hn)];exact this
  frzs:=fun b ob u e=>by
   have:=I.base.frzs b ob u e
   rw[zf (zA this hn)];exact this
  tbls:=fun b ps e=>by
   obtain⟨mo,this⟩:=I.base.tbls b ps e
   exact⟨mo,by rw[zf (zA this hn)];exact this⟩ }
 loc:=I.loc
 cell:=I.cell
 free:=by rw[zf (Ne.symm hL)];exact I.free
 freeC:=fun x c e=>by rw[zf (hc x c e)];exact I.freeC x c e
 pin:=fun p h=>by
  obtain⟨e,n,r⟩:=I.pin p h
  exact⟨e,by rw[zf (hp p h)];exact n,r⟩
 hok:=fun b u q=>by
  by_cases hb:b=a
  ·subst hb;rw[zh]at q;cases q;exact new
  ·rw[zf hb]at q
   exact (I.hok b u q).stay (fun c v _ r=>r) (fun c r=>by rw[zf (zA r hn)];exact r) fun c xs r=>by rw[zf (zA r hn)];exact r
 len:=I.len
end
noncomputable def PF(X:Cx)(ifs:List Expr)(t:TT):Prop :=
 ∀ (pins:List (Addr×Obj)) (s:Shared) (σ:St) (H:Hp) (Q:Bool->Hp->Prop),Inv X pins σ H s->t σ H Q ->
  wpAny (model X.prog X.w) X.A (forIn ifs true fun c r=>if r=true then do let ok<-isTrue c X.env (eval c X.env);pure (ForInStep.yield ok) else pure (ForInStep.yield r)) (TP X pins σ Q) X.xe s
noncomputable def zgO:TT:=fun _ H Q=>Q true H
theorem pf_nil{X:Cx}:PF X [] zgO:=fun _ _ _ H _ I h=>wpAny_tests_nil ⟨H,I,h⟩
theorem zeN{X:Cx}{c:Expr}{t:TT}(h:PT X c t):PF X [c] t:=fun pins s σ H Q I hw=>wpAny_tests_one (h pins s σ H Q I hw)
theorem Ve{prog:Program}{w:World}{A:Around}{R:Result->Shared->Prop}{s:Shared}{e target iter:Expr}{ifs:List Expr}{it acc:Value}{env:Env}{act:Sem Unit}(hlp:∀ (R:Result->Shared->Prop) (s:Shared) (I:Nat->Shared->Prop) (n:Nat),(∀ n s,I n s->wpAny (model prog w) A ((compTurn e 0 it acc env).onRaise (fun x=>do noteFrame x env;theTreesLotGoes x)) (fun fin s'=>match fin with
   |.done f=>R (.ok f) s'
   |.again c'=>c'=Code.compLoop e 0 it acc env/\∃ m,m<n/\I m s') (fun e s'=>R (.error e) s') s)->I n s->codeAny (model prog w) A (.compLoop e 0 it acc env) R s)
  (heq:compTurn e 0 it acc env=(do
   standAt iter.pos
   match<-pyNext it with
   |none=>pure (.done .next)
   |some v=>
    letOwnedTupleGo target it v
    assign target env v
    let mut ok:=true
    for c in ifs do
     if ok then ok<-isTrue c env (eval c env)
    if ok then act
    again (.compLoop e 0 it acc env))) (I:Nat->Shared->Prop)
  (turn:∀ n s,I n s->wpAny (model prog w) A (pyNext it) (fun r s₁=>match r with
   |none=>R (.ok .next) s₁
   |some v=>wpAny (model prog w) A (letOwnedTupleGo target it v) (fun _ s₁=>wpAny (model prog w) A (assign target env v) (fun _ s₂=>
     wpAny (model prog w) A (forIn ifs true fun c r=>if r=true then do let ok<-isTrue c env (eval c env);pure (ForInStep.yield ok) else pure (ForInStep.yield r)) (fun ok s₃=>
      if ok=true then wpAny (model prog w) A act (fun _ s₅=>∃ m,m<n/\I m s₅) (notedBy (model prog w) A env fun e s'=>R (.error e) s') s₃
      else ∃ m,m<n/\I m s₃) (notedBy (model prog w) A env fun e s'=>R (.error e) s') s₂) (notedBy (model prog w) A env fun e s'=>R (.error e) s') s₁) (notedBy (model prog w) A env fun e s'=>R (.error e) s') s₁) (notedBy (model prog w) A env fun e s'=>R (.error e) s') s)
  (n:Nat) (h:I n s):codeAny (model prog w) A (.compLoop e 0 it acc env) R s:=by
 refine hlp R s I n (fun n s hI=>?_) h
 refine wpAny_noted ?_
 rw[heq]
 refine wpAny_bind (wpAny_standAt (wpAny_bind (wpAny_mono (turn n s hI) (fun r s₁ h₁=>?_) fun _ _ f=>f)))
 cases r with
 |none=>exact wpAny_pure h₁
 |some v=>
  refine wpAny_bind (wpAny_mono h₁ (fun _ s₂ h₂=>?_) fun _ _ f=>f)
  refine wpAny_bind (wpAny_mono h₂ (fun _ s₂ h₂=>wpAny_bind (wpAny_mono h₂ (fun ok s₃ h₃=>?_) fun _ _ f=>f)) fun _ _ f=>f)
  cases ok with
  |false=>exact wpAny_pure ⟨rfl,h₃⟩
  |true=>exact wpAny_bind (wpAny_mono h₃ (fun _ s₅ h₅=>wpAny_pure ⟨rfl,h₅⟩) fun _ _ f=>f)
structure Acc(α β:Type) where
 a0:α
 add:α->β->α
 len:α->Nat
 ho:α->HO
noncomputable def vf{α β:Type}(ac:Acc α β)(k:Nat)(ix:List Nat)(g:TG)(tt:TT)(te:St->Hp->(β->Hp->Prop)->Prop)(σ:St)(J:It)(H1:Hp)(Q:α->Hp->Prop):Prop :=
 ∃ W:Nat->Nat->α->Hp->Prop,(∃ m,W 0 m ac.a0 H1)/\∀ i m ys H,W i m ys H->ac.len ys<sizeLine /\
  ((J.stop i H/\Q ys H)∨(J.go i H/\∃ N:α->Hp->Prop,(∀ ys' H',N ys' H'->∃ m',m'<m/\W (i+1) m' ys' H')/\∀ x H',J.yld i H x H'->g x (cS k ix σ) H' fun σ2 H2=>σ2.drop k=(cS k ix σ).drop k/\tt σ2 H2 fun b H3=>
   if b=true then te σ2 H3 fun y H4=>N (ac.add ys y) H4 else N ys H3))
noncomputable abbrev zbM:Acc (List V) V:=⟨[],fun ys y=>ys++ [y],List.length,.lst⟩
noncomputable abbrev zbL:Acc (List (Key×V)) (Key×V):=⟨[],fun ys y=>yI ys y.1 y.2,List.length,.dK⟩
noncomputable def WT(k:Nat)(ix:List Nat)(wi:TI)(g:St->TG)(tt:St->TT)(te:St->TE):TE:=fun σ H Q=>
 wi σ H fun J H1=>vf zbM k ix (g σ) (tt σ) (te σ) σ J H1 fun ys H2=>∀ p,H2 p=none->Q (.ref p) (upd H2 p (.lst ys))
noncomputable def VU(tk tv:TE):St->Hp->(Key×V->Hp->Prop)->Prop:=fun σ H Q=>tk σ H fun x H1=>tv σ H1 fun y H2=>∃ k,x=kV k/\Q (k,y) H2
noncomputable def JM(k:Nat)(ix:List Nat)(wi:TI)(g:St->TG)(tt:St->TT)(te:St->St->Hp->(Key×V->Hp->Prop)->Prop):TE:=fun σ H Q=>
 wi σ H fun J H1=>vf zbL k ix (g σ) (tt σ) (te σ) σ J H1 fun ys H2=>∀ p,H2 p=none->Q (.ref p) (upd H2 p (.dK ys))
structure zdN(P:Program)(w:World){α β γ:Type}(ac:Acc α β)(OK:α->Obj->Prop)(RB:β->γ->Prop)(o0:Obj)(na:Sem Value)(st:Addr->γ->Sem Unit):Prop where
 new:∀ (A:Around) (E:Value->Shared->Prop) (s:Shared) (Q:Value->Shared->Prop),Q (.ref s.heap.objs.size) { s with heap:=s.heap.push o0 }->wpAny (model P w) A na Q E s
 z0:OK ac.a0 o0
 live:o0.isFreed=false
 cell:∀ a o,OK a o->∀ v,o.data≠ .cell v
 st:∀ (A:Around) (E:Value->Shared->Prop) (s:Shared) (Q:Unit->Shared->Prop) (D:Addr) (a:α) (o:Obj) (y:β) (b:γ),OK a o->ac.len a<sizeLine->RB y b->s.heap.get? D=some o ->
  (∀ h' o' t',Heap.SameBut D s.heap h'->h'.get? D=some o'->OK (ac.add a y) o'->Q () { s with heap:=h',toks:=t' })->wpAny (model P w) A (st D b) Q E s
 ok:∀ (H:Hp) (h:Heap) (D:Addr) (a:α) (o:Obj),OK a o->ac.len a<=sizeLine->sysModules<D->h.get? D=some o->ObjOk P w H h D (ac.ho a)
noncomputable def PEv(X:Cx){β γ:Type}(RB:β->γ->Prop)(st:Addr->γ->Sem Unit)(act:Addr->Env->Sem Unit)(te:St->Hp->(β->Hp->Prop)->Prop):Prop:=∀ (D:Addr) (pins:List (Addr×Obj)) (s:Shared) (σ:St) (H:Hp) (Q:β->Hp->Prop) (R:Unit->Shared->Prop),Inv X pins σ H s->te σ H Q ->
 (∀ y b s' H',Inv X pins σ H' s'->RB y b->Q y H'->wpAny (model X.prog X.w) X.A (st D b) R X.xe s')->wpAny (model X.prog X.w) X.A (act D X.env) R X.xe s
section
variable {X:Cx} {pins:List (Addr×Obj)} {σ:St} {H:Hp} {s2:Shared}
theorem WA{α β γ:Type}{ac:Acc α β}{OK:α->Obj->Prop}{RB:β->γ->Prop}{o0:Obj}{na:Sem Value}{sto:Addr->γ->Sem Unit}{act:Addr->Env->Sem Unit}{e tg iter:Expr}{ifs:List Expr}{scope:Scope}{N':List Str}{k:Nat}{ix:List Nat}{g:TG}{tt:TT}{te:St->Hp->(β->Hp->Prop)->Prop}{cl:List (Str×Addr)}{it:Addr}{fp:List Addr}{tn:Nat->Heap->Prop}{J:It}
  {Q:α->Hp->Prop} {RR:Value->Addr->Result->Shared->Prop} {E:Value->Shared->Prop} (AK:zdN X.prog X.w ac OK RB o0 na sto)
  (hlp:∀ (it acc:Value) (env:Env) (R:Result->Shared->Prop) (s:Shared) (I:Nat->Shared->Prop) (n:Nat),(∀ n s,I n s->wpAny (model X.prog X.w) X.A ((compTurn e 0 it acc env).onRaise (fun x=>do noteFrame x env;theTreesLotGoes x)) (fun fin s'=>match fin with
   |.done f=>R (.ok f) s'
   |.again c'=>c'=Code.compLoop e 0 it acc env/\∃ m,m<n/\I m s') (fun e s'=>R (.error e) s') s)->I n s->codeAny (model X.prog X.w) X.A (.compLoop e 0 it acc env) R s)
  (heq:∀ it D env,compTurn e 0 it (.ref D) env=(do
   standAt iter.pos
   match<-pyNext it with
   |none=>pure (.done .next)
   |some v=>
    letOwnedTupleGo tg it v
    assign tg env v
    let mut ok:=true
    for c in ifs do
     if ok then ok<-isTrue c env (eval c env)
    if ok then act D env
    again (.compLoop e 0 it (.ref D) env)))
  (hstart:∀ (R:Result->Shared->Prop) (s:Shared) (it acc:Value) (env:Env),codeAny (model X.prog X.w) X.A (.compLoop e 0 it acc env) R s->wpAny (model X.prog X.w) X.A (pyIter it) (fun it' s'=>codeAny (model X.prog X.w) X.A (.compLoop e 0 it' acc env) R s') (notedBy (model X.prog X.w) X.A env fun x s'=>R (.error x) s') s ->
   codeAny (model X.prog X.w) X.A (.compStart e 0 it acc env) R s) (hcalm:X.calm=true)
  (S:CSc X.env.scope X.N scope N' k ix)
  (hg:∀ cl C s2 H2 fp,Cat X σ C s2 H2 fp->PG (X.comp N' scope cl C s2 H2 fp) tg g) (ht:∀ cl C s2 H2 fp,Cat X σ C s2 H2 fp->PF (X.comp N' scope cl C s2 H2 fp) ifs tt) (he:∀ cl C s2 H2 fp,Cat X σ C s2 H2 fp->PEv (X.comp N' scope cl C s2 H2 fp) RB sto act te)
  (I2:Inv X pins σ H s2) (T:v0 X.prog X.w X.K tg J fp it tn) (st2:tn 0 s2.heap) (f2:∀ b∈fp,Qv X pins H b) (hR:vf ac k ix g tt te σ J H Q)
  (hcl1:∀ x c,cl.lookup x=some c->X.env.cells.lookup x=some c) (hcl2:∀ x,(x,NameKind.free)∈scope.names->∃ c,cl.lookup x=some c)
  (herr:∀ (D C:Addr) (x:Value) (s':Shared),YO X C x s'->RR (.ref D) C (.error x) s')
  (fin:∀ (D C:Addr) (ys:α) (H5:Hp) (s5:Shared) (m:Str->Option Value),Inv X pins σ (upd H5 D (ac.ho ys)) s5->Q ys H5->H5 D=none->s5.heap.Ns C m->C≠D->s2.heap.objs.size<=C->upd H5 D (ac.ho ys) C=none ->
   RR (.ref D) C (.ok .next) s5) :
  wpAny (model X.prog X.w) X.A na (fun acc s₃=>wpAny (model X.prog X.w) X.A (newFunctionEnv scope X.env.globals cl [] X.env.qual none .none (some X.env)) (fun cenv s₄=>
   codeAny (model X.prog X.w) X.A (.compStart e 0 (.ref it) acc { cenv with scope:=relabel scope X.env }) (RR acc cenv.locals) s₄) E s₃) E s2:=by
 refine AK.new _ _ _ _ (Wf ?_)
 dsimp only
 generalize hH2:s2.heap.push o0=G2
 have hC:G2.objs.size=s2.heap.objs.size+1:=by rw[<- hH2,Heap.size_push]
 have hDC:s2.heap.objs.size≠G2.objs.size:=by rw[hC];exact xm (Nat.lt_succ_self _)
 have hCle:s2.heap.objs.size<=G2.objs.size:=by rw[hC];exact Nat.le_succ _
 have cat:Cat X σ G2.objs.size s2 H fp:=⟨pins,I2,f2,hCle⟩
 have L:=ClOk.of I2 S hcl1 hcl2 (g:=G2) (o:={ cls:=.type "dict",data:=.dict #[] }) hCle
 have below:∀ b,b<s2.heap.objs.size->b≠G2.objs.size/\b≠s2.heap.objs.size:=fun b hb=>⟨by rw[hC];exact xm (Nat.lt_succ_of_lt hb),xm hb⟩
 have old:∀ b o,s2.heap.get? b=some o->(pushCells (G2.push { cls:=.type "dict",data:=.dict #[] }) scope.names).get? b=some o:=fun b o e=>pushCells_keeps _ _ b o (Heap.get?_push_of_some _ (hH2 ▸ Heap.get?_push_of_some _ e))
 have hacc:(pushCells (G2.push { cls:=.type "dict",data:=.dict #[] }) scope.names).get? s2.heap.objs.size=some o0:=pushCells_keeps _ _ _ _ (Heap.get?_push_of_some _ (hH2 ▸ Heap.get?_push_size _ AK.live))
 have hns₁:(pushCells (G2.push { cls:=.type "dict",data:=.dict #[] }) scope.names).Ns G2.objs.size _:=(Heap.Ns.new G2 (.type "dict")).keeps (pushCells_keeps _ _)
 generalize pushCells (G2.push { cls:=.type "dict",data:=.dict #[] }) scope.names=h₁ at L old hacc hns₁ |-
 generalize cellsFrom (G2.objs.size+1) scope.names cl=cl2 at L |-
 have st1:tn 0 h₁:=T.keep _ _ _ st2 fun b _ o e=>old b o e
 have hfo:∀ b∈fp,∃ o,s2.heap.get? b=some o:=fun b hb=>let ⟨o,e,_⟩:=T.obj _ _ st2 b hb;⟨o,e⟩
 have Ic:Inv (X.comp N' scope cl2 G2.objs.size s2 H fp) [] (cS k ix σ) H { s2 with heap:=h₁ } :=
  I2.child S f2 hfo L hCle old hns₁ rfl I2.bare
 -- the accumulator D,as a pin
 have dfs:s2.heap.objs.size∉(X.comp N' scope cl2 G2.objs.size s2 H fp).fs:=fun hz=>by
  rcases xy.mp (I2.stkSub _ hz)with z | z
  ·exact absurd I2.lt (by rw[<- z];exact xO _)
  ·exact I2.nofs (xi _) z
 have dcell:∀ x c,cl2.lookup x=some c->c≠s2.heap.objs.size:=fun x c e=>by
  rcases L.src x c e with e | e
  ·obtain⟨v,ob,hob,_⟩:=I2.cell x c e
   exact xm (Heap.lt_size hob)
  ·exact Ne.symm (xm (Nat.lt_of_le_of_lt hCle e.1))
 have dpin:∀ (ys:α) (ob:Obj) (σ':St) (H':Hp) (s':Shared),Inv (X.comp N' scope cl2 G2.objs.size s2 H fp) [] σ' H' s'->OK ys ob->s'.heap.get? s2.heap.objs.size=some ob->H' s2.heap.objs.size=none ->
   Inv (X.comp N' scope cl2 G2.objs.size s2 H fp) [(s2.heap.objs.size,ob)] σ' H' s':=fun ys ob σ' H' s' I' ok e hn=>I'.pins_of fun p hp=>by
  have e':p=(s2.heap.objs.size,ob):=by simpa using hp
  subst e'
  exact⟨e,hn,hDC,dfs,fun v z=>AK.cell _ _ ok v z⟩
 have fpc:∀ (ob:Obj) (H':Hp),(∀ b∈fp,H' b=none)->∀ b∈fp,Qv (X.comp N' scope cl2 G2.objs.size s2 H fp) [(s2.heap.objs.size,ob)] H' b:=fun ob H' hn b hb=>by
  obtain⟨f0,f1,f2',f3,f4,f5⟩:=f2 b hb
  obtain⟨o,e⟩:=hfo b hb
  have hb2:=below b (Heap.lt_size e)
  refine⟨hn b hb,hb2.1,fun hz=>?_,.inl hb,fun x c z=>?_,fun p hp=>?_⟩
  ·rcases xy.mp (I2.stkSub b hz)with z | z
   ·exact f1 z
   ·exact f2' z
  ·rcases L.src x c z with z | z
   ·exact f4 x c z
   ·exact Ne.symm (xm (Nat.lt_trans (xk (Heap.lt_size e) hCle) z.1))
  ·have e':p=(s2.heap.objs.size,ob):=by simpa using hp
   subst e'
   exact Ne.symm hb2.2
 obtain⟨W,⟨m0,w0⟩,turn⟩:=hR
 have loop:codeAny (model X.prog X.w) X.A (.compLoop e 0 (.ref it) (.ref s2.heap.objs.size) (compEnvC scope cl2 G2.objs.size X.env)) (RR (.ref s2.heap.objs.size) G2.objs.size)
   { s2 with heap:=h₁ }:=by
  have hxe:∀ x s',(X.comp N' scope cl2 G2.objs.size s2 H fp).xe x s'->notedBy (model X.prog X.w) X.A (compEnvC scope cl2 G2.objs.size X.env) (fun e s'=>RR (.ref s2.heap.objs.size) G2.objs.size (.error e) s') x s':=fun x s' h=>
   wpAny_mono h (fun _ s'' q=>herr _ _ _ _ q) fun _ s'' q=>herr _ _ _ _ q
  have thnX:∀ {τ:Type} {m:Sem τ} {Q1:τ->Shared->Prop} {Q2:τ->Shared->Prop} {s':Shared},wpAny (model X.prog X.w) X.A m Q1 (X.comp N' scope cl2 G2.objs.size s2 H fp).xe s'->(∀ v s'',Q1 v s''->Q2 v s'')->wpAny (model X.prog X.w) X.A m Q2 (notedBy (model X.prog X.w) X.A (compEnvC scope cl2 G2.objs.size X.env) (fun e s'=>RR (.ref s2.heap.objs.size) G2.objs.size (.error e) s')) s':=fun h k=>wpAny_mono h k hxe
  refine Ve (hlp _ _ _) (heq _ _ _) (fun n s'=>∃ i ys ob H',Inv (X.comp N' scope cl2 G2.objs.size s2 H fp) [(s2.heap.objs.size,ob)] (cS k ix σ) H' s'/\OK ys ob/\tn i s'.heap/\(∀ b∈fp,H' b=none)/\W i n ys H') ?_ m0
   ⟨0,_,o0,H,dpin _ _ _ _ _ Ic AK.z0 hacc (I2.hok.fresh (xi _)),AK.z0,st1,fun b hb=>(f2 b hb).1,w0⟩
  rintro n s3 ⟨i,ys,ob,H3,I3,rv,st3,fr3,w3⟩
  obtain⟨hlen,hw⟩:=turn i n ys H3 w3
  have hDn:H3 s2.heap.objs.size=none:=(I3.pin (s2.heap.objs.size,ob) (by simp)).2.1
  have hDe:s3.heap.get? s2.heap.objs.size=some ob:=(I3.pin (s2.heap.objs.size,ob) (by simp)).1
  rcases hw with ⟨stop,q⟩ | ⟨go,N,hN,step⟩
  ·refine thn (T.done (X.comp N' scope cl2 G2.objs.size s2 H fp) rfl rfl rfl hcalm i _ s3 _ H3 _ I3 (fpc _ _ fr3) st3 stop) fun r s4 ⟨hr,I4⟩=>?_
   subst hr
   have hDe4:s4.heap.get? s2.heap.objs.size=some ob:=(I4.pin (s2.heap.objs.size,ob) (by simp)).1
   have Ib:Inv X pins σ H3 s4:=I2.back f2 I4
   have hz:ac.len ys<=sizeLine:=xZ hlen
   obtain⟨m',hn',_⟩:=I4.loc
   have It:Inv X pins σ (upd H3 s2.heap.objs.size (ac.ho ys)) s4:=Ib.track I2.sz hDn (Ne.symm (xm I2.lt)) (fun x c e=>by
    obtain⟨v,ob,hob,_⟩:=I2.cell x c e
    exact xm (Heap.lt_size hob)) (fun p hp=>xm (Heap.lt_size (I2.pin p hp).1)) (AK.ok _ _ _ _ _ rv hz I2.big hDe4)
   exact fin _ _ ys H3 s4 m' It q hDn hn' (Ne.symm hDC) hCle (by rw[zf (Ne.symm hDC)];exact I4.free)
  ·refine thn (T.item (X.comp N' scope cl2 G2.objs.size s2 H fp) rfl rfl rfl hcalm i _ s3 _ H3 _ I3 (fpc _ _ fr3) st3 go) fun r s4 ⟨u,hr,h4⟩=>?_
   subst hr
   refine thn h4 fun _ s5 ⟨x,H5,I5,r5,y5,st5,fr5⟩=>?_
   have I5':=I5.pinned (fpc ob H5 fr5) (T.obj _ _ st5)
   refine thnX (hg _ _ _ _ _ cat _ s5 _ H5 x u _ I5' r5 (step x H5 y5)) fun _ s6 ⟨σ6,H6,I6,hσ,q6⟩=>?_
   refine thnX (ht _ _ _ _ _ cat _ s6 σ6 H6 _ I6 q6) fun ok s7 ⟨H7,I7,q7⟩=>?_
   have wk:∀ {pl:List (Addr×Obj)} {H':Hp} {s':Shared},Inv (X.comp N' scope cl2 G2.objs.size s2 H fp) pl σ6 H' s'->Inv (X.comp N' scope cl2 G2.objs.size s2 H fp) pl (cS k ix σ) H' s':=fun {pl H' s'} I'=>
    I'.weak (by rw[Ic.len,I'.len]) fun j v ev=>by
     by_cases hj:j<k
     ·unfold cS at ev
      rw[xc (by simpa using hj),xJ,if_pos hj]at ev
      cases ev
     ·obtain⟨j',rfl⟩:∃ j',j=k+j':=⟨j-k,by omega⟩
      rw[<- List.getElem?_drop,hσ,List.getElem?_drop]
      exact ev
   have itk:∀ {σ':St} {H':Hp} {s':Shared},Inv (X.comp N' scope cl2 G2.objs.size s2 H fp) ([(s2.heap.objs.size,ob)]++wE fp s5.heap) σ' H' s'->tn (i+1) s'.heap/\∀ b∈fp,H' b=none:=fun {σ' H' s'} I'=>
    ⟨T.keep _ _ _ st5 fun b hb o e=>(I'.pin (b,o) (xt _ (xt _ (qV hb e)))).1,fun b hb=>by
     obtain⟨o,e,_⟩:=T.obj _ _ st5 b hb
     exact (I'.pin (b,o) (xt _ (xt _ (qV hb e)))).2.1⟩
   cases ok with
   |false=>
    rw[if_neg (by decide)]at q7 |-
    obtain⟨m',hm,w7⟩:=hN _ _ q7
    obtain⟨t7,f7⟩:=itk I7
    exact⟨m',hm,i+1,ys,ob,H7,wk I7.unpinned,rv,t7,f7,w7⟩
   |true=>
    rw[if_pos rfl]at q7 |-
    refine thnX (he _ _ _ _ _ cat s2.heap.objs.size _ s7 σ6 H7 _ _ I7 q7 fun y b s8 H8 I8 r8 n8q=>?_) fun _ _ q=>q
    obtain⟨m',hm,w8⟩:=hN _ _ n8q
    obtain⟨t8,f8⟩:=itk I8
    have I8':Inv (X.comp N' scope cl2 G2.objs.size s2 H fp) [(s2.heap.objs.size,ob)] σ6 H8 s8:=I8.unpinned
    have e8:s8.heap.get? s2.heap.objs.size=some ob:=(I8'.pin (s2.heap.objs.size,ob) (by simp)).1
    have n8:H8 s2.heap.objs.size=none:=(I8'.pin (s2.heap.objs.size,ob) (by simp)).2.1
    refine AK.st _ _ s8 _ _ ys ob y b rv hlen r8 e8 fun h' o' t' sb e9 ok9=>?_
    have I8n:Inv (X.comp N' scope cl2 G2.objs.size s2 H fp) [] σ6 H8 s8:=I8'.pins_of fun p hp=>by cases hp
    have I9:Inv (X.comp N' scope cl2 G2.objs.size s2 H fp) [] σ6 H8 { s8 with heap:=h',toks:=t' } :=
     I8n.turned (t':=t') (fun b o hb e=>(sb.2 b hb).trans e) n8 hDC (.inr (xi _)) (fun x c e=>dcell x c e) (fun p hp=>by cases hp)
    refine⟨m',hm,i+1,_,o',H8,wk (dpin _ _ _ _ _ I9 ok9 e9 n8),ok9,?_,f8,w8⟩
    exact T.keep _ _ _ t8 fun b hb o e=>(sb.2 b (by
     obtain⟨o',e'⟩:=hfo b hb
     exact (below b (Heap.lt_size e')).2)).trans e
 exact hstart _ _ _ _ _ loop (T.self X.A 0 _ _ _ st1 loop)
noncomputable abbrev zgd (ys:List Value) (n:Nat):Obj:={ cls:=.type "list",data:=.seq ys.toArray n }
theorem YU {P:Program}{w:World}:zdN P w zbM (fun ys o=>∃ its n,Vals ys its/\o=zgd its n) RelV (zgd [] 0) (newList []) (fun D b=>do let _<-call (.builtin "list.append") [.ref D,b]) where
 new A E s Q h:=wpAny_newObj_type h
 z0:=⟨[],0,.nil,rfl⟩
 live:=rfl
 cell a o h v z:=by
  obtain⟨its,n,_,rfl⟩:=h
  cases z
 st A E s Q D a o y b h hl r e k:=by
  obtain⟨its,n,rv,rfl⟩:=h
  refine wpAny_bind (call_meets F.slot_list_append ⟨_,e,rfl⟩ F.entry_list_append (F.args_list_append_2 _ _) (PySem.list_append D its.toArray n b (by
   have:=rv.length
   have hl':a.length<sizeLine:=hl
   rw[xl];omega)) ⟨e,wpAny_pure ?_⟩)
  have q9:=PySem.IsL.update e (·.push b)
  rw[show its.toArray.push b=(its++ [b]).toArray by simp]at q9
  exact k _ _ _ ⟨by simp[Heap.update],fun c hc=>Heap.get?_update_other s.heap _ (Ne.symm hc)⟩ q9 ⟨its++ [b],_,rv.append (.cons r .nil),rfl⟩
 ok H h D a o hk hz _ e:=by
  obtain⟨its,n,rv,rfl⟩:=hk
  exact⟨hz,its,n,rv,e⟩
theorem YT {P:Program}{w:World}:zdN P w zbL (fun ys o=>∃ vs,KV ys vs/\o.IsDictOf (qC P w) vs) (fun (y:Key×V) (b:Value×Value)=>RelV (kV y.1) b.1/\RelV y.2 b.2) { cls:=.type "dict",data:=.dict #[] } newDict (fun D b=>holding [b.1,b.2] (dictSet D b.1 b.2)) where
 new A E s Q h:=wpAny_newObj_type h
 z0:=by
  refine⟨[],.nil,?_⟩
  exact⟨#[],0,⟨rfl,rfl,rfl⟩,rfl,fun _ he=>by simp at he,Pairs.nil,List.nodup_nil⟩
 live:=rfl
 cell a o h v z:=by
  obtain⟨vs,_,es,ep,_,hd,_⟩:=h
  rw[hd]at z;cases z
 st A E s Q D a o y b h hl r e k:=by
  obtain⟨vs,rv,hd⟩:=h
  refine wpAny_holding (wpAny_dictSet_pairs (knd:=qC P w) (zdB r.1) (Heap.dictOf_iff.mpr ⟨o,e,hd⟩) (fun h' dd sb=>?_) (by rw[<- rv.length];exact xZ hl))
  obtain⟨o',e',r'⟩:=Heap.dictOf_iff.mp dd
  exact k h' o' _ sb e' ⟨_,rv.put y.1 r.2,r'⟩
 ok H h D a o hk hz hb e:=by
  obtain⟨vs,rv,hd⟩:=hk
  exact⟨hz,beq_eq_false_iff_ne.mpr (Nat.ne_of_gt hb),vs,rv,Heap.dictOf_iff.mpr ⟨o,e,hd⟩⟩
theorem jB{X:Cx}{pins:List (Addr×Obj)}{σ:St}{H:Hp}{s:Shared}{scope:Scope}{N':List Str}{k:Nat}{ix:List Nat}(I:Inv X pins σ H s)(S:CSc X.env.scope X.N scope N' k ix) :
  ∃ cl,closureFor scope X.env=pure cl/\(∀ x c,cl.lookup x=some c->X.env.cells.lookup x=some c)/\(∀ x,(x,NameKind.free)∈scope.names->∃ c,cl.lookup x=some c) :=
 yk fun y hy e=>by
  rcases S.fre y hy e with z | z
  ·exact I.ok.has _ (.inl z)
  ·exact I.ok.has _ (.inr z)
theorem Inv.letgo{H5:Hp}{s5:Shared}{σ5:St}{C:Addr}{h':Heap}(I2:Inv X pins σ H s2)(I5:Inv X pins σ5 H5 s5)(hCs:s2.heap.objs.size<=C)(hCn:H5 C=none)(hs:∀ b,b≠C->h'.get? b=s5.heap.get? b):Inv X pins σ5 H5 { s5 with heap:=h' } :=
 I5.turned (t':=s5.toks) (it:=C) (fun b o hb e=>(hs b hb).trans e) hCn (Ne.symm (xm (xk I2.lt hCs))) (.inr (xA I2.sz hCs))
  (fun x c e=>by
   obtain⟨v,ob,hob,_⟩:=I2.cell x c e
   exact xm (xk (Heap.lt_size hob) hCs))
  (fun p hp=>xm (xk (Heap.lt_size (I2.pin p hp).1) hCs))
end
section
variable {X:Cx} {elt tg iter:Expr} {ifs:List Expr} {scope:Scope} {pos:Pos} {N':List Str} {k:Nat} {ix:List Nat} {g:St->TG} {tt:St->TT} {te:St->TE} {wi:TI}
theorem yT{it:Value}{D:Addr}{env:Env}:compTurn (.ListComp elt [⟨tg,iter,ifs,0⟩] scope pos) 0 it (.ref D) env=(do
   standAt iter.pos
   match<-pyNext it with
   |none=>pure (.done .next)
   |some v=>
    letOwnedTupleGo tg it v
    assign tg env v
    let mut ok:=true
    for c in ifs do
     if ok then ok<-isTrue c env (eval c env)
    if ok then (do let _<-call (.builtin "list.append") [.ref D,<- eval elt env])
    again (.compLoop (.ListComp elt [⟨tg,iter,ifs,0⟩] scope pos) 0 it (.ref D) env)):=compTurn_list elt tg iter ifs scope pos it (.ref D) env
theorem zav {X:Cx}{te:TE}(he:PE X elt te):PEv X RelV (fun D b=>do let _<-call (.builtin "list.append") [.ref D,b]) (fun D env=>do let _<-call (.builtin "list.append") [.ref D,<- eval elt env]) te:=fun D pins s σ H Q R I h k=>
 wpAny_bind (wpAny_mono (he pins s σ H Q I h) (fun b s' ⟨y,H',I',r,q⟩=>k y b s' H' I' r q) fun _ _ z=>z)
theorem WC(hcalm:X.calm=true)(S:CSc X.env.scope X.N scope N' k ix)
  {pins:List (Addr×Obj)} {σ:St} {H:Hp} {s2:Shared} {cl:List (Str×Addr)} {it:Addr} {fp:List Addr} {tn:Nat->Heap->Prop} {J:It} {Q:List V->Hp->Prop} {RR:Value->Addr->Result->Shared->Prop} {E:Value->Shared->Prop}
  (hg:∀ cl C s2 H2 fp,Cat X σ C s2 H2 fp->PG (X.comp N' scope cl C s2 H2 fp) tg (g σ)) (ht:∀ cl C s2 H2 fp,Cat X σ C s2 H2 fp->PF (X.comp N' scope cl C s2 H2 fp) ifs (tt σ)) (he:∀ cl C s2 H2 fp,Cat X σ C s2 H2 fp->PE (X.comp N' scope cl C s2 H2 fp) elt (te σ))
  (I2:Inv X pins σ H s2) (T:v0 X.prog X.w X.K tg J fp it tn) (st2:tn 0 s2.heap) (f2:∀ b∈fp,Qv X pins H b) (hR:vf zbM k ix (g σ) (tt σ) (te σ) σ J H Q)
  (hcl1:∀ x c,cl.lookup x=some c->X.env.cells.lookup x=some c) (hcl2:∀ x,(x,NameKind.free)∈scope.names->∃ c,cl.lookup x=some c)
  (herr:∀ (D C:Addr) (x:Value) (s':Shared),YO X C x s'->RR (.ref D) C (.error x) s')
  (fin:∀ (D C:Addr) (ys:List V) (H5:Hp) (s5:Shared) (m:Str->Option Value),Inv X pins σ (upd H5 D (.lst ys)) s5->Q ys H5->H5 D=none->s5.heap.Ns C m->C≠D->s2.heap.objs.size<=C->upd H5 D (.lst ys) C=none->RR (.ref D) C (.ok .next) s5) :
  wpAny (model X.prog X.w) X.A (newList []) (fun acc s₃=>wpAny (model X.prog X.w) X.A (newFunctionEnv scope X.env.globals cl [] X.env.qual none .none (some X.env)) (fun cenv s₄=>
   codeAny (model X.prog X.w) X.A (.compStart (.ListComp elt [⟨tg,iter,ifs,0⟩] scope pos) 0 (.ref it) acc { cenv with scope:=relabel scope X.env }) (RR acc cenv.locals) s₄) E s₃) E s2 :=
 WA YU (act:=fun D env=>do let _<-call (.builtin "list.append") [.ref D,<- eval elt env]) (fun it acc env R s I n h h0=>codeAny_loop rfl I h n h0) (fun _ _ _=>yT) (fun R s it acc env h0 h=>codeAny_compStart_list h0 h) hcalm S hg ht (fun cl C s2 H2 fp c=>zav (he cl C s2 H2 fp c)) I2 T st2 f2 hR hcl1 hcl2 herr fin
theorem zcr(hcalm:X.calm=true)(S:CSc X.env.scope X.N scope N' k ix)(hi:PI X tg iter wi)
  (hg:∀ σ cl C s2 H2 fp,Cat X σ C s2 H2 fp->PG (X.comp N' scope cl C s2 H2 fp) tg (g σ)) (ht:∀ σ cl C s2 H2 fp,Cat X σ C s2 H2 fp->PF (X.comp N' scope cl C s2 H2 fp) ifs (tt σ)) (he:∀ σ cl C s2 H2 fp,Cat X σ C s2 H2 fp->PE (X.comp N' scope cl C s2 H2 fp) elt (te σ))
  (hs:∀ x,foldedSetIterable iter X.env x=pure x:=by intro _;rfl):PE X (.ListComp elt [⟨tg,iter,ifs,0⟩] scope pos) (WT k ix wi g tt te):=by
 intro pins s σ H Q I h
 obtain⟨cl,ecl,hcl1,hcl2⟩:=jB I S
 rw[eval_ListComp]
 refine wpAny_comprehension_free (use:=none) rfl hs ecl S.kind S.loc (thn (hi pins s σ H _ I h) fun v s1 h1=>thn h1 fun itv s2 h2=>?_)
 obtain⟨it,fp,tn,J,H2,e,I2,T,st2,f2,hR⟩:=h2
 subst e
 refine WC (RR:=fun acc C=>compPost (model X.prog X.w) X.A X.xe none (EP X pins σ Q) acc C) hcalm S (hg σ) (ht σ) (he σ) I2 T st2 f2 hR hcl1 hcl2 (fun D C x s' h=>h) ?_
 intro D C ys H5 s5 m I5 q hD hn hCD hCs hCn
 exact⟨m,hn,fun h' hs'=>⟨.ref D,upd H5 D (.lst ys),I2.letgo I5 hCs hCn hs'.2,rfl,q D hD⟩⟩
theorem zcu{i:Nat}{x:Str}{pos' spos:Pos}(hN:X.N.Nodup)(hi':X.N[i]?=some x)(hx:Loc X.env.scope x)(hcalm:X.calm=true)(S:CSc X.env.scope X.N scope N' k ix)(hi:PI X tg iter wi)
  (hg:∀ σ cl C s2 H2 fp,Cat X σ C s2 H2 fp->PG (X.comp N' scope cl C s2 H2 fp) tg (g σ)) (ht:∀ σ cl C s2 H2 fp,Cat X σ C s2 H2 fp->PF (X.comp N' scope cl C s2 H2 fp) ifs (tt σ)) (he:∀ σ cl C s2 H2 fp,Cat X σ C s2 H2 fp->PE (X.comp N' scope cl C s2 H2 fp) elt (te σ))
  (hsw:swapsWith (.ListComp elt [⟨tg,iter,ifs,0⟩] scope pos) (some (.Name x pos')) spos.line X.env=pure true)
  (hs:∀ x,foldedSetIterable iter X.env x=pure x:=by intro _;rfl) (hf:X.fn x=true∨X.env.scope.names.lookup x=some .local:=by first | exact .inl rfl | exact .inr rfl | assumption) :
  PS X (.Assign [.Name x pos'] (.ListComp elt [⟨tg,iter,ifs,0⟩] scope pos) spos) (vO (WT k ix wi g tt te) (wm i)):=by
 intro pins s σ H D' I h
 obtain⟨cl,ecl,hcl1,hcl2⟩:=jB I S
 rw[exec_Assign_Name_used _ _ _ _ hsw]
 refine wpAny_bind (wpAny_standAt (wpAny_bind ?_))
 show wpAny _ X.A (do let _<-comprehension (.ListComp elt [⟨tg,iter,ifs,0⟩] scope pos) scope X.env _ (newList []) false (eval iter X.env) (some (assign (.Name x pos') X.env))) _ _ s
 refine wpAny_bind (wpAny_mono (wpAny_comprehension_free (use:=some (assign (.Name x pos') X.env)) (Q:=fun _ s'=>SP X pins D' .next s') rfl hs ecl S.kind S.loc
  (thn (hi pins s σ H _ I h) fun v s1 h1=>thn h1 fun itv s2 h2=>?_)) (fun _ s' hq=>wpAny_pure (wpAny_pure hq)) fun _ _ e=>e)
 obtain⟨it,fp,tn,J,H2,e,I2,T,st2,f2,hR⟩:=h2
 subst e
 refine WC (RR:=fun acc C=>compPost (model X.prog X.w) X.A X.xe (some (assign (.Name x pos') X.env)) (fun _ s'=>SP X pins D' .next s') acc C) hcalm S (hg σ) (ht σ) (he σ) I2 T st2 f2 hR hcl1 hcl2 (fun D C x s' h=>h) ?_
 intro D C ys H5 s5 m I5 q hD hn hCD hCs hCn
 show wpAny _ X.A (assign (.Name x pos') X.env (.ref D)) _ _ s5
 refine wpAny_assign_Name (JK (v:=.ref D) I5 hN hi' hx rfl (fun s' I' ⟨a,sb,ha⟩=>?_) hf)
 have hCa:C≠a:=by
  rcases ha with rfl | ha
  ·exact Ne.symm (xm (xk I2.lt hCs))
  ·obtain⟨v,ob,hob,_⟩:=I2.cell x a ha
   exact Ne.symm (xm (xk (Heap.lt_size hob) hCs))
 exact⟨m,hn.sameBut sb hCa,fun h' hs'=>⟨_,_,I2.letgo I' hCs hCn hs'.2,q D hD⟩⟩
end
section
variable {X:Cx} {kx vx tg iter:Expr} {ifs:List Expr} {scope:Scope} {pos:Pos} {N':List Str} {k:Nat} {ix:List Nat} {g:St->TG} {tt:St->TT} {tk tv:St->TE} {wi:TI}
theorem zau{X:Cx}{tk tv:TE}(hk:PE X kx tk)(hv:PE X vx tv):PEv X (fun (y:Key×V) (b:Value×Value)=>RelV (kV y.1) b.1/\RelV y.2 b.2) (fun D b=>holding [b.1,b.2] (dictSet D b.1 b.2)) (fun D env=>do
   let kv<-eval kx env
   let vv<-holding [kv] (eval vx env)
   standAt { kx.pos with endLine:=vx.pos.endLine,endCol:=vx.pos.endCol }
   holding [kv,vv] (dictSet D kv vv)) (VU tk tv):=fun D pins s σ H Q R I h kk=>
 wpAny_bind (wpAny_mono (hk pins s σ H _ I h) (fun kv s1 ⟨x,H1,I1,rx,q1⟩=>wpAny_bind (wpAny_holding (wpAny_mono (hv pins s1 σ H1 _ I1 q1) (fun vv s2 ⟨y,H2,I2,ry,k,ek,q2⟩=>
  wpAny_bind (wpAny_standAt (kk (k,y) (kv,vv) s2 H2 I2 ⟨by rw[<- ek];exact rx,ry⟩ q2))) fun _ _ z=>z))) fun _ _ z=>z)
theorem WB(hcalm:X.calm=true)(S:CSc X.env.scope X.N scope N' k ix)
  {pins:List (Addr×Obj)} {σ:St} {H:Hp} {s2:Shared} {cl:List (Str×Addr)} {it:Addr} {fp:List Addr} {tn:Nat->Heap->Prop} {J:It} {Q:List (Key×V)->Hp->Prop} {RR:Value->Addr->Result->Shared->Prop} {E:Value->Shared->Prop}
  (hg:∀ cl C s2 H2 fp,Cat X σ C s2 H2 fp->PG (X.comp N' scope cl C s2 H2 fp) tg (g σ)) (ht:∀ cl C s2 H2 fp,Cat X σ C s2 H2 fp->PF (X.comp N' scope cl C s2 H2 fp) ifs (tt σ)) (hk:∀ cl C s2 H2 fp,Cat X σ C s2 H2 fp->PE (X.comp N' scope cl C s2 H2 fp) kx (tk σ)) (hv:∀ cl C s2 H2 fp,Cat X σ C s2 H2 fp->PE (X.comp N' scope cl C s2 H2 fp) vx (tv σ))
  (I2:Inv X pins σ H s2) (T:v0 X.prog X.w X.K tg J fp it tn) (st2:tn 0 s2.heap) (f2:∀ b∈fp,Qv X pins H b) (hR:vf zbL k ix (g σ) (tt σ) (VU (tk σ) (tv σ)) σ J H Q)
  (hcl1:∀ x c,cl.lookup x=some c->X.env.cells.lookup x=some c) (hcl2:∀ x,(x,NameKind.free)∈scope.names->∃ c,cl.lookup x=some c)
  (herr:∀ (D C:Addr) (x:Value) (s':Shared),YO X C x s'->RR (.ref D) C (.error x) s')
  (fin:∀ (D C:Addr) (ys:List (Key×V)) (H5:Hp) (s5:Shared) (m:Str->Option Value),Inv X pins σ (upd H5 D (.dK ys)) s5->Q ys H5->H5 D=none->s5.heap.Ns C m->C≠D->s2.heap.objs.size<=C->upd H5 D (.dK ys) C=none->RR (.ref D) C (.ok .next) s5) :
  wpAny (model X.prog X.w) X.A newDict (fun acc s₃=>wpAny (model X.prog X.w) X.A (newFunctionEnv scope X.env.globals cl [] X.env.qual none .none (some X.env)) (fun cenv s₄=>
   codeAny (model X.prog X.w) X.A (.compStart (.DictComp kx vx [⟨tg,iter,ifs,0⟩] scope pos) 0 (.ref it) acc { cenv with scope:=relabel scope X.env }) (RR acc cenv.locals) s₄) E s₃) E s2 :=
 WA YT (act:=fun D env=>do
   let kv<-eval kx env
   let vv<-holding [kv] (eval vx env)
   standAt { kx.pos with endLine:=vx.pos.endLine,endCol:=vx.pos.endCol }
   holding [kv,vv] (dictSet D kv vv)) (fun it acc env R s I n h h0=>codeAny_loop rfl I h n h0) (fun it D env=>compTurn_dict kx vx tg iter ifs scope pos it D env) (fun R s it acc env h0 h=>codeAny_compStart_dict h0 h) hcalm S hg ht (fun cl C s2 H2 fp c=>zau (hk cl C s2 H2 fp c) (hv cl C s2 H2 fp c)) I2 T st2 f2 hR hcl1 hcl2 herr fin
theorem zao(hcalm:X.calm=true)(S:CSc X.env.scope X.N scope N' k ix)(hi:PI X tg iter wi)
  (hg:∀ σ cl C s2 H2 fp,Cat X σ C s2 H2 fp->PG (X.comp N' scope cl C s2 H2 fp) tg (g σ)) (ht:∀ σ cl C s2 H2 fp,Cat X σ C s2 H2 fp->PF (X.comp N' scope cl C s2 H2 fp) ifs (tt σ)) (hk:∀ σ cl C s2 H2 fp,Cat X σ C s2 H2 fp->PE (X.comp N' scope cl C s2 H2 fp) kx (tk σ)) (hv:∀ σ cl C s2 H2 fp,Cat X σ C s2 H2 fp->PE (X.comp N' scope cl C s2 H2 fp) vx (tv σ))
  (hs:∀ x,foldedSetIterable iter X.env x=pure x:=by intro _;rfl):PE X (.DictComp kx vx [⟨tg,iter,ifs,0⟩] scope pos) (JM k ix wi g tt (fun σ=>VU (tk σ) (tv σ))):=by
 intro pins s σ H Q I h
 obtain⟨cl,ecl,hcl1,hcl2⟩:=jB I S
 show wpAny _ X.A (comprehension (.DictComp kx vx [⟨tg,iter,ifs,0⟩] scope pos) scope X.env _ newDict false (eval iter X.env)) _ _ s
 refine wpAny_comprehension_free (use:=none) rfl hs ecl S.kind S.loc (thn (hi pins s σ H _ I h) fun v s1 h1=>thn h1 fun itv s2 h2=>?_)
 obtain⟨it,fp,tn,J,H2,e,I2,T,st2,f2,hR⟩:=h2
 subst e
 refine WB (RR:=fun acc C=>compPost (model X.prog X.w) X.A X.xe none (EP X pins σ Q) acc C) hcalm S (hg σ) (ht σ) (hk σ) (hv σ) I2 T st2 f2 hR hcl1 hcl2 (fun D C x s' h=>h) ?_
 intro D C ys H5 s5 m I5 q hD hn hCD hCs hCn
 exact⟨m,hn,fun h' hs'=>⟨.ref D,upd H5 D (.dK ys),I2.letgo I5 hCs hCn hs'.2,rfl,q D hD⟩⟩
theorem zaA{i:Nat}{x:Str}{pos' spos:Pos}(hN:X.N.Nodup)(hi':X.N[i]?=some x)(hx:Loc X.env.scope x)(hcalm:X.calm=true)(S:CSc X.env.scope X.N scope N' k ix)(hi:PI X tg iter wi)
  (hg:∀ σ cl C s2 H2 fp,Cat X σ C s2 H2 fp->PG (X.comp N' scope cl C s2 H2 fp) tg (g σ)) (ht:∀ σ cl C s2 H2 fp,Cat X σ C s2 H2 fp->PF (X.comp N' scope cl C s2 H2 fp) ifs (tt σ)) (hk:∀ σ cl C s2 H2 fp,Cat X σ C s2 H2 fp->PE (X.comp N' scope cl C s2 H2 fp) kx (tk σ)) (hv:∀ σ cl C s2 H2 fp,Cat X σ C s2 H2 fp->PE (X.comp N' scope cl C s2 H2 fp) vx (tv σ))
  (hsw:swapsWith (.DictComp kx vx [⟨tg,iter,ifs,0⟩] scope pos) (some (.Name x pos')) spos.line X.env=pure true)
  (hs:∀ x,foldedSetIterable iter X.env x=pure x:=by intro _;rfl) (hf:X.fn x=true∨X.env.scope.names.lookup x=some .local:=by first | exact .inl rfl | exact .inr rfl | assumption) :
  PS X (.Assign [.Name x pos'] (.DictComp kx vx [⟨tg,iter,ifs,0⟩] scope pos) spos) (vO (JM k ix wi g tt (fun σ=>VU (tk σ) (tv σ))) (wm i)):=by
 intro pins s σ H D' I h
 obtain⟨cl,ecl,hcl1,hcl2⟩:=jB I S
 rw[exec_Assign_Name_used _ _ _ _ hsw]
 refine wpAny_bind (wpAny_standAt (wpAny_bind ?_))
 show wpAny _ X.A (do let _<-comprehension (.DictComp kx vx [⟨tg,iter,ifs,0⟩] scope pos) scope X.env _ newDict false (eval iter X.env) (some (assign (.Name x pos') X.env))) _ _ s
 refine wpAny_bind (wpAny_mono (wpAny_comprehension_free (use:=some (assign (.Name x pos') X.env)) (Q:=fun _ s'=>SP X pins D' .next s') rfl hs ecl S.kind S.loc
  (thn (hi pins s σ H _ I h) fun v s1 h1=>thn h1 fun itv s2 h2=>?_)) (fun _ s' hq=>wpAny_pure (wpAny_pure hq)) fun _ _ e=>e)
 obtain⟨it,fp,tn,J,H2,e,I2,T,st2,f2,hR⟩:=h2
 subst e
 refine WB (RR:=fun acc C=>compPost (model X.prog X.w) X.A X.xe (some (assign (.Name x pos') X.env)) (fun _ s'=>SP X pins D' .next s') acc C) hcalm S (hg σ) (ht σ) (hk σ) (hv σ) I2 T st2 f2 hR hcl1 hcl2 (fun D C x s' h=>h) ?_
 intro D C ys H5 s5 m I5 q hD hn hCD hCs hCn
 show wpAny _ X.A (assign (.Name x pos') X.env (.ref D)) _ _ s5
 refine wpAny_assign_Name (JK (v:=.ref D) I5 hN hi' hx rfl (fun s' I' ⟨a,sb,ha⟩=>?_) hf)
 have hCa:C≠a:=by
  rcases ha with rfl | ha
  ·exact Ne.symm (xm (xk I2.lt hCs))
  ·obtain⟨v,ob,hob,_⟩:=I2.cell x a ha
   exact Ne.symm (xm (xk (Heap.lt_size hob) hCs))
 exact⟨m,hn.sameBut sb hCa,fun h' hs'=>⟨_,_,I2.letgo I' hCs hCn hs'.2,q D hD⟩⟩
end
end L2
namespace L2
open PySem PySem.Spec PyProof.Rows
class Cs where
 adr:Str->Addr
variable [Cs]
noncomputable def kK(p:Str×V):Key×V:=(.inr p.1,p.2)
noncomputable def dK(p:Str×PyData):PyData×PyData:=(.str p.1,p.2)
mutual
/-- the value v stands for the data d;no list of it lies in M -/
inductive Rep(M:Addr->Prop)(H:Hp):V->PyData->Prop
 |none:Rep M H .non .none
 |bool (b:Bool):Rep M H (.bl b) (.bool b)
 |int (i:Int):Rep M H (.int i) (.int i)
 |str (x:Str):Rep M H (.str x) (.str x)
 |list {a:Addr} {vs:List V} {ds:List PyData}:H a=some (.lst vs)->¬ M a->RepL M H vs ds->Rep M H (.ref a) (.list ds)
 |tuple {a:Addr} {vs:List V} {ds:List PyData}:H a=some (.tup vs)->RepL M H vs ds->Rep M H (.ref a) (.tuple ds)
 |dict {a:Addr} {kvs:List (Str×V)} {ds:List (Str×PyData)}:Rd H a (.dK (kvs.map kK))->¬ M a->kvs.map (·.1)=ds.map (·.1)->RepL M H (kvs.map (·.2)) (ds.map (·.2))->Rep M H (.ref a) (.dict (ds.map dK))
 |inst {a dx:Addr} {c:Str} {fs:List (Str×V)} {ds:List (Str×PyData)}:H a=some (.ins (Cs.adr c) dx fs)->¬ M a->fs.map (·.1)=ds.map (·.1)->RepL M H (fs.map (·.2)) (ds.map (·.2))->Rep M H (.ref a) (.dict ((.none,.str c)::ds.map dK))
inductive RepL(M:Addr->Prop)(H:Hp):List V->List PyData->Prop
 |nil:RepL M H [] []
 |cons {v:V} {vs:List V} {d:PyData} {ds:List PyData}:Rep M H v d->RepL M H vs ds->RepL M H (v::vs) (d::ds)
end
noncomputable def zfV(M:Addr->Prop)(H H':Hp):Prop:=∀ b o,¬ M b->H b=some o->H' b=some o
noncomputable def TupM(H H':Hp):Prop:=∀ b xs,H b=some (.tup xs)->H' b=some (.tup xs)
structure zdO(M:Addr->Prop)(H H':Hp):Prop where
 same:zfV M H H'
 tups:TupM H H'
 stay:∀ b,H b≠none->H' b≠none
theorem Same.grow{M:Addr->Prop}{H H':Hp}(s:Same H H'):zdO M H H' :=
 ⟨fun b o _ e=>s b o e,fun b xs e=>s b _ e,fun b h=>by
  cases q:H b with
  |none=>exact absurd q h
  |some o=>rw[s b o q];exact fun z=>nomatch z⟩
mutual
theorem Rep.grow{M:Addr->Prop}{H H':Hp}(g:zdO M H H'):∀ {v:V}{d:PyData},Rep M H v d->Rep M H' v d
 |_,_,.none=>.none
 |_,_,.bool b=>.bool b
 |_,_,.int i=>.int i
 |_,_,.str x=>.str x
 |_,_,.list e n r=>.list (g.same _ _ n e) n (RepL.grow g r)
 |_,_,.tuple e r=>.tuple (g.tups _ _ e) (RepL.grow g r)
 |_,_,.dict e n k r=>.dict (e.imp (g.same _ _ n) fun ⟨o,z⟩=>⟨o,g.same _ _ n z⟩) n k (RepL.grow g r)
 |_,_,.inst e n k r=>.inst (g.same _ _ n e) n k (RepL.grow g r)
theorem RepL.grow{M:Addr->Prop}{H H':Hp}(g:zdO M H H'):∀ {vs:List V}{ds:List PyData},RepL M H vs ds->RepL M H' vs ds
 |_,_,.nil=>.nil
 |_,_,.cons r t=>.cons (Rep.grow g r) (RepL.grow g t)
end
mutual
/-- fewer addresses may change;or one more that is not there -/
theorem Rep.less{M M':Addr->Prop}{H:Hp}(g:∀ b,M' b->H b≠none->M b):∀ {v:V}{d:PyData},Rep M H v d->Rep M' H v d
 |_,_,.none=>.none
 |_,_,.bool b=>.bool b
 |_,_,.int i=>.int i
 |_,_,.str x=>.str x
 |_,_,.list e n r=>.list e (fun z=>n (g _ z (by rw[e];exact fun z=>nomatch z))) (RepL.less g r)
 |_,_,.tuple e r=>.tuple e (RepL.less g r)
 |_,_,.dict e n k r=>.dict e (fun z=>n (g _ z (by rcases e with e | ⟨o,e⟩<;>rw[e]<;>exact fun z=>nomatch z))) k (RepL.less g r)
 |_,_,.inst e n k r=>.inst e (fun z=>n (g _ z (by rw[e];exact fun z=>nomatch z))) k (RepL.less g r)
theorem RepL.less{M M':Addr->Prop}{H:Hp}(g:∀ b,M' b->H b≠none->M b):∀ {vs:List V}{ds:List PyData},RepL M H vs ds->RepL M' H vs ds
 |_,_,.nil=>.nil
 |_,_,.cons r t=>.cons (Rep.less g r) (RepL.less g t)
end
theorem RepL.length{M:Addr->Prop}{H:Hp}:∀ {vs:List V}{ds:List PyData},RepL M H vs ds->vs.length=ds.length
 |_,_,.nil=>rfl
 |_,_,.cons _ t=>by rw[xo,xo,RepL.length t]
theorem RepL.append{M:Addr->Prop}{H:Hp}:∀ {vs ws:List V}{ds es:List PyData},RepL M H vs ds->RepL M H ws es->RepL M H (vs++ws) (ds++es)
 |_,_,_,_,.nil,s=>s
 |_,_,_,_,.cons r t,s=>.cons r (RepL.append t s)
theorem RepL.get{M:Addr->Prop}{H:Hp}:∀ {vs:List V}{ds:List PyData}{i:Nat}{v:V},RepL M H vs ds->vs[i]?=some v->∃ d,ds[i]?=some d/\Rep M H v d
 |_,_,_,_,.nil,e=>by simp at e
 |_,_,0,_,.cons r _,e=>by simp at e;subst e;exact⟨_,rfl,r⟩
 |_,_,i+1,v,.cons _ t,e=>by
  obtain⟨u,h1,h2⟩:=RepL.get (i:=i) (v:=v) t (by simpa using e)
  exact⟨u,by simpa using h1,h2⟩
theorem RepL.get'{M:Addr->Prop}{H:Hp}{vs:List V}{ds:List PyData}{i:Nat}{d:PyData}(r:RepL M H vs ds)(e:ds[i]?=some d):∃ v,vs[i]?=some v/\Rep M H v d:=by
 have hl:=r.length
 have hi:i<vs.length:=by rw[hl];exact (xb.mp e).1
 obtain⟨d',e',r'⟩:=r.get (i:=i) (v:=vs[i]) (by simp[hi])
 rw[e]at e';cases e'
 exact⟨vs[i],by simp[hi],r'⟩
theorem RepL.take{M:Addr->Prop}{H:Hp}:∀ {vs:List V}{ds:List PyData}(n:Nat),RepL M H vs ds->RepL M H (vs.take n) (ds.take n)
 |_,_,0,_=>.nil
 |_,_,_+1,.nil=>.nil
 |_,_,n+1,.cons r t=>.cons r (RepL.take n t)
theorem RepL.drop{M:Addr->Prop}{H:Hp}:∀ {vs:List V}{ds:List PyData}(n:Nat),RepL M H vs ds->RepL M H (vs.drop n) (ds.drop n)
 |_,_,0,r=>r
 |_,_,_+1,.nil=>.nil
 |_,_,n+1,.cons _ t=>RepL.drop n t
theorem RepL.ints{M:Addr->Prop}{H:Hp}:∀ (ns:List Int),RepL M H (ns.map V.int) (ns.map PyData.int)
 |[]=>.nil
 |n::ns=>.cons (.int n) (RepL.ints ns)
mutual
theorem Rep.reads{P:Program}{w:World}{M:Addr->Prop}{H:Hp}{h:Heap}(ok:HOk P w H h):∀ {v:V}{d:PyData}{u:Value},Rep M H v d->d.canLay0=true->RelV v u->∃ as,Reads h u d as
 |_,_,_,.none,_,r=>by cases (show _=Value.none from r);exact⟨_,.none⟩
 |_,_,_,.bool b,_,r=>by cases (show _=Value.bool b from r);exact⟨_,.bool b⟩
 |_,_,_,.int i,_,r=>by obtain⟨t,e⟩:=(show ∃ t,_=Value.int i t from r);cases e;exact⟨_,.int i t⟩
 |_,_,_,.str x,_,r=>by obtain⟨t,e⟩:=(show ∃ t,_=Value.str x t from r);cases e;exact⟨_,.str x t⟩
 |_,_,_,.list (a:=a) (vs:=vs) e n q,l,r=>by
  cases (show _=Value.ref a from r)
  obtain⟨_,its,c,rv,ho⟩:=(show ObjOk P w H h a (.lst vs) from ok a _ e)
  obtain⟨as,z⟩:=RepL.reads ok q l rv
  exact⟨_,.list ho rfl rfl (by simpa using z)⟩
 |_,_,_,.tuple (a:=a) (vs:=vs) e q,l,r=>by
  cases (show _=Value.ref a from r)
  obtain⟨_,its,rv,o,ho,hc,c,hd⟩:=(show ObjOk P w H h a (.tup vs) from ok a _ e)
  obtain⟨as,z⟩:=RepL.reads ok q l rv
  exact⟨_,.tuple ho hc hd (by simpa using z)⟩
 |_,_,_,.dict e n k q,l,r=>by cases l
 |_,_,_,.inst e n k q,l,r=>by cases l
theorem RepL.reads{P:Program}{w:World}{M:Addr->Prop}{H:Hp}{h:Heap}(ok:HOk P w H h):∀ {vs:List V}{ds:List PyData}{us:List Value},RepL M H vs ds->PyData.canLayAll0 ds=true->Vals vs us->∃ as,ReadsAll h us ds as
 |_,_,_,.nil,_,r=>by cases r;exact⟨_,.nil⟩
 |_,_,_,.cons q t,l,r=>by
  have l':=xu.mp l
  cases r with
  |cons r rs=>
   obtain⟨as,z⟩:=Rep.reads ok q l'.1 r
   obtain⟨bs,y⟩:=RepL.reads ok t l'.2 rs
   exact⟨_,.cons z y⟩
end
section
variable (X:Cx)
noncomputable def wpE(e:Expr):TE:=fun σ H Q=>∀ (pins:List (Addr×Obj)) (s:Shared),Inv X pins σ H s->wpAny (model X.prog X.w) X.A (eval e X.env) (EP X pins σ Q) X.xe s
noncomputable def wpT(e:Expr):TT:=fun σ H Q=>∀ (pins:List (Addr×Obj)) (s:Shared),Inv X pins σ H s->wpAny (model X.prog X.w) X.A (isTrue e X.env (eval e X.env)) (TP X pins σ Q) X.xe s
noncomputable def wpW(e:Expr):TT:=fun σ H Q=>∀ (whole:Sem Value) (pins:List (Addr×Obj)) (s:Shared),Inv X pins σ H s->wpAny (model X.prog X.w) X.A (isTrue e X.env whole) (TP X pins σ Q) X.xe s
noncomputable def wpA(es:List Expr):TA:=fun σ H Q=>∀ (pos:Pos) (pins:List (Addr×Obj)) (s:Shared),Inv X pins σ H s->wpAny (model X.prog X.w) X.A (spliced (backTo pos (starEach es X.env))) (AP X pins σ Q) X.xe s
noncomputable def wpS(st:Stmt):TS:=fun D σ H=>∀ (pins:List (Addr×Obj)) (s:Shared),Inv X pins σ H s->wpAny (model X.prog X.w) X.A (exec st X.env) (SP X pins D) X.xe s
noncomputable def wpB(st:List Stmt):TS:=fun D σ H=>∀ (pins:List (Addr×Obj)) (s:Shared),Inv X pins σ H s->wpAny (model X.prog X.w) X.A (execs st X.env) (SP X pins D) X.xe s
noncomputable def wpG(tg:Expr):TG:=fun v σ H Q=>∀ (pins:List (Addr×Obj)) (s:Shared) (u:Value),Inv X pins σ H s->RelV v u->wpAny (model X.prog X.w) X.A (assign tg X.env u) (fun _ s'=>∃ σ' H',Inv X pins σ' H' s'/\Q σ' H') X.xe s
noncomputable def wpF(ifs:List Expr):TT:=fun σ H Q=>∀ (pins:List (Addr×Obj)) (s:Shared),Inv X pins σ H s ->
 wpAny (model X.prog X.w) X.A (forIn ifs true fun c r=>if r=true then do let ok<-isTrue c X.env (eval c X.env);pure (ForInStep.yield ok) else pure (ForInStep.yield r)) (TP X pins σ Q) X.xe s
noncomputable def wpI(tg iter:Expr):TI:=fun σ H R=>∀ (pins:List (Addr×Obj)) (s:Shared),Inv X pins σ H s ->
  wpAny (model X.prog X.w) X.A (eval iter X.env) (fun v s1=>wpAny (model X.prog X.w) X.A (pyIter v) (PIE X pins σ tg R) X.xe s1) X.xe s
end
section
variable {X:Cx} {e:Expr} {es:List Expr} {st:Stmt} {sts:List Stmt} {tg iter:Expr} {σ:St} {H:Hp}
theorem zd:PE X e (wpE X e):=fun pins s σ H Q I h=>h pins s I
theorem jd:PT X e (wpT X e):=fun pins s σ H Q I h=>h pins s I
theorem Yv:PW X e (wpW X e):=fun wh pins s σ H Q I h=>h wh pins s I
theorem jc:PA X es (wpA X es):=fun pos pins s σ H Q I h=>h pos pins s I
theorem Yu:PS X st (wpS X st):=fun pins s σ H D I h=>h pins s I
theorem qi:PSs X sts (wpB X sts):=fun pins s σ H D I h=>h pins s I
theorem vE:PG X tg (wpG X tg):=fun pins s σ H v u Q I r h=>h pins s u I r
theorem Qn:PI X tg iter (wpI X tg iter):=fun pins s σ H R I h=>h pins s I
theorem PE.wp{t:TE}{Q:VK}(h:PE X e t)(q:t σ H Q):wpE X e σ H Q:=fun pins s I=>h pins s σ H Q I q
theorem PT.wp{t:TT}{Q:Bool->Hp->Prop}(h:PT X e t)(q:t σ H Q):wpT X e σ H Q:=fun pins s I=>h pins s σ H Q I q
theorem PW.wp{t:TT}{Q:Bool->Hp->Prop}(h:PW X e t)(q:t σ H Q):wpW X e σ H Q:=fun wh pins s I=>h wh pins s σ H Q I q
theorem PA.wp{t:TA}{Q:List V->Hp->Prop}(h:PA X es t)(q:t σ H Q):wpA X es σ H Q:=fun pos pins s I=>h pos pins s σ H Q I q
theorem PS.wp{t:TS}{D:qF}(h:PS X st t)(q:t D σ H):wpS X st D σ H:=fun pins s I=>h pins s σ H D I q
theorem PSs.wp{t:TS}{D:qF}(h:PSs X sts t)(q:t D σ H):wpB X sts D σ H:=fun pins s I=>h pins s σ H D I q
theorem PG.wp{t:TG}{v:V}{Q:St->Hp->Prop}(h:PG X tg t)(q:t v σ H Q):wpG X tg v σ H Q:=fun pins s u I r=>h pins s σ H v u Q I r q
theorem PF.wp{ifs:List Expr}{t:TT}{Q:Bool->Hp->Prop}(h:PF X ifs t)(q:t σ H Q):wpF X ifs σ H Q:=fun pins s I=>h pins s σ H Q I q
theorem PI.wp{t:TI}{R:It->Hp->Prop}(h:PI X tg iter t)(q:t σ H R):wpI X tg iter σ H R:=fun pins s I=>h pins s σ H R I q
theorem wpE.mono{Q Q':VK}(h:wpE X e σ H Q)(k:∀ v H',Q v H'->Q' v H'):wpE X e σ H Q':=fun pins s I=>thn (h pins s I) fun u s' ⟨v,H',a,b,c⟩=>⟨v,H',a,b,k v H' c⟩
theorem wpA.mono{Q Q':List V->Hp->Prop}(h:wpA X es σ H Q)(k:∀ v H',Q v H'->Q' v H'):wpA X es σ H Q':=fun pos pins s I=>thn (h pos pins s I) fun u s' ⟨v,H',a,b,c⟩=>⟨v,H',a,b,k v H' c⟩
end
noncomputable def Al(M:Addr->Prop)(H:Hp):Prop:=∀ a,M a->H a≠none
inductive Ent where
 |d (x:PyData)
 |v (x:V)
noncomputable abbrev Ge:=List (Option Ent)
structure RS(M:Addr->Prop)(Γ:Ge)(σ:St)(H:Hp):Prop where
 al:Al M H
 at':∀ (i:Nat) (d:PyData),Γ[i]?=some (some (.d d))->∃ v,σ[i]?=some (some v)/\Rep M H v d
 av:∀ (i:Nat) (v:V),Γ[i]?=some (some (.v v))->σ[i]?=some (some v)
noncomputable def zfT(M:Addr->Prop)(H:Hp)(v:V):Ent->Prop
 |.d d=>Rep M H v d
 |.v u=>v=u
theorem RS.setE{M:Addr->Prop}{Γ:Ge}{σ:St}{H:Hp}{v:V}{z:Ent}{i:Nat}(h:RS M Γ σ H)(r:zfT M H v z)(hi:i<σ.length):RS M (Γ.set i (some z)) (σ.set i (some v)) H:=⟨h.al,fun j d' e=>by
 by_cases hj:j=i
 ·subst hj
  by_cases hl:j<Γ.length
  ·rw[xh hl]at e
   cases e
   exact⟨v,by rw[xh hi],r⟩
  ·rw[xv (by simpa using hl)]at e;cases e
 ·rw[xg (Ne.symm hj)]at e |-
  exact h.at' j d' e,fun j d' e=>by
 by_cases hj:j=i
 ·subst hj
  by_cases hl:j<Γ.length
  ·rw[xh hl]at e
   cases e
   rw[xh hi];exact congrArg (fun x=>some (some x)) r
  ·rw[xv (by simpa using hl)]at e;cases e
 ·rw[xg (Ne.symm hj)]at e |-
  exact h.av j d' e⟩
theorem RS.setV{M:Addr->Prop}{Γ:Ge}{σ:St}{H:Hp}{v:V}{i:Nat}(h:RS M Γ σ H)(hi:i<σ.length):RS M (Γ.set i (some (.v v))) (σ.set i (some v)) H:=h.setE rfl hi
section
variable {X:Cx} {Γ:Ge} {pos p:Pos} {a b c:Expr} {es:List Expr} {d d1 d2:PyData} {ds:List PyData}
theorem zu{H:Hp}{p:Addr}{o:HO}(n:H p=none):Same H (upd H p o):=fun b u e=>by rw[zf (zA e n)];exact e
theorem ky(hu:∀ n,n<=60->X.A.units+n<cLine):OpR X (compareOp .Eq) (fun x y H Q=>∃ M M' d1 d2,Rep M H x d1/\Rep M' H y d2/\d1.canLay0=true/\d2.canLay0=true/\min d1.depth d2.depth<=60/\Q (.bl (PyData.eqv d1 d2)) H):=by
 intro pins s σ H x y v u Q I rx ry h
 obtain⟨M,M',d1,d2,r1,r2,c1,c2,hd,q⟩:=h
 obtain⟨as,z1⟩:=r1.reads I.hok c1 rx
 obtain⟨bs,z2⟩:=r2.reads I.hok c2 ry
 exact SeqAt.compareEq_reads z1 z2 c1 c2 (hu _ hd) ⟨.bl _,H,I,rfl,q⟩
theorem kA(hu:∀ n,n<=60->X.A.units+n<cLine):OpR X (compareOp .NotEq) (fun x y H Q=>∃ M M' d1 d2,Rep M H x d1/\Rep M' H y d2/\d1.canLay0=true/\d2.canLay0=true/\min d1.depth d2.depth<=60/\Q (.bl (!PyData.eqv d1 d2)) H):=by
 intro pins s σ H x y v u Q I rx ry h
 obtain⟨M,M',d1,d2,r1,r2,c1,c2,hd,q⟩:=h
 obtain⟨as,z1⟩:=r1.reads I.hok c1 rx
 obtain⟨bs,z2⟩:=r2.reads I.hok c2 ry
 exact SeqAt.compareNe_reads z1 z2 c1 c2 (hu _ hd) ⟨.bl _,H,I,rfl,q⟩
theorem Room.u60{k:Nat}{A:Around}(r:Room k A):∀ n,n<=60->A.units+n<cLine:=fun n h=>by have:=r.units;omega
end
end L2
namespace PySem
open PySem.AutoSeq1 (wpAny_loadPart')
theorem VY(l:Addr)(items:Array Value)(n:Nat)(dd:Option Addr)(sl:Array (Option Value))(x:Int)(u:Tok)(hb1:¬ (decide (x< -(2 ^ 63))||decide (x≥2 ^ 63))=true)(hc0:¬ (items.isEmpty||x==1)=true)(hc1:¬ (decide (x<=0)||items.isEmpty)=true)(hc2:¬ (items.size:Int)*x>(2 ^ 63-1) / 8)(hc3:¬ Builtin.Tuple.tupleTooMany ((items.size:Int)*x)=true)(hsz:((List.replicate x.toNat items).foldl (·++·) #[]).size<=sizeLine) :
  Meets (Builtin.«tuple.__mul__» ⟨[.ref l,.int x u],[]⟩) (fun _ R s=>s.heap.get? l=some { cls:=.type "tuple",dict:=dd,data:=.seq items n,slots:=sl }/\R (.ok (.ret (Value.ref s.heap.objs.size))) { s with heap:=s.heap.push { cls:=Value.type "tuple",data:=Data.seq ((List.replicate x.toNat items).foldl (·++·) #[]) },toks:=s.toks }) :=
 .of_wp fun prog w A R s h=>by
  obtain⟨hp,g,d,tk,os⟩:=s;obtain⟨hl,h⟩:=h
  have f1:=AutoSeq1.idx_int
  wp_walk using wpAny_loadPart' hl
  refine wpAny_ite_false (decide_eq_false hb1) ?_
  wp_walk using wpAny_loadPart' hl
  first | (refine wpAny_ite_false (decide_eq_false hc2) ?_;wp_walk using wpAny_loadPart' hl) | skip
  first | (refine wpAny_ite_false (decide_eq_false (Nat.not_lt.mpr hsz)) ?_;wp_walk using wpAny_loadPart' hl) | skip
  exact⟨_,rfl,h⟩
theorem VW(l:Addr)(items:Array Value)(n:Nat)(dd:Option Addr)(sl:Array (Option Value))(x:Int)(u:Tok)(hb1:¬ (decide (x< -(2 ^ 63))||decide (x≥2 ^ 63))=true)(hc0:(items.isEmpty||x==1)=true) :
  Meets (Builtin.«tuple.__mul__» ⟨[.ref l,.int x u],[]⟩) (fun _ R s=>s.heap.get? l=some { cls:=.type "tuple",dict:=dd,data:=.seq items n,slots:=sl }/\R (.ok (.ret (Value.ref l))) { s with heap:=s.heap,toks:=s.toks }) :=
 .of_wp fun prog w A R s h=>by
  obtain⟨hp,g,d,tk,os⟩:=s;obtain⟨hl,h⟩:=h
  have f1:=AutoSeq1.idx_int
  wp_walk using wpAny_loadPart' hl
  refine wpAny_ite_false (decide_eq_false hb1) ?_
  wp_walk using wpAny_loadPart' hl
  exact⟨_,rfl,h⟩
theorem VX(l:Addr)(items:Array Value)(n:Nat)(dd:Option Addr)(sl:Array (Option Value))(x:Int)(u:Tok)(hb1:¬ (decide (x< -(2 ^ 63))||decide (x≥2 ^ 63))=true)(hc0:¬ (items.isEmpty||x==1)=true)(hc1:(decide (x<=0)||items.isEmpty)=true) :
  Meets (Builtin.«tuple.__mul__» ⟨[.ref l,.int x u],[]⟩) (fun _ R s=>s.heap.get? l=some { cls:=.type "tuple",dict:=dd,data:=.seq items n,slots:=sl }/\R (.ok (.ret (Value.ref s.heap.objs.size))) { s with heap:=s.heap.push { cls:=Value.type "tuple",data:=Data.seq #[] },toks:=s.toks }) :=
 .of_wp fun prog w A R s h=>by
  obtain⟨hp,g,d,tk,os⟩:=s;obtain⟨hl,h⟩:=h
  have f1:=AutoSeq1.idx_int
  wp_walk using wpAny_loadPart' hl
  refine wpAny_ite_false (decide_eq_false hb1) ?_
  wp_walk using wpAny_loadPart' hl
  exact⟨_,rfl,h⟩
theorem Qk:fillsNumberSlot (.type "tuple") "mul" =pure false :=
 fillsNumberSlot_seq (id:= "tuple.__mul__") (r:=some (.builtin "tuple.__rmul__")) F.slot_tuple_mul.lookup (by decide +kernel) F.slot_tuple_rmul.lookup (by decide +kernel)
theorem Wc:seqRepeat? (.type "tuple")=pure (some (.builtin "tuple.__mul__")):=by
 unfold seqRepeat?
 rw[seqSlot_of (T:= "tuple") (name:= "__mul__") (id:= "tuple.__mul__") F.slot_tuple_mul.lookup (by decide +kernel),seqSlot_of (T:= "tuple") (name:= "__rmul__") (id:= "tuple.__rmul__") F.slot_tuple_rmul.lookup (by decide +kernel)]
 rfl
theorem J0(a:Int)(t:Tok)(l:Addr)(items:Array Value)(n:Nat)(dd:Option Addr)(sl:Array (Option Value)) :
  Meets (Builtin.«int.__rmul__» ⟨[.int a t,.ref l],[]⟩) (fun _ R s=>s.heap.get? l=some { cls:=.type "tuple",dict:=dd,data:=.seq items n,slots:=sl }/\R (.ok (.ret Value.notImplemented)) s) :=
 .of_wp fun prog w A R s h=>by obtain⟨hp,g,d,tk,os⟩:=s;obtain⟨hl,h⟩:=h;wp_walk using wpAny_loadPart' hl;exact⟨_,rfl,h⟩
end PySem
namespace L2
open PySem PySem.Spec PyProof.Rows
variable [Cs]
section
variable {X:Cx}
noncomputable def zgt(K:PySem.W.Frag):R2:=fun x y H Q=>∃ l k xs,x=.ref l/\y=.int k/\SqT K H l xs/\ -(2 ^ 63)<=k/\k<2 ^ 63/\xs.length*k.toNat<=sizeLine /\
 ((xs= []∨k=1)->Q (.ref l) H)/\∀ p,H p=none->Q (.ref p) (upd H p (.tup (List.replicate k.toNat xs).flatten))
theorem zcm:OpR X (binaryOp .Mult) (zgt X.K):=by
 intro pins s σ H x y v u Q I rx ry h
 obtain⟨l,k,xs,rfl,rfl,hH,h1,h2,hz,qs,q⟩:=h
 cases rx
 obtain⟨t,rfl⟩:=ry
 obtain⟨its,r,hit,hzz⟩:=I.tuple hH
 have hl:=r.length
 obtain⟨⟨cls,dd,data,sl⟩,ho,hc,n,hd⟩:=id hit
 simp only at hc hd
 subst hc hd
 have hb1:¬ (decide (k< -(2 ^ 63))||decide (k≥2 ^ 63))=true:=by
  simp only[xE,decide_eq_true_eq];omega
 have hnew:List.foldl (fun x1 x2=>x1++x2) #[] (List.replicate k.toNat its.toArray)=(List.replicate k.toNat its).flatten.toArray:=by
  have:=WF its k.toNat []
  rw[xP]at this
  exact this
 refine wpAny_binaryOp_repeat_ref (T:= "tuple") (U:= "int") (by decide) ⟨_,ho,rfl⟩ (fun s'=>typeIs_int s' k t) Qk F.fills_int_mul F.slot_int_rmul Wc F.slot_int_index.lookup
  (call_meets F.slot_int_rmul (typeIs_int s k t) F.entry_int_rmul (F.args_int_rmul_2 _ _) (J0 k t l its.toArray n dd sl) ⟨ho,rfl,⟨_,ho,rfl⟩,?_⟩)
 by_cases hc0:(its.toArray.isEmpty||k==1)=true
 ·refine call_meets F.slot_tuple_mul ⟨_,ho,rfl⟩ F.entry_tuple_mul (F.args_tuple_mul_2 _ _) (VW l its.toArray n dd sl k t hb1 hc0) ⟨ho,?_⟩
  refine⟨.ref l,H,I,rfl,qs ?_⟩
  simp only[xE,beq_iff_eq]at hc0
  rcases hc0 with z | z
  ·left
   have:its= []:=by simpa using z
   subst this
   exact List.eq_nil_of_length_eq_zero hl
  ·exact .inr z
 ·by_cases hc1:(decide (k<=0)||its.toArray.isEmpty)=true
  ·refine call_meets F.slot_tuple_mul ⟨_,ho,rfl⟩ F.entry_tuple_mul (F.args_tuple_mul_2 _ _) (VX l its.toArray n dd sl k t hb1 hc0 hc1) ⟨ho,?_⟩
   have e0:(List.replicate k.toNat xs).flatten= []:=by
    simp only[xE,decide_eq_true_eq]at hc1
    rcases hc1 with z | z
    ·rw[show k.toNat=0 by omega];rfl
    ·exact absurd (by simp[z]) hc0
   refine⟨.ref s.heap.objs.size,_,I.laid (t':=s.toks) (o:=.tup []) (fun b u e=>Heap.get?_push_of_some _ e) (xi _) ?_,rfl,by have:=q _ (I.hok.fresh (xi _));rw[e0]at this;exact this⟩
   exact⟨ua _,[],.nil,⟨_,Heap.get?_push_size _ rfl,rfl,_,rfl⟩⟩
  ·have hlen:its.length*k.toNat<=sizeLine:=by rw[<- hl];exact hz
   have hk0:0<k:=by
    simp only[xE,decide_eq_true_eq]at hc1;omega
   have hm:((its.toArray.size:Int)*k)=((its.length*k.toNat:Nat):Int):=by
    rw[xl]
    have:k=(k.toNat:Int):=by omega
    rw[Int.natCast_mul,<- this]
   have hsl:(sizeLine:Nat)<=(2 ^ 63-1) / 8:=by decide
   have hc2:¬ (its.toArray.size:Int)*k>(2 ^ 63-1) / 8:=by
    rw[hm]
    have h63:((2 ^ 63-1) / 8:Int)=(((2 ^ 63-1) / 8:Nat):Int):=by decide
    rw[h63]
    intro z
    have:=Int.ofNat_lt.mp z
    omega
   have hc3:¬ Builtin.Tuple.tupleTooMany ((its.toArray.size:Int)*k)=true:=by
    unfold Builtin.Tuple.tupleTooMany
    rw[hm,decide_eq_true_eq]
    intro z
    have:=Int.ofNat_lt.mp z
    omega
   refine call_meets F.slot_tuple_mul ⟨_,ho,rfl⟩ F.entry_tuple_mul (F.args_tuple_mul_2 _ _) (VY l its.toArray n dd sl k t hb1 hc0 hc1 hc2 hc3 (by rw[hnew,xl,Yp,Nat.mul_comm];exact hlen)) ⟨ho,?_⟩
   rw[hnew]
   refine⟨.ref s.heap.objs.size,_,I.laid (t':=s.toks) (o:=.tup (List.replicate k.toNat xs).flatten) (fun b u e=>Heap.get?_push_of_some _ e) (xi _) ?_,rfl,q _ (I.hok.fresh (xi _))⟩
   exact⟨by rw[Yp,Nat.mul_comm];exact hz,_,r.rep k.toNat,⟨_,Heap.get?_push_size _ rfl,rfl,_,rfl⟩⟩
theorem RepL.rep{M:Addr->Prop}{H:Hp}{vs:List V}{ds:List PyData}(h:RepL M H vs ds):∀ k:Nat,RepL M H (List.replicate k vs).flatten (List.replicate k ds).flatten
 |0=>.nil
 |k+1=>by rw[xT,xT,uc,uc];exact h.append (RepL.rep h k)
theorem Rep.tup_inv{M:Addr->Prop}{H:Hp}{v:V}{ds:List PyData}(r:Rep M H v (.tuple ds)):∃ a vs,v=.ref a/\H a=some (.tup vs)/\RepL M H vs ds:=by
 cases r with
 |tuple e q=>exact⟨_,_,rfl,e,q⟩
theorem Rep.lst_inv{M:Addr->Prop}{H:Hp}{v:V}{ds:List PyData}(r:Rep M H v (.list ds)):∃ a vs,v=.ref a/\H a=some (.lst vs)/\¬ M a/\RepL M H vs ds:=by
 cases r with
 |list e n q=>exact⟨_,_,rfl,e,n,q⟩
variable {Γ:Ge} {pos p p2:Pos} {a b c:Expr} {es:List Expr} {d d1 d2:PyData} {ds ds1 ds2:List PyData}
noncomputable def zeX(K:PySem.W.Frag):R2:=fun x y H Q=>∃ a b xs ys,x=.ref a/\y=.ref b/\SqT K H a xs/\SqT K H b ys/\xs.length+ys.length<=sizeLine/\(xs= []->Q (.ref b) H)/\(ys= []->Q (.ref a) H)/\∀ p,H p=none->Q (.ref p) (upd H p (.tup (xs++ys)))
theorem zaj:OpR X (binaryOp .Add) (zeX X.K):=by
 intro pins s σ H x y v u Q I rx ry h
 obtain⟨a,b,xs,ys,rfl,rfl,ha,hb,hz,q0,q1,q⟩:=h
 cases rx
 cases ry
 obtain⟨its,r,hit,_⟩:=I.tuple ha
 obtain⟨its2,r2,hit2,_⟩:=I.tuple hb
 by_cases hv:its= []
 ·obtain⟨⟨cls,dd,data,sl⟩,ho,hc,n,hd⟩:=id hit
  obtain⟨⟨cls2,dd2,data2,sl2⟩,ho2,hc2,n2,hd2⟩:=id hit2
  simp only at hc hd hc2 hd2
  subst hc hd hc2 hd2
  refine concat_meets ⟨_,ho,rfl⟩ ⟨_,ho2,rfl⟩ noFill_tuple_add seq_tuple_add PySem.F.slot_tuple_add PySem.F.entry_tuple_add (PySem.F.args_tuple_add_2 _ _)
   (tuple_addW0 a b its.toArray its2.toArray n n2 dd dd2 sl sl2 (by simp[hv])) ⟨ho,ho2,⟨.ref b,H,I,rfl,q0 ?_⟩⟩
  exact r.nil_iff.mp hv
 ·refine HT.cat_tup hit hit2 hv (fun hw=>⟨.ref a,H,I,rfl,q1 (r2.nil_iff.mp hw)⟩) (fun _=>?_) (by rw[<- r.length,<- r2.length];exact hz)
  refine⟨.ref s.heap.objs.size,_,I.laid (t':=s.toks) (o:=.tup (xs++ys)) (fun b u e=>Heap.get?_push_of_some _ e) (xi _) ?_,rfl,q _ (I.hok.fresh (xi _))⟩
  exact⟨by rw[xw];exact hz,_,r.append r2,⟨_,Heap.get?_push_size _ rfl,rfl,_,rfl⟩⟩
theorem vd{M:Addr->Prop}{H:Hp}{vs:List V}{ds:List PyData}{i:Int}{d:PyData}(r:RepL M H vs ds)(h:atI ds i=some d):∃ v,atI vs i=some v/\Rep M H v d:=by
 unfold atI at h |-
 rw[r.length]
 cases e:ixN ds.length i with
 |none=>rw[e]at h;cases h
 |some j=>
  rw[e]at h
  exact r.get' h
end
end L2
namespace L2
open PySem PySem.Spec PyProof.Rows
variable [Cs]
noncomputable def tyD:PyData->String
 |.none=> "NoneType"
 |.bool _=> "bool"
 |.int _=> "int"
 |.str _=> "str"
 |.list _=> "list"
 |.tuple _=> "tuple"
 |.dict _=> "dict"
theorem Rep.ty {K:PySem.W.Frag}{M:Addr->Prop}{H:Hp}{v:V}{d:PyData}(r:Rep M H v d) (hd:tyD d≠ "dict"):Z3 K H v (.type (tyD d)):=by
 cases r with
 |none=>exact .non
 |bool b=>exact .bl b
 |int i=>exact .int i
 |str x=>exact .str x
 |list e n q=>exact .lst e
 |tuple e q=>exact .tup e
 |dict _ _ _ _=>exact absurd rfl hd
 |inst _ _ _ _=>exact absurd rfl hd
section
variable {X:Cx}
theorem KC:qL X (.builtin "isinstance") (fun xs H Q=>∃ x T t k,xs= [x,.ty T]/\Z3 X.K H x t/\PySem.W.kitOne X.K t (.type T)=some k/\Q (.bl k) H):=by
 intro pins s σ H xs us Q I r h
 obtain⟨x,T,t,k,rfl,ty,e,q⟩:=h
 obtain⟨u,w',rfl,rx,rc⟩:=zbx r
 cases (show w'=Value.type T from rc)
 exact ki I rx ty e fun tk=>⟨.bl k,H,I.tok tk,rfl,q⟩
variable {Γ:Ge} {pos p p2:Pos} {a b c:Expr} {es:List Expr} {d d1 d2:PyData} {ds ds1 ds2:List PyData}
theorem kG(bs:List Bool):(List.range bs.length).all (fun i=>(bs[i]?).getD false)=bs.all id:=by
 have e:(List.range bs.length).map (fun i=>(bs[i]?).getD false)=bs:=by
  apply List.ext_getElem
  ·simp
  ·intro i h1 h2
   simp[h2]
 have h:=congrArg (fun l=>List.all l id) e
 rw[List.all_map]at h
 exact h
theorem kH(bs:List Bool):(List.range bs.length).any (fun i=>(bs[i]?).getD false)=bs.any id:=by
 have e:(List.range bs.length).map (fun i=>(bs[i]?).getD false)=bs:=by
  apply List.ext_getElem
  ·simp
  ·intro i h1 h2
   simp[h2]
 have h:=congrArg (fun l=>List.any l id) e
 rw[List.any_map]at h
 exact h
theorem YM{bs:List Bool}{its:List Value}(rv:Vals (bs.map V.bl) its){i:Nat}{v:Value}(e:its[i]?=some v):∃ b,bs[i]?=some b/\v=.bool b:=by
 have hi:i<its.length:=(xb.mp e).1
 have hl:=rv.length
 rw[xn]at hl
 have hb:i<bs.length:=by omega
 obtain⟨u,hu,ru⟩:=rv.get (i:=i) (x:=V.bl bs[i]) (by simp[hb])
 rw[e]at hu;cases hu
 exact⟨bs[i],by simp[hb],ru⟩
theorem Y2 (hc:X.calm=true):qL X (.builtin "all") (fun xs H Q=>∃ (p:Addr) (bs:List Bool),xs= [.ref p]/\SqL X.K H p (bs.map V.bl)/\Q (.bl (bs.all id)) H):=by
 intro pins s σ H xs us Q I r h
 obtain⟨p,bs,rfl,hq,q⟩:=h
 obtain⟨u,rfl,rx⟩:=jf r
 cases rx
 obtain⟨its,rv,pl,hz⟩:=I.list hq
 have hne:p≠s.heap.objs.size:=by
  obtain⟨o,n,e,_⟩:=pl
  exact xm (Heap.lt_size e)
 have hl:=rv.length
 rw[xn]at hl
 refine call_all_walk (wpAny_pyIter_list pl.isList ⟨s.heap.objs.size,_,_,_,_,_,fun i=>(bs[i]?).getD false,rfl,Walks.list (A:=X.A.in1) (show X.A.in1.handled=none from I.ok.hd hc) s.heap.objs.size p hne its.toArray,
  ⟨⟨_,Heap.get?_push_size _ rfl,rfl,rfl⟩,pl.isList.at fun o e=>Heap.get?_push_of_some _ e⟩,fun i v s' Q' E' hP hQ=>?_,fun h' tk hk=>?_⟩)
 ·obtain⟨b,hb,rfl⟩:=YM rv (by simpa using hP)
  dsimp only at hQ;rw[hb]at hQ
  exact wpAny_truthy_bool hQ
 ·rw[xl,<- hl,kG]
  refine⟨.bl _,H,I.kept (t':=tk) fun b o e=>hk b o ?_ (Heap.get?_push_of_some _ e),rfl,q⟩
  intro z
  rw[List.mem_singleton]at z
  exact absurd (Heap.lt_size e) (by rw[z];exact xO _)
theorem Y3 (hc:X.calm=true):qL X (.builtin "any") (fun xs H Q=>∃ (p:Addr) (bs:List Bool),xs= [.ref p]/\SqL X.K H p (bs.map V.bl)/\Q (.bl (bs.any id)) H):=by
 intro pins s σ H xs us Q I r h
 obtain⟨p,bs,rfl,hq,q⟩:=h
 obtain⟨u,rfl,rx⟩:=jf r
 cases rx
 obtain⟨its,rv,pl,hz⟩:=I.list hq
 have hne:p≠s.heap.objs.size:=by
  obtain⟨o,n,e,_⟩:=pl
  exact xm (Heap.lt_size e)
 have hl:=rv.length
 rw[xn]at hl
 refine call_any_walk (wpAny_pyIter_list pl.isList ⟨s.heap.objs.size,_,_,_,_,_,fun i=>(bs[i]?).getD false,rfl,Walks.list (A:=X.A.in1) (show X.A.in1.handled=none from I.ok.hd hc) s.heap.objs.size p hne its.toArray,
  ⟨⟨_,Heap.get?_push_size _ rfl,rfl,rfl⟩,pl.isList.at fun o e=>Heap.get?_push_of_some _ e⟩,fun i v s' Q' E' hP hQ=>?_,fun h' tk hk=>?_⟩)
 ·obtain⟨b,hb,rfl⟩:=YM rv (by simpa using hP)
  dsimp only at hQ;rw[hb]at hQ
  exact wpAny_truthy_bool hQ
 ·rw[xl,<- hl,kH]
  refine⟨.bl _,H,I.kept (t':=tk) fun b o e=>hk b o ?_ (Heap.get?_push_of_some _ e),rfl,q⟩
  intro z
  rw[List.mem_singleton]at z
  exact absurd (Heap.lt_size e) (by rw[z];exact xO _)
theorem RepL.bls{M:Addr->Prop}{H:Hp}:∀ {vs:List V}{bs:List Bool},RepL M H vs (bs.map PyData.bool)->vs=bs.map V.bl
 |_,[],.nil=>rfl
 |_,b::bs,.cons q t=>by cases q;rw[xq,<- RepL.bls t]
theorem YW:bootBuiltins "all" =some (.builtin "all"):=by decide +kernel
theorem YX:bootBuiltins "any" =some (.builtin "any"):=by decide +kernel
theorem ZQ:bootBuiltins "list" =some (.type "list"):=by decide +kernel
theorem JS:bootBuiltins "tuple" =some (.type "tuple"):=by decide +kernel
theorem Qw:bootBuiltins "int" =some (.type "int"):=by decide +kernel
theorem yi:bootBuiltins "bool" =some (.type "bool"):=by decide +kernel
end
section
variable {X:Cx} {Γ:Ge} {tg iter a b:Expr} {ds:List PyData} {p pos:Pos}
noncomputable def zL(n:Nat):List PyData:=(List.range n).map fun (i:Nat)=>PyData.int (i:Int)
theorem zG(n:Nat):(zL n).length=n:=by simp[zL]
theorem ZX{n i:Nat}{d:PyData}(h:(zL n)[i]?=some d):i<n/\d=.int (i:Int):=by
 unfold zL at h
 rw[xB]at h
 have hi:i<n:=by
  cases e:(List.range n)[i]? with
  |none=>rw[e]at h;cases h
  |some j=>simpa using (xb.mp e).1
 rw[uo hi]at h
 exact⟨hi,(Option.some.inj h).symm⟩
end
noncomputable def zfO(X:Cx)(ts:List Expr):TGs:=fun vs σ H Q=>∀ (pins:List (Addr×Obj)) (s:Shared) (us:List Value),Inv X pins σ H s->Vals vs us ->
  wpAny (model X.prog X.w) X.A (assignInOrder ((assignEach ts X.env).map (·.2)) us) (fun _ s'=>∃ σ' H',Inv X pins σ' H' s'/\Q σ' H') X.xe s
theorem wC{X:Cx}{ts:List Expr}:PGs X ts (zfO X ts):=fun pins s σ H vs us Q I r h=>h pins s us I r
theorem PGs.wp{X:Cx}{ts:List Expr}{t:TGs}{vs:List V}{σ:St}{H:Hp}{Q:St->Hp->Prop}(h:PGs X ts t)(q:t vs σ H Q):zfO X ts vs σ H Q:=fun pins s us I r=>h pins s σ H vs us Q I r q
section
variable {X:Cx} {k:Nat} {Γ Γ1 Γ2:Ge} {tg:Expr} {ts:List Expr} {d:PyData} {ds:List PyData} {pos:Pos}
end
theorem zd4{k:Nat}{ix:List Nat}{σ:St}{j i0:Nat}{v:V}(q:ix[j]?=some i0)(h:σ[i0]?=some (some v)):(cS k ix σ)[k+j]?=some (some v):=by
 unfold cS
 rw[xf (by simp),uh,Nat.add_sub_cancel_left,xB,q]
 simp[h]
section
variable {X:Cx} {elt tg iter:Expr} {ifs:List Expr} {scope:Scope} {pos:Pos} {N':List Str} {k:Nat} {ix:List Nat} {Γ:Ge} {ds:List PyData} {M:Addr->Prop} {σ:St} {H:Hp} {Q:VK}
noncomputable def gU(X:Cx)(N':List Str)(scope:Scope)(tg:Expr)(σ0:St):TG:=fun v σ H Q=>∀ cl C s2 H2 fp,Cat X σ0 C s2 H2 fp->wpG (X.comp N' scope cl C s2 H2 fp) tg v σ H Q
noncomputable def fU(X:Cx)(N':List Str)(scope:Scope)(ifs:List Expr)(σ0:St):TT:=fun σ H Q=>∀ cl C s2 H2 fp,Cat X σ0 C s2 H2 fp->wpF (X.comp N' scope cl C s2 H2 fp) ifs σ H Q
noncomputable def eU(X:Cx)(N':List Str)(scope:Scope)(elt:Expr)(σ0:St):TE:=fun σ H Q=>∀ cl C s2 H2 fp,Cat X σ0 C s2 H2 fp->wpE (X.comp N' scope cl C s2 H2 fp) elt σ H Q
theorem zap(hcalm:X.calm=true)(S:CSc X.env.scope X.N scope N' k ix)(hf:∀ x,foldedSetIterable iter X.env x=pure x:=by intro _;rfl) :
    PE X (.ListComp elt [⟨tg,iter,ifs,0⟩] scope pos) (WT k ix (wpI X tg iter) (gU X N' scope tg) (fU X N' scope ifs) (eU X N' scope elt)) :=
  zcr hcalm S Qn (fun _ cl C s2 H2 fp c pins s σ H v u Q I r h=>h cl C s2 H2 fp c pins s u I r) (fun _ cl C s2 H2 fp c pins s σ H Q I h=>h cl C s2 H2 fp c pins s I)
    (fun _ cl C s2 H2 fp c pins s σ H Q I h=>h cl C s2 H2 fp c pins s I) hf
theorem zcv{i:Nat}{x:Str}{pos' spos:Pos}(hN:X.N.Nodup)(hi':X.N[i]?=some x)(hx:Loc X.env.scope x)(hcalm:X.calm=true)(S:CSc X.env.scope X.N scope N' k ix)
  (hsw:swapsWith (.ListComp elt [⟨tg,iter,ifs,0⟩] scope pos) (some (.Name x pos')) spos.line X.env=pure true) (hs:∀ x,foldedSetIterable iter X.env x=pure x:=by intro _;rfl)
  (hf:X.fn x=true∨X.env.scope.names.lookup x=some .local:=by first | exact .inl rfl | exact .inr rfl | assumption) :
  PS X (.Assign [.Name x pos'] (.ListComp elt [⟨tg,iter,ifs,0⟩] scope pos) spos) (vO (WT k ix (wpI X tg iter) (gU X N' scope tg) (fU X N' scope ifs) (eU X N' scope elt)) (wm i)) :=
 zcu hN hi' hx hcalm S Qn (fun _ cl C s2 H2 fp c pins s σ H v u Q I r h=>h cl C s2 H2 fp c pins s u I r) (fun _ cl C s2 H2 fp c pins s σ H Q I h=>h cl C s2 H2 fp c pins s I)
  (fun _ cl C s2 H2 fp c pins s σ H Q I h=>h cl C s2 H2 fp c pins s I) hsw hs hf
end
inductive Out where
 |next (Γ:Ge)
 |ret (d:PyData)
 |new (ds:List PyData)
section
variable {X:Cx} {Γ Γ1:Ge} {st:Stmt} {sts body els:List Stmt} {o:Out} {d:PyData} {e c tg:Expr} {pos:Pos}
end
structure Kn(P:Program)(w:World)(K:PySem.W.Frag)(mg:Str->Option Value)(base:Heap)(CX:CXT)(x:Str)(k:Nat)(sp:Sp):Prop where
 ex:∃ (f:Addr) (fd:FuncData) (ps:List Str),FnOk P w K mg base CX k f fd ps sp/\mg x=some (.ref f)/\PySem.W.keepIn K (.ref f)=true/\Binds K fd ps []
section
variable {X:Cx} {Γ:Ge} {x:Str} {k:Nat} {CX:CXT} {E:XK} {n:Nat} {pre:List PyData->Prop} {e:Expr} {es:List Expr} {ds:List PyData} {p pos:Pos}
theorem zdo {sp:Sp}{σ:St}{H:Hp}{Q:VK}(kn:Kn X.prog X.w X.K X.mg X.base CX x k sp) (hr:Room k X.A) (hg:Gl X x) (hx:W7 CX X E) (h:wpA X (e::es) σ H fun vs H1=>sp vs H1 Q E) (hdb:(x==("__debug__" :Str))=false:=by decide)
    (he:starEach (e::es) X.env=(false,eval e X.env)::starEach es X.env:=by rfl) (hpl:(backTo pos (starEach es X.env)).any (·.1)=false:=by rfl):wpE X (.Call (.Name x p) (e::es) [] pos) σ H Q:=by
  obtain⟨f,fd,ps,F,hm,hk,hb⟩:=kn.ex
  refine (zcp F hr hg hm hk hb .nil hx jc hdb he hpl).wp (h.mono fun vs H1 q=>?_)
  show sp (vs++ []) H1 Q E
  rw[xG];exact q
end
theorem vN{N:List Str}{vs:List V}(h:vs.length<=N.length):(start N vs).length=N.length:=by
 unfold start;simp;omega
structure Df(K:PySem.W.Frag)(mg:Str->Option Value)(x:Str)(st:Stmt)(ps:List Str):Prop where
 ex:∃ f fd,Fun K x x st f fd/\mg x=some (.ref f)/\Binds K fd ps []
section
variable {P:Program} {w:World} {K:PySem.W.Frag} {mg:Str->Option Value} {base:Heap} {x:Str} {st:Stmt} {N ps:List Str} {k:Nat}
theorem Df.kn{sp:Sp}(D:Df K mg x st ps)(S:ja N ps (defScope st))(len:∀ vs H Q E,sp vs H Q E->vs.length=ps.length)
  (hbody:∀ (f:Addr) (cdv:Value) (A:Around) (outer:List Env) (s:Shared) (H:Hp) (vs:List V) (Q:VK) (E:XK),Room k (A.deeper (envOfC x (defScope st) s.heap.objs.size f cdv))->sp vs H Q E ->
   wpB (ZS CX0 P w K mg base N x (defScope st) f cdv A outer s H E).nox (defBody st) { nx:=fun _ H'=>Q .non H',rt:=Q } (start N vs) H):Kn P w K mg base CX0 x (k+1) sp:=by
 obtain⟨f,fd,F,hm,hb⟩:=D.ex
 exact⟨f,fd,ps,F.ok S len (fun cdv A outer s H vs Q E hr h=>⟨_,qi,hbody f cdv A outer s H vs Q E hr h⟩),hm,F.kp,hb⟩
end
section
variable {X:Cx} {M:Addr->Prop} {Γ Γ1:Ge} {σ:St} {H:Hp} {D:qF} {st:Stmt} {sts body els:List Stmt} {o:Out} {d:PyData} {e c tg:Expr} {pos pos':Pos} {x:Str}
theorem zgP(i:Nat){Q:VK}(hN:X.N.Nodup)(h:wpE X e σ H Q)(k:∀ v H',Q v H'->wpB X sts D (σ.set i (some v)) H')(hi:X.N[i]?=some x:=by rfl)(hx:Loc X.env.scope x:=by first | exact Or.inl rfl | exact Or.inr rfl)(hs:swapsWith e (some (.Name x pos')) pos.line X.env=pure false:=by rfl)
    (hf:X.fn x=true∨X.env.scope.names.lookup x=some .local:=by first | exact .inl rfl | exact .inr rfl | assumption):wpB X (.Assign [.Name x pos'] e pos::sts) D σ H :=
  (qX (JH hN hi hx zd hs hf) qi).wp (h.mono k)
end
section
variable {X:Cx} {M:Addr->Prop} {Γ Γ1:Ge} {σ:St} {H:Hp} {D:qF} {sts:List Stmt} {e:Expr} {ds:List PyData} {d:PyData} {pos pos':Pos} {x:Str}
end
mutual
/-- no list within -/
noncomputable def noL:PyData->Bool
 |.list _=>false
 |.tuple ds=>zch ds
 |.dict _=>false
 |_=>true
noncomputable def zch:List PyData->Bool
 |[]=>true
 |d::ds=>noL d&&zch ds
end
mutual
theorem Rep.free{M M':Addr->Prop}{H:Hp}:∀ {v:V}{d:PyData},noL d=true->Rep M H v d->Rep M' H v d
 |_,_,_,.none=>.none
 |_,_,_,.bool b=>.bool b
 |_,_,_,.int i=>.int i
 |_,_,_,.str x=>.str x
 |_,_,h,.list e n r=>by simp[noL]at h
 |_,_,h,.tuple e r=>.tuple e (RepL.free (by simpa [noL] using h) r)
 |_,_,h,.dict e n k r=>by cases h
 |_,_,h,.inst e n k r=>by cases h
theorem RepL.free{M M':Addr->Prop}{H:Hp}:∀ {vs:List V}{ds:List PyData},zch ds=true->RepL M H vs ds->RepL M' H vs ds
 |_,_,_,.nil=>.nil
 |_,_,h,.cons r t=>by
  rw[zch,xa]at h
  exact .cons (Rep.free h.1 r) (RepL.free h.2 t)
end
section
variable {X:Cx} {M:Addr->Prop} {Γ Γ1:Ge} {σ:St} {H:Hp} {D:qF} {sts:List Stmt} {e:Expr} {ds:List PyData} {d:PyData} {pos pos' p2 p3:Pos} {x:Str} {l:Addr} {vs:List V}
end
theorem Df.of{K:PySem.W.Frag}{mg:Str->Option Value}{h:Heap}{x:Str}{st:Stmt}{ps:List Str}{f:Addr}{oc:Value}{od an:Option Addr}{sl:Array (Option Value)}{kV dc pm cd ct:Value}(X:K.In h)(G:h.Ns mainGlobals mg)
  (a:PySem.W.nsIn K mainGlobals x=some (some (.ref f))) (l:K.lookup f=some ⟨oc,od,.func (PySem.W.fnOf x x (zZ st) (defBody st) (defScope st) .none kV dc pm an cd ct),sl⟩) (c:PySem.W.codeIn K cd x=true) (k:PySem.W.keepIn K (.ref f)=true)
  (hb:∀ (kV doc pm:Value) (an:Option Addr) (cdv ct:Value) (us:List Value),us.length=ps.length->bindArgs (PySem.W.fnOf x x (zZ st) (defBody st) (defScope st) .none kV doc pm an cdv ct) ⟨us,[]⟩=pure (ps.zip us)):Df K mg x st ps :=
 ⟨f,_,ZU (st:=st) l c k,PySem.W.mg_of X G a,(ZU (st:=st) l c k).binds hb⟩
structure Dl(K:PySem.W.Frag)(x:Str)(st:Stmt)(fa:Addr)(p:Str):Prop where
 ex:∃ fd:FuncData,Fun K x x st fa fd/\∀ (s:Shared) (u:Value),BindsTo s fd ⟨[u],[]⟩ [(p,u)]
theorem Dl.of{K:PySem.W.Frag}{mg:Str->Option Value}{h:Heap}{x p:Str}{st:Stmt}{f fa:Addr}{oc:Value}{od an:Option Addr}{sl:Array (Option Value)}{kV dc pm cd ct:Value}(X:K.In h)(G:h.Ns mainGlobals mg)(hfa:mg x=some (.ref fa))
  (a:PySem.W.nsIn K mainGlobals x=some (some (.ref f))) (l:K.lookup f=some ⟨oc,od,.func (PySem.W.fnOf x x (zZ st) (defBody st) (defScope st) .none kV dc pm an cd ct),sl⟩) (c:PySem.W.codeIn K cd x=true) (k:PySem.W.keepIn K (.ref f)=true)
  (hb:∀ (s:Shared) (u:Value),BindsTo s (PySem.W.fnOf x x (zZ st) (defBody st) (defScope st) .none kV dc pm an cd ct) ⟨[u],[]⟩ [(p,u)]):Dl K x st fa p:=by
 have e:=hfa.symm.trans (PySem.W.mg_of X G a)
 cases e
 exact⟨_,ZU (st:=st) l c k,hb⟩
noncomputable def YA(K:PySem.W.Frag):Sp:=fun vs H Q _=>∃ (a:Addr) (ns:List Int),vs= [.ref a]/\SqL K H a (ns.map V.int)/\ns.length<=63/\∀ H',Q (.bl true) H'
theorem Fun.law{P:Program}{w:World}{K:PySem.W.Frag}{mg:Str->Option Value}{base:Heap}{x p:Str}{st:Stmt}{N:List Str}{k:Nat}{f:Addr}{fd:FuncData}(F:Fun K x x st f fd)(S:ja N [p] (defScope st))
  (hbody:∀ (cdv:Value) (A:Around) (outer:List Env) (s:Shared) (H:Hp) (Q:VK) (E:XK) (a:Addr) (ns:List Int),Room k (A.deeper (envOfC x (defScope st) s.heap.objs.size f cdv))->SqL K H a (ns.map V.int)->ns.length<=63->(∀ H',Q (.bl true) H') ->
   wpB (ZS CX0 P w K mg base N x (defScope st) f cdv A outer s H E).nox (defBody st) { nx:=fun _ H'=>Q .non H',rt:=Q } (start N [.ref a]) H):FnOk P w K mg base CX0 (k+1) f fd [p] (YA K) :=
 F.ok S (fun vs H Q E ⟨a,ns,e,_⟩=>by rw[e];rfl) fun cdv A outer s H vs Q E hr ⟨a,ns,e,hS,hlen,kk⟩=>⟨_,qi,by subst e;exact hbody cdv A outer s H Q E a ns hr hS hlen kk⟩
theorem walkL{l:PySem.W.OpenLaw}{q:Program}{loose:List Str}{XP:(Str->Option Value)->Heap->Prop}{YP:World->Heap->Prop}{d:DefRec}{K:Params->PySem.W.Frag}{k:Nat}{st:Stmt}(hn:l.most=some 63)(hdf:d.params.defaults= [])(hk:Room k callerA)
  (hY:∀ (w:World) (h:Heap),YP w h->(K w.params).In h)
  (F:∀ (w:World) (mg:Str->Option Value) (fa:Addr) (h:Heap),(K w.params).In h->h.Ns mainGlobals mg->mg d.name=some (.ref fa) ->
   Dl (K w.params) "law" st fa "_law_script" /\∀ (fd:FuncData),Fun (K w.params) "law" "law" st fa fd->∀ base:Heap,FnOk l.prog w (K w.params) mg base CX0 k fa fd ["_law_script"] (YA (K w.params))) :
  PySem.W.WalkO q loose XP YP l.row.toRowW d [] (fun f vs=>PySem.call f vs) :=
 L2.walk_of (n:=63) (k:=k) (x:= "_law_script") (CX:=fun _=>CX0) (sp:=fun w=>YA (K w.params)) hn (by decide) hdf hk hY (fun w mg fa h KX G hm=>by
  obtain⟨⟨fd,Ff,hb⟩,hF⟩:=F w mg fa h KX G hm
  exact⟨fd,hb,fun base _ _=>hF fd Ff base⟩) (fun _ _ a ns hl _ hS=>⟨a,ns,rfl,hS,hl,fun _=>rfl⟩) fun _ _ _ _ _ z=>z
end L2
namespace L2
open PySem PySem.Spec PyProof.Rows
variable [Cs]
noncomputable def CX1(P:Program)(w:World):CXT:=fun outer H s E e s'=>∃ (ea:Addr) (c a0:Value) (B h0:Heap) (H':Hp),e=.ref ea/\s'.os=s.os/\AllBare s'.gens/\Heap.FlyingW B outer ea c a0 s'.heap/\h0.UpToSlots s'.heap /\
 (∀ h6,B.StaysIn h6->h0.UpToSlots h6->Un (frs outer) [] H H' s.heap h6/\HOk P w H' h6)/\E c none H'
section
variable {X:Cx} {pins:List (Addr×Obj)} {σ:St} {H:Hp} {s:Shared}
theorem Inv.flies(I:Inv X pins σ H s)(hx:X.ex= [])(hst:X.stack=X.env::X.outer)(hf:X.env.frame=some X.env.locals){h6:Heap}
  (k1:(PySem.W.hideAll s.heap (frs X.stack)).StaysIn h6) (k2:s.heap.UpToSlots h6):Un (frs X.outer) [] X.H₀ H X.s₀.heap h6/\HOk X.prog X.w H h6:=by
 have nex:∀ b,b∉X.ex:=fun b z=>by rw[hx]at z;cases z
 have kk:∀ b o,s.heap.get? b=some o->b∉frs X.stack->h6.get? b=some o:=fun b o e n=>k1 b o (PySem.W.hideAll_get _ e n)
 have fr:∀ b,b∈frs X.stack->∀ o,s.heap.get? b=some o->∃ sl,h6.get? b=some { o with slots:=sl }:=fun b hb o e=>by
  obtain⟨_,o',e',hn⟩:=I.stack.mem hb
  rw[e]at e'
  cases e'
  exact k2 b o e hn
 have hsub:∀ b,b∈frs X.outer->b∈frs X.stack:=fun b hb=>by
  rw[hst]
  unfold frs at hb |-
  rw[xR,hf]
  exact xj _ hb
 have hsup:∀ b,b∈frs X.stack->b=X.env.locals∨b∈frs X.outer:=fun b hb=>by
  rw[hst]at hb
  unfold frs at hb |-
  rw[xR,hf]at hb
  exact xy.mp hb
 have hL:∀ b o,X.s₀.heap.get? b=some o->b≠X.env.locals:=fun b o e z=>by
  have h1:=Heap.lt_size e
  have h2:=I.ok.above
  rw[z]at h1
  exact absurd (xk h1 h2) (xO _)
 refine⟨⟨fun b o e n hb _=>?_,fun b o e n hb _=>?_,fun b o e n _=>I.base.free b o e n (nex b),fun b o e _=>?_,I.base.tups,I.base.frzs,I.base.tbls⟩,fun a o e=>?_⟩
 ·refine kk b o (I.base.keep b o e n hb (nex b)) fun z=>?_
  rcases hsup b z with z | z
  ·exact hL b o e z
  ·exact hb z
 ·obtain⟨sl,e1⟩:=I.base.slot b o e n hb (nex b)
  obtain⟨sl2,e2⟩:=fr b (hsub b hb) _ e1
  exact⟨sl2,e2⟩
 ·obtain⟨o1,e1⟩:=I.base.there b o e (nex b)
  by_cases hb:b∈frs X.stack
  ·obtain⟨sl,e2⟩:=fr b hb _ e1
   exact⟨_,e2⟩
  ·exact⟨o1,kk b o1 e1 hb⟩
 ·refine (I.hok a o e).stay (fun b u hb q=>kk b u q fun z=>?_) (fun _ q=>q) fun _ _ q=>q
  have hn:=I.stkFree b z
  rcases hb with hb | hb
  ·subst hb;rw[e]at hn;cases hn
  ·rw[hb]at hn;cases hn
theorem VB(I:Inv X pins σ H s)(hx:X.ex= [])(hst:X.stack=X.env::X.outer)(hf:X.env.frame=some X.env.locals){h':Heap}{ea:Addr}{c:Value}{args:List Value}
  (hm:Heap.MadeExcOf s.heap h' ea c args) {E:XK} (q:E c none H) {E':Value->Shared->Prop} :
  wpAny (model X.prog X.w) X.A (leaving X.env (.ref ea)) (fun _ s''=>CX1 X.prog X.w X.outer X.H₀ X.s₀ E (.ref ea) s'') E' { s with heap:=h' }:=by
 have hfr:X.A.frames=some (X.env::X.outer):=by rw[<- hst];exact I.ok.frames
 have hst':=I.stack
 rw[hst]at hst'
 refine wpAny_leaves_madeW (base:=PySem.W.hideAll s.heap (frs X.stack)) (h:=s.heap) hfr hf (fun b o e=>PySem.W.of_hideAll _ e) (PySem.W.funFrames_hide hst' fun env he a ha=>?_) hm fun h'' t f1 f2 f3 f4=>?_
 ·rw[hst];exact uq.mpr ⟨env,he,ha⟩
 ·exact⟨ea,c,.ref t,_,s.heap,H,rfl,I.os,I.bare,f1,(Heap.UpToSlots.of_keeps hm.keeps).trans f4,fun h6 k1 k2=>I.flies hx hst hf k1 k2,q⟩
end
theorem zeS(h g:Heap)(a:Addr)(o:Obj)(hg:g.get? a=some o):∃ h':Heap,h'.get? a=some o/\∀ b,b≠a->h'.get? b=h.get? b:=by
 have ho:∀ (x y:_) (z:_),o≠⟨x,y,.freed,z⟩:=fun x y z e=>by
  subst e
  unfold Heap.get? at hg
  split at hg
  ·cases hg
  ·rename_i h1
   exact h1 _ _ _ hg
 refine⟨⟨Array.ofFn (n:=max h.objs.size (a+1)) fun i=>if i.val=a then o else (h.objs[i.val]?).getD ⟨.none,none,.freed,#[]⟩,{}⟩,?_,fun b hb=>?_⟩
 ·unfold Heap.get?
  rw[Array.getElem?_ofFn,dif_pos (by omega),if_pos rfl]
  obtain⟨x,y,d,z⟩:=o
  cases d<;>first | rfl | exact absurd rfl (ho _ _ _)
 ·unfold Heap.get?
  rw[Array.getElem?_ofFn]
  by_cases hl:b<max h.objs.size (a+1)
  ·rw[dif_pos hl,if_neg hb]
   cases h.objs[b]?<;>rfl
  ·rw[dif_neg hl,Array.getElem?_eq_none (xA (Nat.le_max_left _ _) (Nat.not_lt.mp hl))]
noncomputable def J9(B:Heap)(l:List Env)(ea:Addr)(c a0 fl:Value)(h:Heap):Prop:=B.StaysIn h/\B.get? ea=none/\h.FunFrames B l/\h.TracedAtW B ea c a0 fl
section
variable {M:Model} {A:Around} {E:Value->Shared->Prop} {s:Shared} {B:Heap} {l outer:List Env} {env:Env} {ea L:Addr} {c a0 fl:Value} {Q:Unit->Shared->Prop}
theorem vI{fr:Option Addr}(h:J9 B l ea c a0 fl s.heap)(k:∀ h',J9 B l ea c a0 (fr.elim .none fun f=>rawInt f) h'->s.heap.UpToSlots h'->Q () { s with heap:=h' }):wpAny M A (setFlight (.ref ea) fr) Q E s:=by
 obtain⟨hkb,hen,hl,oe,vs,T,oT,ts,he,hcls,hd,h1,hnT,hTe,hT,hdT,h3⟩:=h
 have hsz3:3<ts.size:=(xY.mp h3).1
 have other:∀ b,b≠T->(s.heap.update T (Obj.mapFields (·.setIfInBounds 3 (fr.elim Value.none fun f=>rawInt f)))).get? b=s.heap.get? b:=fun b hb=>Heap.get?_update_other _ _ (Ne.symm hb)
 have noR:∀ b o,s.heap.get? b=some o->(∀ vs,o.data≠ .fields vs)->b≠T:=fun b o hb hnf q=>by
  rw[q,hT]at hb;injection hb with hb;subst hb;exact hnf ts hdT
 unfold setFlight
 refine wpAny_bind (wpAny_field he hd h1 ?_)
 rw[if_pos (show (Value.ref T !=Value.none)=true from by simp)]
 refine wpAny_setField hT hdT hsz3 (k _ ⟨fun b o hbo=>(other b fun q=>by rw[q,hnT]at hbo;cases hbo).trans (hkb b o hbo),hen,
  hl.of_keeps fun b o hb hnf=>⟨o,(other b (noR b o hb hnf)).trans hb,rfl⟩,?_⟩ fun b o hb hnf=>⟨o.slots,(other b (noR b o hb hnf)).trans hb⟩)
 exact⟨oe,vs,T,_,_,(other ea (Ne.symm hTe)).trans he,hcls,hd,h1,hnT,hTe,Heap.get?_update_self _ hT (Obj.isFreed_of_fields (Obj.data_mapFields hdT _)),Obj.data_mapFields hdT _,by simp[hsz3]⟩
theorem wy(hfr:A.frames=some (env::outer))(hf:env.frame=some L)(h:J9 B (env::outer) ea c a0 fl s.heap)(k:∀ h',J9 B (env::outer) ea c a0 (rawInt L) h'->s.heap.UpToSlots h'->Q () { s with heap:=h' }):wpAny M A (noteFrame (.ref ea) env) Q E s:=by
 by_cases hq:fl=rawInt L
 ·subst hq
  exact wpAny_noteFrame_againW hf h.2.2.2 (k s.heap h (.refl _))
 ·obtain⟨hkb,hen,hl,oe,vs,T,oT,ts,he,⟨hcls,h0⟩,hd,h1,hnT,hTe,hT,hdT,h3⟩:=h
  subst hcls
  have other:∀ b,b≠T->(s.heap.update T (Obj.mapFields (·.setIfInBounds 3 Value.none))).get? b=s.heap.get? b:=fun b hb=>Heap.get?_update_other _ _ (Ne.symm hb)
  have noR:∀ b o,s.heap.get? b=some o->(∀ vs,o.data≠ .fields vs)->b≠T:=fun b o hb hnf q=>by
   rw[q,hT]at hb;injection hb with hb;subst hb;exact hnf ts hdT
  unfold noteFrame
  simp only[hf]
  refine wpAny_bind (wpAny_field he hd h1 ?_)
  rw[if_pos (show (Value.ref T !=Value.none)=true from by simp)]
  refine wpAny_bind (wpAny_field hT hdT h3 ?_)
  rw[if_neg (show ¬ ((fl==rawInt L)=true) from by simpa using hq)]
  refine wpAny_bind (wpAny_setField hT hdT (xY.mp h3).1 ?_)
  refine wpAny_entryW hfr (hl.of_keeps fun b o hb hnf=>⟨o,(other b (noR b o hb hnf)).trans hb,rfl⟩) hf ((other ea (Ne.symm hTe)).trans he)
   (fun b o hbo=>(other b fun q=>by rw[q,hnT]at hbo;cases hbo).trans (hkb b o hbo)) hen hd (xY.mp h1).1 h0
   fun h' ⟨x1,x2,x3,x4⟩=>k h' ⟨x1,hen,x2,x3⟩ fun b o hb hnf=>x4 b o ((other b (noR b o hb hnf)).trans hb) hnf
theorem zah{x:Value}{env':Env}(h:env.frame=env'.frame):noteFrame x env=noteFrame x env':=by
 unfold noteFrame PySem.frameOf
 rw[h]
theorem WG{h h' B':Heap}(hB:∀ b,B.get? b=none->B'.get? b=none):∀ {l:List Env},h.FunFrames B l->(∀ b∈frs l,h'.get? b=h.get? b)->h'.FunFrames B' l
  |[],_,_=>trivial
  |env::r,⟨hk,⟨L,o,hf,hn,ho,hd⟩,hr⟩,k=>⟨hk,⟨L,o,hf,hB L hn,(k L (by unfold frs;rw[xR,hf];exact .head _)).trans ho,hd⟩,WG hB hr fun b hb=>k b (by
      unfold frs at hb |-;rw[xR,hf];exact .tail _ hb)⟩
end
noncomputable def Up(X:Cx)(pins:List (Addr×Obj))(σ:St)(H:Hp)(C:Addr)(e:Value)(s:Shared):Prop :=
 ∃ (ea:Addr) (a0 fl:Value) (B:Heap),e=.ref ea/\J9 B X.stack ea (.ref C) a0 fl s.heap/\∀ h6,B.StaysIn h6->s.heap.UpToSlots h6->Inv X pins σ H { s with heap:=h6 }
noncomputable def Sk(X:Cx):Prop:=∃ env0 outer0 L,X.stack=env0::outer0/\env0.frame=some L/\X.env.frame=some L
section
variable {X:Cx} {pins:List (Addr×Obj)} {σ:St} {H:Hp} {s s':Shared} {C:Addr} {e:Value}
theorem Inv.up(I:Inv X pins σ H s){E:XK}(hc:CX1 X.prog X.w X.stack H s E e s'){G:Prop}(k:∀ c H',E c none H'->(∀ C,c=.ref C->Up X pins σ H' C e s')->G):G:=by
 obtain⟨ea,c,a0,B,h0,H',rfl,os,bare,hfl,up,hk,q⟩:=hc
 refine k c H' q fun C e=>?_
 subst e
 exact⟨ea,a0,.none,B,rfl,hfl,fun h6 k1 k2=>by
  obtain⟨un,hok⟩:=hk h6 k1 (up.trans k2)
  exact I.call' (s':={ s' with heap:=h6 }) os un hok bare fun b z=>nomatch z⟩
theorem Up.comp{N':List Str}{scope:Scope}{cl:List (Str×Addr)}{Cn:Addr}{s2:Shared}{H2:Hp}{fp:List Addr}{pins':List (Addr×Obj)}{σ':St}(sk:Sk X)(cat:Cat X σ Cn s2 H2 fp)(u:Up (X.comp N' scope cl Cn s2 H2 fp) pins' σ' H C e s)
  (k:∀ pins s',Up X pins σ H C e s'->X.xe e s'):(X.comp N' scope cl Cn s2 H2 fp).xe e s:=by
 obtain⟨ea,a0,fl,B,rfl,al,inv⟩:=u
 obtain⟨pins,I2,f2,hC⟩:=cat
 obtain⟨env0,outer0,L,hst,hf0,hfx⟩:=sk
 have hfr:X.A.frames=some (env0::outer0):=by rw[<- hst];exact I2.ok.frames
 have al':J9 B (env0::outer0) ea (.ref C) a0 fl s.heap:=by rw[<- hst];exact al
 show wpAny (model X.prog X.w) X.A (noteFrame (.ref ea) (compEnvC scope cl Cn X.env)) (fun _ s''=>YO X Cn (.ref ea) s'') (YO X Cn) s
 rw[zah (env':=env0) (show (compEnvC scope cl Cn X.env).frame=env0.frame from hfx.trans hf0.symm)]
 refine wy hfr hf0 al' fun h4 al4 up4=>?_
 obtain⟨g1,g2,g3,g4⟩:=al4
 have I4:=inv h4 g1 up4
 obtain⟨m,hn,_⟩:=I4.loc
 refine⟨m,hn,fun h' sb cenv _=>?_⟩
 obtain⟨oC,es,ep,hoC,hdC,_⟩:=id hn
 have hCf:∀ b o vs,h4.get? b=some o->o.data=.fields vs->b≠Cn:=fun b o vs e1 e2 z=>by
  subst z
  have e3:h4.get? b=some oC:=hoC
  rw[e1]at e3;cases e3
  rw[hdC]at e2;cases e2
 have hfrC:∀ b∈frs (env0::outer0),b≠Cn:=fun b hb z=>by
  rw[<- hst]at hb
  obtain⟨_,o,ho,_⟩:=I2.stack.mem hb
  rw[z]at ho
  exact absurd (Heap.lt_size ho) (Nat.not_lt.mpr hC)
 have hB':∀ b,B.get? b=none->(PySem.W.hideAll B [Cn]).get? b=none:=fun b e1=>by
  cases q:(PySem.W.hideAll B [Cn]).get? b with
  |none=>rfl
  |some o=>rw[PySem.W.of_hideAll _ q]at e1;cases e1
 have hBC:(PySem.W.hideAll B [Cn]).get? Cn=none:=PySem.W.hideAll_none _ (.head _)
 obtain⟨oe,vs,T,oT,ts,he,hcls,hd,h1,hnT,hTe,hT,hdT,h3⟩:=g4
 have he':h'.get? ea=some oe:=(sb.2 ea (hCf _ _ _ he hd)).trans he
 have hT':h'.get? T=some oT:=(sb.2 T (hCf _ _ _ hT hdT)).trans hT
 have al5:J9 (PySem.W.hideAll B [Cn]) X.stack ea (.ref C) a0 (rawInt L) h':=by
  rw[hst]
  exact⟨fun b o e1=>(sb.2 b fun z=>by rw[z,hBC]at e1;cases e1).trans (g1 b o (PySem.W.of_hideAll _ e1)),hB' _ g2,WG hB' g3 fun b hb=>sb.2 b (hfrC b hb),oe,vs,T,oT,ts,he',hcls,hd,h1,hB' _ hnT,hTe,hT',hdT,h3⟩
 unfold PySem.passOn
 refine wpAny_bind (wpAny_field he' hd h1 ?_)
 rw[if_neg (show ¬ ((Value.ref T==Value.none)=true) from by simp)]
 refine wpAny_bind (vI (s:={ s with heap:=h' }) al5 fun h5 al6 up5=>wpAny_throw (k pins _ ⟨ea,a0,_,_,rfl,al6,fun h6 k1 k2=>?_⟩))
 obtain⟨h7,e7,k7⟩:=zeS h6 h4 Cn oC hoC
 have I7:=inv h7 (fun b o e1=>by
  by_cases z:b=Cn
  ·subst z
   have e2:=g1 b o e1
   have e3:h4.get? b=some oC:=hoC
   rw[e3]at e2;cases e2;exact e7
  ·exact (k7 b z).trans (k1 b o (PySem.W.hideAll_get _ e1 (by simpa using z)))) fun b o e1 hnf=>by
  obtain⟨sl,e2⟩:=up4 b o e1 hnf
  by_cases z:b=Cn
  ·subst z
   have e3:h4.get? b=some oC:=hoC
   rw[e3]at e2;cases e2;exact⟨_,e7⟩
  ·obtain⟨sl2,e4⟩:=(up5.trans k2) b _ ((sb.2 b z).trans e2) hnf
   exact⟨sl2,(k7 b z).trans e4⟩
 exact I2.letgo (s5:={ s with heap:=h7 }) (I2.back f2 I7) hC I7.free fun b hb=>(k7 b hb).symm
end
noncomputable abbrev bmV:List Value:= [.type "ValueError",.type "Exception",.type "BaseException",.type "object"]
noncomputable def mroIn(K:PySem.W.Frag)(C:Addr):List Value:=match K.lookup C with
 |some ⟨_,_,.cls cd,_⟩=>cd.mro
 |_=> []
theorem vo {K:PySem.W.Frag}{h:Heap}{C:Addr}(X:K.In h) (q:PySem.W.excIn K C bmV "ValueError.__new__" =true) :
  ∃ bm N nm qn bs hdct sn sub ab col dd k0 k1 k2 k3 k5 mN,h.get? C=some (excClassObj nm qn C N bs bm hdct sn sub ab col dd k0 k1 k2 k3 k5 "ValueError.__new__")/\h.Ns N mN/\mN "__init__" =none/\OwnTail h bmV bm/\mroIn K C=Value.ref C::bm:=by
 unfold PySem.W.excIn at q
 unfold mroIn
 split at q
 ·rename_i d0 c0 s0 e0
  rw[e0]
  dsimp only
  split at q
  ·rename_i C1 bm z0 z1 z2 z3 n1 z5 e1 e2
   rw[xa,xa,xa,xa,xa]at q
   obtain⟨⟨⟨⟨⟨q1,q2⟩,q3⟩,q4⟩,q5⟩,q6⟩:=q
   have r1:C1=C:=eq_of_beq q1
   have r2:n1= "ValueError.__new__" :=eq_of_beq q2
   have r3:c0.hasDel=false:=by simpa using q3
   have r6:PySem.W.nsIn K c0.ns "__init__" =some none:=eq_of_beq q6
   subst r1 r2
   have r5:s0=#[z0,z1,z2,z3,some (.builtin "ValueError.__new__"),z5]:=by
    cases s0 with
    |mk l=>exact congrArg Array.mk e2
   cases c0 with
   |mk a1 a2 a3 a4 a5 a6 a7 a8 a9 a10 a11=>
    dsimp only at e1 r3 q5 r6
    subst e1 r3 r5
    exact⟨_,_,_,_,_,_,_,_,_,_,_,_,_,_,_,_,_,X _ _ e0,.of_isNs (PySem.W.isNs_of_in X q5),PySem.W.nsMap_none_of_in X q5 r6,PySem.W.tail_of_in X q4,rfl⟩
  ·cases q
 ·cases q
structure YQ(X:Cx)(x:Str)(C:Addr):Prop where
 gl:Gl X x
 mg:X.mg x=some (.ref C)
 ex:PySem.W.excIn X.K C bmV "ValueError.__new__" =true
 d:(x==("__debug__" :Str))=false
section
variable {X:Cx} {x:Str} {C:Addr} {np cpos pos cp:Pos} {z:Str} {cj:Nat} {σ:St} {H:Hp} {D:qF}
theorem Vq {h:Heap}{bm:List Value}(T:OwnTail h bmV bm):bm.contains (.type "BaseException")=true:=(T.hasType (by decide +kernel))
theorem zbE(k:YQ X x C)(hcalm:X.calm=true)
  (h:∀ pins s,Inv X pins σ H s->∀ h' ea args,Heap.MadeExcOf s.heap h' ea (.ref C) args->X.xe (.ref ea) { s with heap:=h' }) :
  wpS X (.Raise (some (.Call (.Name x np) [.Constant (.str z) cj cp] [] cpos)) none pos) D σ H:=fun pins s I=>by
 obtain⟨bm,N,nm,qn,bs,hdct,sn,sub,ab,col,dd,k0,k1,k2,k3,k5,mN,hC,hN,hi,T,_⟩:=vo I.mod.kin k.ex
 refine wpAny_Raise_call_subT (C:=C) (nm:=nm) (q:=qn) (N:=N) (bs:=bs) (bm:=bm) (hdct:=hdct) (sn:=sn) (sub:=sub) (ab:=ab) (col:=col) (dd:=dd) (k0:=k0) (k1:=k1) (k2:=k2) (k3:=k3) (k5:=k5) (mN:=mN) PySem.F.excBase_ValueError (Vq T) (I.ok.hd hcalm) rfl hi (jD I k.gl k.mg ⟨rfl,?_⟩ k.d)
 refine Calls.evalArgs_plain ?_
 have hz:wpE X (.Constant (.str z) cj cp) σ H fun v H'=>v=.str z/\H'=H:=pe_str.wp ⟨rfl,rfl⟩
 have hA:wpA X [.Constant (.str z) cj cp] σ H fun vs H'=>vs= [.str z]/\H'=H:=(zp zd pa_nil rfl).wp (hz.mono fun v H' ⟨e1,e2⟩=>⟨by rw[e1],e2⟩)
 refine wpAny_mono (hA cpos pins s I) (fun vs s1 hq=>?_) fun _ _ y=>y
 obtain⟨ws,H1,I1,r,e,eH⟩:=hq
 subst eH
 have hlen:vs.length=1:=by rw[<- r.length,e];rfl
 exact⟨rfl,by have:=sizeLine_eq;show vs.length<=sizeLine;omega,I1.bk _ _ hC,hN.keeps I1.bk,T.keeps I1.bk,fun h' ea hm=>h pins s1 I1 h' ea vs hm⟩
end
end L2
namespace L2
open PySem PySem.Spec PyProof.Rows
variable [Cs]
noncomputable abbrev Cx.marked(X:Cx)(e:Value):Cx:={ X with A:=X.A.mark (some e),calm:=false,xe:=fun _ _=>False }
noncomputable abbrev Cx.tried(X:Cx)(pins:List (Addr×Obj))(E:Value->Shared->Prop):Cx:={ X with pn:=X.pn++pins,xe:=E }
section
variable {X:Cx} {pins:List (Addr×Obj)} {σ:St} {H:Hp} {s:Shared} {e:Value} {E:Value->Shared->Prop} {D:qF} {f:Flow}
theorem Cx.Ok.marked(ok:X.Ok)(e:Value):(X.marked e).Ok :=
 ⟨ok.mod,ok.kind,ok.glob,ok.blt,ok.above,ok.inj,ok.has,ok.cab,(fun z=>by cases z),ok.frames,ok.stk,ok.exf,ok.bs,ok.bsz,ok.noex,ok.exfs,ok.funs,ok.frf⟩
theorem Cx.Ok.tried(ok:X.Ok):(X.tried pins E).Ok :=
 ⟨ok.mod,ok.kind,ok.glob,ok.blt,ok.above,ok.inj,ok.has,ok.cab,ok.hd,ok.frames,ok.stk,ok.exf,ok.bs,ok.bsz,ok.noex,ok.exfs,ok.funs,ok.frf⟩
theorem Inv.marked(I:Inv X pins σ H s)(e:Value):Inv (X.marked e) pins σ H s:=⟨I.ok.marked e,I.os,I.bare,I.base,I.loc,I.cell,I.free,I.freeC,I.pin,I.hok,I.len⟩
theorem Inv.unmarked(ok:X.Ok)(I:Inv (X.marked e) pins σ H s):Inv X pins σ H s:=⟨ok,I.os,I.bare,I.base,I.loc,I.cell,I.free,I.freeC,I.pin,I.hok,I.len⟩
theorem Inv.tried(I:Inv X pins σ H s)(E:Value->Shared->Prop):Inv (X.tried pins E) [] σ H s:=⟨I.ok.tried,I.os,I.bare,I.base,I.loc,I.cell,I.free,I.freeC,fun p hp=>I.pin p (by simpa using hp),I.hok,I.len⟩
theorem Inv.untried{pins':List (Addr×Obj)}(ok:X.Ok)(I:Inv (X.tried pins E) pins' σ H s):Inv X pins σ H s:=⟨ok,I.os,I.bare,I.base,I.loc,I.cell,I.free,I.freeC,fun p hp=>I.pin p (xV _ hp),I.hok,I.len⟩
theorem SP.unmarked(ok:X.Ok)(h:SP (X.marked e) pins D f s):SP X pins D f s:=by
 cases f with
 |next=>obtain⟨σ',H',I,q⟩:=h;exact⟨σ',H',I.unmarked ok,q⟩
 |brk=>obtain⟨σ',H',I,q⟩:=h;exact⟨σ',H',I.unmarked ok,q⟩
 |cont=>obtain⟨σ',H',I,q⟩:=h;exact⟨σ',H',I.unmarked ok,q⟩
 |ret u=>obtain⟨v,σ',H',I,r,q⟩:=h;exact⟨v,σ',H',I.unmarked ok,r,q⟩
theorem SP.untried(ok:X.Ok)(h:SP (X.tried pins E) [] D f s):SP X pins D f s:=by
 cases f with
 |next=>obtain⟨σ',H',I,q⟩:=h;exact⟨σ',H',I.untried ok,q⟩
 |brk=>obtain⟨σ',H',I,q⟩:=h;exact⟨σ',H',I.untried ok,q⟩
 |cont=>obtain⟨σ',H',I,q⟩:=h;exact⟨σ',H',I.untried ok,q⟩
 |ret u=>obtain⟨v,σ',H',I,r,q⟩:=h;exact⟨v,σ',H',I.untried ok,r,q⟩
end
theorem VC{M:Model}{A:Around}{E:Value->Shared->Prop}{h:Heap}{g:Array GenState}{d:Drawn}{t:Nat}{os:OsState}{e:Addr}{oe:Obj}{Q:Bool->Shared->Prop}{b:Bool}{newId newId2:String}
  {nm q:Str} {C N:Addr} {bs bm:List Value} {hdct:Bool} {sn:List Str} {sub:List Value} {ab:Bool} {col:Option Bool} {dd:Option Addr} {k0 k1 k2 k3 k5:Option Value}
  {nm2 q2:Str} {C2 N2:Addr} {bs2 bm2:List Value} {hdct2:Bool} {sn2:List Str} {sub2:List Value} {ab2:Bool} {col2:Option Bool} {dd2:Option Addr} {j0 j1 j2 j3 j5:Option Value}
  (hC:h.get? C=some (excClassObj nm q C N bs bm hdct sn sub ab col dd k0 k1 k2 k3 k5 newId)) (hC2:h.get? C2=some (excClassObj nm2 q2 C2 N2 bs2 bm2 hdct2 sn2 sub2 ab2 col2 dd2 j0 j1 j2 j3 j5 newId2))
  (he:h.get? e=some oe) (hcls:oe.cls=.ref C) (hbase:bm2.contains (.type "BaseException")=true) (hb:(Value.ref C::bm).contains (.ref C2)=b) (hq:Q b ⟨h,g,d,t,os⟩) :
  wpAny M A (excMatches (.ref e) (.ref C2)) Q E ⟨h,g,d,t,os⟩:=by
 have g1:(Value.ref C2::bm2).contains (.type "BaseException")=true:=by rw[List.contains_cons,hbase,Bool.or_true]
 have g2:=tc_notTuple
 unfold excMatches
 cases b with
 |true=>
  repeat (first | (with_reducible refine wpAny_loadPart_at he ?_;rw[hcls]) | with_reducible refine wpAny_loadPart_at hC2 ?_ | (with_reducible refine wpAny_isSubtype_exc hC2 ?_;rw[g1]) | (with_reducible refine wpAny_isSubtype_exc hC ?_;rw[hb]) | wp_step)
  exact hq
 |false=>
  repeat (first | (with_reducible refine wpAny_loadPart_at he ?_;rw[hcls]) | with_reducible refine wpAny_loadPart_at hC2 ?_ | (with_reducible refine wpAny_isSubtype_exc hC2 ?_;rw[g1]) | (with_reducible refine wpAny_isSubtype_exc hC ?_;rw[hb]) | wp_step)
  exact hq
inductive HC where
 |s (z:Str)
 |b (c:Bool)
noncomputable def HC.V:HC->L2.V
 |.s z=>.str z
 |.b c=>.bl c
noncomputable def HC.D:HC->PyData
 |.s z=>.str z
 |.b c=>.bool c
noncomputable def HC.C:HC->Const
 |.s z=>.str z
 |.b c=>.bool c
theorem zgo{X:Cx}{v:HC}{j:Nat}{pos:Pos}:PE X (.Constant v.C j pos) (tC v.V):=by
 cases v with
 |s z=>exact pe_str
 |b c=>exact pe_bl
structure HdK(X:Cx)(hd:ExceptHandler)(C:Addr)(t:Nat)(v:HC):Prop where
 ex:∃ x np y py cj pc pa hp,hd=.ExceptHandler (some (.Name x np)) none [.Assign [.Name y py] (.Constant v.C cj pc) pa] hp/\YQ X x C/\X.N[t]?=some y/\Loc X.env.scope y/\(X.fn y=true∨X.env.scope.names.lookup y=some .local)
inductive yc(X:Cx):List ExceptHandler->List (Addr×Nat×HC)->Prop
 |nil:yc X [] []
 |cons {hd:ExceptHandler} {hs:List ExceptHandler} {C:Addr} {t:Nat} {v:HC} {zs:List (Addr×Nat×HC)}:HdK X hd C t v->yc X hs zs->yc X (hd::hs) ((C,t,v)::zs)
noncomputable def wD(K:PySem.W.Frag)(C:Addr):List (Addr×Nat×HC)->Option (Nat×HC)
 |[]=>none
 | (C2,t,v)::r=>if (mroIn K C).contains (.ref C2) then some (t,v) else wD K C r
section
variable {X:Cx} {pins:List (Addr×Obj)} {σ:St} {H:Hp} {s:Shared} {E:Value->Shared->Prop} {D:qF} {B:Heap} {ea C:Addr} {a0:Value}
theorem wo (hN:X.N.Nodup) (hC0:PySem.W.excIn X.K C bmV "ValueError.__new__" =true) (ok:X.Ok):∀ {hs:List ExceptHandler}{zs:List (Addr×Nat×HC)}{t:Nat}{v:HC},yc X hs zs->wD X.K C zs=some (t,v) ->
  Heap.FlyingW B X.stack ea (.ref C) a0 s.heap->Inv X pins σ H s->(∀ h6,B.StaysIn h6->s.heap.UpToSlots h6->Inv X pins σ H { s with heap:=h6 })->D.nx (σ.set t (some v.V)) H ->
  wpAny (model X.prog X.w) X.A (handleBy (.ref ea) X.env hs) (SP X pins D) E s
 |_,_,_,_,.nil,e,_,_,_,_=>by cases e
 |_,_,t,v,.cons (C:=C2) (t:=t2) (v:=v2) (zs:=zs) (hs:=hs) hk ht,e,hfl,I,hcl,hd=>by
  obtain⟨x,np,y,py,cj,pc,pa,hpz,rfl,k,h1,h2,h3⟩:=hk.ex
  obtain⟨ob,hob,hobc⟩:=hfl.there
  have Im:=I.marked (.ref ea)
  refine wpAny_handleBy_cons (codeAny_handlers_test (jD (X:=X.marked (.ref ea)) Im k.gl k.mg ?_ k.d)) (by intro q;cases q)
  obtain⟨bm,N,nm,qn,bs,hdct,sn,sub,ab,col,dd,k0,k1,k2,k3,k5,mN,gC,gN,gi,T,gm⟩:=vo I.kIn hC0
  obtain⟨bm2,N2,nm2,qn2,bs2,hdct2,sn2,sub2,ab2,col2,dd2,j0,j1,j2,j3,j5,mN2,gC2,gN2,gi2,T2,gm2⟩:=vo I.kIn k.ex
  unfold wD at e
  rw[gm]at e
  refine VC (h:=s.heap) (g:=s.gens) (d:=s.drawn) (t:=s.toks) (os:=s.os) gC gC2 hob hobc (Vq T2) rfl ?_
  cases hb:(Value.ref C::bm).contains (Value.ref C2) with
  |true=>
   rw[hb,if_pos rfl]at e
   cases e
   refine codeAny_handlers_suite (lands_againW hfl fun h6 hfl6 hsm6=>?_)
   have I6:=(hcl h6 hfl6.1 hsm6).marked (.ref ea)
   have w:wpB (X.marked (.ref ea)) [.Assign [.Name y py] (.Constant v.C cj pc) pa] { nx:=D.nx,rt:=D.rt,bk:=D.bk,ct:=D.ct } σ H:=(Qo (JH (X:=X.marked (.ref ea)) hN h1 h2 zgo (by cases v<;>rfl) h3)).wp hd
   refine wpAny_mono (w pins _ I6) (fun fl s2 q=>?_) fun _ _ z=>z.elim
   exact SP.unmarked ok q
  |false=>
   rw[hb,if_neg (by decide)]at e
   exact wo hN hC0 ok ht e hfl I hcl hd
end
end L2
namespace L2
open PySem PySem.Spec PyProof.Rows
variable [Cs]
section
variable {X:Cx} {pins:List (Addr×Obj)} {σ:St} {H:Hp} {s s':Shared} {D:qF} {e:Value} {C:Addr}
theorem zd8(u:Up X pins σ H C e s)(ok:X.Ok)(hst:X.stack=X.env::X.outer)(hf:X.env.frame=some X.env.locals)(hN:X.N.Nodup){hs:List ExceptHandler}{zs:List (Addr×Nat×HC)}(hh:yc X hs zs)
  {t:Nat} {v:HC} (hC0:PySem.W.excIn X.K C bmV "ValueError.__new__" =true) (hp:wD X.K C zs=some (t,v)) (hd:D.nx (σ.set t (some v.V)) H) {E':Value->Shared->Prop} :
  wpAny (model X.prog X.w) X.A (noteFrame e X.env) (fun _ s₂=>wpAny (model X.prog X.w) X.A (setFlight e none) (fun _ s₃=>wpAny (model X.prog X.w) X.A (handleBy e X.env hs) (SP X pins D) E' s₃) E' s₂) E' s:=by
 obtain⟨ea,a0,fl,B,rfl,al,inv⟩:=u
 have hfr:X.A.frames=some (X.env::X.outer):=by rw[<- hst];exact ok.frames
 rw[hst]at al
 refine wy hfr hf al fun h4 al4 up4=>vI al4 fun h5 al5 up5=>?_
 have up5':=up4.trans up5
 have al6:Heap.FlyingW B X.stack ea (.ref C) a0 h5:=by rw[hst];exact al5
 exact wo hN hC0 ok hh hp al6 (inv h5 al6.1 up5') (fun h6 k1 k2=>inv h6 k1 (up5'.trans k2)) hd
noncomputable def zbg(X:Cx)(pins:List (Addr×Obj))(D:qF)(hs:List ExceptHandler):Value->Shared->Prop:=fun e s₁=>
 wpAny (model X.prog X.w) X.A (noteFrame e X.env) (fun _ s₂=>wpAny (model X.prog X.w) X.A (setFlight e none) (fun _ s₃=>wpAny (model X.prog X.w) X.A (handleBy e X.env hs) (SP X pins D) X.xe s₃) X.xe s₂) X.xe s₁
theorem zfP{body:List Stmt}{h₀:ExceptHandler}{hs:List ExceptHandler}{pos:Pos}(h:∀ pins,wpB (X.tried pins (zbg X pins D (h₀::hs))) body D σ H):wpS X (.Try body (h₀::hs) [] [] pos) D σ H:=fun pins s I=>by
 refine wpAny_Try_except (wpAny_mono (h pins [] s (I.tried _)) (fun f s1 q=>?_) fun e s1 q=>q)
 have q':=SP.untried I.ok q
 cases f with
 |next=>
  obtain⟨σ',H',I',d⟩:=q'
  have w:wpB X [] D σ' H':=pss_nil.wp d
  exact w pins s1 I'
 |brk=>exact q'
 |cont=>exact q'
 |ret u=>exact q'
theorem zbD{CX:CXT}{E:XK}{sp:Sp}{Q:VK}{x:Str}{k:Nat}{e:Expr}{es:List Expr}{p pos:Pos}(kn:Kn X.prog X.w X.K X.mg X.base CX x k sp)(hr:Room k X.A)(hg:Gl X x)
  (hx:∀ pins H s e s',Inv X pins σ H s->CX X.stack H s E e s'->X.xe e s') (h:wpA X (e::es) σ H fun vs H1=>sp vs H1 Q E) (hdb:(x==("__debug__" :Str))=false)
  (he:starEach (e::es) X.env=(false,eval e X.env)::starEach es X.env) (hpl:(backTo pos (starEach es X.env)).any (·.1)=false):wpE X (.Call (.Name x p) (e::es) [] pos) σ H Q:=fun pins s I=>by
 obtain⟨f,fd,ps,F,hm,hk,hb⟩:=kn.ex
 refine wpAny_Call_Name_kw (jD I hg hm ?_ hdb)
 refine PySem.W.callWith_K (h₀:=X.base) I.ok.mod.kin hk (thn (h pos pins s I) fun us s1 ⟨vs,H1,I1,r,q⟩=>⟨I1.kIn,?_⟩) he hpl
 have hl:us.length=ps.length:=by rw[<- r.length];exact F.len _ _ _ _ q
 have hb':=hb s1 us I1.kIn (by simpa using hl)
 rw[xG]at hb'
 refine wpAny_call (codeAny_mono (F.run X.A X.stack s1 H1 ⟨us,[]⟩ us vs Q E hr I1.env0 hb' r q) fun r s' hq=>?_)
 cases r with
 |error e=>exact hx pins H1 s1 e s' I1 hq
 |ok fl=>
  cases fl with
  |ret u=>exact I1.after hq
  |next=>exact False.elim hq
  |brk=>exact False.elim hq
  |cont=>exact False.elim hq
theorem Kg{CX:CXT}{E:XK}{sp:Sp}{Q:VK}{x:Str}{k:Nat}{p pos:Pos}(kn:Kn X.prog X.w X.K X.mg X.base CX x k sp)(hr:Room k X.A)(hg:Gl X x)
  (hx:∀ pins H s e s',Inv X pins σ H s->CX X.stack H s E e s'->X.xe e s') (h:sp [] H Q E) (hdb:(x==("__debug__" :Str))=false):wpE X (.Call (.Name x p) [] [] pos) σ H Q:=fun pins s I=>by
 obtain⟨f,fd,ps,F,hm,hk,hb⟩:=kn.ex
 refine wpAny_Call_Name_kw (jD I hg hm ?_ hdb)
 refine PySem.W.callWith_K0 I.kIn hk ?_
 have hl:([]:List Value).length=ps.length:=F.len _ _ _ _ h
 have hb':=hb s [] I.kIn (by simpa using hl)
 rw[xG]at hb'
 refine wpAny_call (codeAny_mono (F.run X.A X.stack s H ⟨[],[]⟩ [] [] Q E hr I.env0 hb' .nil h) fun r s' hq=>?_)
 cases r with
 |error e=>exact hx pins H s e s' I hq
 |ok fl=>
  cases fl with
  |ret u=>exact I.after hq
  |next=>exact False.elim hq
  |brk=>exact False.elim hq
  |cont=>exact False.elim hq
end
section
variable {P:Program} {w:World} {K:PySem.W.Frag} {mg:Str->Option Value} {base:Heap} {x:Str} {st:Stmt} {N ps:List Str} {k:Nat}
end
end L2
namespace L2
open PySem PySem.Spec PyProof.Rows
variable [Cs]
section
variable {prog:Program} {w:World} {A:Around} {E:Value->Shared->Prop} {s:Shared}
theorem zba{l:Addr}{x:Value}{xs:List Value}{Q:List Value->Shared->Prop}(hl:s.heap.IsList l (x::xs).toArray)(hh:A.handled=none)(hz:(x::xs).length<=sizeLine)
  (k:∀ (h2:Heap) (tk:Nat),(∀ b o,s.heap.get? b=some o->h2.get? b=some o)->Q [x,.ref h2.objs.size] { s with heap:=h2.push { cls:=.type "list",data:=.seq xs.toArray },toks:=tk }) :
  wpAny (model prog w) A (unpackItems (.ref l) 2 (some 1)) Q E s:=by
 obtain⟨ol,hol,hcl,hdl⟩:=id hl
 have hlt:=Heap.lt_size hol
 have hne:l≠s.heap.objs.size:=xm hlt
 unfold unpackItems notIterableAtAll
 refine wpAny_bind (wpAny_bind (wpAny_specialOf hl.typeIs PySem.F.slot_list_iter.lookup (wpAny_pure ?_)))
 simp only[xQ,if_false]
 refine wpAny_bind (wpAny_holding (wpAny_pyIter_list hl ?_))
 refine wpAny_bind (wpAny_holding (PySem.W.kun_draw hne 1 0 _ _ ⟨_,Heap.get?_push_size _ rfl,rfl,rfl⟩ (hl.push _) (by simp) fun h1 it1 sb1=>?_))
 have hl1:h1.IsList l (x::xs).toArray:=(hl.push _).extBut sb1.extBut hne
 obtain⟨oi,hoi,_⟩:=id it1
 obtain⟨o1,ho1,_⟩:=id hl1
 have hfst:(((x::xs).toArray.toList.drop 0).take 1)= [x]:=rfl
 rw[hfst]
 rw[if_neg (show ¬ ([x].length<1) by simp)]
 refine wpAny_bind (wpAny_holding (PySem.W.kun_collect (s:={ s with heap:=h1 }) (T:= "list_iterator") (.inr (.inr (.inl rfl))) (Walks.list (A:=A.in1) hh s.heap.objs.size l hne (x::xs).toArray) (fun j u st=>st.1.typeIs) (k:=1) (by simp) ⟨it1,hl1⟩ (Heap.lt_size hoi) (Heap.lt_size ho1) (fun h2 tk hk=>?_) (by simpa using hz)))
 have hdr:(x::xs).toArray.toList.drop 1=xs:=rfl
 rw[hdr]
 show wpAny _ _ (if xs.length<2-1-1 then _ else _) _ _ _
 rw[if_neg (by omega)]
 have keep:∀ b o,s.heap.get? b=some o->h2.get? b=some o:=fun b o e=>by
  have hb:b≠s.heap.objs.size:=xm (Heap.lt_size e)
  exact hk b o hb (sb1.extBut b o hb (Heap.get?_push_of_some _ e))
 show wpAny _ _ (newList (xs.take (xs.length-(2-1-1))) >>= fun d=>pure ([x]++ [d]++xs.drop (xs.length-(2-1-1)))) _ _ _
 have h0:xs.length-(2-1-1)=xs.length:=by omega
 rw[h0,List.take_length,uy]
 refine wpAny_bind (wpAny_newList (s:={ s with heap:=h2,toks:=tk }) (wpAny_pure ?_) (by simp at hz;omega))
 exact k h2 tk keep
theorem kR{l:Addr}{x:Value}{xs:List Value}{Q:List Value->Shared->Prop}(hl:IsTup s.heap l (x::xs).toArray)(hh:A.handled=none)(hz:(x::xs).length<=sizeLine)
  (k:∀ (h2:Heap) (tk:Nat),(∀ b o,s.heap.get? b=some o->h2.get? b=some o)->Q [x,.ref h2.objs.size] { s with heap:=h2.push { cls:=.type "list",data:=.seq xs.toArray },toks:=tk }) :
  wpAny (model prog w) A (unpackItems (.ref l) 2 (some 1)) Q E s:=by
 obtain⟨ol,hol,_⟩:=id hl
 have hlt:=Heap.lt_size hol
 have hne:l≠s.heap.objs.size:=xm hlt
 unfold unpackItems notIterableAtAll
 refine wpAny_bind (wpAny_bind (wpAny_specialOf hl.typeIs PySem.F.slot_tuple_iter.lookup (wpAny_pure ?_)))
 simp only[xQ,if_false]
 refine wpAny_bind (wpAny_holding (iter_tuple hl ?_))
 refine wpAny_bind (wpAny_holding (draw_tuple hne 1 0 _ _ ⟨_,Heap.get?_push_size _ rfl,rfl,rfl⟩ (hl.push _) (by simp) fun h1 it1 sb1=>?_))
 have hl1:IsTup h1 l (x::xs).toArray:=(hl.push _).extBut sb1.extBut hne
 obtain⟨oi,hoi,_⟩:=id it1
 obtain⟨o1,ho1,_⟩:=id hl1
 have hfst:(((x::xs).toArray.toList.drop 0).take 1)= [x]:=rfl
 rw[hfst]
 rw[if_neg (show ¬ ([x].length<1) by simp)]
 refine wpAny_bind (wpAny_holding (PySem.W.kun_collect (s:={ s with heap:=h1 }) (T:= "tuple_iterator") (.inr (.inr (.inr rfl))) (Walks.tuple (A:=A.in1) hh s.heap.objs.size l hne (x::xs).toArray) (fun j u st=>st.1.typeIs) (k:=1) (by simp) ⟨it1,hl1⟩ (Heap.lt_size hoi) (Heap.lt_size ho1) (fun h2 tk hk=>?_) (by simpa using hz)))
 have hdr:(x::xs).toArray.toList.drop 1=xs:=rfl
 rw[hdr]
 show wpAny _ _ (if xs.length<2-1-1 then _ else _) _ _ _
 rw[if_neg (by omega)]
 have keep:∀ b o,s.heap.get? b=some o->h2.get? b=some o:=fun b o e=>by
  have hb:b≠s.heap.objs.size:=xm (Heap.lt_size e)
  exact hk b o hb (sb1.extBut b o hb (Heap.get?_push_of_some _ e))
 show wpAny _ _ (newList (xs.take (xs.length-(2-1-1))) >>= fun d=>pure ([x]++ [d]++xs.drop (xs.length-(2-1-1)))) _ _ _
 have h0:xs.length-(2-1-1)=xs.length:=by omega
 rw[h0,List.take_length,uy]
 refine wpAny_bind (wpAny_newList (s:={ s with heap:=h2,toks:=tk }) (wpAny_pure ?_) (by simp at hz;omega))
 exact k h2 tk keep
end
section
variable {M:Model} {A:Around} {E:Value->Shared->Prop} {s:Shared}
end
section
variable {X:Cx}
noncomputable def zdz(K:PySem.W.Frag)(i j:Nat):TG:=fun v σ H Q=>∃ l y ys,v=.ref l/\(SqL K H l (y::ys)∨SqT K H l (y::ys))/\∀ p,H p=none->Q ((σ.set i (some y)).set j (some (.ref p))) (upd H p (.lst ys))
theorem zcs{i j:Nat}{x y:Str}{k:Nat}{px py ps pos:Pos}(hc:X.calm=true)(hN:X.N.Nodup)(hi:X.N[i]?=some x)(hx:Loc X.env.scope x)(hfx:X.fn x=true∨X.env.scope.names.lookup x=some .local)(hj:X.N[j]?=some y)(hy:Loc X.env.scope y)(hfy:X.fn y=true∨X.env.scope.names.lookup y=some .local) :
  PG X (.Tuple [.Name x px,.Starred (.Name y py) ps] k pos) (zdz X.K i j):=by
 intro pins s σ H v u Q I r h
 obtain⟨l,z,zs,rfl,hq,q⟩:=h
 cases r
 have fin:∀ {w:Value} {ws:List Value} {h2:Heap} {tk:Nat},RelV z w->Vals zs ws->zs.length+1<=sizeLine->(∀ b o,s.heap.get? b=some o->h2.get? b=some o)->wpAny (model X.prog X.w) X.A (assignInOrder ((assignEach [.Name x px,.Starred (.Name y py) ps] X.env).map (·.2)) [w,.ref h2.objs.size]) (fun _ s'=>∃ σ' H',Inv X pins σ' H' s'/\Q σ' H') X.xe { s with heap:=h2.push { cls:=.type "list",data:=.seq ws.toArray },toks:=tk }:=fun {w ws h2 tk} r1 r2 hz keep=>by
  have I2:Inv X pins σ H { s with heap:=h2,toks:=tk }:=I.kept (t':=tk) keep
  have I3:=I2.lnew (t':=tk) r2 (by omega)
  refine assignInOrder_cons (wpAny_assign_Name (Qt I3 hN hi hx r1 (fun s4 I4=>?_) hfx))
  refine assignInOrder_cons (wpAny_assign_Name (Qt (v:=.ref h2.objs.size) I4 hN hj hy rfl (fun s5 I5=>?_) hfy))
  exact assignInOrder_nil ⟨_,_,I5,q _ I2.fresh⟩
 rw[assign_Tuple]
 refine wpAny_bind (wpAny_standAt ?_)
 unfold unpack
 rcases hq with hq | hq
 ·obtain⟨its,rv,pl,hz⟩:=I.list hq
  cases rv with
  |cons r1 r2=>
   rename_i w ws
   exact wpAny_bind (wpAny_holding (zba (x:=w) (xs:=ws) pl.isList (I.ok.hd hc) (by have:=r2.length;simp at hz |-;omega) fun h2 tk keep=>fin r1 r2 (by simpa using hz) keep))
 ·obtain⟨its,rv,pl,hz⟩:=I.tuple hq
  cases rv with
  |cons r1 r2=>
   rename_i w ws
   exact wpAny_bind (wpAny_holding (kR (x:=w) (xs:=ws) pl (I.ok.hd hc) (by have:=r2.length;simp at hz |-;omega) fun h2 tk keep=>fin r1 r2 (by simpa using hz) keep))
noncomputable def zf7(K:PySem.W.Frag)(n:Nat)(t:TGs):TG:=fun v σ H Q=>∃ a xs,v=.ref a/\SqL K H a xs/\xs.length=n/\t xs σ H Q
theorem zct{es:List Expr}{k:Nat}{t:TGs}{n:Nat}{pos:Pos}(hc:X.calm=true)(h:PGs X es t)(hn:(assignEach es X.env).length=n)(hst:(assignEach es X.env).findIdx? (·.1)=none):PG X (.Tuple es k pos) (zf7 X.K n t):=by
 intro pins s σ H v u Q I r hw
 obtain⟨a,xs,e1,hq,hl,hw⟩:=hw
 subst e1
 cases r
 obtain⟨its,rv,pl,hz⟩:=I.list hq
 rw[assign_Tuple]
 refine wpAny_bind (wpAny_standAt ?_)
 unfold unpack
 have hsz:(assignEach es X.env).length=its.toArray.size:=by rw[hn,<- hl,rv.length,xl]
 rw[hst,hsz]
 refine wpAny_bind (wpAny_holding (PySem.W.kun_itemsOf (I.ok.hd hc) pl.isList fun h' hx=>?_))
 have I1:Inv X pins σ H { s with heap:=h' }:=I.kept (t':=s.toks) fun b o e=>hx b o (xm (Heap.lt_size e)) e
 exact h pins _ σ H xs _ Q I1 (by simpa using rv) hw
end
end L2
namespace L3
open PySem PySem.Spec PyProof.Rows L2
inductive OV where
 |d (x:PyData)
 |l (xs:List OV)
 |t (xs:List OV)
 |m (kvs:List (Str×PyData))
 |o (c:Str) (ns:List Str) (xs:List OV)
noncomputable abbrev Gv:=List (Option OV)
mutual
noncomputable def OV.view:OV->PyData
 |.d x=>x
 |.l xs=>.list (OV.views xs)
 |.t xs=>.tuple (OV.views xs)
 |.m kvs=>.dict (kvs.map dK)
 |.o c ns xs=>.dict ((.none,.str c)::(ns.zip (OV.views xs)).map dK)
noncomputable def OV.views:List OV->List PyData
 |[]=> []
 |x::xs=>x.view::OV.views xs
end
theorem OV.views_d(xs:List PyData):OV.views (xs.map .d)=xs:=by
 induction xs with
 |nil=>rfl
 |cons x xs ih=>simp[OV.views,OV.view,ih]
theorem OV.views_map(xs:List OV):OV.views xs=xs.map OV.view:=by
 induction xs with
 |nil=>rfl
 |cons x xs ih=>simp[OV.views,ih]
variable [Cs]
mutual
/-- v stands for the value;its own lists lie at A -/
inductive OR(M:Addr->Prop)(H:Hp):V->OV->List Addr->Prop
 |d {v:V} {x:PyData}:Rep M H v x->OR M H v (.d x) []
 |l {a:Addr} {vs:List V} {xs:List OV} {A:List Addr}:H a=some (.lst vs)->ORL M H vs xs A->OR M H (.ref a) (.l xs) (a::A)
 |t {a:Addr} {vs:List V} {xs:List OV} {A:List Addr}:H a=some (.tup vs)->ORL M H vs xs A->OR M H (.ref a) (.t xs) A
 |m {a:Addr} {kvs:List (Str×V)} {ds:List (Str×PyData)}:H a=some (.dK (kvs.map kK))->kvs.map (·.1)=ds.map (·.1)->RepL M H (kvs.map (·.2)) (ds.map (·.2))->OR M H (.ref a) (.m ds) [a]
 |o {a dx:Addr} {c:Str} {fs:List (Str×V)} {ns:List Str} {xs:List OV} {A:List Addr}:H a=some (.ins (Cs.adr c) dx fs)->fs.map (·.1)=ns->ORL M H (fs.map (·.2)) xs A->OR M H (.ref a) (.o c ns xs) (a::A)
inductive ORL(M:Addr->Prop)(H:Hp):List V->List OV->List Addr->Prop
 |nil:ORL M H [] [] []
 |cons {v:V} {vs:List V} {x:OV} {xs:List OV} {A B:List Addr}:OR M H v x A->ORL M H vs xs B->ORL M H (v::vs) (x::xs) (A++B)
end
noncomputable abbrev zt:Addr->Prop:=fun _=>False
theorem Qq{M M':Addr->Prop}{H H':Hp}(hr:∀ v d,Rep M H v d->Rep M' H' v d):∀ {vs:List V}{ds:List PyData},RepL M H vs ds->RepL M' H' vs ds
 |_,_,.nil=>.nil
 |_,_,.cons r t=>.cons (hr _ _ r) (Qq hr t)
theorem OV.views_len(xs:List OV):(OV.views xs).length=xs.length:=by rw[OV.views_map,xn]
theorem ORL.length{M:Addr->Prop}{H:Hp}:∀ {vs:List V}{os:List OV}{A:List Addr},ORL M H vs os A->vs.length=os.length
 |_,_,_,.nil=>rfl
 |_,_,_,.cons _ t=>by rw[xo,xo,ORL.length t]
theorem zdq{α β:Type}:∀ {ns:List α}{xs:List β},ns.length=xs.length->(ns.zip xs).map (·.1)=ns:=fun {ns xs} h=>by rw[List.map_fst_zip (Nat.le_of_eq h)]
theorem zdr{α β:Type}:∀ {ns:List α}{xs:List β},ns.length=xs.length->(ns.zip xs).map (·.2)=xs:=fun {ns xs} h=>by rw[List.map_snd_zip (Nat.le_of_eq h.symm)]
mutual
theorem OR.go{M M':Addr->Prop}{H H':Hp}(hr:∀ v d,Rep M H v d->Rep M' H' v d)(ht:∀ b xs,H b=some (.tup xs)->H' b=some (.tup xs)):∀ {v:V}{o:OV}{A:List Addr},(∀ a∈A,H' a=H a)->OR M H v o A->OR M' H' v o A
 |_,_,_,_,.d r=>.d (hr _ _ r)
 |_,_,_,h,.l e r=>.l (by rw[h _ xp];exact e) (ORL.go hr ht (fun a ha=>h a (xj _ ha)) r)
 |_,_,_,h,.t e r=>.t (ht _ _ e) (ORL.go hr ht h r)
 |_,_,_,h,.m e k r=>.m (by rw[h _ xp];exact e) k (Qq hr r)
 |_,_,_,h,.o e k r=>.o (by rw[h _ xp];exact e) k (ORL.go hr ht (fun a ha=>h a (xj _ ha)) r)
theorem ORL.go{M M':Addr->Prop}{H H':Hp}(hr:∀ v d,Rep M H v d->Rep M' H' v d)(ht:∀ b xs,H b=some (.tup xs)->H' b=some (.tup xs)):∀ {v:List V}{o:List OV}{A:List Addr},(∀ a∈A,H' a=H a)->ORL M H v o A->ORL M' H' v o A
 |_,_,_,_,.nil=>.nil
 |_,_,_,h,.cons r t=>   .cons (OR.go hr ht (fun a ha=>h a (xV _ ha)) r) (ORL.go hr ht (fun a ha=>h a (xt _ ha)) t)
end
mutual
/-- given up: it is data from now on -/
theorem OR.rep{M M':Addr->Prop}{H:Hp}(hm:∀ b,M' b->M b):∀ {v:V}{o:OV}{A:List Addr},(∀ a∈A,¬ M' a)->OR M H v o A->Rep M' H v o.view
 |_,_,_,_,.d r=>r.less fun b hb _=>hm b hb
 |_,_,_,h,.l e r=>.list e (h _ xp) (ORL.rep hm (fun a ha=>h a (xj _ ha)) r)
 |_,_,_,h,.t e r=>.tuple e (ORL.rep hm h r)
 |_,_,_,h,.m e k r=>.dict (.inl e) (h _ xp) k (Qq (fun _ _ x=>x.less fun b hb _=>hm b hb) r)
 |_,_,_,h,.o (fs:=fs) (ns:=ns) (xs:=xs) e k r=>by
  have hl:ns.length=(OV.views xs).length:=by rw[OV.views_len,<- r.length,<- k,xn,xn]
  refine .inst e (h _ xp) (by rw[zdq hl];exact k) ?_
  rw[zdr hl]
  exact ORL.rep hm (fun a ha=>h a (xj _ ha)) r
theorem ORL.rep{M M':Addr->Prop}{H:Hp}(hm:∀ b,M' b->M b):∀ {v:List V}{o:List OV}{A:List Addr},(∀ a∈A,¬ M' a)->ORL M H v o A->RepL M' H v (OV.views o)
 |_,_,_,_,.nil=>.nil
 |_,_,_,h,.cons r t=>.cons (OR.rep hm (fun a ha=>h a (xV _ ha)) r) (ORL.rep hm (fun a ha=>h a (xt _ ha)) t)
end
theorem OR.weak{M:Addr->Prop}{H:Hp}{v:V}{o:OV}{A:List Addr}(r:OR M H v o A):Rep zt H v o.view:=r.rep (fun _ h=>h.elim) fun _ _ h=>h
mutual
theorem OR.laid{M:Addr->Prop}{H:Hp}:∀ {v:V}{o:OV}{A:List Addr},OR M H v o A->∀ a∈A,∃ vs,H a=some vs
 |_,_,_,.d _,a,h=>by cases h
 |_,_,_,.l e r,a,h=>by
  rcases xy.mp h with rfl | h
  ·exact⟨_,e⟩
  ·exact ORL.laid r a h
 |_,_,_,.t e r,a,h=>ORL.laid r a h
 |_,_,_,.m e k r,a,h=>by
  rcases xy.mp h with rfl | h
  ·exact⟨_,e⟩
  ·cases h
 |_,_,_,.o e k r,a,h=>by
  rcases xy.mp h with rfl | h
  ·exact⟨_,e⟩
  ·exact ORL.laid r a h
theorem ORL.laid{M:Addr->Prop}{H:Hp}:∀ {v:List V}{o:List OV}{A:List Addr},ORL M H v o A->∀ a∈A,∃ vs,H a=some vs
 |_,_,_,.nil,a,h=>by cases h
 |_,_,_,.cons r t,a,h=>by
  rcases xF.mp h with h | h
  ·exact OR.laid r a h
  ·exact ORL.laid t a h
end
theorem ORL.data{M:Addr->Prop}{H:Hp}:∀ {vs:List V}{ds:List PyData},RepL M H vs ds->ORL M H vs (ds.map .d) []
 |_,_,.nil=>.nil
 |_,_,.cons r t=>.cons (A:= []) (.d r) (ORL.data t)
noncomputable abbrev Fp:=Nat->List Addr
noncomputable def zz(F:Fp)(i:Nat)(A:List Addr):Fp:=fun j=>if j=i then A else F j
theorem zg{F:Fp}{i:Nat}{A:List Addr}:zz F i A i=A:=by unfold zz;rw[if_pos rfl]
theorem zi{F:Fp}{i j:Nat}{A:List Addr}(h:j≠i):zz F i A j=F j:=by unfold zz;rw[if_neg h]
noncomputable def MM(M0:Addr->Prop)(F:Fp):Addr->Prop:=fun a=>M0 a∨∃ i,a∈F i
noncomputable abbrev Nu:=List (Option V)
structure RS(M0:Addr->Prop)(F:Fp)(Γ:Gv)(ν:Nu)(H:Hp):Prop where
 al0:∀ a,M0 a->H a≠none
 dis0:∀ i a,a∈F i->¬ M0 a
 nd:∀ i,(F i).Nodup
 dis:∀ i j a,a∈F i->a∈F j->i=j
 at':∀ i o,Γ[i]?=some (some o)->∃ v,ν[i]?=some (some v)/\OR (MM M0 F) H v o (F i)
 emp:∀ i,(∀ o,Γ[i]?≠some (some o))->F i= []
 len:ν.length=Γ.length
structure Stp(F:Fp)(H:Hp)(F':Fp)(H':Hp):Prop where
 keep:∀ b o,H b=some o->(∀ i,b∉F i)->H' b=some o/\∀ i,b∉F' i
 tups:∀ b xs,H b=some (.tup xs)->H' b=some (.tup xs)
 stay:∀ b,H b≠none->H' b≠none
theorem Stp.refl(F:Fp)(H:Hp):Stp F H F H:=⟨fun _ _ e n=>⟨e,n⟩,fun _ _ e=>e,fun _ h=>h⟩
theorem Stp.trans{F F1 F2:Fp}{H H1 H2:Hp}(a:Stp F H F1 H1)(b:Stp F1 H1 F2 H2):Stp F H F2 H2 :=
 ⟨fun c o e n=>let ⟨e1,n1⟩:=a.keep c o e n;b.keep c o e1 n1,fun c xs e=>b.tups c xs (a.tups c xs e),fun c h=>b.stay c (a.stay c h)⟩
theorem Stp.same{F:Fp}{H H':Hp}(s:Same H H'):Stp F H F H':=⟨fun b o e n=>⟨s b o e,n⟩,fun b xs e=>s b _ e,fun b h=>by
 cases q:H b with
 |none=>exact absurd q h
 |some o=>rw[s b o q];exact fun z=>nomatch z⟩
theorem Stp.free{F F':Fp}{H H':Hp}(s:Stp F H F' H'){a:Addr}(n:H' a=none):H a=none:=by
 cases q:H a with
 |none=>rfl
 |some o=>exact absurd n (s.stay a (by rw[q];exact fun z=>nomatch z))
section
variable {M0:Addr->Prop} {F F':Fp} {Γ Γ':Gv} {ν ν':Nu} {H H':Hp}
theorem RS.laidF(r:RS M0 F Γ ν H){i:Nat}{a:Addr}(h:a∈F i):∃ vs,H a=some vs:=by
 by_cases q:∃ o,Γ[i]?=some (some o)
 ·obtain⟨o,q⟩:=q
  obtain⟨v,_,z⟩:=r.at' i o q
  exact z.laid a h
 ·rw[r.emp i fun o e=>q ⟨o,e⟩]at h;cases h
theorem RS.al(r:RS M0 F Γ ν H):Al (MM M0 F) H:=fun a h=>by
 rcases h with h | ⟨i,h⟩
 ·exact r.al0 a h
 ·obtain⟨vs,e⟩:=r.laidF h
  rw[e];exact fun z=>nomatch z
mutual
/-- data goes through a step -/
theorem zq(s:Stp F H F' H')(h0:∀ a,M0 a->H a≠none):∀ {v:V}{d:PyData},Rep (MM M0 F) H v d->Rep (MM M0 F') H' v d
 |_,_,.none=>.none
 |_,_,.bool b=>.bool b
 |_,_,.int i=>.int i
 |_,_,.str x=>.str x
 |_,_,.list (a:=a) e n q=>by
  have hn:∀ i,a∉F i:=fun i h=>n (.inr ⟨i,h⟩)
  obtain⟨e',n'⟩:=s.keep a _ e hn
  refine .list e' ?_ (qE s h0 q)
  rintro (h | ⟨i,h⟩)
  ·exact n (.inl h)
  ·exact n' i h
 |_,_,.tuple e q=>.tuple (s.tups _ _ e) (qE s h0 q)
 |_,_,.dict (a:=a) e n k q=>by
  have hn:∀ i,a∉F i:=fun i h=>n (.inr ⟨i,h⟩)
  have:∃ o,H a=some o:=by rcases e with e | ⟨o,e⟩<;>exact⟨_,e⟩
  obtain⟨o,eo⟩:=this
  obtain⟨_,n'⟩:=s.keep a _ eo hn
  refine .dict (e.imp (fun z=>(s.keep a _ z hn).1) fun ⟨o,z⟩=>⟨o,(s.keep a _ z hn).1⟩) ?_ k (qE s h0 q)
  rintro (h | ⟨i,h⟩)
  ·exact n (.inl h)
  ·exact n' i h
 |_,_,.inst (a:=a) e n k q=>by
  obtain⟨e',n'⟩:=s.keep a _ e fun i h=>n (.inr ⟨i,h⟩)
  refine .inst e' ?_ k (qE s h0 q)
  rintro (h | ⟨i,h⟩)
  ·exact n (.inl h)
  ·exact n' i h
theorem qE(s:Stp F H F' H')(h0:∀ a,M0 a->H a≠none):∀ {vs:List V}{ds:List PyData},RepL (MM M0 F) H vs ds->RepL (MM M0 F') H' vs ds
 |_,_,.nil=>.nil
 |_,_,.cons r t=>.cons (zq s h0 r) (qE s h0 t)
end
theorem RS.same(r:RS M0 F Γ ν H)(s:Same H H'):RS M0 F Γ ν H' where
 al0 a h:=by
  have:=r.al0 a h
  cases q:H a with
  |none=>exact absurd q this
  |some o=>rw[s a o q];exact fun z=>nomatch z
 dis0:=r.dis0
 nd:=r.nd
 dis:=r.dis
 at' i o e:=by
  obtain⟨v,e1,q⟩:=r.at' i o e
  exact⟨v,e1,q.go (fun v d x=>x.grow s.grow) (fun b xs e=>s b _ e) fun a ha=>by
   obtain⟨vs,z⟩:=q.laid a ha
   rw[z,s a _ z]⟩
 emp:=r.emp
 len:=r.len
theorem RS.put{i:Nat}{o:OV}{v:V}{A:List Addr}(r:RS M0 F Γ ν H)(s:Stp F H (zz F i A) H')(hF:∀ j,j≠i->∀ a∈F j,H' a=H a)
  (hm:∀ a,M0 a->H' a≠none) (hA0:∀ a∈A,¬ M0 a) (hAn:A.Nodup) (hAd:∀ j,j≠i->∀ a∈A,a∉F j) (hi:i<Γ.length)
  (q:OR (MM M0 (zz F i A)) H' v o A):RS M0 (zz F i A) (Γ.set i (some o)) (ν.set i (some v)) H' where
 al0:=hm
 dis0 j a h:=by
  by_cases hj:j=i
  ·subst hj;rw[zg]at h;exact hA0 a h
  ·rw[zi hj]at h;exact r.dis0 j a h
 nd j:=by
  by_cases hj:j=i
  ·subst hj;rw[zg];exact hAn
  ·rw[zi hj];exact r.nd j
 dis j k a h1 h2:=by
  by_cases hj:j=i
  ·by_cases hk:k=i
   ·rw[hj,hk]
   ·subst hj;rw[zg]at h1;rw[zi hk]at h2;exact absurd h2 (hAd k hk a h1)
  ·by_cases hk:k=i
   ·subst hk;rw[zg]at h2;rw[zi hj]at h1;exact absurd h1 (hAd j hj a h2)
   ·rw[zi hj]at h1;rw[zi hk]at h2;exact r.dis j k a h1 h2
 at' j p e:=by
  by_cases hj:j=i
  ·subst hj
   rw[xh hi]at e
   cases e
   refine⟨v,by rw[xh (by rw[r.len];exact hi)],?_⟩
   rw[zg];exact q
  ·rw[xg (Ne.symm hj)]at e |-
   obtain⟨u,e1,z⟩:=r.at' j p e
   refine⟨u,e1,?_⟩
   rw[zi hj]
   exact z.go (fun v d x=>zq s r.al0 x) s.tups (hF j hj)
 emp j h:=by
  by_cases hj:j=i
  ·subst hj
   rw[xh hi]at h
   exact absurd rfl (h o)
  ·rw[zi hj]
   refine r.emp j fun p e=>h p ?_
   rw[xg (Ne.symm hj)];exact e
 len:=by rw[xH,xH];exact r.len
theorem RS.setD{i:Nat}{d:PyData}{v:V}(r:RS M0 F Γ ν H)(q:Rep (MM M0 F) H v d)(hi:i<Γ.length):∃ F',RS M0 F' (Γ.set i (some (.d d))) (ν.set i (some v)) H/\Stp F H F' H:=by
 have s:Stp F H (zz F i []) H:=⟨fun b o e n=>⟨e,fun j=>by
  by_cases hj:j=i
  ·subst hj;rw[zg];exact fun z=>nomatch z
  ·rw[zi hj];exact n j⟩,fun _ _ e=>e,fun _ h=>h⟩
 exact⟨_,r.put s (fun _ _ _ _=>rfl) r.al0 (fun _ h=>nomatch h) .nil (fun _ _ _ h=>nomatch h) hi (.d (zq s r.al0 q)),s⟩
noncomputable def wj(F:Fp)(n:Nat):Fp:=fun j=>if j<n then F j else []
theorem vq{n j:Nat}(h:j<n):wj F n j=F j:=by unfold wj;rw[if_pos h]
theorem Yj{n j:Nat}(h:¬ j<n):wj F n j= []:=by unfold wj;rw[if_neg h]
theorem qT{n j:Nat}{a:Addr}(h:a∈wj F n j):j<n/\a∈F j:=by
 unfold wj at h
 split at h
 ·exact⟨by assumption,h⟩
 ·cases h
theorem ZE(h:∀ j a,a∈F' j->∃ k,a∈F k):Stp F H F' H:=⟨fun b o e n=>⟨e,fun j hj=>let ⟨k,hk⟩:=h j b hj;n k hk⟩,fun _ _ e=>e,fun _ h=>h⟩
theorem RS.cut(r:RS M0 F Γ ν H)(n:Nat):RS M0 (wj F n) (Γ.take n) (ν.take n) H/\Stp F H (wj F n) H:=by
 have s:Stp F H (wj F n) H:=ZE fun j a h=>⟨j,(qT h).2⟩
 refine⟨⟨r.al0,fun j a h=>r.dis0 j a (qT h).2,fun j=>?_,fun j k a h1 h2=>r.dis j k a (qT h1).2 (qT h2).2,fun j o e=>?_,fun j h=>?_,?_⟩,s⟩
 ·by_cases hj:j<n
  ·rw[vq hj];exact r.nd j
  ·rw[Yj hj];exact .nil
 ·have hj:j<n:=by
   by_cases hj:j<n
   ·exact hj
   ·rw[xv (by rw[xI];omega)]at e;cases e
  rw[xL hj]at e |-
  obtain⟨v,e1,q⟩:=r.at' j o e
  exact⟨v,e1,by rw[vq hj];exact q.go (fun _ _ x=>zq s r.al0 x) s.tups fun _ _=>rfl⟩
 ·by_cases hj:j<n
  ·rw[vq hj]
   refine r.emp j fun o e=>h o ?_
   rw[xL hj];exact e
  ·exact Yj hj
 ·rw[xI,xI,r.len]
theorem RS.ext(r:RS M0 F Γ ν H)(k:Nat):RS M0 F (Γ++List.replicate k none) (ν++List.replicate k none) H:=by
 have get:∀ {α:Type} (l:List (Option α)) (j:Nat) (o:α),(l++List.replicate k none)[j]?=some (some o)->l[j]?=some (some o):=fun {α} l j o e=>by
  by_cases hj:j<l.length
  ·rw[xc hj]at e;exact e
  ·rw[xf (by omega),xJ]at e
   split at e<;>cases e
 have put:∀ {α:Type} (l:List (Option α)) (j:Nat) (o:α),l[j]?=some (some o)->(l++List.replicate k none)[j]?=some (some o):=fun {α} l j o e=>by
  rw[xc (xb.mp e).1];exact e
 exact⟨r.al0,r.dis0,r.nd,r.dis,fun j o e=>let ⟨v,e1,q⟩:=r.at' j o (get _ _ _ e);⟨v,put _ _ _ e1,q⟩,fun j h=>r.emp j fun o e=>h o (put _ _ _ e),by simp[r.len]⟩
theorem j6{α:Type}(l:List (Option α))(x:α):(l++List.replicate 1 none).set l.length (some x)=l++ [some x]:=by
 rw[uj _ _ (xi _)];simp
theorem RS.newO{p:Addr}{vs:List V}{ds:List PyData}(r:RS M0 F Γ ν H)(n:H p=none)(q:RepL (MM M0 F) H vs ds) :
  RS M0 (zz F Γ.length [p]) (Γ++ [some (.l (ds.map .d))]) (ν++ [some (.ref p)]) (upd H p (.lst vs))/\Stp F H (zz F Γ.length [p]) (upd H p (.lst vs)):=by
 have hp:∀ i,p∉F i:=fun i h=>by
  obtain⟨vs,e⟩:=r.laidF h
  rw[n]at e;cases e
 have he:F Γ.length= []:=r.emp _ fun o e=>by
  rw[xv (xi _)]at e;cases e
 have s:Stp F H (zz F Γ.length [p]) (upd H p (.lst vs)):=⟨fun b o e nb=>⟨zu n b o e,fun j h=>by
  by_cases hj:j=Γ.length
  ·subst hj;rw[zg]at h
   have e':b=p:=by simpa using h
   subst e';rw[n]at e;cases e
  ·rw[zi hj]at h;exact nb j h⟩,fun b xs e=>zu n b _ e,fun b h=>by
   by_cases e:b=p
   ·subst e;exact absurd n h
   ·rw[zf e];exact h⟩
 have r1:=(r.ext 1).put (i:=Γ.length) (o:=.l (ds.map .d)) (v:=.ref p) (A:= [p]) (H':=upd H p (.lst vs)) s (fun j _ a ha=>zf (fun e=>hp j (by rw[<- e];exact ha)))
  (fun a h=>s.stay a (r.al0 a h)) (fun a ha h=>by
   have e:a=p:=by simpa using ha
   subst e;exact r.al0 a h n) (xD.mpr ⟨(fun z=>nomatch z),.nil⟩) (fun j _ a ha=>by
   have e:a=p:=by simpa using ha
   subst e;exact hp j) (by simp) (.l zh (ORL.data (qE s r.al0 q)))
 rw[j6]at r1
 have e2:(ν++List.replicate 1 none).set Γ.length (some (V.ref p))=ν++ [some (V.ref p)]:=by rw[<- r.len,j6]
 rw[e2]at r1
 exact⟨r1,s⟩
theorem RS.move{i:Nat}{o:OV}{v:V}(r:RS M0 F (Γ++ [some o]) (ν++ [some v]) H)(hi:i<Γ.length):∃ F',RS M0 F' (Γ.set i (some o)) (ν.set i (some v)) H/\Stp F H F' H:=by
 have hl:ν.length=Γ.length:=by have:=r.len;simp at this;exact this
 have hni:Γ.length≠i:=Nat.ne_of_gt hi
 let F':Fp:=fun j=>if j=i then F Γ.length else if j<Γ.length then F j else []
 have hFi:F' i=F Γ.length:=by show (if i=i then _ else _)=_;rw[if_pos rfl]
 have hFj:∀ j,j≠i->j<Γ.length->F' j=F j:=fun j h1 h2=>by show (if j=i then _ else _)=_;rw[if_neg h1,if_pos h2]
 have hFo:∀ j,j≠i->¬ j<Γ.length->F' j= []:=fun j h1 h2=>by show (if j=i then _ else _)=_;rw[if_neg h1,if_neg h2]
 have sub:∀ j a,a∈F' j->(j=i/\a∈F Γ.length)∨(j≠i/\j<Γ.length/\a∈F j):=fun j a h=>by
  by_cases h1:j=i
  ·subst h1;rw[hFi]at h;exact .inl ⟨rfl,h⟩
  ·by_cases h2:j<Γ.length
   ·rw[hFj j h1 h2]at h;exact .inr ⟨h1,h2,h⟩
   ·rw[hFo j h1 h2]at h;cases h
 have s:Stp F H F' H:=ZE fun j a h=>by
  rcases sub j a h with ⟨_,h⟩ | ⟨_,_,h⟩
  ·exact⟨_,h⟩
  ·exact⟨_,h⟩
 refine⟨F',⟨r.al0,fun j a h=>?_,fun j=>?_,fun j k a h1 h2=>?_,fun j p e=>?_,fun j h=>?_,by simp[hl]⟩,s⟩
 ·rcases sub j a h with ⟨_,h⟩ | ⟨_,_,h⟩
  ·exact r.dis0 _ a h
  ·exact r.dis0 _ a h
 ·by_cases h1:j=i
  ·subst h1;rw[hFi];exact r.nd _
  ·by_cases h2:j<Γ.length
   ·rw[hFj j h1 h2];exact r.nd _
   ·rw[hFo j h1 h2];exact .nil
 ·rcases sub j a h1 with ⟨e1,z1⟩ | ⟨n1,l1,z1⟩
  ·rcases sub k a h2 with ⟨e2,z2⟩ | ⟨n2,l2,z2⟩
   ·rw[e1,e2]
   ·have:=r.dis _ _ a z1 z2;omega
  ·rcases sub k a h2 with ⟨e2,z2⟩ | ⟨n2,l2,z2⟩
   ·have:=r.dis _ _ a z1 z2;omega
   ·exact r.dis _ _ a z1 z2
 ·by_cases hj:j=i
  ·subst hj
   rw[xh hi]at e
   cases e
   obtain⟨u,e1,q⟩:=r.at' Γ.length o (by rw[xf (xi _)];simp)
   rw[xf (by omega),hl]at e1
   simp at e1
   subst e1
   refine⟨v,by rw[xh (by omega)],?_⟩
   rw[hFi];exact q.go (fun _ _ x=>zq s r.al0 x) s.tups fun _ _=>rfl
  ·rw[xg (Ne.symm hj)]at e |-
   have hjl:j<Γ.length:=(xb.mp e).1
   obtain⟨u,e1,q⟩:=r.at' j p (by rw[xc hjl];exact e)
   rw[xc (by omega)]at e1
   exact⟨u,e1,by rw[hFj j hj hjl];exact q.go (fun _ _ x=>zq s r.al0 x) s.tups fun _ _=>rfl⟩
 ·by_cases hj:j=i
  ·subst hj;rw[xh hi]at h;exact absurd rfl (h o)
  ·by_cases h2:j<Γ.length
   ·rw[hFj j hj h2]
    refine r.emp j fun p e=>h p ?_
    rw[xc h2]at e
    rw[xg (Ne.symm hj)];exact e
   ·exact hFo j hj h2
theorem RS.dropD{o:OV}{v:V}(r:RS M0 F (Γ++ [some o]) (ν++ [some v]) H):∃ F',RS M0 F' Γ ν H/\Stp F H F' H/\Rep (MM M0 F') H v o.view:=by
 have hl:ν.length=Γ.length:=by have:=r.len;simp at this;exact this
 obtain⟨r1,s⟩:=r.cut Γ.length
 have e1:(Γ++ [some o]).take Γ.length=Γ:=by simp
 have e2:(ν++ [some v]).take Γ.length=ν:=by rw[<- hl];simp
 rw[e1,e2]at r1
 refine⟨_,r1,s,?_⟩
 obtain⟨u,e,q⟩:=r.at' Γ.length o (by rw[xf (xi _)];simp)
 rw[xf (by omega),hl]at e
 simp at e
 subst e
 refine q.rep (fun b hb=>?_) (fun a ha hb=>?_)
 ·rcases hb with hb | ⟨j,hb⟩
  ·exact .inl hb
  ·exact .inr ⟨j,(qT hb).2⟩
 ·rcases hb with hb | ⟨j,hb⟩
  ·exact r.dis0 _ a ha hb
  ·have:=r.dis _ _ a ha (qT hb).2
   have:=(qT hb).1
   omega
theorem RS.frz{i:Nat}{o:OV}(r:RS M0 F Γ ν H)(e:Γ[i]?=some (some o)):∃ F' v,ν[i]?=some (some v)/\RS M0 F' (Γ.set i (some (.d o.view))) ν H/\Stp F H F' H/\Rep (MM M0 F') H v o.view:=by
 obtain⟨v,ev,q⟩:=r.at' i o e
 have hi:=(xb.mp e).1
 have s:Stp F H (zz F i []) H:=ZE fun j a h=>by
  by_cases hj:j=i
  ·subst hj;rw[zg]at h;cases h
  ·rw[zi hj]at h;exact⟨j,h⟩
 have hq:Rep (MM M0 (zz F i [])) H v o.view:=q.rep (fun b hb=>by
  rcases hb with hb | ⟨j,hb⟩
  ·exact .inl hb
  ·by_cases hj:j=i
   ·subst hj;rw[zg]at hb;cases hb
   ·rw[zi hj]at hb;exact .inr ⟨j,hb⟩) (fun a ha hb=>by
  rcases hb with hb | ⟨j,hb⟩
  ·exact r.dis0 _ a ha hb
  ·by_cases hj:j=i
   ·subst hj;rw[zg]at hb;cases hb
   ·rw[zi hj]at hb;exact hj (r.dis _ _ a hb ha))
 have r1:=r.put (i:=i) (A:= []) s (fun _ _ _ _=>rfl) r.al0 (fun _ h=>nomatch h) .nil (fun _ _ _ h=>nomatch h) hi (.d hq)
 have e2:ν.set i (some v)=ν:=by
  apply ud
  intro j
  by_cases hj:i=j
  ·subst hj;rw[xh (xb.mp ev).1,ev]
  ·rw[xg hj]
 rw[e2]at r1
 exact⟨_,v,ev,r1,s,hq⟩
theorem RS.mut{i:Nat}{xs xs':List OV}{a:Addr}{vs:List V}(r:RS M0 F Γ ν H)(e:Γ[i]?=some (some (.l xs)))(ev:ν[i]?=some (some (.ref a)))
  (h:∀ us A,H a=some (.lst us)->ORL (MM M0 F) H us xs A->F i=a::A->∃ A',(∀ b∈A',b∈A)/\A'.Nodup/\ORL (MM M0 F) H vs xs' A') :
  ∃ F',RS M0 F' (Γ.set i (some (.l xs'))) ν (upd H a (.lst vs))/\Stp F H F' (upd H a (.lst vs)):=by
 obtain⟨v,ev',q⟩:=r.at' i _ e
 rw[ev]at ev';cases ev'
 have hi:=(xb.mp e).1
 generalize hA:F i=Ai at q
 cases q with
 |l ea qa=>
  rename_i us A
  obtain⟨A',sub,nd',q'⟩:=h us A ea qa hA
  have nd:=r.nd i
  rw[hA]at nd
  have hnA:a∉A:=(xD.mp nd).1
  have inF:∀ b,b∈(a::A')->b∈F i:=fun b hb=>by
   rw[hA]
   rcases xy.mp hb with z | z
   ·rw[z];exact xp
   ·exact xj _ (sub b z)
  have s:Stp F H (zz F i (a::A')) (upd H a (.lst vs)):=⟨fun b o eb nb=>⟨by rw[zf (fun z=>nb i (by rw[hA,z];exact xp))];exact eb,fun j hj=>by
   by_cases z:j=i
   ·subst z;rw[zg]at hj;exact nb j (inF b hj)
   ·rw[zi z]at hj;exact nb j hj⟩,fun b xs eb=>by rw[zf (zge eb ea (by intro z;cases z))];exact eb,fun b hb=>by
   by_cases z:b=a
   ·subst z;rw[zh];exact fun w=>nomatch w
   ·rw[zf z];exact hb⟩
  have r1:=r.put (i:=i) (o:=.l xs') (v:=.ref a) (A:=a::A') s (fun j hj b hb=>by
    rw[zf]
    intro z
    subst z
    exact hj (r.dis j i b hb (by rw[hA];exact xp))) (fun b hb=>s.stay b (r.al0 b hb)) (fun b hb=>r.dis0 i b (inF b hb)) (xD.mpr ⟨fun z=>hnA (sub a z),nd'⟩)
   (fun j hj b hb hbj=>hj (r.dis j i b hbj (inF b hb))) hi (.l zh (q'.go (fun _ _ x=>zq s r.al0 x) s.tups fun b hb=>by
    rw[zf];intro z;subst z;exact hnA (sub b hb)))
  have e2:ν.set i (some (V.ref a))=ν:=by
   apply ud
   intro j
   by_cases hj:i=j
   ·subst hj;rw[xh (xb.mp ev).1,ev]
   ·rw[xg hj]
  rw[e2]at r1
  exact⟨_,r1,s⟩
end
theorem ORL.snoc{M:Addr->Prop}{H:Hp}{v:V}{d:PyData}(q:Rep M H v d):∀ {vs:List V}{os:List OV}{A:List Addr},ORL M H vs os A->ORL M H (vs++ [v]) (os++ [.d d]) A
 |_,_,_,.nil=>.cons (A:= []) (.d q) .nil
 |_,_,_,.cons r t=>.cons r (ORL.snoc q t)
theorem ORL.setD{M:Addr->Prop}{H:Hp}{v:V}{d:PyData}(q:Rep M H v d):∀ {vs:List V}{os:List OV}{A:List Addr}{j:Nat}{x:PyData},ORL M H vs os A->os[j]?=some (.d x)->ORL M H (vs.set j v) (os.set j (.d d)) A
 |_,_,_,_,_,.nil,e=>by simp at e
 |_,_,_,0,x,.cons r t,e=>by
  simp at e
  subst e
  cases r
  exact .cons (A:= []) (.d q) t
 |_,_,_,j+1,x,.cons r t,e=>.cons r (ORL.setD (j:=j) q t (by simpa using e))
theorem ORL.get{M:Addr->Prop}{H:Hp}:∀ {vs:List V}{os:List OV}{A:List Addr}{j:Nat}{x:PyData},ORL M H vs os A->os[j]?=some (.d x)->∃ v,vs[j]?=some v/\Rep M H v x
 |_,_,_,_,_,.nil,e=>by simp at e
 |_,_,_,0,x,.cons r t,e=>by
  simp at e
  subst e
  cases r with
  |d r=>exact⟨_,rfl,r⟩
 |_,_,_,j+1,x,.cons r t,e=>by
  obtain⟨v,e1,q⟩:=ORL.get (j:=j) t (by simpa using e)
  exact⟨v,by simpa using e1,q⟩
end L3
namespace L3
open PySem PySem.Spec PyProof.Rows L2
variable [Cs]
noncomputable abbrev St:=L2.St
structure Exc where
 cls:Str
 pay:PyData
inductive R(α:Type) where
 |ok (a:α)
 |exc (x:Exc) (Γ:Gv)
 |bad
noncomputable def R.bind{α β:Type}(r:R α)(f:α->R β):R β:=match r with
 |.ok a=>f a
 |.exc x Γ=>.exc x Γ
 |.bad=>.bad
noncomputable abbrev EM(α:Type):=Gv->R (α×Gv)
inductive FV where
 |dat (x:PyData)
 |own (i:Nat)
noncomputable def derf(Γ:Gv):FV->Option PyData
 |.dat x=>some x
 |.own i=>match Γ[i]? with
  |some (some o)=>some o.view
  |_=>none
noncomputable def derS(Γ:Gv):FV->Option PyData
 |.dat x=>some x
 |.own i=>match Γ[i]? with
  |some (some (.d x))=>some x
  |_=>none
noncomputable def leaves:List OV->Option (List PyData)
 |[]=>some []
 |.d x::r=>(leaves r).map (x::·)
 |.l _::_=>none
 |.t _::_=>none
 |.m _::_=>none
 |.o _ _ _::_=>none
noncomputable def derL(Γ:Gv):FV->Option (List PyData)
 |.dat (.list xs)=>some xs
 |.own i=>match Γ[i]? with
  |some (some (.l xs))=>leaves xs
  |some (some (.d (.list xs)))=>some xs
  |_=>none
 |_=>none
noncomputable abbrev XPT:=Exc->Gv->Fp->Nu->St->Hp->Prop
noncomputable def Sees(mp:List Nat)(ν:Nu)(σ:St):Prop:=∀ (s i:Nat) (v:V),mp[s]?=some i->ν[i]?=some (some v)->σ[s]?=some (some v)
noncomputable def EPost{α:Type}(M0:Addr->Prop)(F:Fp)(ν:Nu)(σ:St)(H:Hp)(XP:XPT)(P:Fp->Gv->Hp->α->Prop)(r:R (α×Gv)):Prop:=match r with
 |.ok (a,Γ')=>∀ F' H',RS M0 F' Γ' ν H'->Stp F H F' H'->P F' Γ' H' a
 |.exc x Γ'=>∀ F' H',RS M0 F' Γ' ν H'->Stp F H F' H'->XP x Γ' F' ν σ H'
 |.bad=>False
section
variable {α β:Type} {M0:Addr->Prop} {F:Fp} {Γ:Gv} {ν:Nu} {σ:St} {H:Hp} {XP:XPT}
theorem EPost.mono{P P':Fp->Gv->Hp->α->Prop}{r:R (α×Gv)}(h:EPost M0 F ν σ H XP P r)(k:∀ F' Γ' H' a,RS M0 F' Γ' ν H'->Stp F H F' H'->P F' Γ' H' a->P' F' Γ' H' a):EPost M0 F ν σ H XP P' r:=by
 cases r with
 |ok a=>exact fun F' H' rs s=>k F' _ H' _ rs s (h F' H' rs s)
 |exc x Γ'=>exact h
 |bad=>exact h
theorem EPost.seq{P:Fp->Gv->Hp->β->Prop}{r:R (α×Gv)}{k:α×Gv->R (β×Gv)}(h:EPost M0 F ν σ H XP P (r.bind k)) :
  EPost M0 F ν σ H XP (fun F1 Γ1 H1 a=>EPost M0 F1 ν σ H1 XP P (k (a,Γ1))) r:=by
 cases r with
 |ok a=>
  obtain⟨a,Γ1⟩:=a
  intro F1 H1 rs1 s1
  have h':EPost M0 F ν σ H XP P (k (a,Γ1)):=h
  revert h'
  generalize k (a,Γ1)=r2
  intro h'
  cases r2 with
  |ok b=>exact fun F' H' rs s=>h' F' H' rs (s1.trans s)
  |exc x Γ'=>exact fun F' H' rs s=>h' F' H' rs (s1.trans s)
  |bad=>exact h'
 |exc x Γ'=>exact h
 |bad=>exact h
theorem EPost.step{P:Fp->Gv->Hp->α->Prop}{r:R (α×Gv)}{F1:Fp}{H1:Hp}(h:EPost M0 F ν σ H XP P r)(s1:Stp F H F1 H1):EPost M0 F1 ν σ H1 XP P r:=by
 cases r with
 |ok b=>exact fun F' H' rs s=>h F' H' rs (s1.trans s)
 |exc x Γ'=>exact fun F' H' rs s=>h F' H' rs (s1.trans s)
 |bad=>exact h
end
noncomputable def FOk(M0:Addr->Prop)(F:Fp)(ν:Nu)(H:Hp)(v:V):FV->Prop
 |.dat x=>Rep (MM M0 F) H v x
 |.own i=>ν[i]?=some (some v)
section
variable {M0:Addr->Prop} {F F':Fp} {Γ:Gv} {ν:Nu} {H H':Hp} {v:V} {u:FV} {x:PyData}
theorem FOk.stp(h:FOk M0 F ν H v u)(s:Stp F H F' H')(h0:∀ a,M0 a->H a≠none):FOk M0 F' ν H' v u:=by
 cases u with
 |dat x=>exact zq s h0 h
 |own i=>exact h
theorem FOk.weak(h:FOk M0 F ν H v u)(rs:RS M0 F Γ ν H)(e:derf Γ u=some x):Rep zt H v x:=by
 cases u with
 |dat y=>cases e;exact Rep.less (fun _ z _=>z.elim) h
 |own i=>
  dsimp only [derf]at e
  split at e
  ·rename_i o q
   cases e
   obtain⟨w,e1,r⟩:=rs.at' i o q
   have h':ν[i]?=some (some v):=h
   rw[h']at e1;cases e1
   exact r.weak
  ·cases e
theorem FOk.strong(h:FOk M0 F ν H v u)(rs:RS M0 F Γ ν H)(e:derS Γ u=some x):Rep (MM M0 F) H v x:=by
 cases u with
 |dat y=>cases e;exact h
 |own i=>
  dsimp only [derS]at e
  split at e
  ·rename_i y q
   cases e
   obtain⟨w,e1,r⟩:=rs.at' i _ q
   have h':ν[i]?=some (some v):=h
   rw[h']at e1;cases e1
   generalize F i=A at r
   cases r with
   |d r=>exact r
  ·cases e
theorem ORL.leaf{M:Addr->Prop}:∀ {vs:List V}{os:List OV}{A:List Addr}{ds:List PyData},ORL M H vs os A->leaves os=some ds->RepL M H vs ds/\A= []
 |_,_,_,_,.nil,e=>by cases e;exact⟨.nil,rfl⟩
 |_,_,_,_,.cons (x:=.d x) r t,e=>by
  unfold leaves at e
  rename_i vs xs A B
  cases q:leaves xs with
  |none=>rw[q]at e;cases e
  |some ys=>
   rw[q]at e;cases e
   obtain⟨h1,h2⟩:=ORL.leaf t q
   cases r with
   |d r=>exact⟨.cons r h1,by rw[h2];rfl⟩
 |_,_,_,_,.cons (x:=.l x) r t,e=>by cases e
 |_,_,_,_,.cons (x:=.t x) r t,e=>by cases e
 |_,_,_,_,.cons (x:=.m x) r t,e=>by cases e
 |_,_,_,_,.cons (x:=.o _ _ x) r t,e=>by cases e
theorem FOk.list{ds:List PyData}(h:FOk M0 F ν H v u)(rs:RS M0 F Γ ν H)(e:derL Γ u=some ds):∃ a vs,v=.ref a/\H a=some (.lst vs)/\RepL (MM M0 F) H vs ds:=by
 unfold derL at e
 split at e
 ·cases e
  obtain⟨a,vs,rfl,e1,_,r⟩:=Rep.lst_inv h
  exact⟨a,vs,rfl,e1,r⟩
 ·rename_i i
  have h':ν[i]?=some (some v):=h
  split at e
  ·rename_i q
   obtain⟨w,e1,r⟩:=rs.at' i _ q
   rw[h']at e1;cases e1
   generalize F i=A at r
   cases r with
   |l ea qa=>exact⟨_,_,rfl,ea,(ORL.leaf qa e).1⟩
  ·rename_i q
   cases e
   obtain⟨w,e1,r⟩:=rs.at' i _ q
   rw[h']at e1;cases e1
   generalize F i=A at r
   cases r with
   |d r=>
    obtain⟨a,vs,rfl,e1,_,r⟩:=Rep.lst_inv r
    exact⟨a,vs,rfl,e1,r⟩
  ·cases e
 ·cases e
end
noncomputable def SE(X:Cx)(XP:XPT)(mp:List Nat)(e:Expr)(f:EM FV):Prop:=∀ (M0:Addr->Prop) (F:Fp) (Γ:Gv) (ν:Nu) (σ:St) (H:Hp) (Q:VK),RS M0 F Γ ν H->Sees mp ν σ ->
 EPost M0 F ν σ H XP (fun F' Γ' H' u=>∀ v,FOk M0 F' ν H' v u->Q v H') (f Γ)->wpE X e σ H Q
noncomputable def SN(X:Cx)(XP:XPT)(mp:List Nat)(e:Expr)(f:EM (List PyData)):Prop:=∀ (M0:Addr->Prop) (F:Fp) (Γ:Gv) (ν:Nu) (σ:St) (H:Hp) (Q:VK),RS M0 F Γ ν H->Sees mp ν σ ->
 EPost M0 F ν σ H XP (fun F' Γ' H' ds=>∀ vs p,RepL (MM M0 F') H' vs ds->H' p=none->Q (.ref p) (upd H' p (.lst vs))) (f Γ)->wpE X e σ H Q
noncomputable def ST(X:Cx)(XP:XPT)(mp:List Nat)(e:Expr)(f:EM Bool):Prop:=∀ (M0:Addr->Prop) (F:Fp) (Γ:Gv) (ν:Nu) (σ:St) (H:Hp) (Q:Bool->Hp->Prop),RS M0 F Γ ν H->Sees mp ν σ ->
 EPost M0 F ν σ H XP (fun F' Γ' H' b=>Q b H') (f Γ)->wpT X e σ H Q
noncomputable def SW(X:Cx)(XP:XPT)(mp:List Nat)(e:Expr)(f:EM Bool):Prop:=∀ (M0:Addr->Prop) (F:Fp) (Γ:Gv) (ν:Nu) (σ:St) (H:Hp) (Q:Bool->Hp->Prop),RS M0 F Γ ν H->Sees mp ν σ ->
 EPost M0 F ν σ H XP (fun F' Γ' H' b=>Q b H') (f Γ)->wpW X e σ H Q
section
variable {X:Cx} {XP:XPT} {mp:List Nat} {a b c e:Expr} {es:List Expr} {pos p p2:Pos} {fa fb fc:EM FV} {ta tb:EM Bool} {na nb:EM (List PyData)}
section
variable {β:Type} {M0:Addr->Prop} {F:Fp} {Γ:Gv} {ν:Nu} {σ:St} {H:Hp} {P:Fp->Gv->Hp->β->Prop}
theorem SE.run{Q:VK}{k:FV×Gv->R (β×Gv)}(ha:SE X XP mp a fa)(rs:RS M0 F Γ ν H)(hs:Sees mp ν σ)(h:EPost M0 F ν σ H XP P ((fa Γ).bind k))
  (kk:∀ F1 Γ1 H1 u v,RS M0 F1 Γ1 ν H1->Stp F H F1 H1->FOk M0 F1 ν H1 v u->EPost M0 F1 ν σ H1 XP P (k (u,Γ1))->Q v H1):wpE X a σ H Q :=
 ha M0 F Γ ν σ H Q rs hs (h.seq.mono fun F1 Γ1 H1 u rs1 s1 h1 v hv=>kk F1 Γ1 H1 u v rs1 s1 hv h1)
theorem SN.run{Q:VK}{k:List PyData×Gv->R (β×Gv)}(ha:SN X XP mp a na)(rs:RS M0 F Γ ν H)(hs:Sees mp ν σ)(h:EPost M0 F ν σ H XP P ((na Γ).bind k))
  (kk:∀ F1 Γ1 H1 ds vs p,RS M0 F1 Γ1 ν H1->Stp F H F1 H1->RepL (MM M0 F1) H1 vs ds->H1 p=none->EPost M0 F1 ν σ H1 XP P (k (ds,Γ1))->Q (.ref p) (upd H1 p (.lst vs))):wpE X a σ H Q :=
 ha M0 F Γ ν σ H Q rs hs (h.seq.mono fun F1 Γ1 H1 u rs1 s1 h1 vs p r n=>kk F1 Γ1 H1 u vs p rs1 s1 r n h1)
theorem ST.run{Q:Bool->Hp->Prop}{k:Bool×Gv->R (β×Gv)}(ha:ST X XP mp a ta)(rs:RS M0 F Γ ν H)(hs:Sees mp ν σ)(h:EPost M0 F ν σ H XP P ((ta Γ).bind k))
  (kk:∀ F1 Γ1 H1 u,RS M0 F1 Γ1 ν H1->Stp F H F1 H1->EPost M0 F1 ν σ H1 XP P (k (u,Γ1))->Q u H1):wpT X a σ H Q :=
 ha M0 F Γ ν σ H Q rs hs (h.seq.mono fun F1 Γ1 H1 u rs1 s1 h1=>kk F1 Γ1 H1 u rs1 s1 h1)
end
noncomputable def fNew(n:EM (List PyData)):EM FV:=fun Γ=>(n Γ).bind fun (ds,Γ1)=>.ok (.dat (.list ds),Γ1)
theorem SN.se(h:SN X XP mp a na):SE X XP mp a (fNew na):=fun M0 F Γ ν σ H Q rs hs hp=>
 h.run rs hs hp fun F1 Γ1 H1 ds vs p rs1 s1 r n h1=>by
  have s2:Same H1 (upd H1 p (.lst vs)):=zu n
  exact h1 F1 _ (rs1.same s2) (.same s2) _ (Rep.list zh (fun z=>rs1.al p z n) (r.grow s2.grow))
noncomputable def fVar(i:Nat):EM FV:=fun Γ=>match Γ[i]? with
 |some (some (.d x))=>.ok (.dat x,Γ)
 |some (some (.l _))=>.ok (.own i,Γ)
 |some (some (.t _))=>.ok (.own i,Γ)
 |some (some (.m _))=>.ok (.own i,Γ)
 |some (some (.o _ _ _))=>.ok (.own i,Γ)
 |_=>.bad
theorem zfa {s i:Nat}{x:Str}(hN:X.N[s]?=some x) (hv:Vis X.env.scope x) (hm:mp[s]?=some i) (hd:(x==("__debug__" :Str))=false) (hcd:(x==("__classdict__" :Str))=false) :
  SE X XP mp (.Name x pos) (fVar i):=fun M0 F Γ ν σ H Q rs hs hp=>by
 unfold fVar at hp
 split at hp
 ·rename_i y q
  obtain⟨v,e1,r⟩:=rs.at' i _ q
  generalize hA:F i=A at r
  cases r with
  |d r=>exact (zT hN hv hd hcd).wp ⟨v,hs s i v hm e1,hp F H rs (.refl F H) v r⟩
 ·rename_i y q
  obtain⟨v,e1,r⟩:=rs.at' i _ q
  exact (zT hN hv hd hcd).wp ⟨v,hs s i v hm e1,hp F H rs (.refl F H) v e1⟩
 ·rename_i y q
  obtain⟨v,e1,r⟩:=rs.at' i _ q
  exact (zT hN hv hd hcd).wp ⟨v,hs s i v hm e1,hp F H rs (.refl F H) v e1⟩
 ·rename_i y q
  obtain⟨v,e1,r⟩:=rs.at' i _ q
  exact (zT hN hv hd hcd).wp ⟨v,hs s i v hm e1,hp F H rs (.refl F H) v e1⟩
 ·rename_i y _ _ q
  obtain⟨v,e1,r⟩:=rs.at' i _ q
  exact (zT hN hv hd hcd).wp ⟨v,hs s i v hm e1,hp F H rs (.refl F H) v e1⟩
 ·exact hp.elim
noncomputable def fFrz(i:Nat):EM FV:=fun Γ=>match Γ[i]? with
 |some (some o)=>.ok (.dat o.view,Γ.set i (some (.d o.view)))
 |_=>.bad
theorem ze3 {s i:Nat}{x:Str}(hN:X.N[s]?=some x) (hv:Vis X.env.scope x) (hm:mp[s]?=some i) (hd:(x==("__debug__" :Str))=false) (hcd:(x==("__classdict__" :Str))=false) :
  SE X XP mp (.Name x pos) (fFrz i):=fun M0 F Γ ν σ H Q rs hs hp=>by
 unfold fFrz at hp
 split at hp
 ·rename_i o q
  obtain⟨F',v,e1,rs1,s1,r⟩:=rs.frz q
  exact (zT hN hv hd hcd).wp ⟨v,hs s i v hm e1,hp F' H rs1 s1 v r⟩
 ·exact hp.elim
noncomputable def fC(x:PyData):EM FV:=fun Γ=>.ok (.dat x,Γ)
theorem ze4{i j}:SE X XP mp (.Constant (.int i) j pos) (fC (.int i)):=fun M0 F Γ ν σ H Q rs hs hp=>pe_int.wp (hp F H rs (.refl F H) _ (Rep.int i))
theorem zcH{x j}:SE X XP mp (.Constant (.bool x) j pos) (fC (.bool x)):=fun M0 F Γ ν σ H Q rs hs hp=>pe_bl.wp (hp F H rs (.refl F H) _ (Rep.bool x))
theorem zcQ{j}:SE X XP mp (.Constant .none j pos) (fC .none):=fun M0 F Γ ν σ H Q rs hs hp=>pe_non.wp (hp F H rs (.refl F H) _ Rep.none)
theorem ze8{x j}:SE X XP mp (.Constant (.str x) j pos) (fC (.str x)):=fun M0 F Γ ν σ H Q rs hs hp=>pe_str.wp (hp F H rs (.refl F H) _ (Rep.str x))
theorem zcL {x:Str}{i:Int}(hg:Gl X x) (hm:∃ t,X.mg x=some (.int i t)) (hd:(x==("__debug__" :Str))=false):SE X XP mp (.Name x pos) (fC (.int i)):=fun M0 F Γ ν σ H Q rs hs hp=>by
 obtain⟨t,hm⟩:=hm
 exact (Yq (v:=.int i) hg hm ⟨t,rfl⟩ hd).wp (hp F H rs (.refl F H) _ (Rep.int i))
theorem zcM {x:Str}{i:Str}(hg:Gl X x) (hm:∃ t,X.mg x=some (.str i t)) (hd:(x==("__debug__" :Str))=false):SE X XP mp (.Name x pos) (fC (.str i)):=fun M0 F Γ ν σ H Q rs hs hp=>by
 obtain⟨t,hm⟩:=hm
 exact (Yq (v:=.str i) hg hm ⟨t,rfl⟩ hd).wp (hp F H rs (.refl F H) _ (Rep.str i))
noncomputable def OpS(X:Cx)(f:Value->Value->Sem Value)(g:PyData->PyData->Option PyData):Prop:=∀ x y z,g x y=some z->∃ r:R2,OpR X f r/\∀ (M:Addr->Prop) (H:Hp) (v u:V) (Q:VK),
 Al M H->Rep M H v x->Rep M H u y->(∀ w H',Same H H'->Rep M H' w z->Q w H')->r v u H Q
noncomputable def fBin(g:PyData->PyData->Option PyData)(fa fb:EM FV):EM FV:=fun Γ=>(fa Γ).bind fun (u,Γ1)=>(fb Γ1).bind fun (w,Γ2)=>match derS Γ2 u,derS Γ2 w with
 |some x,some y=>match g x y with
  |some z=>.ok (.dat z,Γ2)
  |none=>.bad
 |_,_=>.bad
theorem zaO{op:Operator}{g:PyData->PyData->Option PyData}(ho:OpS X (binaryOp op) g)(ha:SE X XP mp a fa)(hb:SE X XP mp b fb):SE X XP mp (.BinOp a op b pos) (fBin g fa fb):=fun M0 F Γ ν σ H Q rs hs hp=>by
 have key:∀ x y z,g x y=some z->∃ r:R2,OpR X (binaryOp op) r/\∀ (M:Addr->Prop) (H:Hp) (v u:V) (Q:VK),Al M H->Rep M H v x->Rep M H u y->(∀ w H',Same H H'->Rep M H' w z->Q w H')->r v u H Q:=ho
 refine (WQ (r:=fun v u H Q=>∃ M x y z,g x y=some z/\Al M H/\Rep M H v x/\Rep M H u y/\∀ w H',Same H H'->Rep M H' w z->Q w H') ?_ zd zd).wp
  (ha.run rs hs hp fun F1 Γ1 H1 u v rs1 s1 o1 h1=>hb.run rs1 hs h1 fun F2 Γ2 H2 w v2 rs2 s2 o2 h2=>?_)
 ·rintro pins s σ H x y v u Q I rx ry ⟨M,dx,dy,dz,e,al,r1,r2,k⟩
  obtain⟨r,hr,hh⟩:=ho dx dy dz e
  exact hr pins s σ H x y v u Q I rx ry (hh M H x y Q al r1 r2 k)
 ·dsimp only at h2
  split at h2
  ·rename_i x y e1 e2
   split at h2
   ·rename_i z e3
    exact⟨MM M0 F2,x,y,z,e3,rs2.al,(o1.stp s2 rs1.al0).strong rs2 e1,o2.strong rs2 e2,fun w' H3 s3 r3=>h2 F2 H3 (rs2.same s3) (.same s3) w' r3⟩
   ·exact h2.elim
  ·exact h2.elim
noncomputable def W4(X:Cx)(op:CmpOp)(g:PyData->PyData->Option Bool):Prop:=∀ x y z,g x y=some z->∃ r:R2,OpR X (compareOp op) r/\∀ (H:Hp) (v u:V) (Q:VK),
 Rep zt H v x->Rep zt H u y->Q (.bl z) H->r v u H Q
noncomputable def fCmp(g:PyData->PyData->Option Bool)(fa fb:EM FV):EM Bool:=fun Γ=>(fa Γ).bind fun (u,Γ1)=>(fb Γ1).bind fun (w,Γ2)=>match derf Γ2 u,derf Γ2 w with
 |some x,some y=>match g x y with
  |some z=>.ok (z,Γ2)
  |none=>.bad
 |_,_=>.bad
noncomputable def fB(t:EM Bool):EM FV:=fun Γ=>(t Γ).bind fun (b,Γ1)=>.ok (.dat (.bool b),Γ1)
theorem ZA{op:CmpOp}{g:PyData->PyData->Option Bool}(ho:W4 X op g):OpR X (compareOp op) (fun v u H Q=>∃ x y z,g x y=some z/\Rep zt H v x/\Rep zt H u y/\Q (.bl z) H):=by
 rintro pins s σ H x y v u Q I rx ry ⟨dx,dy,dz,e,r1,r2,k⟩
 obtain⟨r,hr,hh⟩:=ho dx dy dz e
 exact hr pins s σ H x y v u Q I rx ry (hh H x y Q r1 r2 k)
section
variable {M0:Addr->Prop} {F:Fp} {Γ:Gv} {ν:Nu} {σ:St} {H:Hp} {β:Type} {P:Fp->Gv->Hp->β->Prop}
theorem Yd{g:PyData->PyData->Option Bool}{k:Bool×Gv->R (β×Gv)}{Q:VK}(ha:SE X XP mp a fa)(hb:SE X XP mp b fb)(rs:RS M0 F Γ ν H)(hs:Sees mp ν σ)(hp:EPost M0 F ν σ H XP P ((fCmp g fa fb Γ).bind k))
  (kk:∀ F2 Γ2 H2 z,RS M0 F2 Γ2 ν H2->Stp F H F2 H2->EPost M0 F2 ν σ H2 XP P (k (z,Γ2))->Q (.bl z) H2) :
  wpE X a σ H fun v H1=>wpE X b σ H1 fun u H2=>∃ x y z,g x y=some z/\Rep zt H2 v x/\Rep zt H2 u y/\Q (.bl z) H2:=by
 have hp':EPost M0 F ν σ H XP P ((fa Γ).bind fun (u,Γ1)=>(fb Γ1).bind fun (w,Γ2)=>(match derf Γ2 u,derf Γ2 w with
  |some x,some y=>match g x y with
   |some z=>R.ok (z,Γ2)
   |none=>.bad
  |_,_=>.bad).bind k):=by
  have e:((fCmp g fa fb Γ).bind k)=((fa Γ).bind fun (u,Γ1)=>(fb Γ1).bind fun (w,Γ2)=>(match derf Γ2 u,derf Γ2 w with
   |some x,some y=>match g x y with
    |some z=>R.ok (z,Γ2)
    |none=>.bad
   |_,_=>.bad).bind k):=by
   unfold fCmp
   cases fa Γ with
   |ok a=>
    obtain⟨a,Γ1⟩:=a
    simp only[R.bind]
    cases fb Γ1<;>rfl
   |exc x y=>rfl
   |bad=>rfl
  rw[<- e];exact hp
 refine ha.run rs hs hp' fun F1 Γ1 H1 u v rs1 s1 o1 h1=>hb.run rs1 hs h1 fun F2 Γ2 H2 w v2 rs2 s2 o2 h2=>?_
 dsimp only at h2
 split at h2
 ·rename_i x y e1 e2
  split at h2
  ·rename_i z e3
   exact⟨x,y,z,e3,(o1.stp s2 rs1.al0).weak rs2 e1,o2.weak rs2 e2,kk F2 Γ2 H2 z rs2 (s1.trans s2) h2⟩
  ·exact h2.elim
 ·exact h2.elim
end
theorem R.bind_ok{α:Type}(r:R α):r.bind .ok=r:=by cases r<;>rfl
theorem zaQ{op:CmpOp}{g:PyData->PyData->Option Bool}(ho:W4 X op g)(ha:SE X XP mp a fa)(hb:SE X XP mp b fb)(hm:behindInMarks op b=false):SE X XP mp (.Compare a [op] [b] pos) (fB (fCmp g fa fb)):=fun M0 F Γ ν σ H Q rs hs hp=>
 (zcq (ZA ho) zd zd hm).wp (Yd ha hb rs hs hp fun F2 Γ2 H2 z rs2 s2 h2=>h2 F2 H2 rs2 (.refl _ _) _ (Rep.bool z))
theorem za8{op:CmpOp}{g:PyData->PyData->Option Bool}(ho:W4 X op g)(ha:SE X XP mp a fa)(hb:SE X XP mp b fb)(hm:behindInMarks op b=false):ST X XP mp (.Compare a [op] [b] pos) (fCmp g fa fb):=fun M0 F Γ ν σ H Q rs hs hp=>
 (zcw (ZA ho) zd zd hm).wp (Yd (k:=.ok) (Q:=fun v H'=>∃ k,v=.bl k/\Q k H') ha hb rs hs (by rw[R.bind_ok];exact hp) fun F2 Γ2 H2 z rs2 s2 h2=>⟨z,rfl,h2 F2 H2 rs2 (.refl _ _)⟩)
end
end L3
namespace L3
open PySem PySem.Spec PyProof.Rows L2
variable [Cs]
noncomputable def truD:PyData->Option Bool
 |.none=>some false
 |.bool b=>some b
 |.int i=>some (i !=0)
 |.list xs=>some (!xs.isEmpty)
 |.tuple xs=>some (!xs.isEmpty)
 |_=>none
theorem Vr{M:Addr->Prop}{H:Hp}{vs:List V}{ds:List PyData}(r:RepL M H vs ds):(!vs.isEmpty)= !ds.isEmpty:=by cases r<;>rfl
theorem YD{K:PySem.W.Frag}{M:Addr->Prop}{H:Hp}{v:V}{x:PyData}{k:Bool}(r:Rep M H v x)(e:truD x=some k):zbK K v H k:=by
 cases r with
 |none=>cases e;rfl
 |bool b=>cases e;rfl
 |int i=>cases e;rfl
 |str x=>cases e
 |list ea n q=>cases e;exact .inl ⟨_,SqL.of ea,(Vr q).symm⟩
 |tuple ea q=>cases e;exact .inr (.inl ⟨_,SqT.of ea,(Vr q).symm⟩)
 |dict _ _ _ _=>cases e
 |inst _ _ _ _=>cases e
section
variable {X:Cx} {XP:XPT} {mp:List Nat} {a b c e:Expr} {es:List Expr} {pos p p2:Pos} {fa fb fc:EM FV} {ta tb:EM Bool} {na nb:EM (List PyData)}
noncomputable def fTru(fa:EM FV):EM Bool:=fun Γ=>(fa Γ).bind fun (u,Γ1)=>match (derf Γ1 u).bind truD with
 |some k=>.ok (k,Γ1)
 |none=>.bad
theorem za9(ha:SE X XP mp a fa)(he:∀ whole,isTrue a X.env whole=(do let v<-whole;standAt a.pos;holding [v] (truthy v))):ST X XP mp a (fTru fa):=fun M0 F Γ ν σ H Q rs hs hp=>
 (zaD zd he).wp (ha.run rs hs hp fun F1 Γ1 H1 u v rs1 s1 o1 h1=>by
  dsimp only at h1
  split at h1
  ·rename_i k ek
   cases ex:derf Γ1 u with
   |none=>rw[ex]at ek;cases ek
   |some x=>
    rw[ex]at ek
    exact⟨k,YD (o1.weak rs1 ex) ek,h1 F1 H1 rs1 (.refl _ _)⟩
  ·exact h1.elim)
noncomputable def fNotT(ta:EM Bool):EM Bool:=fun Γ=>(ta Γ).bind fun (b,Γ1)=>.ok (!b,Γ1)
theorem zfw(h:ST X XP mp a ta):ST X XP mp (.UnaryOp .Not a pos) (fNotT ta):=fun M0 F Γ ν σ H Q rs hs hp=>
 (zeR jd).wp (h.run rs hs hp fun F1 Γ1 H1 b rs1 s1 h1=>h1 F1 H1 rs1 (.refl _ _))
theorem SW.st(h:SW X XP mp a ta):ST X XP mp a ta:=fun M0 F Γ ν σ H Q rs hs hp pins s I=>h M0 F Γ ν σ H Q rs hs hp _ pins s I
theorem zc9(h:ST X XP mp a ta):SW X XP mp (.BoolOp .And [a] pos) ta:=fun M0 F Γ ν σ H Q rs hs hp=>(zcy jd).wp (h M0 F Γ ν σ H Q rs hs hp)
theorem zda(h:ST X XP mp a ta):SW X XP mp (.BoolOp .Or [a] pos) ta:=fun M0 F Γ ν σ H Q rs hs hp=>(zeU jd).wp (h M0 F Γ ν σ H Q rs hs hp)
noncomputable def fAndT(ta tb:EM Bool):EM Bool:=fun Γ=>(ta Γ).bind fun (b,Γ1)=>if b then tb Γ1 else .ok (false,Γ1)
noncomputable def fOrT(ta tb:EM Bool):EM Bool:=fun Γ=>(ta Γ).bind fun (b,Γ1)=>if b then .ok (true,Γ1) else tb Γ1
theorem zbb(ha:ST X XP mp a ta)(hb:SW X XP mp (.BoolOp .And (b::es) pos) tb):SW X XP mp (.BoolOp .And (a::b::es) pos) (fAndT ta tb):=fun M0 F Γ ν σ H Q rs hs hp=>
 (zeT jd Yv).wp (ha.run rs hs hp fun F1 Γ1 H1 b rs1 s1 h1=>by
  cases b with
  |true=>exact Vu (hb M0 F1 Γ1 ν σ H1 Q rs1 hs h1)
  |false=>exact Vt (h1 F1 H1 rs1 (.refl _ _)))
theorem zdK(ha:ST X XP mp a ta)(hb:SW X XP mp (.BoolOp .Or (b::es) pos) tb):SW X XP mp (.BoolOp .Or (a::b::es) pos) (fOrT ta tb):=fun M0 F Γ ν σ H Q rs hs hp=>
 (zgr jd Yv).wp (ha.run rs hs hp fun F1 Γ1 H1 b rs1 s1 h1=>by
  cases b with
  |true=>exact Vu (h1 F1 H1 rs1 (.refl _ _))
  |false=>exact Vt (hb M0 F1 Γ1 ν σ H1 Q rs1 hs h1))
noncomputable def fAndV(fa fb:EM FV):EM FV:=fun Γ=>(fa Γ).bind fun (u,Γ1)=>match derf Γ1 u with
 |some (.bool true)=>fb Γ1
 |some (.bool false)=>.ok (.dat (.bool false),Γ1)
 |_=>.bad
noncomputable def fOrV(fa fb:EM FV):EM FV:=fun Γ=>(fa Γ).bind fun (u,Γ1)=>match derf Γ1 u with
 |some (.bool true)=>.ok (.dat (.bool true),Γ1)
 |some (.bool false)=>fb Γ1
 |_=>.bad
theorem zaR{op}(h:SE X XP mp a fa):SE X XP mp (.BoolOp op [a] pos) fa:=fun M0 F Γ ν σ H Q rs hs hp=>(zeM zd).wp (h M0 F Γ ν σ H Q rs hs hp)
theorem zaN(ha:SE X XP mp a fa)(hb:SE X XP mp (.BoolOp .And (b::es) pos) fb):SE X XP mp (.BoolOp .And (a::b::es) pos) (fAndV fa fb):=fun M0 F Γ ν σ H Q rs hs hp=>
 (zeL zd zd).wp (ha.run rs hs hp fun F1 Γ1 H1 u v rs1 s1 o1 h1=>by
  dsimp only at h1
  split at h1
  ·rename_i ex
   cases o1.weak rs1 ex
   exact⟨true,rfl,Vu (hb M0 F1 Γ1 ν σ H1 Q rs1 hs h1)⟩
  ·rename_i ex
   cases o1.weak rs1 ex
   exact⟨false,rfl,Vt (h1 F1 H1 rs1 (.refl _ _) _ (Rep.bool false))⟩
  ·exact h1.elim)
theorem zdE(ha:SE X XP mp a fa)(hb:SE X XP mp (.BoolOp .Or (b::es) pos) fb):SE X XP mp (.BoolOp .Or (a::b::es) pos) (fOrV fa fb):=fun M0 F Γ ν σ H Q rs hs hp=>
 (zgp zd zd).wp (ha.run rs hs hp fun F1 Γ1 H1 u v rs1 s1 o1 h1=>by
  dsimp only at h1
  split at h1
  ·rename_i ex
   cases o1.weak rs1 ex
   exact⟨true,rfl,Vu (h1 F1 H1 rs1 (.refl _ _) _ (Rep.bool true))⟩
  ·rename_i ex
   cases o1.weak rs1 ex
   exact⟨false,rfl,Vt (hb M0 F1 Γ1 ν σ H1 Q rs1 hs h1)⟩
  ·exact h1.elim)
theorem zdl:UnR X (unaryOp .Not) (fun x H Q=>∃ k,zbK X.K x H k/\Q (.bl (!k)) H):=by
 intro pins s σ H x v Q I rx h
 obtain⟨k,hk,q⟩:=h
 exact not_of (thn (zbf pins s σ H x v _ I rx ⟨k,hk,q⟩) fun b s' ⟨H',I',q'⟩=>⟨.bl (!b),H',I',rfl,q'⟩)
theorem ze6(ha:SE X XP mp a fa):SE X XP mp (.UnaryOp .Not a pos) (fB (fNotT (fTru fa))):=fun M0 F Γ ν σ H Q rs hs hp=>by
 refine (zdC zdl zd).wp (ha.run (k:=fun (u,Γ1)=>match (derf Γ1 u).bind truD with
  |some k=>R.ok (FV.dat (.bool (!k)),Γ1)
  |none=>.bad) (P:=fun F' Γ' H' u=>∀ (v:V),FOk M0 F' ν H' v u->Q v H') rs hs ?_ fun F1 Γ1 H1 u v rs1 s1 o1 h1=>?_)
 ·have e:fB (fNotT (fTru fa)) Γ=(fa Γ).bind fun (u,Γ1)=>match (derf Γ1 u).bind truD with
   |some k=>.ok (.dat (.bool (!k)),Γ1)
   |none=>.bad:=by
   unfold fB fNotT fTru
   cases fa Γ with
   |ok a=>
    obtain⟨u,Γ1⟩:=a
    simp only[R.bind]
    cases (derf Γ1 u).bind truD<;>rfl
   |exc x y=>rfl
   |bad=>rfl
  rw[<- e];exact hp
 ·dsimp only at h1
  split at h1
  ·rename_i k ek
   cases ex:derf Γ1 u with
   |none=>rw[ex]at ek;cases ek
   |some x=>
    rw[ex]at ek
    exact⟨k,YD (o1.weak rs1 ex) ek,h1 F1 H1 rs1 (.refl _ _) _ (Rep.bool (!k))⟩
  ·exact h1.elim
noncomputable def fIf(t:EM Bool)(fa fb:EM FV):EM FV:=fun Γ=>(t Γ).bind fun (b,Γ1)=>if b then fa Γ1 else fb Γ1
theorem zgy(hc:ST X XP mp c ta)(ha:SE X XP mp a fa)(hb:SE X XP mp b fb):SE X XP mp (.IfExp c a b pos) (fIf ta fa fb):=fun M0 F Γ ν σ H Q rs hs hp=>
 (zar jd zd zd).wp (hc.run rs hs hp fun F1 Γ1 H1 b rs1 s1 h1=>by
  cases b with
  |true=>exact Vu (ha M0 F1 Γ1 ν σ H1 Q rs1 hs h1)
  |false=>exact Vt (hb M0 F1 Γ1 ν σ H1 Q rs1 hs h1))
noncomputable def fChain(g g':PyData->PyData->Option Bool)(fa fb fc:EM FV):EM Bool:=fun Γ=>(fa Γ).bind fun (u,Γ1)=>(fb Γ1).bind fun (w,Γ2)=>match derf Γ2 u,derf Γ2 w with
 |some x,some y=>match g x y with
  |some true=>(fc Γ2).bind fun (t,Γ3)=>match derf Γ3 w,derf Γ3 t with
   |some y,some z=>match g' y z with
    |some k=>.ok (k,Γ3)
    |none=>.bad
   |_,_=>.bad
  |some false=>.ok (false,Γ2)
  |none=>.bad
 |_,_=>.bad
theorem R.bind_assoc{α β γ:Type}(r:R α)(f:α->R β)(g:β->R γ):(r.bind f).bind g=r.bind fun a=>(f a).bind g:=by cases r<;>rfl
section
variable {M0:Addr->Prop} {F:Fp} {Γ:Gv} {ν:Nu} {σ:St} {H:Hp} {β:Type} {P:Fp->Gv->Hp->β->Prop}
theorem Wy{g g':PyData->PyData->Option Bool}{k:Bool×Gv->R (β×Gv)}{Q:VK}(ha:SE X XP mp a fa)(hb:SE X XP mp b fb)(hc:SE X XP mp c fc)(rs:RS M0 F Γ ν H)(hs:Sees mp ν σ)(hp:EPost M0 F ν σ H XP P ((fChain g g' fa fb fc Γ).bind k))
  (kk:∀ F2 Γ2 H2 z,RS M0 F2 Γ2 ν H2->EPost M0 F2 ν σ H2 XP P (k (z,Γ2))->Q (.bl z) H2) :
  yQ (fun v u H Q=>∃ x y z,g x y=some z/\Rep zt H v x/\Rep zt H u y/\Q (.bl z) H) (fun v u H Q=>∃ x y z,g' x y=some z/\Rep zt H v x/\Rep zt H u y/\Q (.bl z) H) (wpE X a) (wpE X b) (wpE X c) σ H Q:=by
 unfold fChain at hp
 rw[R.bind_assoc]at hp
 refine ha.run rs hs hp fun F1 Γ1 H1 u v rs1 s1 o1 h1=>?_
 dsimp only at h1
 rw[R.bind_assoc]at h1
 refine hb.run rs1 hs h1 fun F2 Γ2 H2 w v2 rs2 s2 o2 h2=>?_
 dsimp only at h2
 split at h2
 ·rename_i x y e1 e2
  split at h2
  ·rename_i e3
   refine⟨x,y,true,e3,(o1.stp s2 rs1.al0).weak rs2 e1,o2.weak rs2 e2,true,rfl,Vu ?_⟩
   rw[R.bind_assoc]at h2
   refine hc.run rs2 hs h2 fun F3 Γ3 H3 t v3 rs3 s3 o3 h3=>?_
   dsimp only at h3
   split at h3
   ·rename_i y' z e4 e5
    split at h3
    ·rename_i kz e6
     exact⟨y',z,kz,e6,(o2.stp s3 rs2.al0).weak rs3 e4,o3.weak rs3 e5,kk F3 Γ3 H3 kz rs3 h3⟩
    ·exact h3.elim
   ·exact h3.elim
  ·rename_i e3
   exact⟨x,y,false,e3,(o1.stp s2 rs1.al0).weak rs2 e1,o2.weak rs2 e2,false,rfl,Vt (kk F2 Γ2 H2 false rs2 h2)⟩
  ·exact h2.elim
 ·exact h2.elim
end
theorem zaP{op op':CmpOp}{g g':PyData->PyData->Option Bool}(ho:W4 X op g)(ho':W4 X op' g')(ha:SE X XP mp a fa)(hb:SE X XP mp b fb)(hc:SE X XP mp c fc)(hm:lastMarks [op,op'] [b,c]=false) :
  SE X XP mp (.Compare a [op,op'] [b,c] pos) (fB (fChain g g' fa fb fc)):=fun M0 F Γ ν σ H Q rs hs hp=>
 (zan (ZA ho) (ZA ho') zd zd zd hm).wp (Wy ha hb hc rs hs hp fun F2 Γ2 H2 z rs2 h2=>h2 F2 H2 rs2 (.refl _ _) _ (Rep.bool z))
theorem za7{op op':CmpOp}{g g':PyData->PyData->Option Bool}(ho:W4 X op g)(ho':W4 X op' g')(ha:SE X XP mp a fa)(hb:SE X XP mp b fb)(hc:SE X XP mp c fc)(hm:lastMarks [op,op'] [b,c]=false) :
  ST X XP mp (.Compare a [op,op'] [b,c] pos) (fChain g g' fa fb fc):=fun M0 F Γ ν σ H Q rs hs hp=>
 (zaC (ZA ho) (ZA ho') zd zd zd hm).wp (Wy (k:=.ok) (Q:=fun v H'=>∃ k,v=.bl k/\Q k H') ha hb hc rs hs (by rw[R.bind_ok];exact hp) fun F2 Γ2 H2 z rs2 h2=>⟨z,rfl,h2 F2 H2 rs2 (.refl _ _)⟩)
inductive FOks(M0:Addr->Prop)(F:Fp)(ν:Nu)(H:Hp):List V->List FV->Prop
 |nil:FOks M0 F ν H [] []
 |cons {v:V} {vs:List V} {u:FV} {us:List FV}:FOk M0 F ν H v u->FOks M0 F ν H vs us->FOks M0 F ν H (v::vs) (u::us)
noncomputable def derSs(Γ:Gv):List FV->Option (List PyData)
 |[]=>some []
 |u::us=>match derS Γ u,derSs Γ us with
  |some x,some xs=>some (x::xs)
  |_,_=>none
theorem FOks.strong{M0:Addr->Prop}{F:Fp}{Γ:Gv}{ν:Nu}{H:Hp}(rs:RS M0 F Γ ν H):∀ {vs:List V}{us:List FV}{ds:List PyData},FOks M0 F ν H vs us->derSs Γ us=some ds->RepL (MM M0 F) H vs ds
 |_,_,_,.nil,e=>by cases e;exact .nil
 |_,_,_,.cons h t,e=>by
  unfold derSs at e
  split at e
  ·rename_i e1 e2
   cases e
   exact .cons (h.strong rs e1) (FOks.strong rs t e2)
  ·cases e
theorem FOks.length{M0:Addr->Prop}{F:Fp}{ν:Nu}{H:Hp}:∀ {vs:List V}{us:List FV},FOks M0 F ν H vs us->vs.length=us.length
 |_,_,.nil=>rfl
 |_,_,.cons _ t=>by rw[xo,xo,FOks.length t]
noncomputable def SL(X:Cx)(XP:XPT)(mp:List Nat)(es:List Expr)(f:EM (List FV)):Prop:=∀ (M0:Addr->Prop) (F:Fp) (Γ:Gv) (ν:Nu) (σ:St) (H:Hp) (Q:List V->Hp->Prop),RS M0 F Γ ν H->Sees mp ν σ ->
 EPost M0 F ν σ H XP (fun F' Γ' H' us=>∀ vs,FOks M0 F' ν H' vs us->Q vs H') (f Γ)->wpA X es σ H Q
theorem SL.run{β:Type}{M0:Addr->Prop}{F:Fp}{Γ:Gv}{ν:Nu}{σ:St}{H:Hp}{P:Fp->Gv->Hp->β->Prop}{fl:EM (List FV)}{Q:List V->Hp->Prop}{k:List FV×Gv->R (β×Gv)}(ha:SL X XP mp es fl)(rs:RS M0 F Γ ν H)(hs:Sees mp ν σ)(h:EPost M0 F ν σ H XP P ((fl Γ).bind k))
  (kk:∀ F1 Γ1 H1 us vs,RS M0 F1 Γ1 ν H1->Stp F H F1 H1->FOks M0 F1 ν H1 vs us->EPost M0 F1 ν σ H1 XP P (k (us,Γ1))->Q vs H1):wpA X es σ H Q :=
 ha M0 F Γ ν σ H Q rs hs (h.seq.mono fun F1 Γ1 H1 u rs1 s1 h1 v hv=>kk F1 Γ1 H1 u v rs1 s1 hv h1)
noncomputable def fNil:EM (List FV):=fun Γ=>.ok ([],Γ)
noncomputable def fCons(fa:EM FV)(fl:EM (List FV)):EM (List FV):=fun Γ=>(fa Γ).bind fun (u,Γ1)=>(fl Γ1).bind fun (us,Γ2)=>.ok (u::us,Γ2)
theorem zfk:SL X XP mp [] fNil:=fun M0 F Γ ν σ H Q rs hs hp=>pa_nil.wp (hp F H rs (.refl _ _) [] .nil)
theorem zcX{fl:EM (List FV)}(ha:SE X XP mp a fa)(hl:SL X XP mp es fl)(hst:starEach (a::es) X.env=(false,eval a X.env)::starEach es X.env):SL X XP mp (a::es) (fCons fa fl):=fun M0 F Γ ν σ H Q rs hs hp=>
 (zp zd jc hst).wp (ha.run rs hs hp fun F1 Γ1 H1 u v rs1 s1 o1 h1=>hl.run rs1 hs h1 fun F2 Γ2 H2 us vs rs2 s2 o2 h2=>h2 F2 H2 rs2 (.refl _ _) _ (.cons (o1.stp s2 rs1.al0) o2))
theorem sz6{n:Nat}(h:n<=1000000):n<=sizeLine:=by have:=sizeLine_eq;omega
noncomputable def fTup(fl:EM (List FV)):EM FV:=fun Γ=>(fl Γ).bind fun (us,Γ1)=>match derSs Γ1 us with
 |some ds=>if us.length<=1000000 then .ok (.dat (.tuple ds),Γ1) else .bad
 |none=>.bad
noncomputable def fLst(fl:EM (List FV)):EM (List PyData):=fun Γ=>(fl Γ).bind fun (us,Γ1)=>match derSs Γ1 us with
 |some ds=>if us.length<=1000000 then .ok (ds,Γ1) else .bad
 |none=>.bad
theorem ze9{fl:EM (List FV)}{x1}(h:SL X XP mp es fl):SE X XP mp (.Tuple es x1 pos) (fTup fl):=fun M0 F Γ ν σ H Q rs hs hp=>
 (zat jc).wp (h.run rs hs hp fun F1 Γ1 H1 us vs rs1 s1 o1 h1=>by
  dsimp only at h1
  split at h1
  ·rename_i ds e
   split at h1
   ·rename_i hz
    exact⟨by rw[o1.length];exact sz6 hz,fun p n=>h1 F1 _ (rs1.same (zu n)) (.same (zu n)) _ (Rep.tuple zh ((o1.strong rs1 e).grow (zu n).grow))⟩
   ·exact h1.elim
  ·exact h1.elim)
theorem zfo{fl:EM (List FV)}(h:SL X XP mp es fl):SN X XP mp (.List es pos) (fLst fl):=fun M0 F Γ ν σ H Q rs hs hp=>
 (zas jc).wp (h.run rs hs hp fun F1 Γ1 H1 us vs rs1 s1 o1 h1=>by
  dsimp only at h1
  split at h1
  ·rename_i ds e
   split at h1
   ·rename_i hz
    exact⟨by rw[o1.length];exact sz6 hz,fun p n=>h1 F1 H1 rs1 (.refl _ _) vs p (o1.strong rs1 e) n⟩
   ·exact h1.elim
  ·exact h1.elim)
noncomputable def itemF(Γ:Gv)(u:FV)(i:Int):Option PyData:=match u with
 |.dat (.list xs)=>atI xs i
 |.dat (.tuple xs)=>atI xs i
 |.own k=>match Γ[k]? with
  |some (some (.l xs))=>match atI xs i with
   |some (.d x)=>some x
   |_=>none
  |some (some (.d (.list xs)))=>atI xs i
  |_=>none
 |_=>none
theorem zbO{α:Type}{xs:List α}{i:Int}{x:α}(h:atI xs i=some x):∃ j,ixN xs.length i=some j/\xs[j]?=some x:=by
 unfold atI at h
 cases e:ixN xs.length i with
 |none=>rw[e]at h;cases h
 |some j=>rw[e]at h;exact⟨j,rfl,h⟩
theorem zdT{α:Type}{xs:List α}{i:Int}{x:α}{j:Nat}(h:ixN xs.length i=some j)(h2:xs[j]?=some x):atI xs i=some x:=by
 unfold atI;rw[h];exact h2
theorem FOk.item{M0:Addr->Prop}{F:Fp}{Γ:Gv}{ν:Nu}{H:Hp}{v:V}{u:FV}{i:Int}{x:PyData}{K:PySem.W.Frag}(h:FOk M0 F ν H v u)(rs:RS M0 F Γ ν H)(e:itemF Γ u i=some x) :
  ∃ l vs w,v=.ref l/\(SqL K H l vs∨SqT K H l vs)/\atI vs i=some w/\Rep (MM M0 F) H w x:=by
 unfold itemF at e
 split at e
 ·obtain⟨a,vs,rfl,e1,_,r⟩:=Rep.lst_inv h
  obtain⟨w,ew,rw'⟩:=vd r e
  exact⟨a,vs,w,rfl,.inl (SqL.of e1),ew,rw'⟩
 ·obtain⟨a,vs,rfl,e1,r⟩:=Rep.tup_inv h
  obtain⟨w,ew,rw'⟩:=vd r e
  exact⟨a,vs,w,rfl,.inr (SqT.of e1),ew,rw'⟩
 ·rename_i k
  have h':ν[k]?=some (some v):=h
  split at e
  ·rename_i q
   split at e
   ·rename_i y eo
    cases e
    obtain⟨w,e1,r⟩:=rs.at' k _ q
    rw[h']at e1;cases e1
    generalize F k=A at r
    cases r with
    |l ea qa=>
     obtain⟨j,ej,exj⟩:=zbO eo
     obtain⟨w,ew,r⟩:=qa.get exj
     rw[<- qa.length]at ej
     exact⟨_,_,w,rfl,.inl (SqL.of ea),zdT ej ew,r⟩
   ·cases e
  ·rename_i q
   obtain⟨w,e1,r⟩:=rs.at' k _ q
   rw[h']at e1;cases e1
   generalize F k=A at r
   cases r with
   |d r=>
    obtain⟨a,vs,rfl,e1,_,r⟩:=Rep.lst_inv r
    obtain⟨w,ew,rw'⟩:=vd r e
    exact⟨a,vs,w,rfl,.inl (SqL.of e1),ew,rw'⟩
  ·cases e
 ·cases e
noncomputable def fIx(fa fb:EM FV):EM FV:=fun Γ=>(fa Γ).bind fun (u,Γ1)=>(fb Γ1).bind fun (w,Γ2)=>match derf Γ2 w with
 |some (.int i)=>match itemF Γ2 u i with
  |some x=>.ok (.dat x,Γ2)
  |none=>.bad
 |_=>.bad
theorem zgz(ha:SE X XP mp a fa)(hb:SE X XP mp b fb)(hx:J2 b):SE X XP mp (.Subscript a b pos) (fIx fa fb):=fun M0 F Γ ν σ H Q rs hs hp=>
 (VI (ix_list.or vz) zd zd hx).wp (ha.run rs hs hp fun F1 Γ1 H1 u v rs1 s1 o1 h1=>hb.run rs1 hs h1 fun F2 Γ2 H2 w v2 rs2 s2 o2 h2=>by
  dsimp only at h2
  split at h2
  ·rename_i i e1
   split at h2
   ·rename_i x e2
    obtain⟨l,vs,z,rfl,hq,ez,rz⟩:=(o1.stp s2 rs1.al0).item (K:=X.K) rs2 e2
    cases o2.weak rs2 e1
    rcases hq with hq | hq
    ·exact .inl ⟨l,vs,i,z,rfl,rfl,hq,ez,h2 F2 H2 rs2 (.refl _ _) z rz⟩
    ·exact .inr ⟨l,vs,i,z,rfl,rfl,hq,ez,h2 F2 H2 rs2 (.refl _ _) z rz⟩
   ·exact h2.elim
  ·exact h2.elim)
noncomputable def Qb{α:Type}(xs:List α)(lo hi:Option Int):List α:=(xs.drop (HT.sIx xs.length 0 lo)).take (HT.sIx xs.length xs.length hi-HT.sIx xs.length 0 lo)
theorem zaH{M:Addr->Prop}{H:Hp}{vs:List V}{ds:List PyData}(r:RepL M H vs ds)(lo hi:Option Int):RepL M H (Jt vs lo hi) (Qb ds lo hi):=by
 unfold Jt Qb
 rw[r.length]
 exact (r.drop _).take _
noncomputable def SOp(X:Cx)(XP:XPT)(mp:List Nat)(e:Option Expr)(f:EM (Option Int)):Prop:=∃ t:TO,PO X e t/\∀ (M0:Addr->Prop) (F:Fp) (Γ:Gv) (ν:Nu) (σ:St) (H:Hp) (Q:Option Int->Hp->Prop),RS M0 F Γ ν H->Sees mp ν σ ->
 EPost M0 F ν σ H XP (fun F' Γ' H' b=>Q b H') (f Γ)->t σ H Q
noncomputable def jh:EM (Option Int):=fun Γ=>.ok (none,Γ)
noncomputable def qS(fa:EM FV):EM (Option Int):=fun Γ=>(fa Γ).bind fun (u,Γ1)=>match derf Γ1 u with
 |some (.int i)=>.ok (some i,Γ1)
 |_=>.bad
theorem zc2:SOp X XP mp none jh:=⟨_,vG,fun M0 F Γ ν σ H Q rs hs hp=>hp F H rs (.refl _ _)⟩
theorem zc4(ha:SE X XP mp a fa):SOp X XP mp (some a) (qS fa):=⟨_,vH zd,fun M0 F Γ ν σ H Q rs hs hp=>ha.run rs hs hp fun F1 Γ1 H1 u v rs1 s1 o1 h1=>by
 dsimp only at h1
 split at h1
 ·rename_i i e1
  cases o1.weak rs1 e1
  exact⟨i,rfl,h1 F1 H1 rs1 (.refl _ _)⟩
 ·exact h1.elim⟩
noncomputable def Qd(fa:EM FV)(fl fh:EM (Option Int)):EM (List PyData):=fun Γ=>(fa Γ).bind fun (u,Γ1)=>(fl Γ1).bind fun (lo,Γ2)=>(fh Γ2).bind fun (hi,Γ3)=>match derL Γ3 u with
 |some ds=>.ok (Qb ds lo hi,Γ3)
 |none=>.bad
theorem zfn{lo hi:Option Expr}{fl fh:EM (Option Int)}(ha:SE X XP mp a fa)(hl:SOp X XP mp lo fl)(hh:SOp X XP mp hi fh):SN X XP mp (.Subscript a (.Slice lo hi none p2) pos) (Qd fa fl fh):=fun M0 F Γ ν σ H Q rs hs hp=>by
 obtain⟨tl,pl,kl⟩:=hl
 obtain⟨th,ph,kh⟩:=hh
 refine (Qm vK zd pl ph).wp (ha.run rs hs hp fun F1 Γ1 H1 u v rs1 s1 o1 h1=>?_)
 refine kl M0 F1 Γ1 ν σ H1 _ rs1 hs (h1.seq.mono fun F2 Γ2 H2 lo rs2 s2 h2=>?_)
 refine kh M0 F2 Γ2 ν σ H2 _ rs2 hs (h2.seq.mono fun F3 Γ3 H3 hi rs3 s3 h3=>?_)
 dsimp only at h3
 split at h3
 ·rename_i ds e
  obtain⟨l,vs,rfl,el,rl⟩:=((o1.stp s2 rs1.al0).stp s3 rs2.al0).list rs3 e
  exact⟨l,vs,rfl,SqL.of el,fun p n=>h3 F3 H3 rs3 (.refl _ _) _ p (zaH rl lo hi) n⟩
 ·exact h3.elim
noncomputable def Y8(fa fb:EM FV):EM (List PyData):=fun Γ=>(fa Γ).bind fun (u,Γ1)=>(fb Γ1).bind fun (w,Γ2)=>match derL Γ2 u,derL Γ2 w with
 |some xs,some ys=>if xs.length+ys.length<=1000000 then .ok (xs++ys,Γ2) else .bad
 |_,_=>.bad
theorem zfm(ha:SE X XP mp a fa)(hb:SE X XP mp b fb):SN X XP mp (.BinOp a .Add b pos) (Y8 fa fb):=fun M0 F Γ ν σ H Q rs hs hp=>
 (WQ zeE zd zd).wp (ha.run rs hs hp fun F1 Γ1 H1 u v rs1 s1 o1 h1=>hb.run rs1 hs h1 fun F2 Γ2 H2 w v2 rs2 s2 o2 h2=>by
  dsimp only at h2
  split at h2
  ·rename_i xs ys e1 e2
   split at h2
   ·rename_i hz
    obtain⟨l,vs,rfl,el,rl⟩:=(o1.stp s2 rs1.al0).list rs2 e1
    obtain⟨l2,vs2,rfl,el2,rl2⟩:=o2.list rs2 e2
    exact⟨l,l2,vs,vs2,rfl,rfl,el,el2,by rw[rl.length,rl2.length];exact sz6 hz,fun p n=>h2 F2 H2 rs2 (.refl _ _) _ p (rl.append rl2) n⟩
   ·exact h2.elim
  ·exact h2.elim)
structure BiK(X:Cx)(x:Str)(val:Value):Prop where
 gl:Gl X x
 mg:X.mg x=none
 bt:bootBuiltins x=some val
 n:x≠ "__name__"
 d:(x==("__debug__" :Str))=false
noncomputable def lenD:PyData->Option Nat
 |.list xs=>some xs.length
 |.tuple xs=>some xs.length
 |_=>none
noncomputable def f1(g:PyData->Option PyData)(fa:EM FV):EM FV:=fun Γ=>(fa Γ).bind fun (u,Γ1)=>match (derf Γ1 u).bind g with
 |some y=>.ok (.dat y,Γ1)
 |none=>.bad
noncomputable def ZI(X:Cx)(f:Value)(g:PyData->Option PyData):Prop:=∀ x z,g x=some z->noL z=true/\∃ r,qL X f r/\∀ (H:Hp) (v:V) (Q:VK),
 Rep zt H v x->(∀ w,Rep zt H w z->Q w H)->r [v] H Q
theorem Vb{f:Value}{g:PyData->Option PyData}(ho:ZI X f g):qL X f (fun vs H Q=>∃ v x z,vs= [v]/\g x=some z/\Rep zt H v x/\∀ w,Rep zt H w z->Q w H):=by
 rintro pins s σ H xs us Q I r ⟨v,x,z,rfl,e,rv,k⟩
 obtain⟨_,r',hr,hh⟩:=ho x z e
 exact hr pins s σ H [v] us Q I r (hh H v Q rv k)
theorem KN{M0:Addr->Prop}{F:Fp}{Γ:Gv}{ν:Nu}{σ:St}{H:Hp}{g:PyData->Option PyData}{Q:VK}(hz:∀ x z,g x=some z->noL z=true)(ha:SE X XP mp a fa)(rs:RS M0 F Γ ν H)(hs:Sees mp ν σ)(hst:starEach [a] X.env= [(false,eval a X.env)])
  (hp:EPost M0 F ν σ H XP (fun F' Γ' H' u=>∀ v,FOk M0 F' ν H' v u->Q v H') (f1 g fa Γ)):wpA X [a] σ H fun vs H1=>∃ v x z,vs= [v]/\g x=some z/\Rep zt H1 v x/\∀ w,Rep zt H1 w z->Q w H1 :=
 (zp zd pa_nil hst).wp (ha.run rs hs hp fun F1 Γ1 H1 u v rs1 s1 o1 h1=>by
  dsimp only at h1
  split at h1
  ·rename_i y ey
   cases ex:derf Γ1 u with
   |none=>rw[ex]at ey;cases ey
   |some x=>
    rw[ex]at ey
    exact⟨v,x,y,rfl,ey,o1.weak rs1 ex,fun w rw'=>h1 F1 H1 rs1 (.refl _ _) w (Rep.free (hz x y ey) rw')⟩
  ·exact h1.elim)
theorem Yw{x:Str}{id:String}{g:PyData->Option PyData}(ho:ZI X (.builtin id) g)(B:BiK X x (.builtin id))(ha:SE X XP mp a fa)(hst:starEach [a] X.env= [(false,eval a X.env)]):SE X XP mp (.Call (.Name x p) [a] [] pos) (f1 g fa):=fun M0 F Γ ν σ H Q rs hs hp=>
 (Ql (Vb ho) B.gl B.mg B.bt jc B.n B.d hst rfl).wp (KN (fun x z e=>(ho x z e).1) ha rs hs hst hp)
theorem zaS{x:Str}{id:String}{g:PyData->Option PyData}(ho:ZI X (.type id) g)(B:BiK X x (.type id))(ha:SE X XP mp a fa)(hst:starEach [a] X.env= [(false,eval a X.env)]):SE X XP mp (.Call (.Name x p) [a] [] pos) (f1 g fa):=fun M0 F Γ ν σ H Q rs hs hp=>
 (ZC (Vb ho) B.gl B.mg B.bt jc B.n B.d hst rfl).wp (KN (fun x z e=>(ho x z e).1) ha rs hs hst hp)
noncomputable def gLen(x:PyData):Option PyData:=(lenD x).map fun n=>.int n
theorem zec:ZI X (.builtin "len") gLen:=fun x z e=>by
 cases x with
 |list xs=>cases e;exact⟨rfl,_,Z7,fun H v Q r k=>by
   obtain⟨l,vs,rfl,el,_,rl⟩:=r.lst_inv
   exact⟨l,vs,rfl,.inl (SqL.of el),by rw[rl.length];exact k _ (.int _)⟩⟩
 |tuple xs=>cases e;exact⟨rfl,_,Z7,fun H v Q r k=>by
   obtain⟨l,vs,rfl,el,rl⟩:=r.tup_inv
   exact⟨l,vs,rfl,.inr (SqT.of el),by rw[rl.length];exact k _ (.int _)⟩⟩
 |_=>cases e
noncomputable def gInt:PyData->Option PyData
 |.int i=>some (.int i)
 |.bool b=>some (.int (if b then 1 else 0))
 |_=>none
theorem zeb:ZI X (.type "int") gInt:=fun x z e=>by
 cases x with
 |int i=>cases e;exact⟨rfl,_,Wv,fun H v Q r k=>by cases r;exact .inl ⟨i,rfl,k _ (.int _)⟩⟩
 |bool b=>cases e;exact⟨rfl,_,Wv,fun H v Q r k=>by cases r;exact .inr ⟨b,rfl,k _ (.int _)⟩⟩
 |_=>cases e
noncomputable def zH:List PyData->Option (List Bool)
 |[]=>some []
 |.bool b::r=>(zH r).map (b::·)
 |_=>none
theorem zy(bs:List Bool):zH (bs.map .bool)=some bs:=by
 induction bs with
 |nil=>rfl
 |cons b r ih=>simp[zH,ih]
theorem ZP:∀ {ds:List PyData}{bs:List Bool},zH ds=some bs->ds=bs.map .bool
 |[],bs,e=>by cases e;rfl
 |.bool b::r,bs,e=>by
  unfold zH at e
  cases q:zH r with
  |none=>rw[q]at e;cases e
  |some l=>rw[q]at e;cases e;rw[ZP q];rfl
 |.none::r,bs,e=>by cases e
 |.int _::r,bs,e=>by cases e
 |.str _::r,bs,e=>by cases e
 |.list _::r,bs,e=>by cases e
 |.tuple _::r,bs,e=>by cases e
 |.dict _::r,bs,e=>by cases e
noncomputable def gAll:PyData->Option PyData
 |.list xs=>(zH xs).map fun bs=>.bool (bs.all id)
 |_=>none
noncomputable def gAny:PyData->Option PyData
 |.list xs=>(zH xs).map fun bs=>.bool (bs.any id)
 |_=>none
theorem zd9 (hc:X.calm=true):ZI X (.builtin "all") gAll:=fun x z e=>by
 cases x with
 |list xs=>
  dsimp only [gAll]at e
  cases q:zH xs with
  |none=>rw[q]at e;cases e
  |some bs=>
   rw[q]at e;cases e
   exact⟨rfl,_,Y2 hc,fun H v Q r k=>by
    obtain⟨l,vs,rfl,el,_,rl⟩:=r.lst_inv
    rw[ZP q]at rl
    rw[rl.bls]at el
    exact⟨l,bs,rfl,SqL.of el,k _ (.bool _)⟩⟩
 |_=>cases e
theorem zea (hc:X.calm=true):ZI X (.builtin "any") gAny:=fun x z e=>by
 cases x with
 |list xs=>
  dsimp only [gAny]at e
  cases q:zH xs with
  |none=>rw[q]at e;cases e
  |some bs=>
   rw[q]at e;cases e
   exact⟨rfl,_,Y3 hc,fun H v Q r k=>by
    obtain⟨l,vs,rfl,el,_,rl⟩:=r.lst_inv
    rw[ZP q]at rl
    rw[rl.bls]at el
    exact⟨l,bs,rfl,SqL.of el,k _ (.bool _)⟩⟩
 |_=>cases e
noncomputable def qk(Γ:Gv)(u:FV):Option (List PyData):=match u with
 |.dat (.tuple xs)=>some xs
 |u=>derL Γ u
theorem FOk.seq{M0:Addr->Prop}{F:Fp}{Γ:Gv}{ν:Nu}{H:Hp}{v:V}{u:FV}{ds:List PyData}{K:PySem.W.Frag}(h:FOk M0 F ν H v u)(rs:RS M0 F Γ ν H)(e:qk Γ u=some ds) :
  ∃ l vs,v=.ref l/\(SqL K H l vs∨SqT K H l vs)/\RepL (MM M0 F) H vs ds:=by
 unfold qk at e
 split at e
 ·cases e
  obtain⟨a,vs,rfl,e1,r⟩:=Rep.tup_inv h
  exact⟨a,vs,rfl,.inr (SqT.of e1),r⟩
 ·obtain⟨a,vs,rfl,e1,r⟩:=h.list rs e
  exact⟨a,vs,rfl,.inl (SqL.of e1),r⟩
noncomputable def fListC(fa:EM FV):EM (List PyData):=fun Γ=>(fa Γ).bind fun (u,Γ1)=>match qk Γ1 u with
 |some ds=>.ok (ds,Γ1)
 |none=>.bad
theorem zcZ {x:Str}(B:BiK X x (.type "list")) (ha:SE X XP mp a fa) (hst:starEach [a] X.env= [(false,eval a X.env)]):SN X XP mp (.Call (.Name x p) [a] [] pos) (fListC fa):=fun M0 F Γ ν σ H Q rs hs hp=>
 (ZC Z8 B.gl B.mg B.bt (zp zd pa_nil hst) B.n B.d hst rfl).wp (ha.run rs hs hp fun F1 Γ1 H1 u v rs1 s1 o1 h1=>by
  dsimp only at h1
  split at h1
  ·rename_i ds e
   obtain⟨l,vs,rfl,hq,r⟩:=o1.seq (K:=X.K) rs1 e
   exact⟨l,vs,rfl,hq,fun p n=>h1 F1 H1 rs1 (.refl _ _) vs p r n⟩
  ·exact h1.elim)
noncomputable def fTupC(fa:EM FV):EM FV:=fun Γ=>(fa Γ).bind fun (u,Γ1)=>match derL Γ1 u with
 |some ds=>.ok (.dat (.tuple ds),Γ1)
 |none=>.bad
theorem zaT {x:Str}(B:BiK X x (.type "tuple")) (ha:SE X XP mp a fa) (hst:starEach [a] X.env= [(false,eval a X.env)]):SE X XP mp (.Call (.Name x p) [a] [] pos) (fTupC fa):=fun M0 F Γ ν σ H Q rs hs hp=>
 (ZC wV B.gl B.mg B.bt (zp zd pa_nil hst) B.n B.d hst rfl).wp (ha.run rs hs hp fun F1 Γ1 H1 u v rs1 s1 o1 h1=>by
  dsimp only at h1
  split at h1
  ·rename_i ds e
   obtain⟨l,vs,rfl,el,r⟩:=o1.list rs1 e
   exact⟨l,vs,rfl,.inl ⟨SqL.of el,fun p n=>h1 F1 _ (rs1.same (zu n)) (.same (zu n)) _ (Rep.tuple zh (r.grow (zu n).grow))⟩⟩
  ·exact h1.elim)
noncomputable def isiB (a T:String):Option Bool:=if (T= "int" ∨T= "bool" ∨T= "list" ∨T= "tuple" ∨T= "str")/\¬ a= "dict" then some (a==T||(a== "bool" &&T== "int")) else none
theorem zeo{K:PySem.W.Frag}{x:PyData}{T:String}{k:Bool}(h:isiB (tyD x) T=some k):PySem.W.kitOne K (.type (tyD x)) (.type T)=some k:=by
 unfold isiB at h
 split at h
 ·rename_i hT
  cases h
  rcases hT.1 with rfl | rfl | rfl | rfl | rfl<;>cases x<;>kernel_rfl
 ·cases h
theorem zen {x:PyData}{T:String}{k:Bool}(h:isiB (tyD x) T=some k):tyD x≠ "dict" :=by
 unfold isiB at h
 split at h
 ·rename_i hT;exact hT.2
 ·cases h
noncomputable def fIsi(T:String)(fa:EM FV):EM FV:=fun Γ=>(fa Γ).bind fun (u,Γ1)=>match (derf Γ1 u).bind fun x=>isiB (tyD x) T with
 |some k=>.ok (.dat (.bool k),Γ1)
 |none=>.bad
theorem wK {x y:Str}{T:String}(B:BiK X x (.builtin "isinstance")) (BT:BiK X y (.type T)) (ha:SE X XP mp a fa) (hst:starEach [a,.Name y p2] X.env=(false,eval a X.env)::starEach [.Name y p2] X.env) :
  SE X XP mp (.Call (.Name x p) [a,.Name y p2] [] pos) (fIsi T fa):=fun M0 F Γ ν σ H Q rs hs hp=>
 (Ql KC B.gl B.mg B.bt (zp zd (zp (zco (v:=.ty T) BT.gl BT.mg BT.bt rfl BT.n BT.d) pa_nil rfl) hst) B.n B.d hst rfl).wp (ha.run rs hs hp fun F1 Γ1 H1 u v rs1 s1 o1 h1=>by
  dsimp only at h1
  split at h1
  ·rename_i k ek
   cases ex:derf Γ1 u with
   |none=>rw[ex]at ek;cases ek
   |some z=>
    rw[ex]at ek
    exact⟨v,T,_,k,rfl,(o1.weak rs1 ex).ty (zen ek),zeo ek,h1 F1 H1 rs1 (.refl _ _) _ (Rep.bool k)⟩
  ·exact h1.elim)
noncomputable def f2(g:PyData->PyData->Option PyData)(fa fb:EM FV):EM FV:=fun Γ=>(fa Γ).bind fun (u,Γ1)=>(fb Γ1).bind fun (w,Γ2)=>match derf Γ2 u,derf Γ2 w with
 |some x,some y=>match g x y with
  |some z=>.ok (.dat z,Γ2)
  |none=>.bad
 |_,_=>.bad
noncomputable def gMin:PyData->PyData->Option PyData
 |.int i,.int j=>some (.int (if j<i then j else i))
 |_,_=>none
noncomputable def gMax:PyData->PyData->Option PyData
 |.int i,.int j=>some (.int (if j>i then j else i))
 |_,_=>none
theorem KS{x y z:PyData}(h:gMin x y=some z):∃ i j,x=.int i/\y=.int j/\z=.int (if j<i then j else i):=by
 cases x<;>cases y<;>cases h
 exact⟨_,_,rfl,rfl,rfl⟩
theorem KQ{x y z:PyData}(h:gMax x y=some z):∃ i j,x=.int i/\y=.int j/\z=.int (if j>i then j else i):=by
 cases x<;>cases y<;>cases h
 exact⟨_,_,rfl,rfl,rfl⟩
theorem zcP {x:Str}(hc:X.calm=true) (B:BiK X x (.builtin "min")) (ha:SE X XP mp a fa) (hb:SE X XP mp b fb) (hst:starEach [a,b] X.env=(false,eval a X.env)::starEach [b] X.env) (hst2:starEach [b] X.env= [(false,eval b X.env)]) :
  SE X XP mp (.Call (.Name x p) [a,b] [] pos) (f2 gMin fa fb):=fun M0 F Γ ν σ H Q rs hs hp=>
 (Ql (Y5 hc) B.gl B.mg B.bt (zp zd (zp zd pa_nil hst2) hst) B.n B.d hst (by rw[hst2];rfl)).wp (ha.run rs hs hp fun F1 Γ1 H1 u v rs1 s1 o1 h1=>hb.run rs1 hs h1 fun F2 Γ2 H2 w v2 rs2 s2 o2 h2=>by
  dsimp only at h2
  split at h2
  ·rename_i x y e1 e2
   split at h2
   ·rename_i z e3
    obtain⟨i,j,rfl,rfl,rfl⟩:=KS e3
    cases (o1.stp s2 rs1.al0).weak rs2 e1
    cases o2.weak rs2 e2
    exact⟨i,j,rfl,h2 F2 H2 rs2 (.refl _ _) _ (Rep.int _)⟩
   ·exact h2.elim
  ·exact h2.elim)
theorem zcO {x:Str}(hc:X.calm=true) (B:BiK X x (.builtin "max")) (ha:SE X XP mp a fa) (hb:SE X XP mp b fb) (hst:starEach [a,b] X.env=(false,eval a X.env)::starEach [b] X.env) (hst2:starEach [b] X.env= [(false,eval b X.env)]) :
  SE X XP mp (.Call (.Name x p) [a,b] [] pos) (f2 gMax fa fb):=fun M0 F Γ ν σ H Q rs hs hp=>
 (Ql (Y4 hc) B.gl B.mg B.bt (zp zd (zp zd pa_nil hst2) hst) B.n B.d hst (by rw[hst2];rfl)).wp (ha.run rs hs hp fun F1 Γ1 H1 u v rs1 s1 o1 h1=>hb.run rs1 hs h1 fun F2 Γ2 H2 w v2 rs2 s2 o2 h2=>by
  dsimp only at h2
  split at h2
  ·rename_i x y e1 e2
   split at h2
   ·rename_i z e3
    obtain⟨i,j,rfl,rfl,rfl⟩:=KQ e3
    cases (o1.stp s2 rs1.al0).weak rs2 e1
    cases o2.weak rs2 e2
    exact⟨i,j,rfl,h2 F2 H2 rs2 (.refl _ _) _ (Rep.int _)⟩
   ·exact h2.elim
  ·exact h2.elim)
noncomputable def gNeg:PyData->Option PyData
 |.int i=>some (.int (-i))
 |_=>none
theorem ze5(ha:SE X XP mp a fa):SE X XP mp (.UnaryOp .USub a pos) (f1 gNeg fa):=fun M0 F Γ ν σ H Q rs hs hp=>
 (zdC zfM zd).wp (ha.run rs hs hp fun F1 Γ1 H1 u v rs1 s1 o1 h1=>by
  dsimp only at h1
  split at h1
  ·rename_i y ey
   cases ex:derf Γ1 u with
   |none=>rw[ex]at ey;cases ey
   |some x=>
    rw[ex]at ey
    cases x with
    |int i=>
     cases ey
     cases o1.weak rs1 ex
     exact⟨i,rfl,h1 F1 H1 rs1 (.refl _ _) _ (Rep.int _)⟩
    |_=>cases ey
  ·exact h1.elim)
open Classical in
noncomputable def binD(op:Operator)(x y:PyData):Option PyData:=match op,x,y with
 |.Add,.int i,.int j=>some (.int (i+j))
 |.Sub,.int i,.int j=>some (.int (i-j))
 |.Mult,.int i,.int j=>if (-(2 ^ 64)<i/\i<2 ^ 64)∨(-(2 ^ 64)<j/\j<2 ^ 64) then some (.int (i*j)) else none
 |.Mod,.int i,.int j=>if 0<j then some (.int (i % j)) else none
 |.FloorDiv,.int i,.int j=>if 0<j/\j<1073741824 then some (.int (i / j)) else none
 |.Pow,.int i,.int j=>if 0<=j/\j<=1000000/\i.natAbs<2 ^ 64 then some (.int (i ^ j.toNat)) else none
 |.LShift,.int i,.int j=>if 0<=j/\j<=1000000/\i.natAbs<2 ^ 64 then some (.int (i*2 ^ j.toNat)) else none
 |.RShift,.int i,.int j=>if 0<=j then some (.int (i / 2 ^ j.toNat)) else none
 |.BitAnd,.int i,.int j=>some (.int (Builtin.bitAnd i j))
 |.Add,.tuple a,.tuple b=>if a.length+b.length<=1000000 then some (.tuple (a++b)) else none
 |.Mult,.tuple a,.int n=>if 0<=n/\n<1000000/\a.length*n.toNat<=1000000 then some (.tuple (List.replicate n.toNat a).flatten) else none
 |_,_,_=>none
theorem ZB{op:Operator}{x y z:PyData}{i j k:Int}{C:Int->Int->Prop}{f:Int->Int->Int}(hc:C i j)(ho:OpR X (binaryOp op) (rI C fun i j=>.int (f i j))) :
  ∃ r:R2,OpR X (binaryOp op) r/\∀ (M:Addr->Prop) (H:Hp) (v u:V) (Q:VK),Al M H->Rep M H v (.int i)->Rep M H u (.int j)->(∀ w H',Same H H'->Rep M H' w (.int (f i j))->Q w H')->r v u H Q :=
 ⟨_,ho,fun M H v u Q _ r1 r2 k=>by cases r1;cases r2;exact⟨i,j,rfl,rfl,hc,k _ H (Same.refl H) (.int _)⟩⟩
theorem wq{op:Operator}{i j:Int}{f:Int->Int->Int}(ho:OpR X (binaryOp op) (rI0 fun i j=>.int (f i j))) :
  ∃ r:R2,OpR X (binaryOp op) r/\∀ (M:Addr->Prop) (H:Hp) (v u:V) (Q:VK),Al M H->Rep M H v (.int i)->Rep M H u (.int j)->(∀ w H',Same H H'->Rep M H' w (.int (f i j))->Q w H')->r v u H Q :=
 ⟨_,ho,fun M H v u Q _ r1 r2 k=>by cases r1;cases r2;exact⟨i,j,rfl,rfl,k _ H (Same.refl H) (.int _)⟩⟩
theorem zdV(op:Operator):OpS X (binaryOp op) (binD op):=fun x y z e=>by
 unfold binD at e
 split at e
 ·cases e;exact wq yF
 ·cases e;exact wq zeK
 ·split at e
  ·rename_i h;cases e;exact ZB (x:=.none) (y:=.none) (z:=.none) (k:=0) h zam
  ·cases e
 ·split at e
  ·rename_i h;cases e;exact ZB (x:=.none) (y:=.none) (z:=.none) (k:=0) h zal
  ·cases e
 ·split at e
  ·rename_i h;cases e;exact ZB (x:=.none) (y:=.none) (z:=.none) (k:=0) h zck
  ·cases e
 ·split at e
  ·rename_i h;cases e;exact ZB (x:=.none) (y:=.none) (z:=.none) (k:=0) h zeG
  ·cases e
 ·split at e
  ·rename_i h;cases e;exact ZB (x:=.none) (y:=.none) (z:=.none) (k:=0) h zeH
  ·cases e
 ·split at e
  ·rename_i h;cases e;exact ZB (x:=.none) (y:=.none) (z:=.none) (k:=0) (C:=fun _ j=>0<=j) h zeI
  ·cases e
 ·cases e;exact wq zeD
 ·split at e
  ·rename_i h
   cases e
   exact⟨_,zaj,fun M H v u Q _ q1 q2 k=>by
    obtain⟨l,vs,rfl,e,r⟩:=q1.tup_inv
    obtain⟨l2,vs2,rfl,e2,r2⟩:=q2.tup_inv
    refine⟨l,l2,vs,vs2,rfl,rfl,SqT.of e,SqT.of e2,by rw[r.length,r2.length];exact sz6 h,fun z=>k _ H (Same.refl H) ?_,fun z=>k _ H (Same.refl H) ?_,fun p np=>k _ _ (zu np) (.tuple zh ((r.append r2).grow (zu np).grow))⟩
    ·subst z
     cases r
     exact q2
    ·subst z
     cases r2
     rw[xG];exact q1⟩
  ·cases e
 ·split at e
  ·rename_i h
   cases e
   exact⟨_,zcm,fun M H v u Q _ q1 q2 k=>by
    obtain⟨l,vs,rfl,e,r⟩:=q1.tup_inv
    cases q2
    refine⟨l,_,vs,rfl,rfl,SqT.of e,by omega,by omega,by rw[r.length];exact sz6 h.2.2,fun hs=>k _ H (Same.refl H) ?_,fun p np=>k _ _ (zu np) (.tuple zh ((r.rep _).grow (zu np).grow))⟩
    rcases hs with z | z
    ·subst z
     cases r
     rename_i n _
     have:(List.replicate n.toNat ([]:List PyData)).flatten= []:=by simp
     rw[this];exact q1
    ·subst z
     have key:∀ l:List PyData,(List.replicate (1:Int).toNat l).flatten=l:=fun l=>by simp
     rw[key];exact q1⟩
  ·cases e
 ·cases e
noncomputable def lay:Nat->PyData->Bool
 |_,.none=>true
 |_,.bool _=>true
 |_,.int _=>true
 |_,.str x=>PyData.strOk x
 |n+1,.list xs=>xs.all (lay n)
 |n+1,.tuple xs=>xs.all (lay n)
 |_,_=>false
theorem jC{n:Nat}(ih:∀ d,lay n d=true->d.canLay0=true/\d.depth<=n):∀ xs:List PyData,xs.all (lay n)=true->PyData.canLayAll0 xs=true/\PyData.depthAll xs<=n
 |[],_=>⟨rfl,ua _⟩
 |x::r,h=>by
  rw[ue,xa]at h
  obtain⟨a,b⟩:=ih x h.1
  obtain⟨c,d⟩:=jC ih r h.2
  exact⟨by simp[PyData.canLayAll0,a,c],by simp only[PyData.depthAll];omega⟩
theorem zP:∀ (n:Nat) (d:PyData),lay n d=true->d.canLay0=true/\d.depth<=n
 |n,.none,_=>⟨rfl,ua _⟩
 |n,.bool _,_=>⟨rfl,ua _⟩
 |n,.int _,_=>⟨rfl,ua _⟩
 |n,.str _,h=>⟨by simpa [PyData.canLay0,lay] using h,ua _⟩
 |n+1,.list xs,h=>by
  obtain⟨a,b⟩:=jC (zP n) xs (by simpa [lay] using h)
  exact⟨by simpa [PyData.canLay0] using a,by simp only[PyData.depth];omega⟩
 |n+1,.tuple xs,h=>by
  obtain⟨a,b⟩:=jC (zP n) xs (by simpa [lay] using h)
  exact⟨by simpa [PyData.canLay0] using a,by simp only[PyData.depth];omega⟩
 |0,.list _,h=>by simp[lay]at h
 |0,.tuple _,h=>by simp[lay]at h
 |0,.dict _,h=>by simp[lay]at h
 |n+1,.dict _,h=>by simp[lay]at h
noncomputable def isN:PyData->Bool
 |.none=>true
 |_=>false
noncomputable def inD(x:PyData)(ys:List PyData):Bool:=ys.any fun y=>PyData.eqv y x
noncomputable def cmpD(op:CmpOp)(x y:PyData):Option Bool:=match op,x,y with
 |.Eq,x,y=>if lay 20 x&&lay 20 y then some (PyData.eqv x y) else none
 |.NotEq,x,y=>if lay 20 x&&lay 20 y then some (!PyData.eqv x y) else none
 |.Lt,.int i,.int j=>some (decide (i<j))
 |.LtE,.int i,.int j=>some (decide (i<=j))
 |.Gt,.int i,.int j=>some (decide (j<i))
 |.GtE,.int i,.int j=>some (decide (j<=i))
 |.In,x,.list ys=>if lay 20 x&&ys.all (lay 20) then some (inD x ys) else none
 |.In,x,.tuple ys=>if lay 20 x&&ys.all (lay 20) then some (inD x ys) else none
 |.NotIn,x,.list ys=>if lay 20 x&&ys.all (lay 20) then some (!inD x ys) else none
 |.NotIn,x,.tuple ys=>if lay 20 x&&ys.all (lay 20) then some (!inD x ys) else none
 |.Is,x,.none=>some (isN x)
 |.IsNot,x,.none=>some (!isN x)
 |_,_,_=>none
end
end L3
namespace L3
open PySem PySem.Spec PyProof.Rows L2
variable [Cs]
section
variable {X:Cx}
open Classical in
/-- is the value w equal to the data? -/
noncomputable def eqW(h:Heap)(dx:PyData)(w:Value):Bool:=if ∃ d as,Reads h w d as/\d.canLay0=true/\PyData.eqv d dx=true then true else false
theorem KL{h:Heap}{dx d:PyData}{w:Value}{as:List Addr}(r:Reads h w d as)(hl:d.canLay0=true):eqW h dx w=PyData.eqv d dx:=by
 unfold eqW
 cases e:PyData.eqv d dx with
 |true=>rw[if_pos ⟨d,as,r,hl,e⟩]
 |false=>
  rw[if_neg]
  rintro⟨d',as',r',hl',e'⟩
  have:=SeqAt.Reads.unique d d' w as as' hl r r'
  rw[<- this,e]at e';cases e'
theorem Z4{h:Heap}{dx:PyData}:∀ {us:List Value}{ys:List PyData}{as:List Addr},ReadsAll h us ys as->ys.all (lay 20)=true->us.any (eqW h dx)=inD dx ys
 |_,_,_,.nil,_=>rfl
 |_,_,_,.cons r t,hl=>by
  rw[ue,xa]at hl
  unfold inD
  rw[xM,xM,KL r (zP 20 _ hl.1).1,Z4 t hl.2];rfl
theorem Qi{A:Around}{s:Shared}{dx:PyData}{v:Value}{bs:List Addr}(rx:Reads s.heap v dx bs)(hx:lay 20 dx=true)(hu:∀ n,n<=60->A.units+n<cLine):∀ {us:List Value}{ys:List PyData}{as:List Addr},ReadsAll s.heap us ys as->ys.all (lay 20)=true->∀ u∈us,SeqAt.EqAt A s u v (eqW s.heap dx u)
 |_,_,_,.nil,_=>fun u hu=>by cases hu
 |_,_,_,.cons (d:=d) r t,hl=>fun u' hu'=>by
  rw[ue,xa]at hl
  rcases xy.mp hu' with rfl | hu'
  ·rw[KL r (zP 20 _ hl.1).1]
   have h1:=zP 20 _ hl.1
   have h2:=zP 20 _ hx
   exact SeqAt.eqAt_reads _ _ _ _ _ _ _ _ r rx h1.1 h2.1 (hu _ (xA (Nat.min_le_left _ _) (by omega)))
  ·exact Qi rx hx hu t hl.2 u' hu'
noncomputable def zgs(K:PySem.W.Frag)(neg:Bool):R2:=fun x y H Q=>∃ M M' dx ys p vs,Rep M H x dx/\y=.ref p/\(SqL K H p vs∨SqT K H p vs)/\RepL M' H vs ys/\lay 20 dx=true/\ys.all (lay 20)=true/\Q (.bl (if neg then !inD dx ys else inD dx ys)) H
theorem zak(hr:Room 1 X.A):OpR X (compareOp .In) (zgs X.K false):=by
 intro pins s σ H x y v u Q I rx ry h
 obtain⟨M,M',dx,ys,p,vs,r1,rfl,hq,r2,l1,l2,q⟩:=h
 cases ry
 obtain⟨bs,z1⟩:=r1.reads I.hok (zP 20 _ l1).1 rx
 have hu:∀ n,n<=60->X.A.in1.units+n<cLine:=(hr.in1).u60
 rcases hq with hq | hq
 ·obtain⟨its,r,pl,hz⟩:=I.list hq
  obtain⟨as,z2⟩:=r2.reads I.hok (jC (zP 20) _ l2).1 r
  refine SeqAt.in_listAt (eqW s.heap dx) pl.isList (fun w hw=>Qi z1 l1 hu z2 l2 w (by simpa using hw)) ⟨.bl _,H,I,rfl,?_⟩
  rw[show its.toArray.any (eqW s.heap dx)=its.any (eqW s.heap dx) by simp,Z4 z2 l2]
  exact q
 ·obtain⟨its,r,pl,hz⟩:=I.tuple hq
  obtain⟨as,z2⟩:=r2.reads I.hok (jC (zP 20) _ l2).1 r
  refine SeqAt.in_tupleAt (eqW s.heap dx) pl (fun w hw=>Qi z1 l1 hu z2 l2 w (by simpa using hw)) ⟨.bl _,H,I,rfl,?_⟩
  rw[show its.toArray.any (eqW s.heap dx)=its.any (eqW s.heap dx) by simp,Z4 z2 l2]
  exact q
theorem WO(hr:Room 1 X.A):OpR X (compareOp .NotIn) (zgs X.K true):=by
 intro pins s σ H x y v u Q I rx ry h
 obtain⟨M,M',dx,ys,p,vs,r1,rfl,hq,r2,l1,l2,q⟩:=h
 cases ry
 obtain⟨bs,z1⟩:=r1.reads I.hok (zP 20 _ l1).1 rx
 have hu:∀ n,n<=60->X.A.in1.units+n<cLine:=(hr.in1).u60
 rcases hq with hq | hq
 ·obtain⟨its,r,pl,hz⟩:=I.list hq
  obtain⟨as,z2⟩:=r2.reads I.hok (jC (zP 20) _ l2).1 r
  refine SeqAt.notIn_listAt (eqW s.heap dx) pl.isList (fun w hw=>Qi z1 l1 hu z2 l2 w (by simpa using hw)) ⟨.bl _,H,I,rfl,?_⟩
  rw[show its.toArray.any (eqW s.heap dx)=its.any (eqW s.heap dx) by simp,Z4 z2 l2]
  exact q
 ·obtain⟨its,r,pl,hz⟩:=I.tuple hq
  obtain⟨as,z2⟩:=r2.reads I.hok (jC (zP 20) _ l2).1 r
  refine SeqAt.notIn_tupleAt (eqW s.heap dx) pl (fun w hw=>Qi z1 l1 hu z2 l2 w (by simpa using hw)) ⟨.bl _,H,I,rfl,?_⟩
  rw[show its.toArray.any (eqW s.heap dx)=its.any (eqW s.heap dx) by simp,Z4 z2 l2]
  exact q
theorem wH{M:Addr->Prop}{H:Hp}{v:V}{x:PyData}(r:Rep M H v x):decide (v=.non)=isN x:=by
 cases r<;>rfl
theorem Js(hr:Room 1 X.A)(op:CmpOp):W4 X op (cmpD op):=fun x y z e=>by
 have h60:∀ n,n<=60->X.A.units+n<cLine:=hr.u60
 unfold cmpD at e
 split at e
 ·split at e
  ·rename_i h
   cases e
   rw[xa]at h
   have h1:=zP 20 _ h.1
   have h2:=zP 20 _ h.2
   exact⟨_,ky h60,fun H v u Q r1 r2 k=>⟨_,_,_,_,r1,r2,h1.1,h2.1,xA (Nat.min_le_left _ _) (by omega),k⟩⟩
  ·cases e
 ·split at e
  ·rename_i h
   cases e
   rw[xa]at h
   have h1:=zP 20 _ h.1
   have h2:=zP 20 _ h.2
   exact⟨_,kA h60,fun H v u Q r1 r2 k=>⟨_,_,_,_,r1,r2,h1.1,h2.1,xA (Nat.min_le_left _ _) (by omega),k⟩⟩
  ·cases e
 ·cases e;exact⟨_,zgl,fun H v u Q r1 r2 k=>by cases r1;cases r2;exact⟨_,_,rfl,rfl,k⟩⟩
 ·cases e;exact⟨_,zgk,fun H v u Q r1 r2 k=>by cases r1;cases r2;exact⟨_,_,rfl,rfl,k⟩⟩
 ·cases e;exact⟨_,zgj,fun H v u Q r1 r2 k=>by cases r1;cases r2;exact⟨_,_,rfl,rfl,k⟩⟩
 ·cases e;exact⟨_,zgi,fun H v u Q r1 r2 k=>by cases r1;cases r2;exact⟨_,_,rfl,rfl,k⟩⟩
 ·split at e
  ·rename_i h
   cases e
   rw[xa]at h
   exact⟨_,zak hr,fun H v u Q r1 r2 k=>by
    obtain⟨l,vs,rfl,el,_,rl⟩:=r2.lst_inv
    exact⟨_,_,_,_,l,vs,r1,rfl,.inl (SqL.of el),rl,h.1,h.2,k⟩⟩
  ·cases e
 ·split at e
  ·rename_i h
   cases e
   rw[xa]at h
   exact⟨_,zak hr,fun H v u Q r1 r2 k=>by
    obtain⟨l,vs,rfl,el,rl⟩:=r2.tup_inv
    exact⟨_,_,_,_,l,vs,r1,rfl,.inr (SqT.of el),rl,h.1,h.2,k⟩⟩
  ·cases e
 ·split at e
  ·rename_i h
   cases e
   rw[xa]at h
   exact⟨_,WO hr,fun H v u Q r1 r2 k=>by
    obtain⟨l,vs,rfl,el,_,rl⟩:=r2.lst_inv
    exact⟨_,_,_,_,l,vs,r1,rfl,.inl (SqL.of el),rl,h.1,h.2,k⟩⟩
  ·cases e
 ·split at e
  ·rename_i h
   cases e
   rw[xa]at h
   exact⟨_,WO hr,fun H v u Q r1 r2 k=>by
    obtain⟨l,vs,rfl,el,rl⟩:=r2.tup_inv
    exact⟨_,_,_,_,l,vs,r1,rfl,.inr (SqT.of el),rl,h.1,h.2,k⟩⟩
  ·cases e
 ·cases e
  exact⟨_,zeF,fun H v u Q r1 r2 k=>by cases r2;exact⟨rfl,by rw[wH r1];exact k⟩⟩
 ·cases e
  exact⟨_,zcl,fun H v u Q r1 r2 k=>by
   cases r2
   refine⟨rfl,?_⟩
   rw[wH r1];exact k⟩
 ·cases e
end
mutual
inductive IT where
 |nm (s i:Nat)
 |tp (ts:ITs)
inductive ITs where
 |nil
 |cons (t:IT) (ts:ITs)
end
mutual
/-- what a store makes of the frame -/
noncomputable def tgF:IT->PyData->Gv->Option Gv
 |.nm _ i,x,Γ=>if i<Γ.length then some (Γ.set i (some (.d x))) else none
 |.tp ts,.tuple xs,Γ=>tgFs ts xs Γ
 |.tp ts,.list xs,Γ=>tgFs ts xs Γ
 |_,_,_=>none
noncomputable def tgFs:ITs->List PyData->Gv->Option Gv
 |.nil,[],Γ=>some Γ
 |.cons t ts,x::xs,Γ=>(tgF t x Γ).bind fun Γ=>tgFs ts xs Γ
 |_,_,_=>none
end
noncomputable def ITs.len:ITs->Nat
 |.nil=>0
 |.cons _ ts=>ts.len+1
theorem wQ:∀ {ts:ITs}{ds:List PyData}{Γ Γ':Gv},tgFs ts ds Γ=some Γ'->ds.length=ts.len
 |.nil,[],_,_,_=>rfl
 |.nil,_::_,_,_,e=>by simp[tgFs]at e
 |.cons t ts,[],_,_,e=>by simp[tgFs]at e
 |.cons t ts,d::ds,Γ,Γ',e=>by
  rw[tgFs]at e
  cases q:tgF t d Γ with
  |none=>rw[q]at e;cases e
  |some Γ1=>rw[q]at e;rw[xo,wQ (ts:=ts) e];rfl
theorem yR(t:IT):∀ (d:PyData) (Γ Γ':Gv),tgF t d Γ=some Γ'->Γ'.length=Γ.length:=by
 refine IT.rec (motive_1:=fun t=>∀ (d:PyData) (Γ Γ':Gv),tgF t d Γ=some Γ'->Γ'.length=Γ.length) (motive_2:=fun ts=>∀ (ds:List PyData) (Γ Γ':Gv),tgFs ts ds Γ=some Γ'->Γ'.length=Γ.length) ?_ ?_ ?_ ?_ t
 ·intro s i d Γ Γ' e
  rw[tgF]at e
  split at e
  ·cases e;simp
  ·cases e
 ·intro ts ih d Γ Γ' e
  cases d with
  |tuple xs=>rw[tgF]at e;exact ih _ _ _ e
  |list xs=>rw[tgF]at e;exact ih _ _ _ e
  |_=>simp[tgF]at e
 ·intro ds Γ Γ' e
  cases ds with
  |nil=>simp[tgFs]at e;rw[e]
  |cons=>simp[tgFs]at e
 ·intro t ts ih1 ih2 ds Γ Γ' e
  cases ds with
  |nil=>simp[tgFs]at e
  |cons d ds=>
   rw[tgFs]at e
   cases q:tgF t d Γ with
   |none=>rw[q]at e;cases e
   |some Γ1=>rw[q]at e;rw[ih2 _ _ _ e,ih1 _ _ _ q]
noncomputable def SG(X:Cx)(mp:List Nat)(kp:Nat->Prop)(tg:Expr)(t:IT):Prop:=∀ (M0:Addr->Prop) (F:Fp) (Γ Γ':Gv) (ν:Nu) (σ:St) (H:Hp) (v:V) (d:PyData) (Q:St->Hp->Prop),RS M0 F Γ ν H->Sees mp ν σ->σ.length=X.N.length->Rep (MM M0 F) H v d ->
 tgF t d Γ=some Γ'->(∀ F' ν' σ',RS M0 F' Γ' ν' H->Stp F H F' H->Sees mp ν' σ'->σ'.length=X.N.length->(∀ i:Nat,kp i->ν'[i]?=ν[i]?)->(∀ s i:Nat,mp[s]?=some i->kp i->σ'[s]?=σ[s]?)->Q σ' H)->wpG X tg v σ H Q
noncomputable def SGs(X:Cx)(mp:List Nat)(kp:Nat->Prop)(tgs:List Expr)(ts:ITs):Prop:=∀ (M0:Addr->Prop) (F:Fp) (Γ Γ':Gv) (ν:Nu) (σ:St) (H:Hp) (vs:List V) (ds:List PyData) (Q:St->Hp->Prop),RS M0 F Γ ν H->Sees mp ν σ->σ.length=X.N.length->RepL (MM M0 F) H vs ds ->
 tgFs ts ds Γ=some Γ'->(∀ F' ν' σ',RS M0 F' Γ' ν' H->Stp F H F' H->Sees mp ν' σ'->σ'.length=X.N.length->(∀ i:Nat,kp i->ν'[i]?=ν[i]?)->(∀ s i:Nat,mp[s]?=some i->kp i->σ'[s]?=σ[s]?)->Q σ' H)->zfO X tgs vs σ H Q
section
variable {X:Cx} {mp:List Nat} {kp:Nat->Prop} {tg:Expr} {tgs:List Expr} {t:IT} {ts:ITs} {pos:Pos}
theorem Sees.set{ν:Nu}{σ:St}{s i:Nat}{v:V}(h:Sees mp ν σ)(hn:mp.Nodup)(hm:mp[s]?=some i)(hs:s<σ.length):Sees mp (ν.set i (some v)) (σ.set s (some v)):=fun s' j w e1 e2=>by
 by_cases hj:i=j
 ·subst hj
  have:s'=s:=by
   have h1:=(xb.mp e1).1
   have h2:=(xb.mp hm).1
   exact (List.getElem?_inj h1 hn).mp (by rw[e1,hm])
  subst this
  rw[xh hs]
  by_cases hl:i<ν.length
  ·rw[xh hl]at e2;rw[e2]
  ·rw[xv (by simpa using hl)]at e2;cases e2
 ·rw[xg hj]at e2
  have:s'≠s:=fun z=>hj (by subst z;rw[hm]at e1;exact Option.some.inj e1)
  rw[xg (Ne.symm this)]
  exact h s' j w e1 e2
theorem zcS{s i:Nat}{x:Str}(hN:X.N.Nodup)(hn:mp.Nodup)(hi:X.N[s]?=some x)(hm:mp[s]?=some i)(hlo:¬ kp i)(hx:Loc X.env.scope x)(hf:X.fn x=true∨X.env.scope.names.lookup x=some .local):SG X mp kp (.Name x pos) (.nm s i) :=
 fun M0 F Γ Γ' ν σ H v d Q rs hs hl r e k=>by
  rw[tgF]at e
  split at e
  ·rename_i hi'
   cases e
   have hsl:s<σ.length:=by rw[hl];exact (xb.mp hi).1
   obtain⟨F',rs',s'⟩:=rs.setD r hi'
   refine (Yr hN hi hx hf).wp (k F' _ _ rs' s' (hs.set hn hm hsl) (by simpa using hl) (fun j hj=>?_) (fun s2 j e2 hj=>?_))
   ·rw[xg (fun z=>hlo (by rw[z];exact hj))]
   ·rw[xg]
    intro z
    subst z
    rw[hm]at e2
    cases e2
    exact hlo hj
  ·cases e
theorem zcT:SGs X mp kp [] .nil:=fun M0 F Γ Γ' ν σ H vs ds Q rs hs hl r e k=>by
 cases r with
 |nil=>
  simp[tgFs]at e
  subst e
  exact pgs_nil.wp ⟨rfl,k F ν σ rs (.refl _ _) hs hl (fun _ _=>rfl) (fun _ _ _ _=>rfl)⟩
 |cons r rr=>simp[tgFs]at e
theorem zaX(h1:SG X mp kp tg t)(h2:SGs X mp kp tgs ts)(hst:(assignEach (tg::tgs) X.env).map (·.2)=assign tg X.env::(assignEach tgs X.env).map (·.2)):SGs X mp kp (tg::tgs) (.cons t ts):=fun M0 F Γ Γ' ν σ H vs ds Q rs hs hl r e k=>by
 cases r with
 |nil=>simp[tgFs]at e
 |cons r rr=>
  rename_i v vs d ds
  rw[tgFs]at e
  cases e1:tgF t d Γ with
  |none=>rw[e1]at e;cases e
  |some Γ1=>
   rw[e1]at e
   refine (zaw vE wC hst).wp ⟨v,vs,rfl,h1 M0 F Γ Γ1 ν σ H v d _ rs hs hl r e1 fun F1 ν1 σ1 rs1 s1 hs1 hl1 n1 m1=>?_⟩
   exact h2 M0 F1 Γ1 Γ' ν1 σ1 H vs ds _ rs1 hs1 hl1 (qE s1 rs.al0 rr) e fun F2 ν2 σ2 rs2 s2 hs2 hl2 n2 m2=>k F2 ν2 σ2 rs2 (s1.trans s2) hs2 hl2 (fun i hi=>(n2 i hi).trans (n1 i hi)) (fun s i e hi=>(m2 s i e hi).trans (m1 s i e hi))
theorem zfe{n:Nat}(hc:X.calm=true)(h:SGs X mp kp tgs ts)(hl:ts.len=(assignEach tgs X.env).length)(hst:(assignEach tgs X.env).findIdx? (·.1)=none):SG X mp kp (.Tuple tgs n pos) (.tp ts):=fun M0 F Γ Γ' ν σ H v d Q rs hs hl' r e k=>by
 cases d with
 |tuple ds=>
  rw[tgF]at e
  obtain⟨a,vs,rfl,ea,rr⟩:=r.tup_inv
  exact (zeP hc wC rfl hst).wp ⟨a,vs,rfl,SqT.of ea,by rw[rr.length,wQ e,hl],h M0 F Γ Γ' ν σ H vs ds Q rs hs hl' rr e k⟩
 |list ds=>
  rw[tgF]at e
  obtain⟨a,vs,rfl,ea,_,rr⟩:=r.lst_inv
  exact (zct hc wC rfl hst).wp ⟨a,vs,rfl,SqL.of ea,by rw[rr.length,wQ e,hl],h M0 F Γ Γ' ν σ H vs ds Q rs hs hl' rr e k⟩
 |_=>simp[tgF]at e
end
end L3
namespace L3
open PySem PySem.Spec PyProof.Rows L2
variable [Cs]
noncomputable def JI(M0:Addr->Prop)(F:Fp)(J:It)(ds:List PyData)(H1:Hp):Prop:=∀ (i:Nat) (F':Fp) (H':Hp),Stp F H1 F' H'->(∀ a,M0 a->H1 a≠none) ->
 (∀ d,ds[i]?=some d->J.go i H'/\∀ x H2,J.yld i H' x H2->Same H' H2/\Rep (MM M0 F') H2 x d)/\(ds.length<=i->J.stop i H')
noncomputable def SI(X:Cx)(XP:XPT)(mp:List Nat)(tg iter:Expr)(f:EM (List PyData)):Prop:=∀ (M0:Addr->Prop) (F:Fp) (Γ:Gv) (ν:Nu) (σ:St) (H:Hp) (R:It->Hp->Prop),RS M0 F Γ ν H->Sees mp ν σ ->
 EPost M0 F ν σ H XP (fun F' Γ' H' ds=>∀ J,JI M0 F' J ds H'->R J H') (f Γ)->wpI X tg iter σ H R
section
variable {X:Cx} {XP:XPT} {mp:List Nat} {a b c e tg iter elt:Expr} {es ifs:List Expr} {pos p p2:Pos} {fa fb fc:EM FV} {ta tb:EM Bool} {na nb:EM (List PyData)}
noncomputable def fSeqL(fa:EM FV):EM (List PyData):=fun Γ=>(fa Γ).bind fun (u,Γ1)=>match derS Γ1 u with
 |some (.list ds)=>.ok (ds,Γ1)
 |_=>.bad
noncomputable def fSeqT(fa:EM FV):EM (List PyData):=fun Γ=>(fa Γ).bind fun (u,Γ1)=>match derS Γ1 u with
 |some (.tuple ds)=>.ok (ds,Γ1)
 |_=>.bad
theorem K1{M0:Addr->Prop}{F:Fp}{K:PySem.W.Frag}{H1:Hp}{l:Addr}{ds:List PyData}{vs:List V}(e:H1 l=some (.lst vs))(n:∀ j,l∉F j)(r:RepL (MM M0 F) H1 vs ds):JI M0 F (Itl K l) ds H1:=fun i F' H' s h0=>by
 have e':H' l=some (.lst vs):=(s.keep l _ e n).1
 refine⟨fun d hd=>?_,fun hl=>⟨vs,SqL.of e',by rw[r.length];exact hl⟩⟩
 obtain⟨v,hv,rv⟩:=r.get' hd
 exact⟨⟨vs,v,SqL.of e',hv⟩,fun x H2 ⟨e2,y⟩=>by
  subst e2
  have:=y vs (SqL.of e')
  rw[hv]at this;cases this
  exact⟨Same.refl _,zq s h0 rv⟩⟩
theorem zcc{M0:Addr->Prop}{F:Fp}{K:PySem.W.Frag}{H1:Hp}{l:Addr}{ds:List PyData}{vs:List V}(e:H1 l=some (.lst vs))(n:¬ MM M0 F l)(r:RepL (MM M0 F) H1 vs ds):JI M0 F (Itl K l) ds H1:=K1 e (fun j hj=>n (.inr ⟨j,hj⟩)) r
theorem zer{M0:Addr->Prop}{F:Fp}{K:PySem.W.Frag}{H1:Hp}{l:Addr}{ds:List PyData}{vs:List V}(e:H1 l=some (.tup vs))(r:RepL (MM M0 F) H1 vs ds):JI M0 F (Itt K l) ds H1:=fun i F' H' s h0=>by
 have e':H' l=some (.tup vs):=s.tups l _ e
 refine⟨fun d hd=>?_,fun hl=>⟨vs,SqT.of e',by rw[r.length];exact hl⟩⟩
 obtain⟨v,hv,rv⟩:=r.get' hd
 exact⟨⟨vs,v,SqT.of e',hv⟩,fun x H2 ⟨e2,y⟩=>by
  subst e2
  have:=y vs (SqT.of e')
  rw[hv]at this;cases this
  exact⟨Same.refl _,zq s h0 rv⟩⟩
theorem zcU(ha:SE X XP mp iter fa):SI X XP mp tg iter (fSeqL fa):=fun M0 F Γ ν σ H R rs hs hp=>
 (Ys zd).wp (ha.run rs hs hp fun F1 Γ1 H1 u v rs1 s1 o1 h1=>by
  dsimp only at h1
  split at h1
  ·rename_i ds eu
   obtain⟨l,vs,rfl,e,n,r⟩:=(o1.strong rs1 eu).lst_inv
   exact⟨l,rfl,⟨vs,SqL.of e⟩,h1 F1 H1 rs1 (.refl _ _) _ (zcc e n r)⟩
  ·exact h1.elim)
theorem zfg(ha:SE X XP mp iter fa):SI X XP mp tg iter (fSeqT fa):=fun M0 F Γ ν σ H R rs hs hp=>
 (zeQ zd).wp (ha.run rs hs hp fun F1 Γ1 H1 u v rs1 s1 o1 h1=>by
  dsimp only at h1
  split at h1
  ·rename_i ds eu
   obtain⟨l,vs,rfl,e,r⟩:=(o1.strong rs1 eu).tup_inv
   exact⟨l,rfl,⟨vs,SqT.of e⟩,h1 F1 H1 rs1 (.refl _ _) _ (zer e r)⟩
  ·exact h1.elim)
noncomputable def fRange(fa:EM FV):EM (List PyData):=fun Γ=>(fa Γ).bind fun (u,Γ1)=>match derf Γ1 u with
 |some (.int n)=>if -1000000<=n/\n<=1000000 then .ok (zL n.toNat,Γ1) else .bad
 |_=>.bad
theorem K2{M0:Addr->Prop}{F:Fp}(n:Nat)(H1:Hp):JI M0 F (Itr 0 n) (zL n) H1:=fun i F' H' s h0=>by
 refine⟨fun d hd=>?_,fun hl=>?_⟩
 ·obtain⟨hi,rfl⟩:=ZX hd
  exact⟨hi,fun x H2 ⟨e,y⟩=>by subst e y;exact⟨Same.refl _,by rw[show (0:Int)+(i:Int)=i by omega];exact .int _⟩⟩
 ·show n<=i
  simpa [zG] using hl
theorem zaZ {x:Str}(B:BiK X x (.type "range")) (ex:x= "range") (ha:SE X XP mp a fa) (hst:starEach [a] X.env= [(false,eval a X.env)]):SI X XP mp tg (.Call (.Name x p) [a] [] pos) (fRange fa):=fun M0 F Γ ν σ H R rs hs hp=>by
 subst ex
 exact (kC B.gl B.mg (zp zd pa_nil hst) hst).wp (ha.run rs hs hp fun F1 Γ1 H1 u v rs1 s1 o1 h1=>by
  dsimp only at h1
  split at h1
  ·rename_i n eu
   split at h1
   ·rename_i hn
    cases o1.weak rs1 eu
    exact⟨n,rfl,by omega,by omega,h1 F1 H1 rs1 (.refl _ _) _ (K2 n.toNat H1)⟩
   ·exact h1.elim
  ·exact h1.elim)
noncomputable def SF(X:Cx)(XP:XPT)(mp:List Nat)(ifs:List Expr)(f:EM Bool):Prop:=∀ (M0:Addr->Prop) (F:Fp) (Γ:Gv) (ν:Nu) (σ:St) (H:Hp) (Q:Bool->Hp->Prop),RS M0 F Γ ν H->Sees mp ν σ ->
 EPost M0 F ν σ H XP (fun F' Γ' H' b=>Q b H') (f Γ)->wpF X ifs σ H Q
noncomputable def fYes:EM Bool:=fun Γ=>.ok (true,Γ)
theorem zfc:SF X XP mp [] fYes:=fun M0 F Γ ν σ H Q rs hs hp=>pf_nil.wp (hp F H rs (.refl _ _))
theorem zfd(h:ST X XP mp c ta):SF X XP mp [c] ta:=fun M0 F Γ ν σ H Q rs hs hp=>(zeN jd).wp (h M0 F Γ ν σ H Q rs hs hp)
noncomputable abbrev XP0:XPT:=fun _ _ _ _ _ _=>False
noncomputable def XPc(XP:XPT)(σ:St):XPT:=fun x _ _ _ _ H'=>∃ Γ F ν,XP x Γ F ν σ H'
noncomputable def mpC(mp:List Nat)(n k:Nat)(ix:List Nat):List Nat:=(List.range k).map (n+·)++ix.map fun i=>mp.getD i 0
theorem zey{mp:List Nat}{n k:Nat}{ix:List Nat}{s:Nat}(h:s<k):(mpC mp n k ix)[s]?=some (n+s):=by
 unfold mpC
 rw[xc (by simpa using h),xB,uo h];rfl
theorem zad{mp:List Nat}{n k:Nat}{ix:List Nat}{j:Nat}:(mpC mp n k ix)[k+j]?=(ix[j]?).map fun i=>mp.getD i 0:=by
 unfold mpC
 rw[xf (by simp),xB]
 simp
noncomputable def SNt(XP:XPT)(mp:List Nat)(t:TE)(f:EM (List PyData)):Prop:=∀ (M0:Addr->Prop) (F:Fp) (Γ:Gv) (ν:Nu) (σ:St) (H:Hp) (Q:VK),RS M0 F Γ ν H->Sees mp ν σ ->
 EPost M0 F ν σ H XP (fun F' Γ' H' ds=>∀ vs p,RepL (MM M0 F') H' vs ds->H' p=none->Q (.ref p) (upd H' p (.lst vs))) (f Γ)->t σ H Q
end
end L3
namespace L2
open PySem PySem.Spec PyProof.Rows
variable [Cs]
section
variable {X:Cx} {pins:List (Addr×Obj)} {σ:St} {H:Hp} {s s':Shared} {e:Value}
theorem Vc{C:Addr}(u:Up X pins σ H C e s)(hx:X.ex= [])(hst:X.stack=X.env::X.outer)(hf:X.env.frame=some X.env.locals){E':XK}(hE:E' (.ref C) none H){Ez:Value->Shared->Prop} :
  wpAny (model X.prog X.w) X.A (leaving X.env e) (fun _ s''=>CX1 X.prog X.w X.outer X.H₀ X.s₀ E' e s'') Ez s:=by
 obtain⟨ea,a0,fl,B,rfl,al,inv⟩:=u
 have I0:=inv s.heap al.1 (.refl _)
 have hfr:X.A.frames=some (X.env::X.outer):=by rw[<- hst];exact I0.ok.frames
 rw[hst]at al
 unfold leaving
 refine wpAny_bind (wy hfr hf al fun h4 al4 up4=>vI al4 fun h5 ⟨x1,x2,⟨_,_,x3⟩,x4⟩ up5=>⟨ea,.ref C,a0,B,s.heap,H,rfl,I0.os,I0.bare,⟨x1,x2,x3,x4⟩,up4.trans up5,fun h6 k1 k2=>?_,hE⟩)
 exact (inv h6 k1 k2).flies hx hst hf (fun b o e=>PySem.W.of_hideAll _ e) (Heap.UpToSlots.of_keeps fun _ _ e=>e)
end
end L2
namespace L2
open PySem PySem.Spec PyProof.Rows
variable [Cs]
theorem Kf{X:Cx}{CX:CXT}{E:XK}{sp:Sp}{σ:St}{H:Hp}{Q:VK}{r x:Str}{k i:Nat}{b:Addr}{e:Expr}{es:List Expr}{p pos:Pos}(kn:Kn X.prog X.w X.K X.mg X.base CX x k sp)(hb0:X.mg x=some (.ref b))(hr:Room k X.A)
  (hN:X.N[i]?=some r) (hv:Vis X.env.scope r) (hd:(r==("__debug__" :Str))=false) (hcd:(r==("__classdict__" :Str))=false) (hσ:σ[i]?=some (some (.ref b)))
  (hx:∀ pins H s e s',Inv X pins σ H s->CX X.stack H s E e s'->X.xe e s') (h:wpA X (e::es) σ H fun vs H1=>sp vs H1 Q E)
  (he:starEach (e::es) X.env=(false,eval e X.env)::starEach es X.env) (hpl:(backTo pos (starEach es X.env)).any (·.1)=false):wpE X (.Call (.Name r p) (e::es) [] pos) σ H Q:=fun pins s I=>by
 obtain⟨f,fd,ps,F,hm,hk,hb⟩:=kn.ex
 rw[hb0]at hm;cases hm
 refine wpAny_Call_Name_kw (thn (zT (X:=X) hN hv hd hcd pins s σ H (fun v H'=>v=.ref b/\H'=H) I ⟨_,hσ,rfl,rfl⟩) fun u s1 ⟨v,H1,I1,r1,e1,e2⟩=>?_)
 subst e1 e2
 cases r1
 refine PySem.W.callWith_K (h₀:=X.base) I1.ok.mod.kin hk (thn (h pos pins s1 I1) fun us s1 ⟨vs,H1,I1,r,q⟩=>⟨I1.kIn,?_⟩) he hpl
 have hl:us.length=ps.length:=by rw[<- r.length];exact F.len _ _ _ _ q
 have hb':=hb s1 us I1.kIn (by simpa using hl)
 rw[xG]at hb'
 refine wpAny_call (codeAny_mono (F.run X.A X.stack s1 H1 ⟨us,[]⟩ us vs Q E hr I1.env0 hb' r q) fun r s' hq=>?_)
 cases r with
 |error e=>exact hx pins H1 s1 e s' I1 hq
 |ok fl=>
  cases fl with
  |ret u=>exact I1.after hq
  |next=>exact False.elim hq
  |brk=>exact False.elim hq
  |cont=>exact False.elim hq
end L2
namespace L3
open PySem PySem.Spec PyProof.Rows L2
variable [Cs]
inductive AV where
 |v (u:FV)
 |io (i:Nat)
inductive AOks(M0:Addr->Prop)(F:Fp)(ν:Nu)(H:Hp):List V->List AV->Prop
 |nil:AOks M0 F ν H [] []
 |v {v:V} {vs:List V} {u:FV} {as:List AV}:FOk M0 F ν H v u->AOks M0 F ν H vs as->AOks M0 F ν H (v::vs) (.v u::as)
 |io {v:V} {vs:List V} {i:Nat} {as:List AV}:ν[i]?=some (some v)->AOks M0 F ν H vs as->AOks M0 F ν H (v::vs) (.io i::as)
noncomputable def APost(M0:Addr->Prop)(F:Fp)(ν:Nu)(σ:St)(H:Hp)(XP:XPT)(P:Fp->Gv->Nu->Hp->List AV->Prop)(r:R (List AV×Gv)):Prop:=match r with
 |.ok (as,Γ')=>∀ F' ν' H',RS M0 F' Γ' ν' H'->ν <+: ν'->Stp F H F' H'->P F' Γ' ν' H' as
 |.exc x Γ'=>∀ F' H',RS M0 F' Γ' ν H'->Stp F H F' H'->XP x Γ' F' ν σ H'
 |.bad=>False
noncomputable def OPost(M0:Addr->Prop)(F:Fp)(ν:Nu)(σ:St)(H:Hp)(XP:XPT)(P:Fp->Gv->Hp->OV->V->Prop)(r:R (OV×Gv)):Prop:=match r with
 |.ok (o,Γ')=>∀ F' H' v,RS M0 F' (Γ'++ [some o]) (ν++ [some v]) H'->Stp F H F' H'->P F' Γ' H' o v
 |.exc x Γ'=>∀ F' H',RS M0 F' Γ' ν H'->Stp F H F' H'->XP x Γ' F' ν σ H'
 |.bad=>False
noncomputable def SA(X:Cx)(XP:XPT)(mp:List Nat)(es:List Expr)(f:EM (List AV)):Prop:=∀ (M0:Addr->Prop) (F:Fp) (Γ:Gv) (ν:Nu) (σ:St) (H:Hp) (Q:List V->Hp->Prop),RS M0 F Γ ν H->Sees mp ν σ ->
 APost M0 F ν σ H XP (fun F' Γ' ν' H' as=>∀ vs,AOks M0 F' ν' H' vs as->Q vs H') (f Γ)->wpA X es σ H Q
noncomputable def SO(X:Cx)(XP:XPT)(mp:List Nat)(e:Expr)(f:EM OV):Prop:=∀ (M0:Addr->Prop) (F:Fp) (Γ:Gv) (ν:Nu) (σ:St) (H:Hp) (Q:VK),RS M0 F Γ ν H->Sees mp ν σ ->
 OPost M0 F ν σ H XP (fun F' Γ' H' o v=>Q v H') (f Γ)->wpE X e σ H Q
section
variable {M0:Addr->Prop} {F:Fp} {Γ:Gv} {ν:Nu} {σ:St} {H:Hp} {XP:XPT} {α:Type}
theorem APost.seq{P:Fp->Gv->Nu->Hp->List AV->Prop}{r:R (α×Gv)}{k:α×Gv->R (List AV×Gv)}(h:APost M0 F ν σ H XP P (r.bind k)):EPost M0 F ν σ H XP (fun F1 Γ1 H1 a=>APost M0 F1 ν σ H1 XP P (k (a,Γ1))) r:=by
 cases r with
 |ok a=>
  obtain⟨a,Γ1⟩:=a
  intro F1 H1 rs1 s1
  have h':APost M0 F ν σ H XP P (k (a,Γ1)):=h
  revert h'
  generalize k (a,Γ1)=r2
  intro h'
  cases r2 with
  |ok b=>exact fun F' ν' H' rs hn s=>h' F' ν' H' rs hn (s1.trans s)
  |exc x Γ'=>exact fun F' H' rs s=>h' F' H' rs (s1.trans s)
  |bad=>exact h'
 |exc x Γ'=>exact h
 |bad=>exact h
theorem APost.mono{P P':Fp->Gv->Nu->Hp->List AV->Prop}{r:R (List AV×Gv)}(h:APost M0 F ν σ H XP P r)(k:∀ F' Γ' ν' H' as,RS M0 F' Γ' ν' H'->ν <+: ν'->Stp F H F' H'->P F' Γ' ν' H' as->P' F' Γ' ν' H' as):APost M0 F ν σ H XP P' r:=by
 cases r with
 |ok a=>exact fun F' ν' H' rs hn s=>k F' _ ν' H' _ rs hn s (h F' ν' H' rs hn s)
 |exc x Γ'=>exact h
 |bad=>exact h
theorem OPost.seq{P:Fp->Gv->Hp->OV->V->Prop}{r:R (α×Gv)}{k:α×Gv->R (OV×Gv)}(h:OPost M0 F ν σ H XP P (r.bind k)):EPost M0 F ν σ H XP (fun F1 Γ1 H1 a=>OPost M0 F1 ν σ H1 XP P (k (a,Γ1))) r:=by
 cases r with
 |ok a=>
  obtain⟨a,Γ1⟩:=a
  intro F1 H1 rs1 s1
  have h':OPost M0 F ν σ H XP P (k (a,Γ1)):=h
  revert h'
  generalize k (a,Γ1)=r2
  intro h'
  cases r2 with
  |ok b=>exact fun F' H' v rs s=>h' F' H' v rs (s1.trans s)
  |exc x Γ'=>exact fun F' H' rs s=>h' F' H' rs (s1.trans s)
  |bad=>exact h'
 |exc x Γ'=>exact h
 |bad=>exact h
theorem OPost.mono{P P':Fp->Gv->Hp->OV->V->Prop}{r:R (OV×Gv)}(h:OPost M0 F ν σ H XP P r)(k:∀ F' Γ' H' o v,RS M0 F' (Γ'++ [some o]) (ν++ [some v]) H'->Stp F H F' H'->P F' Γ' H' o v->P' F' Γ' H' o v):OPost M0 F ν σ H XP P' r:=by
 cases r with
 |ok a=>exact fun F' H' v rs s=>k F' _ H' _ v rs s (h F' H' v rs s)
 |exc x Γ'=>exact h
 |bad=>exact h
end
section
variable {X:Cx} {XP:XPT} {mp:List Nat} {a b c e:Expr} {es:List Expr} {pos p p2:Pos} {fa fb fc:EM FV} {ta tb:EM Bool} {na nb:EM (List PyData)} {fl:EM (List AV)} {fo:EM OV}
noncomputable def fOwn(n:EM (List PyData)):EM OV:=fun Γ=>(n Γ).bind fun (ds,Γ1)=>.ok (.l (ds.map .d),Γ1)
theorem SN.so(h:SN X XP mp a na):SO X XP mp a (fOwn na):=fun M0 F Γ ν σ H Q rs hs hp=>
 h M0 F Γ ν σ H Q rs hs (hp.seq.mono fun F1 Γ1 H1 ds rs1 s1 h1 vs p r n=>by
  obtain⟨r2,s2⟩:=rs1.newO n r
  exact h1 _ _ _ r2 s2)
noncomputable def fOD(f:EM OV):EM FV:=fun Γ=>(f Γ).bind fun (o,Γ1)=>.ok (.dat o.view,Γ1)
theorem SO.se(h:SO X XP mp a fo):SE X XP mp a (fOD fo):=fun M0 F Γ ν σ H Q rs hs hp=>
 h M0 F Γ ν σ H Q rs hs (by
  have hp':EPost M0 F ν σ H XP (fun F' Γ' H' u=>∀ v,FOk M0 F' ν H' v u->Q v H') ((fo Γ).bind fun (o,Γ1)=>.ok (.dat o.view,Γ1)):=hp
  revert hp'
  generalize fo Γ=r
  intro hp'
  cases r with
  |ok z=>
   obtain⟨o,Γ1⟩:=z
   intro F' H' v rs' s'
   obtain⟨F2,rs2,s2,r2⟩:=rs'.dropD
   exact hp' F2 H' rs2 (s'.trans s2) v r2
  |exc x y=>exact hp'
  |bad=>exact hp')
theorem FOk.ext{M0:Addr->Prop}{F:Fp}{ν ν':Nu}{H:Hp}{v:V}{u:FV}(h:FOk M0 F ν H v u)(hn:ν <+: ν'):FOk M0 F ν' H v u:=by
 cases u with
 |dat x=>exact h
 |own i=>
  have h':ν[i]?=some (some v):=h
  obtain⟨t,rfl⟩:=hn
  show (ν++t)[i]?=_
  rw[xc (xb.mp h').1];exact h'
noncomputable def aNil:EM (List AV):=fun Γ=>.ok ([],Γ)
noncomputable def aCons(fa:EM FV)(fl:EM (List AV)):EM (List AV):=fun Γ=>(fa Γ).bind fun (u,Γ1)=>(fl Γ1).bind fun (as,Γ2)=>.ok (.v u::as,Γ2)
noncomputable def aIo(i:Nat)(fl:EM (List AV)):EM (List AV):=fun Γ=>match Γ[i]? with
 |some (some _)=>(fl Γ).bind fun (as,Γ2)=>.ok (.io i::as,Γ2)
 |_=>.bad
noncomputable def zfW(n:EM (List PyData)):EM (List AV):=fun Γ=>(n Γ).bind fun (ds,Γ1)=>.ok ([.io Γ1.length],Γ1++ [some (.l (ds.map .d))])
theorem zeZ:SA X XP mp [] aNil:=fun M0 F Γ ν σ H Q rs hs hp=>pa_nil.wp (hp F ν H rs (List.prefix_refl _) (.refl _ _) [] .nil)
theorem APost.tail{M0:Addr->Prop}{F:Fp}{ν:Nu}{σ:St}{H:Hp}{P:Fp->Gv->Nu->Hp->List AV->Prop}{r:R (List AV×Gv)}{f:List AV->List AV}(h:APost M0 F ν σ H XP P (r.bind fun (as,Γ2)=>.ok (f as,Γ2))) :
  APost M0 F ν σ H XP (fun F' Γ' ν' H' as=>P F' Γ' ν' H' (f as)) r:=by
 cases r with
 |ok a=>exact h
 |exc x Γ'=>exact h
 |bad=>exact h
theorem zcC(ha:SE X XP mp a fa)(hl:SA X XP mp es fl)(hst:starEach (a::es) X.env=(false,eval a X.env)::starEach es X.env):SA X XP mp (a::es) (aCons fa fl):=fun M0 F Γ ν σ H Q rs hs hp=>
 (zp zd jc hst).wp (ha M0 F Γ ν σ H _ rs hs (hp.seq.mono fun F1 Γ1 H1 u rs1 s1 h1 v o1=>
  hl M0 F1 Γ1 ν σ H1 _ rs1 hs (h1.tail.mono fun F2 Γ2 ν2 H2 as rs2 hn s2 h2 vs oks=>h2 (v::vs) (.v ((o1.stp s2 rs1.al0).ext hn) oks))))
theorem zgx {s i:Nat}{x:Str}(hN:X.N[s]?=some x) (hv:Vis X.env.scope x) (hm:mp[s]?=some i) (hd:(x==("__debug__" :Str))=false) (hcd:(x==("__classdict__" :Str))=false) (hl:SA X XP mp es fl) (hst:starEach (.Name x pos::es) X.env=(false,eval (.Name x pos) X.env)::starEach es X.env) :
  SA X XP mp (.Name x pos::es) (aIo i fl):=fun M0 F Γ ν σ H Q rs hs hp=>by
 unfold aIo at hp
 split at hp
 ·rename_i o q
  obtain⟨v,e1,r⟩:=rs.at' i _ q
  exact (zp (zT hN hv hd hcd) jc hst).wp ⟨v,hs s i v hm e1,hl M0 F Γ ν σ H _ rs hs (hp.tail.mono fun F2 Γ2 ν2 H2 as rs2 hn s2 h2 vs oks=>h2 (v::vs) (.io (by
   obtain⟨t,rfl⟩:=hn
   rw[xc (xb.mp e1).1];exact e1) oks))⟩
 ·exact hp.elim
theorem ze0(h:SN X XP mp a na)(hst:starEach [a] X.env= [(false,eval a X.env)]):SA X XP mp [a] (zfW na):=fun M0 F Γ ν σ H Q rs hs hp=>
 (zp zd pa_nil hst).wp (h M0 F Γ ν σ H _ rs hs (hp.seq.mono fun F1 Γ1 H1 ds rs1 s1 h1 vs p r n=>by
  obtain⟨r2,s2⟩:=rs1.newO n r
  exact h1 _ _ _ r2 (List.prefix_append _ _) s2 _ (.io (by rw[<- rs1.len];simp) .nil)))
inductive RF where
 |ok (r:OV) (outs:List (Option OV))
 |exc (x:Exc) (outs:List (Option OV))
 |bad
noncomputable def spX(mg:Str->Option Value)(n:Nat)(run:List OV->RF):Sp:=fun vs H Q E=>vs.length=n/\∃ (M0:Addr->Prop) (F:Fp) (args:List OV),RS M0 F (args.map some) (vs.map some) H/\match run args with
 |.ok r outs=>∀ F' v H',RS M0 F' (outs++ [some r]) (vs.map some++ [some v]) H'->Stp F H F' H'->Q v H'
 |.exc x outs=>∀ C,mg x.cls=some (.ref C)->∀ F' H',RS M0 F' (outs++ [some (.d .none)]) (vs.map some++ [some .non]) H'->Stp F H F' H'->E (.ref C) none H'
 |.bad=>False
noncomputable def PxOk(X:Cx)(XP:XPT):Prop:=∀ (σ:St) (pins:List (Addr×Obj)) (H:Hp) (e:Value) (s:Shared) (x:Exc) (Γ:Gv) (F:Fp) (ν:Nu) (C:Addr),X.mg x.cls=some (.ref C)->XP x Γ F ν σ H->Up X pins σ H C e s->X.xe e s
theorem zcA{X:Cx}:PxOk X XP0:=fun σ pins H e s x Γ F ν C h z=>z.elim
theorem PxOk.call{X:Cx}{XP:XPT}(px:PxOk X XP)(σ:St)(pins:List (Addr×Obj))(H:Hp)(s:Shared)(e:Value)(s':Shared)(E:XK)(h:∀ c H',E c none H'->∃ (x:Exc) (Γ:Gv) (F:Fp) (ν:Nu) (C:Addr),X.mg x.cls=some (.ref C)/\c=.ref C/\XP x Γ F ν σ H')
  (I:Inv X pins σ H s) (hc:CX1 X.prog X.w X.stack H s E e s'):X.xe e s':=I.up hc fun c H' q u=>by
 obtain⟨x,Γ,F,ν,C,h1,rfl,h2⟩:=h c H' q
 exact px σ pins H' e s' x Γ F ν C h1 h2 (u C rfl)
theorem zcz{X:Cx}{XP:XPT}{σ:St}{N':List Str}{scope:Scope}{cl:List (Str×Addr)}{C:Addr}{s2:Shared}{H2:Hp}{fp:List Addr}(px:PxOk X XP)(sk:Sk X)(cat:Cat X σ C s2 H2 fp):PxOk (X.comp N' scope cl C s2 H2 fp) (XPc XP σ) :=
 fun σ' pins' H e s x _ _ _ C0 h ⟨Γ,F,ν,hx⟩ u=>u.comp sk cat fun pins s' u'=>px σ pins H e s' x Γ F ν C0 h hx u'
noncomputable abbrev EX(X:Cx)(XP:XPT)(σ:St):XK:=fun c _ H'=>∃ (x:Exc) (Γ:Gv) (F:Fp) (ν:Nu) (C:Addr),X.mg x.cls=some (.ref C)/\c=.ref C/\XP x Γ F ν σ H'
noncomputable def toArg(Γ:Gv):AV->Option OV
 |.v u=>(derS Γ u).map .d
 |.io i=>match Γ[i]? with
  |some (some o)=>some o
  |_=>none
noncomputable def toArgs(Γ:Gv):List AV->Option (List OV)
 |[]=>some []
 |a::as=>match toArg Γ a,toArgs Γ as with
  |some o,some os=>some (o::os)
  |_,_=>none
noncomputable def ios:List AV->List Nat
 |[]=> []
 |.v _::as=>ios as
 |.io i::as=>i::ios as
noncomputable def putBack:List AV->List (Option OV)->Gv->Option Gv
 |[],_,Γ=>some Γ
 |.v _::as,_::os,Γ=>putBack as os Γ
 |.io i::as,some o::os,Γ=>if i<Γ.length then putBack as os (Γ.set i (some o)) else none
 |_,_,_=>none
theorem mem_ios{as:List AV}{i:Nat}:i∈ios as↔∃ j:Nat,as[j]?=some (.io i):=by
 induction as with
 |nil=>simp[ios]
 |cons a as ih=>
  cases a with
  |v u=>
   rw[ios,ih]
   constructor
   ·rintro⟨j,h⟩;exact⟨j+1,by simpa using h⟩
   ·rintro⟨j,h⟩
    cases j with
    |zero=>simp at h
    |succ j=>exact⟨j,by simpa using h⟩
  |io k=>
   rw[ios,xy,ih]
   constructor
   ·rintro (rfl | ⟨j,h⟩)
    ·exact⟨0,rfl⟩
    ·exact⟨j+1,by simpa using h⟩
   ·rintro⟨j,h⟩
    cases j with
    |zero=>simp at h;exact .inl h.symm
    |succ j=>exact .inr ⟨j,by simpa using h⟩
theorem J4:∀ {as:List AV}{i j k:Nat},(ios as).Nodup->as[j]?=some (.io i)->as[k]?=some (.io i)->j=k
 |[],_,_,_,_,h,_=>by simp at h
 |.v u::as,i,j,k,nd,h1,h2=>by
  cases j with
  |zero=>simp at h1
  |succ j=>
   cases k with
   |zero=>simp at h2
   |succ k=>exact congrArg (·+1) (J4 (as:=as) (i:=i) (by rw[ios]at nd;exact nd) (by simpa using h1) (by simpa using h2))
 |.io m::as,i,j,k,nd,h1,h2=>by
  rw[ios,xD]at nd
  cases j with
  |zero=>
   cases k with
   |zero=>rfl
   |succ k=>
    simp at h1;subst h1
    exact absurd (mem_ios.mpr ⟨k,by simpa using h2⟩) nd.1
  |succ j=>
   cases k with
   |zero=>
    simp at h2;subst h2
    exact absurd (mem_ios.mpr ⟨j,by simpa using h1⟩) nd.1
   |succ k=>exact congrArg (·+1) (J4 (as:=as) (i:=i) nd.2 (by simpa using h1) (by simpa using h2))
section
variable {M0:Addr->Prop} {F:Fp} {Γ:Gv} {ν:Nu} {H:Hp}
theorem AOks.get:∀ {vs:List V}{as:List AV}{args:List OV}{j:Nat}{o:OV},AOks M0 F ν H vs as->toArgs Γ as=some args->args[j]?=some o ->
  ∃ v,vs[j]?=some v/\((∃ u x,as[j]?=some (.v u)/\derS Γ u=some x/\o=.d x/\FOk M0 F ν H v u)∨∃ i,as[j]?=some (.io i)/\ν[i]?=some (some v)/\Γ[i]?=some (some o))
 |_,_,_,j,o,.nil,e,h=>by cases e;simp at h
 |_,_,_,j,o,.v (u:=u) (as:=as) h1 t,e,h=>by
  unfold toArgs at e
  split at e
  ·rename_i o' os e1 e2
   cases e
   cases j with
   |zero=>
    simp at h;subst h
    simp only[toArg,Option.map_eq_some_iff]at e1
    obtain⟨x,ex,rfl⟩:=e1
    exact⟨_,rfl,.inl ⟨u,x,rfl,ex,rfl,h1⟩⟩
   |succ j=>
    obtain⟨v,ev,q⟩:=AOks.get (j:=j) t e2 (by simpa using h)
    exact⟨v,by simpa using ev,by simpa using q⟩
  ·cases e
 |_,_,_,j,o,.io (i:=i) (as:=as) h1 t,e,h=>by
  unfold toArgs at e
  split at e
  ·rename_i o' os e1 e2
   cases e
   cases j with
   |zero=>
    simp at h;subst h
    simp only[toArg]at e1
    split at e1
    ·rename_i q
     cases e1
     exact⟨_,rfl,.inr ⟨i,rfl,h1,q⟩⟩
    ·cases e1
   |succ j=>
    obtain⟨v,ev,q⟩:=AOks.get (j:=j) t e2 (by simpa using h)
    exact⟨v,by simpa using ev,by simpa using q⟩
  ·cases e
theorem AOks.len:∀ {vs:List V}{as:List AV},AOks M0 F ν H vs as->vs.length=as.length
 |_,_,.nil=>rfl
 |_,_,.v _ t=>by rw[xo,xo,AOks.len t]
 |_,_,.io _ t=>by rw[xo,xo,AOks.len t]
theorem qY:∀ {as:List AV}{args:List OV},toArgs Γ as=some args->args.length=as.length
 |[],_,e=>by cases e;rfl
 |a::as,_,e=>by
  unfold toArgs at e
  split at e
  ·rename_i e1 e2
   cases e
   rw[xo,xo,qY e2]
  ·cases e
noncomputable def cM(M0:Addr->Prop)(F:Fp)(as:List AV):Addr->Prop:=fun a=>M0 a∨∃ i,i∉ios as/\a∈F i
noncomputable def cF(F:Fp)(as:List AV):Fp:=fun j=>match as[j]? with
 |some (.io i)=>F i
 |_=> []
theorem zds{as:List AV}{j i:Nat}(h:as[j]?=some (.io i)):cF F as j=F i:=by unfold cF;rw[h]
theorem Jb{as:List AV}{j:Nat}{a:Addr}(h:a∈cF F as j):∃ i,as[j]?=some (.io i)/\a∈F i:=by
 unfold cF at h
 split at h
 ·rename_i i e;exact⟨i,e,h⟩
 ·cases h
theorem cMM{as:List AV}:MM (cM M0 F as) (cF F as)=MM M0 F:=by
 funext a
 apply propext
 constructor
 ·rintro ((h | ⟨i,_,h⟩) | ⟨j,h⟩)
  ·exact .inl h
  ·exact .inr ⟨i,h⟩
  ·obtain⟨i,_,h⟩:=Jb h;exact .inr ⟨i,h⟩
 ·rintro (h | ⟨i,h⟩)
  ·exact .inl (.inl h)
  ·by_cases hi:i∈ios as
   ·obtain⟨j,hj⟩:=mem_ios.mp hi
    exact .inr ⟨j,by rw[zds hj];exact h⟩
   ·exact .inl (.inr ⟨i,hi,h⟩)
theorem yj{vs:List V}{as:List AV}{args:List OV}(rs:RS M0 F Γ ν H)(oks:AOks M0 F ν H vs as)(e:toArgs Γ as=some args)(nd:(ios as).Nodup):RS (cM M0 F as) (cF F as) (args.map some) (vs.map some) H where
 al0 a h:=by
  rcases h with h | ⟨i,_,h⟩
  ·exact rs.al0 a h
  ·exact rs.al a (.inr ⟨i,h⟩)
 dis0 j a h:=by
  obtain⟨i,hi,ha⟩:=Jb h
  rintro (h0 | ⟨i',hi',ha'⟩)
  ·exact rs.dis0 i a ha h0
  ·have:=rs.dis _ _ a ha ha'
   subst this
   exact hi' (mem_ios.mpr ⟨j,hi⟩)
 nd j:=by
  unfold cF
  split
  ·exact rs.nd _
  ·exact .nil
 dis j k a h1 h2:=by
  obtain⟨i,hi,ha⟩:=Jb h1
  obtain⟨i',hi',ha'⟩:=Jb h2
  have:=rs.dis _ _ a ha ha'
  subst this
  exact J4 nd hi hi'
 at' j o ej:=by
  rw[xB]at ej
  cases q:args[j]? with
  |none=>rw[q]at ej;cases ej
  |some o'=>
   rw[q]at ej
   have eo:o'=o:=by simpa using ej
   subst eo
   obtain⟨v,ev,h⟩:=oks.get e q
   refine⟨v,by rw[xB,ev];rfl,?_⟩
   rw[cMM]
   rcases h with ⟨u,x,ea,ex,rfl,ok⟩ | ⟨i,ea,en,eg⟩
   ·have:cF F as j= []:=by unfold cF;rw[ea]
    rw[this]
    exact .d (ok.strong rs ex)
   ·rw[zds ea]
    obtain⟨v',ev',r⟩:=rs.at' i o' eg
    rw[en]at ev';cases ev'
    exact r
 emp j h:=by
  unfold cF
  split
  ·rename_i i ea
   exfalso
   have hj:j<args.length:=by rw[qY e];exact (xb.mp ea).1
   exact h args[j] (by rw[xB,xC hj];rfl)
  ·rfl
 len:=by rw[xn,xn,oks.len,qY e]
theorem jZ:∀ {as:List AV}{outs:List (Option OV)}{Γ Γ2:Gv},putBack as outs Γ=some Γ2->(ios as).Nodup->Γ2.length=Γ.length/\(∀ i:Nat,i∉ios as->Γ2[i]?=Γ[i]?)/\∀ j i:Nat,as[j]?=some (.io i)->∃ o,outs[j]?=some (some o)/\Γ2[i]?=some (some o)/\i<Γ.length
 |[],_,Γ,_,e,_=>by
  have:some Γ=some _:=e
  cases this
  exact⟨rfl,fun _ _=>rfl,fun j i h=>by simp at h⟩
 |.v u::as,[],Γ,_,e,_=>by cases e
 |.v u::as,x::os,Γ,Γ2,e,nd=>by
  obtain⟨h0,h1,h2⟩:=jZ (as:=as) (outs:=os) (Γ:=Γ) (Γ2:=Γ2) e (by rw[ios]at nd;exact nd)
  refine⟨h0,fun i hi=>h1 i (by rw[ios]at hi;exact hi),fun j i hj=>?_⟩
  cases j with
  |zero=>simp at hj
  |succ j=>
   obtain⟨o,a,b⟩:=h2 j i (by simpa using hj)
   exact⟨o,by simpa using a,b⟩
 |.io k::as,[],Γ,_,e,_=>by cases e
 |.io k::as,none::os,Γ,_,e,_=>by cases e
 |.io k::as,some o::os,Γ,Γ2,e,nd=>by
  rw[putBack]at e
  split at e
  ·rename_i hk
   rw[ios,xD]at nd
   obtain⟨h0,h1,h2⟩:=jZ (as:=as) (outs:=os) e nd.2
   rw[xH]at h0
   refine⟨h0,fun i hi=>?_,fun j i hj=>?_⟩
   ·rw[ios,xy]at hi
    rw[h1 i (fun z=>hi (.inr z)),xg (fun z=>hi (.inl z.symm))]
   ·cases j with
    |zero=>
     have:k=i:=by simpa using hj
     subst this
     refine⟨o,rfl,?_,hk⟩
     rw[h1 k nd.1,xh hk]
    |succ j=>
     obtain⟨o',a,b,c⟩:=h2 j i (by simpa using hj)
     exact⟨o',by simpa using a,b,by simpa using c⟩
  ·cases e
open Classical in
theorem Wu{vs:List V}{as:List AV}{args:List OV}{outs:List (Option OV)}{r:OV}{v:V}{Γ2:Gv}{ν0:Nu}{Fc':Fp}{H':Hp}{n:Nat}(rs:RS M0 F Γ ν H)(oks:AOks M0 F ν H vs as)(e:toArgs Γ as=some args)(nd:(ios as).Nodup)
  (rc:RS (cM M0 F as) Fc' (outs++ [some r]) (vs.map some++ [some v]) H') (sc:Stp (cF F as) H Fc' H') (pb:putBack as outs Γ=some Γ2) (hν:ν0 <+: ν) (hn:ν0.length=n) :
  ∃ F',RS M0 F' (Γ2.take n++ [some r]) (ν0++ [some v]) H'/\Stp F H F' H':=by
 obtain⟨p0,p1,p2⟩:=jZ pb nd
 have hol:outs.length=as.length:=by have:=rc.len;simp[oks.len]at this;omega
 obtain⟨tl,rfl⟩:=hν
 have hnl:n<=Γ.length:=by have:=rs.len;simp at this;omega
 have htl:(Γ2.take n).length=n:=by rw[xI];omega
 let F':Fp:=fun i=>if i<n then (if h:∃ j:Nat,as[j]?=some (.io i) then Fc' (Classical.choose h) else F i) else if i=n then Fc' as.length else []
 have f1:∀ (i j:Nat),i<n->as[j]?=some (.io i)->F' i=Fc' j:=fun i j hi hj=>by
  show (if i<n then _ else _)=_
  rw[if_pos hi]
  have hex:∃ j:Nat,as[j]?=some (.io i):=⟨j,hj⟩
  rw[dif_pos hex,J4 nd (Classical.choose_spec hex) hj]
 have f2:∀ (i:Nat),i<n->i∉ios as->F' i=F i:=fun i hi hj=>by
  show (if i<n then _ else _)=_
  rw[if_pos hi,dif_neg]
  rintro hex
  exact hj (mem_ios.mpr hex)
 have f3:F' n=Fc' as.length:=by show (if n<n then _ else _)=_;rw[if_neg (xO _),if_pos rfl]
 have f4:∀ i,n<i->F' i= []:=fun i hi=>by show (if i<n then _ else _)=_;rw[if_neg (by omega),if_neg (by omega)]
 have cls:∀ i a,a∈F' i->(∃ j,i<n/\as[j]?=some (.io i)/\a∈Fc' j)∨(i<n/\i∉ios as/\a∈F i)∨(i=n/\a∈Fc' as.length):=fun i a h=>by
  by_cases hi:i<n
  ·by_cases hj:i∈ios as
   ·obtain⟨j,hj⟩:=mem_ios.mp hj
    rw[f1 i j hi hj]at h
    exact .inl ⟨j,hi,hj,h⟩
   ·rw[f2 i hi hj]at h;exact .inr (.inl ⟨hi,hj,h⟩)
  ·by_cases hj:i=n
   ·subst hj;rw[f3]at h;exact .inr (.inr ⟨rfl,h⟩)
   ·rw[f4 i (by omega)]at h;cases h
 have keepF:∀ i,i∉ios as->∀ a∈F i,H' a=H a:=fun i hi a ha=>by
  obtain⟨us,ea⟩:=rs.laidF ha
  rw[ea]
  refine (sc.keep a _ ea fun j hj=>?_).1
  obtain⟨i',hi',ha'⟩:=Jb hj
  have:=rs.dis _ _ a ha ha'
  subst this
  exact hi (mem_ios.mpr ⟨j,hi'⟩)
 have st:Stp F H F' H':=⟨fun b o eb nb=>by
  obtain⟨e1,n1⟩:=sc.keep b o eb fun j hj=>let ⟨i,_,ha⟩:=Jb hj;nb i ha
  refine⟨e1,fun i hi=>?_⟩
  rcases cls i b hi with ⟨j,_,_,h⟩ | ⟨_,_,h⟩ | ⟨_,h⟩
  ·exact n1 j h
  ·exact nb i h
  ·exact n1 _ h,sc.tups,sc.stay⟩
 have sub:∀ b,MM M0 F' b->MM (cM M0 F as) Fc' b:=fun b hb=>by
  rcases hb with hb | ⟨i,hb⟩
  ·exact .inl (.inl hb)
  ·rcases cls i b hb with ⟨j,_,_,h⟩ | ⟨_,hi,h⟩ | ⟨_,h⟩
   ·exact .inr ⟨j,h⟩
   ·exact .inl (.inr ⟨i,hi,h⟩)
   ·exact .inr ⟨_,h⟩
 have conv:∀ {w:V} {o:OV} {A:List Addr},OR (MM (cM M0 F as) Fc') H' w o A->OR (MM M0 F') H' w o A:=fun {w o A} q=>q.go (fun v d x=>x.less fun b hb _=>sub b hb) (fun _ _ e=>e) fun _ _=>rfl
 have out:∀ (j:Nat) (a:Addr),a∈Fc' j->¬ M0 a/\∀ i,i∉ios as->a∉F i:=fun j a ha=>by
  have h:=rc.dis0 j a ha
  exact⟨fun z=>h (.inl z),fun i hi z=>h (.inr ⟨i,hi,z⟩)⟩
 refine⟨F',⟨fun a ha=>sc.stay a (rs.al0 a ha),fun i a ha=>?_,fun i=>?_,fun i k a h1 h2=>?_,fun i o ei=>?_,fun i hi=>?_,by simp[htl,hn]⟩,st⟩
 ·rcases cls i a ha with ⟨j,_,_,h⟩ | ⟨_,hi,h⟩ | ⟨_,h⟩
  ·exact (out j a h).1
  ·exact rs.dis0 i a h
  ·exact (out _ a h).1
 ·by_cases hi:i<n
  ·by_cases hj:i∈ios as
   ·obtain⟨j,hj⟩:=mem_ios.mp hj
    rw[f1 i j hi hj];exact rc.nd j
   ·rw[f2 i hi hj];exact rs.nd i
  ·by_cases hj:i=n
   ·subst hj;rw[f3];exact rc.nd _
   ·rw[f4 i (by omega)];exact .nil
 ·rcases cls i a h1 with ⟨j,hi,ej,z1⟩ | ⟨hi,ni,z1⟩ | ⟨rfl,z1⟩
  ·rcases cls k a h2 with ⟨j',hk,ej',z2⟩ | ⟨hk,nk,z2⟩ | ⟨rfl,z2⟩
   ·have:=rc.dis _ _ a z1 z2
    subst this
    rw[ej]at ej';cases ej';rfl
   ·exact absurd z2 ((out j a z1).2 k nk)
   ·have:=rc.dis _ _ a z1 z2
    subst this
    rw[xv (xi _)]at ej;cases ej
  ·rcases cls k a h2 with ⟨j',hk,ej',z2⟩ | ⟨hk,nk,z2⟩ | ⟨rfl,z2⟩
   ·exact absurd z1 ((out j' a z2).2 i ni)
   ·exact rs.dis _ _ a z1 z2
   ·exact absurd z1 ((out _ a z2).2 i ni)
  ·rcases cls k a h2 with ⟨j',hk,ej',z2⟩ | ⟨hk,nk,z2⟩ | ⟨rfl,z2⟩
   ·have:=rc.dis _ _ a z1 z2
    subst this
    rw[xv (xi _)]at ej';cases ej'
   ·exact absurd z2 ((out _ a z1).2 k nk)
   ·rfl
 ·by_cases hi:i<n
  ·rw[xc (by omega),xL hi]at ei
   rw[xc (by omega)]
   by_cases hj:i∈ios as
   ·obtain⟨j,hj⟩:=mem_ios.mp hj
    obtain⟨o',eo,eg,_⟩:=p2 j i hj
    rw[eg]at ei
    have eoo:o'=o:=by simpa using ei
    subst eoo
    have hjl:j<as.length:=(xb.mp hj).1
    obtain⟨w,ew,q⟩:=rc.at' j o' (by rw[xc (by omega)];exact eo)
    rw[xc (by rw[xn,oks.len];exact hjl),xB]at ew
    have hal:j<args.length:=by rw[qY e];exact hjl
    obtain⟨v',ev',hh⟩:=oks.get e (xC hal)
    rw[ev']at ew
    have ew':v'=w:=by simpa using ew
    subst ew'
    rcases hh with ⟨u,x,ea,_⟩ | ⟨i',ea,en,_⟩
    ·rw[hj]at ea;cases ea
    ·rw[hj]at ea;cases ea
     rw[xc (by omega)]at en
     exact⟨v',en,by rw[f1 i j hi hj];exact conv q⟩
   ·rw[p1 i hj]at ei
    obtain⟨w,ew,q⟩:=rs.at' i o ei
    rw[xc (by omega)]at ew
    refine⟨w,ew,?_⟩
    rw[f2 i hi hj]
    exact q.go (fun v d x=>zq st rs.al0 x) st.tups (keepF i hj)
  ·have hin:i=n:=by
    have:=(xb.mp ei).1
    simp[htl]at this;omega
   subst hin
   rw[xf (by omega),htl]at ei
   have:r=o:=by simpa using ei
   subst this
   refine⟨v,by rw[xf (by omega),hn];simp,?_⟩
   rw[f3]
   obtain⟨w,ew,q⟩:=rc.at' as.length r (by rw[xf (by omega),hol];simp)
   rw[xf (by rw[xn,oks.len];exact xi _),xn,oks.len]at ew
   have:v=w:=by simpa using ew
   subst this
   exact conv q
 ·by_cases hlt:i<n
  ·have nj:i∉ios as:=fun hj=>by
    obtain⟨j,hj⟩:=mem_ios.mp hj
    obtain⟨o',eo,eg,_⟩:=p2 j i hj
    exact hi o' (by rw[xc (by omega),xL hlt];exact eg)
   rw[f2 i hlt nj]
   refine rs.emp i fun o eo=>hi o ?_
   rw[xc (by omega),xL hlt,p1 i nj];exact eo
  ·by_cases hin:i=n
   ·subst hin
    exact absurd (by rw[xf (by omega),htl];simp) (hi r)
   ·exact f4 i (by omega)
end
noncomputable def fCall(run:List OV->RF)(fl:EM (List AV)):EM OV:=fun Γ=>(fl Γ).bind fun (as,Γ1)=>match toArgs Γ1 as with
 |none=>.bad
 |some args=>if (ios as).Nodup then match run args with
  |.ok r outs=>match putBack as outs Γ1 with
   |some Γ2=>.ok (r,Γ2.take Γ.length)
   |none=>.bad
  |.exc x outs=>match putBack as outs Γ1 with
   |some Γ2=>.exc x (Γ2.take Γ.length)
   |none=>.bad
  |.bad=>.bad
  else .bad
theorem Jr{M0:Addr->Prop}{F:Fp}{Γ:Gv}{ν:Nu}{σ:St}{H:Hp}{run:List OV->RF}{n:Nat}{Q:VK}(rs:RS M0 F Γ ν H)(hrun:∀ args,run args≠ .bad->args.length=n)
  (hp:OPost M0 F ν σ H XP (fun F' Γ' H' o v=>Q v H') (fCall run fl Γ)):APost M0 F ν σ H XP (fun F1 Γ1 ν1 H1 as=>∀ vs,AOks M0 F1 ν1 H1 vs as->spX X.mg n run vs H1 Q (EX X XP σ)) (fl Γ):=by
 unfold fCall at hp
 generalize fl Γ=ra at hp
 cases ra with
 |bad=>exact hp
 |exc x y=>exact hp
 |ok z=>
  obtain⟨as,Γ1⟩:=z
  intro F1 ν1 H1 rs1 hn s1 vs oks
  simp only[R.bind]at hp
  split at hp
  ·exact hp.elim
  ·rename_i args ea
   split at hp
   ·rename_i nd
    have hl:vs.length=n:=by
     rw[oks.len,<- qY ea]
     refine hrun args fun z=>?_
     rw[z]at hp;exact hp.elim
    refine⟨hl,cM M0 F1 as,cF F1 as,args,yj rs1 oks ea nd,?_⟩
    split at hp
    ·rename_i r outs er
     split at hp
     ·rename_i Γ2 eb
      intro F' v H' rc sc
      obtain⟨F2,rs2,s2⟩:=Wu (n:=Γ.length) rs1 oks ea nd rc sc eb hn rs.len
      exact hp F2 H' v rs2 (s1.trans s2)
     ·exact hp.elim
    ·rename_i x outs er
     split at hp
     ·rename_i Γ2 eb
      intro C hC F' H' rc sc
      obtain⟨F2,rs2,s2⟩:=Wu (n:=Γ.length) rs1 oks ea nd rc sc eb hn rs.len
      obtain⟨F3,rs3,s3,_⟩:=rs2.dropD
      exact⟨x,_,F3,ν,C,hC,rfl,hp F3 H' rs3 ((s1.trans s2).trans s3)⟩
     ·exact hp.elim
    ·exact hp.elim
   ·exact hp.elim
theorem zc0{x:Str}{k n:Nat}{run:List OV->RF}(px:PxOk X XP)(kn:Kn X.prog X.w X.K X.mg X.base (CX1 X.prog X.w) x k (spX X.mg n run))(hr:Room k X.A)(hg:Gl X x)(hrun:∀ args,run args≠ .bad->args.length=n)(hl:SA X XP mp (a::es) fl)
  (hdb:(x==("__debug__" :Str))=false) (he:starEach (a::es) X.env=(false,eval a X.env)::starEach es X.env) (hpl:(backTo pos (starEach es X.env)).any (·.1)=false):SO X XP mp (.Call (.Name x p) (a::es) [] pos) (fCall run fl):=fun M0 F Γ ν σ H Q rs hs hp=>
 zbD (E:=EX X XP σ) kn hr hg (fun pins H1 s1 e s' I hx=>px.call σ pins H1 s1 e s' _ (fun c H' q=>q) I hx) (hl M0 F Γ ν σ H _ rs hs (Jr rs hrun hp)) hdb he hpl
theorem za2{x:Str}{k n:Nat}{run:List OV->RF}(px:PxOk X XP)(kn:Kn X.prog X.w X.K X.mg X.base (CX1 X.prog X.w) x k (spX X.mg n run))(hr:Room k X.A)(hg:Gl X x)(hrun:∀ args,run args≠ .bad->args.length=n)
  (hdb:(x==("__debug__" :Str))=false):SO X XP mp (.Call (.Name x p) [] [] pos) (fCall run aNil):=fun M0 F Γ ν σ H Q rs hs hp=>by
 have h:=Jr (X:=X) (n:=n) rs hrun hp F ν H rs (List.prefix_refl _) (.refl _ _) [] .nil
 exact Kg kn hr hg (fun pins H1 s1 e s' I hx=>px.call σ pins H1 s1 e s' _ (fun c H' q=>q) I hx) h hdb
end
end L3
namespace L3
open PySem PySem.Spec PyProof.Rows L2
variable [Cs]
inductive FL where
 |next
 |ret (o:OV)
 |brk
 |cnt
noncomputable abbrev SM:=Gv->R (FL×Gv)
noncomputable def SPost(M0:Addr->Prop)(F:Fp)(ν:Nu)(H:Hp)(XP:XPT)(mp:List Nat)(N:Nat)(io:List Nat)(D:qF)(r:R (FL×Gv)):Prop:=match r with
 |.ok (.next,Γ')=>∀ F' ν' σ' H',RS M0 F' Γ' ν' H'->Stp F H F' H'->Sees mp ν' σ'->σ'.length=N->(∀ i∈io,ν'[i]?=ν[i]?)->D.nx σ' H'
 |.ok (.brk,Γ')=>∀ F' ν' σ' H',RS M0 F' Γ' ν' H'->Stp F H F' H'->Sees mp ν' σ'->σ'.length=N->(∀ i∈io,ν'[i]?=ν[i]?)->D.bk σ' H'
 |.ok (.cnt,Γ')=>∀ F' ν' σ' H',RS M0 F' Γ' ν' H'->Stp F H F' H'->Sees mp ν' σ'->σ'.length=N->(∀ i∈io,ν'[i]?=ν[i]?)->D.ct σ' H'
 |.ok (.ret o,Γ')=>∀ F' ν' v H',RS M0 F' (Γ'++ [some o]) (ν'++ [some v]) H'->Stp F H F' H'->(∀ i∈io,ν'[i]?=ν[i]?)->D.rt v H'
 |.exc x Γ'=>∀ F' ν' σ' H',RS M0 F' Γ' ν' H'->Stp F H F' H'->Sees mp ν' σ'->σ'.length=N->(∀ i∈io,ν'[i]?=ν[i]?)->XP x Γ' F' ν' σ' H'
 |.bad=>False
noncomputable def SS(X:Cx)(XP:XPT)(mp:List Nat)(io:List Nat)(st:Stmt)(f:SM):Prop:=∀ (M0:Addr->Prop) (F:Fp) (Γ:Gv) (ν:Nu) (σ:St) (H:Hp) (D:qF),RS M0 F Γ ν H->Sees mp ν σ->σ.length=X.N.length ->
 SPost M0 F ν H XP mp X.N.length io D (f Γ)->wpS X st D σ H
noncomputable def SB(X:Cx)(XP:XPT)(mp:List Nat)(io:List Nat)(sts:List Stmt)(f:SM):Prop:=∀ (M0:Addr->Prop) (F:Fp) (Γ:Gv) (ν:Nu) (σ:St) (H:Hp) (D:qF),RS M0 F Γ ν H->Sees mp ν σ->σ.length=X.N.length ->
 SPost M0 F ν H XP mp X.N.length io D (f Γ)->wpB X sts D σ H
section
variable {M0:Addr->Prop} {F F1:Fp} {Γ:Gv} {ν ν1:Nu} {σ:St} {H H1:Hp} {XP:XPT} {mp:List Nat} {N:Nat} {io:List Nat} {D D':qF} {r:R (FL×Gv)}
theorem SPost.step(h:SPost M0 F ν H XP mp N io D r)(s1:Stp F H F1 H1)(hn:∀ i∈io,ν1[i]?=ν[i]?):SPost M0 F1 ν1 H1 XP mp N io D r:=by
 cases r with
 |ok z=>
  obtain⟨fl,Γ'⟩:=z
  cases fl with
  |next=>exact fun F' ν' σ' H' a b c d e=>h F' ν' σ' H' a (s1.trans b) c d fun i hi=>(e i hi).trans (hn i hi)
  |brk=>exact fun F' ν' σ' H' a b c d e=>h F' ν' σ' H' a (s1.trans b) c d fun i hi=>(e i hi).trans (hn i hi)
  |cnt=>exact fun F' ν' σ' H' a b c d e=>h F' ν' σ' H' a (s1.trans b) c d fun i hi=>(e i hi).trans (hn i hi)
  |ret o=>exact fun F' ν' v H' a b e=>h F' ν' v H' a (s1.trans b) fun i hi=>(e i hi).trans (hn i hi)
 |exc x Γ'=>exact fun F' ν' σ' H' a b c d e=>h F' ν' σ' H' a (s1.trans b) c d fun i hi=>(e i hi).trans (hn i hi)
 |bad=>exact h
theorem SPost.seq{α:Type}{r:R (α×Gv)}{k:α×Gv->R (FL×Gv)}(hs:Sees mp ν σ)(hl:σ.length=N)(h:SPost M0 F ν H XP mp N io D (r.bind k)):EPost M0 F ν σ H XP (fun F1 Γ1 H1 a=>SPost M0 F1 ν H1 XP mp N io D (k (a,Γ1))) r:=by
 cases r with
 |ok z=>
  obtain⟨a,Γ1⟩:=z
  intro F1 H1 rs1 s1
  have h':SPost M0 F ν H XP mp N io D (k (a,Γ1)):=h
  exact h'.step s1 fun _ _=>rfl
 |exc x Γ'=>exact fun F' H' rs s=>h F' ν σ H' rs s hs hl fun _ _=>rfl
 |bad=>exact h
theorem SPost.seqO{r:R (OV×Gv)}{k:OV×Gv->R (FL×Gv)}(hs:Sees mp ν σ)(hl:σ.length=N)(h:SPost M0 F ν H XP mp N io D (r.bind k)):OPost M0 F ν σ H XP (fun F1 Γ1 H1 o v=>SPost M0 F1 ν H1 XP mp N io D (k (o,Γ1))) r:=by
 cases r with
 |ok z=>
  obtain⟨a,Γ1⟩:=z
  intro F1 H1 v rs1 s1
  have h':SPost M0 F ν H XP mp N io D (k (a,Γ1)):=h
  exact h'.step s1 fun _ _=>rfl
 |exc x Γ'=>exact fun F' H' rs s=>h F' ν σ H' rs s hs hl fun _ _=>rfl
 |bad=>exact h
end
noncomputable def sNext:SM:=fun Γ=>.ok (.next,Γ)
noncomputable def sSeq(f g:SM):SM:=fun Γ=>match f Γ with
 |.ok (.next,Γ1)=>g Γ1
 |r=>r
section
variable {X:Cx} {XP:XPT} {mp io:List Nat} {a b c e tg iter:Expr} {es:List Expr} {pos p p2 pos':Pos} {fa fb fc:EM FV} {ta tb:EM Bool} {na nb:EM (List PyData)} {fo:EM OV} {st:Stmt} {sts body els:List Stmt} {f g:SM}
theorem zaK:SB X XP mp io [] sNext:=fun M0 F Γ ν σ H D rs hs hl hp=>pss_nil.wp (hp F ν σ H rs (.refl _ _) hs hl fun _ _=>rfl)
theorem zaU{M0:Addr->Prop}{F:Fp}{Γ:Gv}{ν:Nu}{H:Hp}{N:Nat}{D:qF}{nx:St->Hp->Prop}(hp:SPost M0 F ν H XP mp N io D (sSeq f g Γ))
  (hn:∀ F1 Γ1 ν1 σ1 H1,RS M0 F1 Γ1 ν1 H1->Sees mp ν1 σ1->σ1.length=N->SPost M0 F1 ν1 H1 XP mp N io D (g Γ1)->nx σ1 H1):SPost M0 F ν H XP mp N io { D with nx:=nx } (f Γ):=by
 unfold sSeq at hp
 generalize f Γ=r at hp
 cases r with
 |ok z=>
  obtain⟨fl,Γ'⟩:=z
  cases fl with
  |next=>exact fun F' ν' σ' H' a b c d e=>hn F' Γ' ν' σ' H' a c d (hp.step b e)
  |brk=>exact hp
  |cnt=>exact hp
  |ret o=>exact hp
 |exc x Γ'=>exact hp
 |bad=>exact hp
theorem J7(h1:SS X XP mp io st f)(h2:SB X XP mp io sts g):SB X XP mp io (st::sts) (sSeq f g):=fun M0 F Γ ν σ H D rs hs hl hp=>
 (qX Yu qi).wp (h1 M0 F Γ ν σ H _ rs hs hl (zaU hp fun F1 Γ1 ν1 σ1 H1 rs1 hs1 hl1 h=>h2 M0 F1 Γ1 ν1 σ1 H1 D rs1 hs1 hl1 h))
theorem zc6:SS X XP mp io (.Pass pos) sNext:=fun M0 F Γ ν σ H D rs hs hl hp=>ps_pass.wp (hp F ν σ H rs (.refl _ _) hs hl fun _ _=>rfl)
noncomputable def zgw:SM:=fun _=>.bad
theorem zfr:SS X XP mp io st zgw:=fun M0 F Γ ν σ H D rs hs hl hp=>hp.elim
noncomputable def fD(fa:EM FV):EM OV:=fun Γ=>(fa Γ).bind fun (u,Γ1)=>match derS Γ1 u with
 |some x=>.ok (.d x,Γ1)
 |none=>.bad
theorem RS.newD{M0:Addr->Prop}{F:Fp}{Γ:Gv}{ν:Nu}{H:Hp}{v:V}{x:PyData}(r:RS M0 F Γ ν H)(q:Rep (MM M0 F) H v x):RS M0 F (Γ++ [some (.d x)]) (ν++ [some v]) H:=by
 have he:F Γ.length= []:=r.emp _ fun o e=>by
  rw[xv (xi _)]at e;cases e
 refine⟨r.al0,r.dis0,r.nd,r.dis,fun j o e=>?_,fun j h=>?_,by simp[r.len]⟩
 ·by_cases hj:j<Γ.length
  ·rw[xc hj]at e
   obtain⟨w,e1,z⟩:=r.at' j o e
   exact⟨w,by rw[xc (by rw[r.len];exact hj)];exact e1,z⟩
  ·have hj':j=Γ.length:=by
    have:=(xb.mp e).1
    simp at this;omega
   subst hj'
   rw[xf (xi _)]at e
   have:(OV.d x)=o:=by simpa using e
   subst this
   refine⟨v,by rw[xf (by rw[r.len];exact xi _),r.len];simp,?_⟩
   rw[he];exact .d q
 ·refine r.emp j fun o e=>h o ?_
  rw[xc (xb.mp e).1];exact e
theorem SE.so(h:SE X XP mp a fa):SO X XP mp a (fD fa):=fun M0 F Γ ν σ H Q rs hs hp=>
 h M0 F Γ ν σ H Q rs hs (hp.seq.mono fun F1 Γ1 H1 u rs1 s1 h1 v hv=>by
  dsimp only at h1
  split at h1
  ·rename_i x e
   exact h1 F1 H1 v (rs1.newD (hv.strong rs1 e)) (.refl _ _)
  ·exact h1.elim)
noncomputable def fMove(i:Nat):EM OV:=fun Γ=>match Γ[i]? with
 |some (some o)=>.ok (o,Γ.set i none)
 |_=>.bad
theorem RS.take{M0:Addr->Prop}{F:Fp}{Γ:Gv}{ν:Nu}{H:Hp}{i:Nat}{o:OV}(r:RS M0 F Γ ν H)(e:Γ[i]?=some (some o)):∃ F' v,ν[i]?=some (some v)/\RS M0 F' (Γ.set i none++ [some o]) (ν++ [some v]) H/\Stp F H F' H:=by
 obtain⟨v,ev,q⟩:=r.at' i o e
 have hi:=(xb.mp e).1
 let F':Fp:=fun j=>if j=i then [] else if j=Γ.length then F i else F j
 have g1:F' i= []:=by show (if i=i then _ else _)=_;rw[if_pos rfl]
 have g2:F' Γ.length=F i:=by show (if Γ.length=i then _ else _)=_;rw[if_neg (by omega),if_pos rfl]
 have g3:∀ j,j≠i->j≠Γ.length->F' j=F j:=fun j h1 h2=>by show (if j=i then _ else _)=_;rw[if_neg h1,if_neg h2]
 have cls:∀ j a,a∈F' j->(j=Γ.length/\a∈F i)∨(j≠i/\j≠Γ.length/\a∈F j):=fun j a h=>by
  by_cases h1:j=i
  ·subst h1;rw[g1]at h;cases h
  ·by_cases h2:j=Γ.length
   ·subst h2;rw[g2]at h;exact .inl ⟨rfl,h⟩
   ·rw[g3 j h1 h2]at h;exact .inr ⟨h1,h2,h⟩
 have st:Stp F H F' H:=ZE fun j a h=>by
  rcases cls j a h with ⟨_,h⟩ | ⟨_,_,h⟩
  ·exact⟨_,h⟩
  ·exact⟨_,h⟩
 refine⟨F',v,ev,⟨r.al0,fun j a h=>?_,fun j=>?_,fun j k a h1 h2=>?_,fun j p ej=>?_,fun j h=>?_,by simp[r.len]⟩,st⟩
 ·rcases cls j a h with ⟨_,h⟩ | ⟨_,_,h⟩
  ·exact r.dis0 _ a h
  ·exact r.dis0 _ a h
 ·by_cases h1:j=i
  ·subst h1;rw[g1];exact .nil
  ·by_cases h2:j=Γ.length
   ·subst h2;rw[g2];exact r.nd _
   ·rw[g3 j h1 h2];exact r.nd _
 ·rcases cls j a h1 with ⟨e1,z1⟩ | ⟨n1,m1,z1⟩
  ·rcases cls k a h2 with ⟨e2,z2⟩ | ⟨n2,m2,z2⟩
   ·rw[e1,e2]
   ·exact absurd (r.dis _ _ a z2 z1) n2
  ·rcases cls k a h2 with ⟨e2,z2⟩ | ⟨n2,m2,z2⟩
   ·exact absurd (r.dis _ _ a z1 z2) n1
   ·exact r.dis _ _ a z1 z2
 ·have hsl:(Γ.set i none).length=Γ.length:=by simp
  by_cases hj:j<Γ.length
  ·rw[xc (by omega)]at ej
   by_cases hji:j=i
   ·subst hji;rw[xh hi]at ej;cases ej
   ·rw[xg (Ne.symm hji)]at ej
    obtain⟨w,ew,z⟩:=r.at' j p ej
    refine⟨w,by rw[xc (by rw[r.len];exact hj)];exact ew,?_⟩
    rw[g3 j hji (by omega)]
    exact z.go (fun _ _ x=>zq st r.al0 x) st.tups fun _ _=>rfl
  ·have hj':j=Γ.length:=by
    have:=(xb.mp ej).1
    simp at this;omega
   subst hj'
   rw[xf (by omega),hsl]at ej
   have:o=p:=by simpa using ej
   subst this
   refine⟨v,by rw[xf (by rw[r.len];exact xi _),r.len];simp,?_⟩
   rw[g2]
   exact q.go (fun _ _ x=>zq st r.al0 x) st.tups fun _ _=>rfl
 ·by_cases h1:j=i
  ·subst h1;exact g1
  ·by_cases h2:j=Γ.length
   ·subst h2
    exact absurd (by rw[xf (by simp)];simp) (h o)
   ·rw[g3 j h1 h2]
    refine r.emp j fun p ep=>h p ?_
    rw[xc (by simpa using (xb.mp ep).1),xg (Ne.symm h1)];exact ep
theorem zc1 {s i:Nat}{x:Str}(hN:X.N[s]?=some x) (hv:Vis X.env.scope x) (hm:mp[s]?=some i) (hd:(x==("__debug__" :Str))=false) (hcd:(x==("__classdict__" :Str))=false) :
  SO X XP mp (.Name x pos) (fMove i):=fun M0 F Γ ν σ H Q rs hs hp=>by
 unfold fMove at hp
 split at hp
 ·rename_i o q
  obtain⟨F',v,e1,rs1,s1⟩:=rs.take q
  exact (zT hN hv hd hcd).wp ⟨v,hs s i v hm e1,hp F' H v rs1 s1⟩
 ·exact hp.elim
noncomputable def sRet(fo:EM OV):SM:=fun Γ=>(fo Γ).bind fun (o,Γ1)=>.ok (.ret o,Γ1)
theorem zft(h:SO X XP mp e fo):SS X XP mp io (.Return (some e) pos) (sRet fo):=fun M0 F Γ ν σ H D rs hs hl hp=>
 (yH zd).wp (h M0 F Γ ν σ H _ rs hs ((SPost.seqO hs hl hp).mono fun F1 Γ1 H1 o v rs1 s1 h1=>h1 F1 ν v H1 rs1 (.refl _ _) fun _ _=>rfl))
noncomputable def sRetN:SM:=fun Γ=>.ok (.ret (.d .none),Γ)
noncomputable def SOt(XP:XPT)(mp:List Nat)(t:TE)(f:EM OV):Prop:=∀ (M0:Addr->Prop) (F:Fp) (Γ:Gv) (ν:Nu) (σ:St) (H:Hp) (Q:VK),RS M0 F Γ ν H->Sees mp ν σ ->
 OPost M0 F ν σ H XP (fun F' Γ' H' o v=>Q v H') (f Γ)->t σ H Q
theorem SNt.so{t:TE}(h:SNt XP mp t na):SOt XP mp t (fOwn na):=fun M0 F Γ ν σ H Q rs hs hp=>
 h M0 F Γ ν σ H Q rs hs (hp.seq.mono fun F1 Γ1 H1 ds rs1 s1 h1 vs p r n=>by
  obtain⟨r2,s2⟩:=rs1.newO n r
  exact h1 _ _ _ r2 s2)
theorem SNt.sd{t:TE}(h:SNt XP mp t na):SOt XP mp t (fD (fNew na)):=fun M0 F Γ ν σ H Q rs hs hp=>
 h M0 F Γ ν σ H Q rs hs (by
  have hp':OPost M0 F ν σ H XP (fun F' Γ' H' o v=>Q v H') ((na Γ).bind fun (ds,Γ1)=>.ok (.d (.list ds),Γ1)):=by
   have e:fD (fNew na) Γ=(na Γ).bind fun (ds,Γ1)=>.ok (.d (.list ds),Γ1):=by
    unfold fD fNew
    cases na Γ<;>rfl
   rw[<- e];exact hp
  exact hp'.seq.mono fun F1 Γ1 H1 ds rs1 s1 h1 vs p r n=>by
   have s2:Same H1 (upd H1 p (.lst vs)):=zu n
   exact h1 F1 _ _ ((rs1.same s2).newD (Rep.list zh (fun z=>rs1.al p z n) (r.grow s2.grow))) (.same s2))
noncomputable def sAsg(io:List Nat)(i:Nat)(fo:EM OV):SM:=fun Γ=>(fo Γ).bind fun (o,Γ1)=>if i<Γ1.length/\i∉io then .ok (.next,Γ1.set i (some o)) else .bad
theorem vM{s i:Nat}{t:TE}(hps:PS X st (vO t (wm s)))(hn:mp.Nodup)(hm:mp[s]?=some i)(hsl:s<X.N.length)(h:SOt XP mp t fo):SS X XP mp io st (sAsg io i fo):=fun M0 F Γ ν σ H D rs hs hl hp=>
 hps.wp (h M0 F Γ ν σ H _ rs hs ((SPost.seqO hs hl hp).mono fun F1 Γ1 H1 o v rs1 s1 h1=>by
  dsimp only at h1
  split at h1
  ·rename_i hh
   obtain⟨F2,rs2,s2⟩:=rs1.move hh.1
   exact h1 F2 _ _ H1 rs2 s2 (hs.set hn hm (by rw[hl];exact hsl)) (by simpa using hl) fun j hj=>by
    rw[xg (fun z=>hh.2 (by rw[z];exact hj))]
  ·exact h1.elim))
theorem zfq{s i:Nat}{x:Str}(hN:X.N.Nodup)(hi:X.N[s]?=some x)(hx:Loc X.env.scope x)(hf:X.fn x=true∨X.env.scope.names.lookup x=some .local)(hn:mp.Nodup)(hm:mp[s]?=some i)(h:SO X XP mp e fo)
  (hsw:swapsWith e (some (.Name x pos')) pos.line X.env=pure false):SS X XP mp io (.Assign [.Name x pos'] e pos) (sAsg io i fo) :=
 vM (JH hN hi hx zd hsw hf) hn hm (xb.mp hi).1 h
noncomputable def sAsgT(t:IT)(fa:EM FV):SM:=fun Γ=>(fa Γ).bind fun (u,Γ1)=>match derS Γ1 u with
 |some x=>match tgF t x Γ1 with
  |some Γ2=>.ok (.next,Γ2)
  |none=>.bad
 |none=>.bad
theorem za5{t:IT}(ha:SE X XP mp e fa)(hg:SG X mp (·∈io) tg t)(hsw:swapsWithSole [tg] e pos.line X.env=pure false)(hw:swappedStores [tg] e X.env=pure none)
  (hps:PS X (.Assign [tg] e pos) (vO (wpE X e) (wpG X tg))):SS X XP mp io (.Assign [tg] e pos) (sAsgT t fa):=fun M0 F Γ ν σ H D rs hs hl hp=>
 hps.wp (ha M0 F Γ ν σ H _ rs hs ((SPost.seq hs hl hp).mono fun F1 Γ1 H1 u rs1 s1 h1 v hv=>by
  dsimp only at h1
  split at h1
  ·rename_i x ex
   split at h1
   ·rename_i Γ2 et
    exact hg M0 F1 Γ1 Γ2 ν σ H1 v x _ rs1 hs hl (hv.strong rs1 ex) et fun F2 ν2 σ2 rs2 s2 hs2 hl2 n2 m2=>h1 F2 ν2 σ2 H1 rs2 s2 hs2 hl2 n2
   ·exact h1.elim
  ·exact h1.elim))
noncomputable def sExpr(fa:EM FV):SM:=fun Γ=>(fa Γ).bind fun (_,Γ1)=>.ok (.next,Γ1)
theorem zc5(ha:SE X XP mp e fa)(hsw:swapsWith e none pos.line X.env=pure false):SS X XP mp io (.Expr e pos) (sExpr fa):=fun M0 F Γ ν σ H D rs hs hl hp=>
 (J6 zd hsw).wp (ha M0 F Γ ν σ H _ rs hs ((SPost.seq hs hl hp).mono fun F1 Γ1 H1 u rs1 s1 h1 v hv=>h1 F1 ν σ H1 rs1 (.refl _ _) hs hl fun _ _=>rfl))
noncomputable def sIf(t:EM Bool)(f g:SM):SM:=fun Γ=>(t Γ).bind fun (b,Γ1)=>if b then f Γ1 else g Γ1
theorem zdI(hc:ST X XP mp c ta)(ha:SB X XP mp io body f)(hb:SB X XP mp io els g):SS X XP mp io (.If c body els pos) (sIf ta f g):=fun M0 F Γ ν σ H D rs hs hl hp=>
 (zgq jd qi qi).wp (hc M0 F Γ ν σ H _ rs hs ((SPost.seq hs hl hp).mono fun F1 Γ1 H1 b rs1 s1 h1=>by
  cases b with
  |true=>exact Vu (ha M0 F1 Γ1 ν σ H1 D rs1 hs hl h1)
  |false=>exact Vt (hb M0 F1 Γ1 ν σ H1 D rs1 hs hl h1)))
noncomputable def jI(t:IT)(body:SM):List PyData->Gv->R (FL×Gv)
 |[],Γ=>.ok (.next,Γ)
 |d::ds,Γ=>match tgF t d Γ with
  |none=>.bad
  |some Γ1=>match body Γ1 with
   |.ok (.next,Γ2)=>jI t body ds Γ2
   |.ok (.cnt,Γ2)=>jI t body ds Γ2
   |.ok (.brk,Γ2)=>.ok (.next,Γ2)
   |r=>r
noncomputable def sFor(t:IT)(src:EM (List PyData))(body:SM):SM:=fun Γ=>(src Γ).bind fun (ds,Γ1)=>jI t body ds Γ1
theorem zfs{t:IT}{src:EM (List PyData)}(hpo:PassesOwn (model X.prog X.w) X.A X.env X.xe)(hc:X.calm=true)(hi:SI X XP mp tg iter src)(hg:SG X mp (·∈io) tg t)(hb:SB X XP mp io body f)
  (hf:∀ x,foldedSetIterable iter X.env x=pure x):SS X XP mp io (.For tg iter body [] pos) (sFor t src f):=fun M0 F Γ ν σ H D rs hs hl hp=>by
 refine (zaz hpo hc Qn vE qi hf).wp (hi M0 F Γ ν σ H _ rs hs ((SPost.seq hs hl hp).mono fun F1 Γ1 H1 ds rs1 s1 h1 J hJ=>?_))
 dsimp only at h1
 refine⟨fun i m σ' H'=>m=ds.length-i/\i<=ds.length/\∃ F' Γ' ν',RS M0 F' Γ' ν' H'/\Stp F1 H1 F' H'/\Sees mp ν' σ'/\σ'.length=X.N.length/\SPost M0 F' ν' H' XP mp X.N.length io D (jI t f (ds.drop i) Γ'),⟨ds.length,by simp,ua _,F1,Γ1,ν,rs1,.refl _ _,hs,hl,h1⟩,?_⟩
 rintro i m σ' H' ⟨rfl,hil,F',Γ',ν',rs',st',hs',hl',hp'⟩
 obtain⟨jgo,jst⟩:=hJ i F' H' st' rs1.al0
 by_cases hlt:i<ds.length
 ·obtain⟨go,yl⟩:=jgo ds[i] (by simp[hlt])
  rw[um hlt,jI]at hp'
  refine .inr ⟨go,fun σ2 H2=>∃ F2 Γ2 ν2,RS M0 F2 Γ2 ν2 H2/\Stp F1 H1 F2 H2/\Sees mp ν2 σ2/\σ2.length=X.N.length/\SPost M0 F2 ν2 H2 XP mp X.N.length io D (jI t f (ds.drop (i+1)) Γ2),fun σ2 H2 h=>⟨ds.length-(i+1),by omega,rfl,hlt,h⟩,fun x H2 hy=>?_⟩
  obtain⟨s2,rx⟩:=yl x H2 hy
  cases et:tgF t ds[i] Γ' with
  |none=>rw[et]at hp';exact hp'.elim
  |some Γ2=>
   rw[et]at hp'
   dsimp only at hp'
   refine hg M0 F' Γ' Γ2 ν' σ' H2 x ds[i] _ (rs'.same s2) hs' hl' rx et fun F3 ν3 σ3 rs3 s3 hs3 hl3 n3 m3=>?_
   have sA:Stp F' H' F3 H2:=(Stp.same s2).trans s3
   refine hb M0 F3 Γ2 ν3 σ3 H2 _ rs3 hs3 hl3 ?_
   cases ef:f Γ2 with
   |bad=>rw[ef]at hp';exact hp'.elim
   |exc xx yy=>
    rw[ef]at hp'
    exact hp'.step sA n3
   |ok z=>
    obtain⟨fl,Γ4⟩:=z
    rw[ef]at hp'
    cases fl with
    |next=>exact fun F4 ν4 σ4 H4 a b c d e=>⟨F4,Γ4,ν4,a,(st'.trans sA).trans b,c,d,hp'.step (sA.trans b) fun i hi=>(e i hi).trans (n3 i hi)⟩
    |cnt=>exact fun F4 ν4 σ4 H4 a b c d e=>⟨F4,Γ4,ν4,a,(st'.trans sA).trans b,c,d,hp'.step (sA.trans b) fun i hi=>(e i hi).trans (n3 i hi)⟩
    |brk=>exact fun F4 ν4 σ4 H4 a b c d e=>hp' F4 ν4 σ4 H4 a (sA.trans b) c d fun i hi=>(e i hi).trans (n3 i hi)
    |ret o=>exact fun F4 ν4 v4 H4 a b e=>hp' F4 ν4 v4 H4 a (sA.trans b) fun i hi=>(e i hi).trans (n3 i hi)
 ·have e:i=ds.length:=by omega
  subst e
  rw[uy,jI]at hp'
  exact .inl ⟨jst (xi _),hp' F' ν' σ' H' rs' (.refl _ _) hs' hl' fun _ _=>rfl⟩
theorem wB{M0:Addr->Prop}{F:Fp}{Γ:Gv}{ν:Nu}{H:Hp}{i:Nat}{xs:List OV}(rs:RS M0 F Γ ν H)(e:Γ[i]?=some (some (.l xs))):∃ a vs A,ν[i]?=some (some (.ref a))/\H a=some (.lst vs)/\ORL (MM M0 F) H vs xs A/\F i=a::A/\A.Nodup:=by
 obtain⟨v,ev,q⟩:=rs.at' i _ e
 have nd:=rs.nd i
 generalize hA:F i=A at q
 rw[hA]at nd
 cases q with
 |l ea qa=>exact⟨_,_,_,ev,ea,qa,rfl,(xD.mp nd).2⟩
theorem zaf{M0:Addr->Prop}{F:Fp}{Γ:Gv}{ν:Nu}{H:Hp}{i:Nat}{xs xs':List OV}{a:Addr}{vs vs':List V}(rs:RS M0 F Γ ν H)(e:Γ[i]?=some (some (.l xs)))(en:ν[i]?=some (some (.ref a)))(eh:H a=some (.lst vs))
  (h:∀ A,ORL (MM M0 F) H vs xs A->ORL (MM M0 F) H vs' xs' A):∃ F',RS M0 F' (Γ.set i (some (.l xs'))) ν (upd H a (.lst vs'))/\Stp F H F' (upd H a (.lst vs')) :=
 rs.mut (xs':=xs') (vs:=vs') e en fun us A eu qa eF=>by
  rw[eh]at eu;cases eu
  have nd:=rs.nd i
  rw[eF]at nd
  exact⟨A,fun _ h=>h,(xD.mp nd).2,h A qa⟩
noncomputable def isOwn(Γ:Gv)(i:Nat):Bool:=match Γ[i]? with
 |some (some (.l _))=>true
 |_=>false
theorem Vs{Γ:Gv}{i:Nat}(h:isOwn Γ i=true):∃ xs,Γ[i]?=some (some (.l xs)):=by
 unfold isOwn at h
 split at h
 ·rename_i xs e;exact⟨xs,e⟩
 ·cases h
structure NmK(X:Cx)(mp:List Nat)(s i:Nat)(x:Str):Prop where
 hN:X.N[s]?=some x
 hv:Vis X.env.scope x
 hm:mp[s]?=some i
 hd:(x==("__debug__" :Str))=false
 hcd:(x==("__classdict__" :Str))=false
noncomputable def sApp(i:Nat)(fa:EM FV):SM:=fun Γ=>if isOwn Γ i then (fa Γ).bind fun (u,Γ1)=>match derS Γ1 u,Γ1[i]? with
 |some x,some (some (.l xs))=>if xs.length<1000000 then .ok (.next,Γ1.set i (some (.l (xs++ [.d x])))) else .bad
 |_,_=>.bad
 else .bad
theorem zfp{s i:Nat}{x:Str}(n:NmK X mp s i x)(ha:SE X XP mp a fa)(hst:starEach [a] X.env= [(false,eval a X.env)])(hline:(p2.endLine==pos.line)=true) :
  SS X XP mp io (.Expr (.Call (.Attribute (.Name x p) "append" p2) [a] [] pos) pos') (sApp i fa):=fun M0 F Γ ν σ H D rs hs hl hp=>by
 unfold sApp at hp
 split at hp
 ·rename_i hw
  obtain⟨xs0,e0⟩:=Vs hw
  obtain⟨a0,vs0,A0,en0,eh0,q0,_,_⟩:=wB rs e0
  refine (J6 (WP PySem.F.plainAttrs_list PySem.F.slot_list_append PySem.F.type_list_append JF (zT n.hN n.hv n.hd n.hcd) (zp zd pa_nil hst) rfl (by rw[hst];rfl) hline hst rfl) rfl).wp ⟨.ref a0,hs s i _ n.hm en0,.inl ⟨rfl,_,SqL.of eh0⟩,?_⟩
  refine ha M0 F Γ ν σ H _ rs hs ((SPost.seq hs hl hp).mono fun F1 Γ1 H1 u rs1 s1 h1 v hv=>?_)
  dsimp only at h1
  split at h1
  ·rename_i y xs ey ex
   split at h1
   ·rename_i hz
    obtain⟨a1,vs1,A1,en1,eh1,q1,_,_⟩:=wB rs1 ex
    rw[en0]at en1
    cases en1
    refine⟨a0,vs1,v,rfl,rfl,eh1,by have:=sizeLine_eq;rw[q1.length];omega,?_⟩
    obtain⟨F2,rs2,s2⟩:=zaf rs1 ex en0 eh1 fun A qa=>qa.snoc (hv.strong rs1 ey)
    exact h1 F2 ν σ _ rs2 s2 hs hl fun _ _=>rfl
   ·exact h1.elim
  ·exact h1.elim
 ·exact hp.elim
noncomputable def sSet(i:Nat)(fi fv:EM FV):SM:=fun Γ=>(fv Γ).bind fun (u,Γ1)=>if isOwn Γ1 i then (fi Γ1).bind fun (w,Γ2)=>match derS Γ2 u,derf Γ2 w,Γ2[i]? with
 |some x,some (.int k),some (some (.l xs))=>match ixN xs.length k with
  |some j=>match xs[j]? with
   |some (.d _)=>.ok (.next,Γ2.set i (some (.l (xs.set j (.d x)))))
   |_=>.bad
  |none=>.bad
 |_,_,_=>.bad
 else .bad
theorem zfu{s i:Nat}{x:Str}(n:NmK X mp s i x)(hi:SE X XP mp b fb)(hv:SE X XP mp a fa)(hsw:swapsWithSole [.Subscript (.Name x p) b p2] a pos.line X.env=pure false)(hw:swappedStores [.Subscript (.Name x p) b p2] a X.env=pure none)
  (hps:∀ {te:TE} {g:TG},PE X a te->PG X (.Subscript (.Name x p) b p2) g->PS X (.Assign [.Subscript (.Name x p) b p2] a pos) (vO te g)) (hpg:∀ {to ti:TE} {t:zbJ},PE X (.Name x p) to->PE X b ti->zdR X t->PG X (.Subscript (.Name x p) b p2) (zf6 to ti t)) :
  SS X XP mp io (.Assign [.Subscript (.Name x p) b p2] a pos) (sSet i fb fa):=fun M0 F Γ ν σ H D rs hs hl hp=>by
 refine (hps zd (hpg (zT n.hN n.hv n.hd n.hcd) zd zaV)).wp (hv M0 F Γ ν σ H _ rs hs ((SPost.seq hs hl hp).mono fun F1 Γ1 H1 u rs1 s1 h1 v ov=>?_))
 dsimp only at h1
 split at h1
 ·rename_i hw
  obtain⟨xs0,e0⟩:=Vs hw
  obtain⟨a0,vs0,A0,en0,eh0,q0,_,_⟩:=wB rs1 e0
  refine⟨.ref a0,hs s i _ n.hm en0,?_⟩
  refine hi M0 F1 Γ1 ν σ H1 _ rs1 hs ((SPost.seq hs hl h1).mono fun F2 Γ2 H2 w rs2 s2 h2 vi oi=>?_)
  dsimp only at h2
  split at h2
  ·rename_i y k xs ey ek ex
   split at h2
   ·rename_i j ej
    split at h2
    ·rename_i z ez
     obtain⟨a1,vs1,A1,en1,eh1,q1,_,_⟩:=wB rs2 ex
     rw[en0]at en1
     cases en1
     cases oi.weak rs2 ek
     refine⟨a0,vs1,k,j,rfl,rfl,eh1,by rw[q1.length];exact ej,?_⟩
     obtain⟨F3,rs3,s3⟩:=zaf rs2 ex en0 eh1 fun A qa=>qa.setD ((ov.stp s2 rs1.al0).strong rs2 ey) ez
     exact h2 F3 ν σ _ rs3 s3 hs hl fun _ _=>rfl
    ·exact h2.elim
   ·exact h2.elim
  ·exact h2.elim
 ·exact h1.elim
noncomputable def derfs(Γ:Gv):List FV->Option (List PyData)
 |[]=>some []
 |u::us=>match derf Γ u,derfs Γ us with
  |some x,some xs=>some (x::xs)
  |_,_=>none
theorem FOks.weak{M0:Addr->Prop}{F:Fp}{Γ:Gv}{ν:Nu}{H:Hp}(rs:RS M0 F Γ ν H):∀ {vs:List V}{us:List FV}{ds:List PyData},FOks M0 F ν H vs us->derfs Γ us=some ds->RepL zt H vs ds
 |_,_,_,.nil,e=>by cases e;exact .nil
 |_,_,_,.cons h t,e=>by
  unfold derfs at e
  split at e
  ·rename_i e1 e2
   cases e
   exact .cons (h.weak rs e1) (FOks.weak rs t e2)
  ·cases e
noncomputable def fCallW(run:List OV->RF)(fl:EM (List FV)):EM FV:=fun Γ=>(fl Γ).bind fun (us,Γ1)=>match derfs Γ1 us with
 |none=>.bad
 |some ds=>match run (ds.map .d) with
  |.ok (.d x) _=>if noL x then .ok (.dat x,Γ1) else .bad
  |_=>.bad
end
end L3
namespace L2
open PySem PySem.Spec PyProof.Rows
variable [Cs]
section
variable {X:Cx} {pins:List (Addr×Obj)} {σ:List (Option V)} {H:Hp} {s:Shared} {h':Heap}
end
section
variable {X:Cx}
end
end L2
namespace L3
open PySem PySem.Spec PyProof.Rows L2
variable [Cs]
noncomputable def zf2(ds:List PyData):List PyData:=ds.zipIdx.map fun p=>PyData.tuple [.int p.2,p.1]
noncomputable def fEnum(fa:EM FV):EM (List PyData):=fun Γ=>(fa Γ).bind fun (u,Γ1)=>match derS Γ1 u with
 |some (.list ds)=>.ok (zf2 ds,Γ1)
 |_=>.bad
section
variable {X:Cx} {XP:XPT} {mp:List Nat} {a:Expr} {p pos:Pos} {fa:EM FV}
end
end L3
namespace L2
open PySem PySem.Spec PyProof.Rows
variable [Cs]
structure zfR(M:Addr->Prop)(H:Hp)(b c:Addr)(cells:List Int)(i l t s:Int):Prop where
 mb:M b
 hb:H b=some (.lst [.ref c,.int i,.int l,.int t,.int s])
 hc:Rep M H (.ref c) (.list (cells.map PyData.int))
 hi:0<=i
noncomputable def BoxAt(M:Addr->Prop)(H:Hp)(b:Addr):Prop:=∃ c cells i l t s,zfR M H b c cells i l t s
theorem BoxAt.mem{M:Addr->Prop}{H:Hp}{b:Addr}(B:BoxAt M H b):M b:=let ⟨_,_,_,_,_,_,B⟩:=B;B.mb
theorem BoxAt.lst{M:Addr->Prop}{H:Hp}{b:Addr}(B:BoxAt M H b):∃ xs,H b=some (.lst xs):=let ⟨_,_,_,_,_,_,B⟩:=B;⟨_,B.hb⟩
noncomputable def za3(K:PySem.W.Frag):Sp:=fun vs H Q _=>∃ (a:Addr) (ns:List Int),vs= [.ref a]/\SqL K H a (ns.map V.int)/\ns.length<=63/\∀ b H',Same H H'->H b=none->H' b≠none->BoxAt (fun a=>a=b) H' b->Q (.ref b) H'
section
variable {X:Cx} {M:Addr->Prop} {Γ:Ge} {σ:St} {H:Hp} {D:qF} {sts:List Stmt} {e e1:Expr} {p pos pos':Pos} {x:Str} {k:Nat} {b:Addr} {n:Int} {Q:VK}
end
theorem Wn{n i:Nat}{z:Ent}(e:(List.replicate n none:Ge)[i]?=some (some z)):False:=by
 rw[xJ]at e
 split at e
 ·cases e
 ·cases e
theorem RS.blank{M:Addr->Prop}{σ:St}{H:Hp}(n:Nat)(al:Al M H):RS M (List.replicate n none) σ H:=⟨al,fun i d e=>(Wn e).elim,fun i d e=>(Wn e).elim⟩
section
variable {X:Cx} {H:Hp} {D:qF} {sts:List Stmt} {p pos pos' p2:Pos} {x:Str} {k:Nat} {Q:VK}
theorem zfN {a:Addr}{ns:List Int}{N:List Str}(hN:X.N.Nodup) (kb:Kn X.prog X.w X.K X.mg X.base CX0 "_law_box" k (za3 X.K)) (hr:Room k X.A) (hS:SqL X.K H a (ns.map V.int)) (hlen:ns.length<=63)
  (kk:∀ b σ' H',Same H H'->H b=none->BoxAt (fun a=>a=b) H' b->RS (fun a=>a=b) ((List.replicate X.N.length none).set 1 (some (.v (.ref b)))) σ' H'->σ'.length=X.N.length->wpB X sts D σ' H')
  (hNe:X.N=N) (h0:N[0]?=some ("_law_script" :Str)) (hi:X.N[1]?=some x:=by rfl) (hv0:Vis X.env.scope "_law_script" :=by first | exact Or.inl rfl | exact Or.inr (Or.inl rfl) | exact Or.inr (Or.inr rfl)) (hx:Loc X.env.scope x:=by first | exact Or.inl rfl | exact Or.inr rfl)
  (hf:X.fn x=true∨X.env.scope.names.lookup x=some .local:=by first | exact .inl rfl | exact .inr rfl | assumption) (hg:Gl X "_law_box" :=by rfl)
  (hs:starEach [.Name "_law_script" p2] X.env= [(false,eval (.Name "_law_script" p2) X.env)]:=by rfl) (hpl:(backTo p (starEach [] X.env)).any (·.1)=false:=by rfl) {p3:Pos} :
  wpB X (.Assign [.Name x pos'] (.Call (.Name "_law_box" p3) [.Name "_law_script" p2] [] p) pos::sts) D (start N [.ref a]) H:=by
 have hl:1<N.length:=by rw[<- hNe];exact (xb.mp hi).1
 have hst:(start N [V.ref a]).length=N.length:=vN (by simp;omega)
 refine zgP 1 (Q:=fun v H'=>∃ b,v=.ref b/\Same H H'/\H b=none/\BoxAt (fun a=>a=b) H' b) hN (zdo kb hr hg zgn ((zp (zT (by rw[hNe];exact h0) hv0) pa_nil hs).wp ⟨.ref a,by simp[start],a,ns,rfl,hS,hlen,fun b H' s' nb _ hB=>⟨b,rfl,s',nb,hB⟩⟩) (by decide) hs hpl) (fun v H1 ⟨b,ev,s1,nb,hB⟩=>?_) hi hx rfl hf
 subst ev
 refine kk b _ H1 s1 nb hB ((RS.blank X.N.length (fun c hc=>?_)).setV (by rw[hst];exact hl)) (by rw[xH,hst,hNe])
 subst hc
 obtain⟨xs,hx⟩:=hB.lst
 rw[hx]
 exact fun z=>nomatch z
end
end L2
set_option maxHeartbeats 4000000
namespace L2
open PySem PySem.Spec PyProof.Rows
variable [Cs]
theorem IntsAre.of:∀ {ns:List Int}{us:List Value},Vals (ns.map V.int) us->IntsAre us ns
 |[],_,.nil=>.nil
 |n::ns,_,.cons ⟨t,e⟩ r=>by subst e;exact .cons n t (IntsAre.of r)
section
variable {X:Cx}
end
end L2
namespace L3
open PySem PySem.Spec PyProof.Rows L2
variable [Cs]
noncomputable def vy:List PyData->Option (List Int)
 |[]=>some []
 |.int b::r=>(vy r).map (b::·)
 |_=>none
section
variable {X:Cx} {XP:XPT} {mp:List Nat} {a:Expr} {p pos:Pos} {fa:EM FV}
end
end L3
set_option maxHeartbeats 4000000
namespace L3
open PySem PySem.Spec PyProof.Rows L2
variable [Cs]
section
variable {X:Cx} {XP:XPT} {mp:List Nat} {a b:Expr} {p p2 pos:Pos} {fa fb:EM FV}
end
end L3
set_option maxHeartbeats 4000000
namespace Tab
open PySem PySem.SetTable
noncomputable def stp(m i:Nat):Nat:=(i*5+1) % (m+1)
noncomputable def it(m:Nat):Nat->Nat->Nat
 |0,i=>i
 |n+1,i=>it m n (stp m i)
noncomputable def live(m:Nat)(owner:Array (Option Nat)):List Nat:=(List.range (m+1)).filterMap fun j=>owner.getD j none
end Tab
set_option maxHeartbeats 4000000
namespace Tab
open PySem PySem.SetTable
theorem wf{α:Type}:∀ {l:List α}{n:Nat}(h:n<l.length),(l[n]::l.eraseIdx n).Perm l
 |x::l,0,_=>.refl _
 |x::l,n+1,h=>((List.Perm.swap x (l[n]'(by simpa using h)) _)).trans ((wf (l:=l) (n:=n) (by simpa using h)).cons x)
theorem Yt{α:Type}(next:Nat->Nat):∀ (fuel k:Nat) (left:List α) (out:Array α),left.length<=fuel->(pickOrder.go next fuel k left out).toList.Perm (out.toList++left)
 |0,k,left,out,h=>by
  have:left= []:=List.length_eq_zero_iff.mp (by omega)
  subst this
  rw[pickOrder.go,xG]
 |fuel+1,k,left,out,h=>by
  rw[pickOrder.go]
  cases left with
  |nil=>simp
  |cons x l=>
   have hlt:next k % (x::l).length<(x::l).length:=Nat.mod_lt _ (by simp)
   rw[xC hlt]
   dsimp only
   refine (Yt next fuel (k+1) _ _ ?_).trans ?_
   ·rw[List.length_eraseIdx_of_lt hlt];omega
   ·rw[Array.toList_push,ut]
    exact List.Perm.append_left _ (wf hlt)
theorem kD{α:Type}(next:Nat->Nat)(xs:Array α):(pickOrder next xs).toList.Perm xs.toList:=by
 have:=Yt next xs.size 0 xs.toList #[] (by simp)
 simpa [pickOrder] using this
section
variable {prog:Program} {w:World} {A:Around} {E:Value->Shared->Prop} {s:Shared}
theorem zgf{es:Array (Int×Value)}(h:ElemsOf (intKind prog w) es.toList):∀ e∈es.toList,∃ n t,e.2=.int n t:=fun e he=>by
 obtain⟨⟨k,hk,_⟩,_⟩:=h e he
 obtain⟨t,ht⟩:=Value.isInt_shape hk
 exact⟨k,t,ht⟩
theorem zaE{l:List Addr}{Q:Bool->Shared->Prop}(h:∀ b∈l,∃ S n,s.heap.SetOf (intKind prog w) b S n)(hQ:Q true s):wpAny (model prog w) A (setsQuiet l) Q E s:=by
 unfold setsQuiet
 refine wpAny_bind ?_
 refine wpAny_forIn_list _ (fun rest b s'=>b=(none,())/\s'=s/\∀ x∈rest,∃ S n,s.heap.SetOf (intKind prog w) x S n) _ ?_ ?_ l _ ⟨rfl,rfl,h⟩
 ·rintro a rest b s' ⟨rfl,rfl,hh⟩
  obtain⟨S,n,o,es,ep,t,ho,hex,hd,hel,hmem,hb,hf,hn⟩:=hh a xp
  refine wpAny_bind (wpAny_setEntries_of ho hd hf ?_)
  refine wpAny_bind (wpAny_forIn_array' _ (fun (rest:List (Int×Value)) b s''=>b=(none,())/\s''=s'/\∀ e∈rest,∃ n t,e.2=.int n t) _ ?_ ?_ es _ ⟨rfl,rfl,zgf hel⟩)
  ·rintro⟨hh2,x⟩ rest b s'' ⟨rfl,rfl,hi⟩
   obtain⟨n,t,e⟩:=hi _ xp
   dsimp only at e
   subst e
   exact wpAny_pure ⟨rfl,rfl,fun e he=>hi e (xj _ he)⟩
  ·rintro b s'' ⟨rfl,rfl,_⟩
   exact wpAny_pure ⟨rfl,rfl,fun x hx=>hh x (xj _ hx)⟩
 ·rintro b s' ⟨rfl,rfl,_⟩
  exact wpAny_pure hQ
theorem yN{a:Addr}{o:Obj}{es:Array (Int×Value)}{ep:Nat}{t:SetTable}{Q':Array (Int×Value)->Shared->Prop}(ho:s.heap.get? a=some o)(hd:o.data=.set es ep t)(hf:t.fits es.size=true)
  (hc:(w.params.followText "set-order" ||(t.led&&t.plain)||decide (es.size<=1))=true) (hq:∀ es',es'.toList.Perm es.toList->Q' es' s):wpAny (model prog w) A (setWalk a) Q' E s:=by
 unfold setWalk setsByText
 refine wpAny_bind (wpAny_setState_of ho hd hf ?_)
 refine wpAny_bind (wpAny_bind (wpAny_askSetting (wpAny_pure ?_)))
 show wpAny _ _ (if w.params.followText "set-order" =true then _ else _) _ _ _
 by_cases hT:w.params.followText "set-order" =true
 ·rw[if_pos hT]
  exact wpAny_bind (wpAny_askSetting (wpAny_pure (hq _ (kD _ _))))
 ·rw[if_neg hT]
  have hT':w.params.followText "set-order" =false:=by simpa using hT
  rw[hT',Bool.false_or,xE,xa,decide_eq_true_eq]at hc
  split
  ·rename_i hdr
   exfalso
   change (!t.plain&&decide (es.size>1))=true at hdr
   rw[xa,decide_eq_true_eq]at hdr
   rcases hc with ⟨_,hp⟩ | hz
   ·rw[hp]at hdr;exact absurd hdr.1 (by decide)
   ·omega
  ·show wpAny _ _ ((if (!t.led&&decide (es.size>1))=true then unsupported "set:maker-not-led" else pure PUnit.unit) >>= fun _=>pure es) _ _ _
   rw[if_neg]
   ·exact wpAny_bind (wpAny_pure (wpAny_pure (hq es (.refl _))))
   ·intro z
    rw[xa,decide_eq_true_eq]at z
    rcases hc with ⟨hl,_⟩ | hz
    ·rw[hl]at z;exact absurd z.1 (by decide)
    ·omega
theorem walk_of{a:Addr}{o:Obj}{es:Array (Int×Value)}{ep:Nat}{t:SetTable}{others:List Addr}{Q:Array (Int×Value)->Shared->Prop}(ho:s.heap.get? a=some o)(hd:o.data=.set es ep t)(hf:t.fits es.size=true)
  (hl:∀ b∈a::others,∃ S n,s.heap.SetOf (intKind prog w) b S n) (h:∀ es',es'.toList.Perm es.toList->Q es' s):wpAny (model prog w) A (setWalkUnseen a others none) Q E s:=by
 unfold setWalkUnseen setsByText
 refine wpAny_bind (wpAny_setState_of ho hd hf ?_)
 dsimp only
 refine wpAny_bind (wpAny_bind (wpAny_askSetting (wpAny_pure ?_)))
 show wpAny _ _ (if (w.params.followText "set-order" ||t.led&&t.plain||decide (es.size<=1))=true then _ else _) _ _ _
 split
 ·rename_i hc
  exact yN ho hd hf hc h
 ·refine wpAny_bind (zaE hl ?_)
  simp only[Bool.not_true,xQ,if_false]
  exact wpAny_bind (wpAny_rule (wpAny_pure (h es (.refl _))))
inductive Keys(prog:Program)(w:World):List (Int×Value)->List Int->Prop
 |nil:Keys prog w [] []
 |cons {k:Int} {t:Tok} {es ks}:Keys prog w es ks->Keys prog w (((intKind prog w).hash k,.int k t)::es) (k::ks)
theorem Keys.mem{es:List (Int×Value)}{ks:List Int}(h:Keys prog w es ks)(k:Int):(∃ e∈es,(intKind prog w).is k e.2=true)↔k∈ks:=by
 induction h with
 |nil=>simp
 | @cons k' t es ks _ ih=>
  constructor
  ·rintro⟨e,he,hk⟩
   rcases xy.mp he with rfl | he
   ·have hk2:Value.isInt k (.int k' t)=true:=hk
    obtain⟨t2,e2⟩:=Value.isInt_shape hk2
    injection e2 with e3
    rw[<- e3];exact xp
   ·exact xj _ (ih.mp ⟨e,he,hk⟩)
  ·intro hk
   rcases xy.mp hk with rfl | hk
   ·exact⟨_,xp,intKind_is _ _ _ _⟩
   ·obtain⟨e,he,h2⟩:=ih.mpr hk
    exact⟨e,xj _ he,h2⟩
theorem Keys.length{es:List (Int×Value)}{ks:List Int}(h:Keys prog w es ks):es.length=ks.length:=by
 induction h with
 |nil=>rfl
 |cons _ ih=>simp[ih]
end
end Tab
set_option maxHeartbeats 4000000
namespace Tab
open PySem PySem.SetTable
section
variable {prog:Program} {w:World} {A:Around} {E:Value->Shared->Prop} {s:Shared}
theorem Keys.eraseIdx:∀ {es:List (Int×Value)}{ks:List Int}(i:Nat),Keys prog w es ks->Keys prog w (es.eraseIdx i) (ks.eraseIdx i)
 |_,_,i,.nil=>by simp;exact .nil
 |_,_,0,.cons h=>h
 |_,_,i+1,.cons h=>.cons (h.eraseIdx i)
theorem Keys.find:∀ {es:List (Int×Value)}{ks:List Int}{i:Nat}{k:Int},Keys prog w es ks->es.findIdx? (fun e=>(intKind prog w).is k e.2)=some i->ks[i]?=some k:=by
 intro es ks i k h e
 obtain⟨hi,hp,_⟩:=List.findIdx?_eq_some_iff_getElem.mp e
 have H:∀ {es:List (Int×Value)} {ks:List Int} (i:Nat) (hi:i<es.length),Keys prog w es ks->(intKind prog w).is k es[i].2=true->ks[i]?=some k:=by
  intro es ks i hi h
  induction h generalizing i with
  |nil=>simp at hi
  | @cons k' t es ks h ih=>
   intro hk
   cases i with
   |zero=>
    have hk2:Value.isInt k (.int k' t)=true:=hk
    obtain⟨t2,e2⟩:=Value.isInt_shape hk2
    injection e2 with e3
    rw[e3];rfl
   |succ i=>exact ih i (by simpa using hi) hk
 exact H i hi h hp
end
end Tab
set_option maxHeartbeats 4000000
namespace Tab
open PySem PySem.SetTable
section
variable {prog:Program} {w:World} {A:Around} {E:Value->Shared->Prop} {s:Shared}
end
end Tab
set_option maxHeartbeats 4000000
namespace Tab
open PySem PySem.SetTable
section
variable {prog:Program} {w:World} {A:Around} {E:Value->Shared->Prop} {s:Shared}
end
end Tab
set_option maxHeartbeats 4000000
namespace L2
open PySem PySem.Spec PyProof.Rows
variable [Cs]
section
variable {X:Cx}
end
end L2
namespace L3
open PySem PySem.Spec PyProof.Rows L2
variable [Cs]
section
variable {X:Cx} {XP:XPT} {mp:List Nat} {a b:Expr} {fa fb:EM FV}
end
end L3
namespace L2
open PySem PySem.Spec PyProof.Rows
section
variable {X:Cx} {e:Expr} {te:TE} {st:Expr} {ts:TO} {pos p2:Pos}
end
end L2
namespace L2
open PySem PySem.Spec PyProof.Rows
variable [Cs]
section
variable {X:Cx}
end
end L2
namespace L3
open PySem PySem.Spec PyProof.Rows L2
variable [Cs]
section
variable {X:Cx} {XP:XPT} {mp:List Nat} {a st:Expr} {p p2 pos:Pos} {fa fs:EM FV}
end
end L3
namespace L3
open PySem PySem.Spec PyProof.Rows L2
variable [Cs]
section
variable {M0:Addr->Prop} {F F':Fp} {Γ Γ':Gv} {ν ν':Nu} {H H':Hp}
end
section
variable {X:Cx} {XP:XPT} {mp io:List Nat} {a b c e tg iter:Expr} {es:List Expr} {pos p p2 pos':Pos} {fa fb fc:EM FV} {ta tb:EM Bool} {na nb:EM (List PyData)} {fo:EM OV} {st:Stmt} {sts body els:List Stmt} {f g:SM}
end
theorem ORL.snocO{M:Addr->Prop}{H:Hp}{v:V}{o:OV}{B:List Addr}(q:OR M H v o B):∀ {vs:List V}{os:List OV}{A:List Addr},ORL M H vs os A->ORL M H (vs++ [v]) (os++ [o]) (A++B)
 |_,_,_,.nil=>by simpa using ORL.cons q .nil
 |_,_,_,.cons r t=>by rw[ut];exact .cons r (ORL.snocO q t)
section
variable {M0:Addr->Prop} {F F':Fp} {Γ Γ':Gv} {ν ν':Nu} {H H':Hp}
theorem RS.join{i:Nat}{xs:List OV}{o:OV}{v:V}{a:Addr}{vs:List V}(r:RS M0 F (Γ++ [some o]) (ν++ [some v]) H)(e:Γ[i]?=some (some (.l xs)))(en:ν[i]?=some (some (.ref a)))(eh:H a=some (.lst vs)) :
  vs.length=xs.length/\∃ F',RS M0 F' (Γ.set i (some (.l (xs++ [o])))) ν (upd H a (.lst (vs++ [v])))/\Stp F H F' (upd H a (.lst (vs++ [v]))):=by
 have hl:ν.length=Γ.length:=by have:=r.len;simp at this;exact this
 have hi:=(xb.mp e).1
 obtain⟨a1,vs1,A,en1,eh1,qa,eF,nd⟩:=wB r (by rw[xc hi];exact e)
 rw[xc (by omega),en]at en1
 cases en1
 rw[eh]at eh1
 cases eh1
 refine⟨qa.length,?_⟩
 obtain⟨u,eu,qo⟩:=r.at' Γ.length o (by rw[xf (xi _)];simp)
 have euv:u=v:=by
  rw[xf (by omega),hl]at eu
  simpa using eu.symm
 subst euv
 have ha:a∈F i:=by rw[eF];exact xp
 have hne:∀ j,j≠i->∀ b∈F j,b≠a:=fun j hj b hb z=>by subst z;exact hj (r.dis _ _ _ hb ha)
 have hnA:∀ b∈A,b≠a:=fun b hb z=>by
  subst z
  have:=r.nd i
  rw[eF]at this
  exact (xD.mp this).1 hb
 let F':Fp:=fun j=>if j=i then F i++F Γ.length else if j<Γ.length then F j else []
 have hFi:F' i=F i++F Γ.length:=by show (if i=i then _ else _)=_;rw[if_pos rfl]
 have hFj:∀ j,j≠i->j<Γ.length->F' j=F j:=fun j h1 h2=>by show (if j=i then _ else _)=_;rw[if_neg h1,if_pos h2]
 have hFo:∀ j,j≠i->¬ j<Γ.length->F' j= []:=fun j h1 h2=>by show (if j=i then _ else _)=_;rw[if_neg h1,if_neg h2]
 have sub:∀ j b,b∈F' j->(j=i/\(b∈F i∨b∈F Γ.length))∨(j≠i/\j<Γ.length/\b∈F j):=fun j b h=>by
  by_cases h1:j=i
  ·subst h1;rw[hFi]at h;exact .inl ⟨rfl,xF.mp h⟩
  ·by_cases h2:j<Γ.length
   ·rw[hFj j h1 h2]at h;exact .inr ⟨h1,h2,h⟩
   ·rw[hFo j h1 h2]at h;cases h
 have s:Stp F H F' (upd H a (.lst (vs++ [u]))):=⟨fun b ob e nb=>⟨by
   rw[zf (fun z=>by subst z;exact nb i ha)];exact e,fun j h=>by
   rcases sub j b h with ⟨_,h | h⟩ | ⟨_,_,h⟩<;>exact nb _ h⟩,fun b xs e=>by
   rw[zf (fun z=>by subst z;rw[eh]at e;cases e)];exact e,fun b h=>by
   by_cases z:b=a
   ·subst z;rw[zh];exact fun z=>nomatch z
   ·rw[zf z];exact h⟩
 have hin:∀ b,b∈F Γ.length->b∉F i:=fun b h1 h2=>by have:=r.dis _ _ b h1 h2;omega
 refine⟨F',⟨fun b h=>s.stay b (r.al0 b h),fun j b h=>?_,fun j=>?_,fun j k b h1 h2=>?_,fun j p ep=>?_,fun j h=>?_,by simp[hl]⟩,s⟩
 ·rcases sub j b h with ⟨_,h | h⟩ | ⟨_,_,h⟩<;>exact r.dis0 _ b h
 ·by_cases h1:j=i
  ·subst h1;rw[hFi]
   exact uu.mpr ⟨r.nd _,r.nd _,fun x hx y hy z=>by subst z;exact hin _ hy hx⟩
  ·by_cases h2:j<Γ.length
   ·rw[hFj j h1 h2];exact r.nd _
   ·rw[hFo j h1 h2];exact .nil
 ·rcases sub j b h1 with ⟨e1,z1⟩ | ⟨n1,l1,z1⟩
  ·rcases sub k b h2 with ⟨e2,z2⟩ | ⟨n2,l2,z2⟩
   ·rw[e1,e2]
   ·rcases z1 with z1 | z1
    ·exact absurd (r.dis _ _ b z2 z1) n2
    ·have:=r.dis _ _ b z2 z1;omega
  ·rcases sub k b h2 with ⟨e2,z2⟩ | ⟨n2,l2,z2⟩
   ·rcases z2 with z2 | z2
    ·exact absurd (r.dis _ _ b z1 z2) n1
    ·have:=r.dis _ _ b z1 z2;omega
   ·exact r.dis _ _ b z1 z2
 ·by_cases hj:j=i
  ·subst hj
   rw[xh hi]at ep
   cases ep
   refine⟨.ref a,en,?_⟩
   rw[hFi,eF,xX]
   exact .l zh (ORL.snocO (qo.go (fun _ _ x=>zq s r.al0 x) s.tups fun b hb=>zf (hne _ (by omega) b hb)) (qa.go (fun _ _ x=>zq s r.al0 x) s.tups fun b hb=>zf (hnA b hb)))
  ·rw[xg (Ne.symm hj)]at ep
   have hjl:j<Γ.length:=(xb.mp ep).1
   obtain⟨w,e1,q⟩:=r.at' j p (by rw[xc hjl];exact ep)
   rw[xc (by omega)]at e1
   exact⟨w,e1,by rw[hFj j hj hjl];exact q.go (fun _ _ x=>zq s r.al0 x) s.tups fun b hb=>zf (hne j hj b hb)⟩
 ·by_cases hj:j=i
  ·subst hj;rw[xh hi]at h;exact absurd rfl (h _)
  ·by_cases h2:j<Γ.length
   ·rw[hFj j hj h2]
    refine r.emp j fun p ep=>h p ?_
    rw[xc h2]at ep
    rw[xg (Ne.symm hj)];exact ep
   ·exact hFo j hj h2
theorem RS.clear(r:RS M0 F Γ ν H)(j:Nat)(w:Option V):∃ F',RS M0 F' (Γ.set j none) (ν.set j w) H/\Stp F H F' H:=by
 have sub:∀ k b,b∈zz F j [] k->k≠j/\b∈F k:=fun k b h=>by
  by_cases hk:k=j
  ·subst hk;rw[zg]at h;cases h
  ·rw[zi hk]at h;exact⟨hk,h⟩
 have s:Stp F H (zz F j []) H:=ZE fun k b h=>⟨k,(sub k b h).2⟩
 refine⟨zz F j [],⟨r.al0,fun k b h=>r.dis0 k b (sub k b h).2,fun k=>?_,fun k l b h1 h2=>r.dis k l b (sub k b h1).2 (sub l b h2).2,fun k o e=>?_,fun k h=>?_,by simp[r.len]⟩,s⟩
 ·by_cases hk:k=j
  ·subst hk;rw[zg];exact .nil
  ·rw[zi hk];exact r.nd k
 ·have hk:k≠j:=fun z=>by
   subst z
   have hl:=(xb.mp e).1
   rw[xh (by simpa using hl)]at e;cases e
  rw[xg (Ne.symm hk)]at e |-
  obtain⟨v,e1,q⟩:=r.at' k o e
  exact⟨v,e1,by rw[zi hk];exact q.go (fun _ _ x=>zq s r.al0 x) s.tups fun _ _=>rfl⟩
 ·by_cases hk:k=j
  ·subst hk;exact zg
  ·rw[zi hk]
   refine r.emp k fun o e=>h o ?_
   rw[xg (Ne.symm hk)];exact e
end
section
variable {M0:Addr->Prop} {F F':Fp} {Γ Γ':Gv} {ν ν':Nu} {H H':Hp}
end
end L3
namespace L3
open PySem PySem.Spec PyProof.Rows L2
variable [Cs]
section
variable {X:Cx} {XP:XPT} {mp io:List Nat} {a b c e tg iter:Expr} {es:List Expr} {pos p p2 pos' p3:Pos} {fa fb fc:EM FV} {ta tb:EM Bool} {na nb:EM (List PyData)} {fo:EM OV} {st:Stmt} {sts body els:List Stmt} {f g:SM}
end
section
variable {X:Cx} {XP:XPT} {mp io:List Nat} {a b c e tg iter:Expr} {es:List Expr} {pos p p2 pos' p3 py pc pf:Pos} {fa fb fc:EM FV} {ta tb:EM Bool} {na nb:EM (List PyData)} {fo:EM OV} {st:Stmt} {sts body els:List Stmt} {f g:SM}
end
end L3
namespace L3
open PySem PySem.Spec PyProof.Rows L2
variable [Cs]
noncomputable def zU(x:Str):SM:=fun Γ=>.exc ⟨x,.none⟩ Γ
noncomputable def zfU(X:Cx)(XP:XPT):Prop:=∀ (x:Exc) (Γ:Gv) (F:Fp) (ν:Nu) (σ:St) (H:Hp),XP x Γ F ν σ H->∀ C,X.mg x.cls=some (.ref C)->∀ pins s,Inv X pins σ H s->∀ h' ea args,Heap.MadeExcOf s.heap h' ea (.ref C) args->X.xe (.ref ea) { s with heap:=h' }
section
variable {X:Cx} {XP:XPT} {mp io:List Nat} {x:Str} {C:Addr} {np cpos pos cp:Pos} {z:Str} {cj:Nat}
theorem za6(k:YQ X x C)(hcalm:X.calm=true)(rz:zfU X XP):SS X XP mp io (.Raise (some (.Call (.Name x np) [.Constant (.str z) cj cp] [] cpos)) none pos) (zU x):=fun M0 F Γ ν σ H D rs hs hl hp=>
 zbE k hcalm fun pins s I h' ea args hm=>rz ⟨x,.none⟩ Γ F ν σ H (hp F ν σ H rs (.refl _ _) hs hl fun _ _=>rfl) C k.mg pins s I h' ea args hm
end
theorem HC.rep{M:Addr->Prop}{H:Hp}(v:HC):Rep M H v.V v.D:=by
 cases v with
 |s z=>exact .str z
 |b c=>exact .bool c
noncomputable def ZJ(c:Str):List (Str×Nat×Nat×HC)->Option (Nat×Nat×HC)
 |[]=>none
 | (x,t,j,v)::r=>if x=c then some (t,j,v) else ZJ c r
structure HdN(X:Cx)(L:Str->Addr->Prop)(mp:List Nat)(hd:ExceptHandler)(x:Str)(C:Addr)(t j:Nat)(v:HC):Prop where
 k:HdK X hd C t v
 e:YQ X x C
 l:L x C
 m:mp[t]?=some j
inductive HdNs(X:Cx)(L:Str->Addr->Prop)(mp:List Nat):List ExceptHandler->List (Str×Nat×Nat×HC)->List (Addr×Nat×HC)->Prop
 |nil:HdNs X L mp [] [] []
 |cons {hd:ExceptHandler} {hs:List ExceptHandler} {x:Str} {C:Addr} {t j:Nat} {v:HC} {ns:List (Str×Nat×Nat×HC)} {zs:List (Addr×Nat×HC)}:HdN X L mp hd x C t j v->HdNs X L mp hs ns zs->HdNs X L mp (hd::hs) ((x,t,j,v)::ns) ((C,t,v)::zs)
theorem HdNs.ks{X:Cx}{L:Str->Addr->Prop}{mp:List Nat}:∀ {hs:List ExceptHandler}{ns:List (Str×Nat×Nat×HC)}{zs:List (Addr×Nat×HC)},HdNs X L mp hs ns zs->yc X hs zs
 |_,_,_,.nil=>.nil
 |_,_,_,.cons h t=>.cons h.k t.ks
theorem HdNs.found{X:Cx}{L:Str->Addr->Prop}{mp:List Nat}{c:Str}{t j:Nat}{v:HC}:∀ {hs:List ExceptHandler}{ns:List (Str×Nat×Nat×HC)}{zs:List (Addr×Nat×HC)},HdNs X L mp hs ns zs->ZJ c ns=some (t,j,v)->∃ C,YQ X c C/\L c C/\mp[t]?=some j
 |_,_,_,.nil,e=>by cases e
 |_,_,_,.cons (x:=x) (C:=C) h r,e=>by
  unfold ZJ at e
  split at e
  ·rename_i q
   subst q
   cases e
   exact⟨C,h.e,h.l,h.m⟩
  ·exact r.found e
theorem HdNs.pick{X:Cx}{L:Str->Addr->Prop}{mp:List Nat}(mr:∀ x C y C2,L x C->L y C2->(mroIn X.K C).contains (.ref C2)=decide (x=y)){c:Str}{C:Addr}(hc:L c C){t j:Nat}{v:HC} :
  ∀ {hs:List ExceptHandler} {ns:List (Str×Nat×Nat×HC)} {zs:List (Addr×Nat×HC)},HdNs X L mp hs ns zs->ZJ c ns=some (t,j,v)->wD X.K C zs=some (t,v)
 |_,_,_,.nil,e=>by cases e
 |_,_,_,.cons (x:=x) (C:=C2) h r,e=>by
  unfold ZJ at e
  unfold wD
  rw[mr c C x C2 hc h.l]
  split at e
  ·rename_i q
   subst q
   cases e
   rw[if_pos (by simp)]
  ·rename_i q
   rw[if_neg (by simpa using fun z=>q z.symm)]
   exact r.pick mr hc e
theorem HdNs.lt{X:Cx}{L:Str->Addr->Prop}{mp:List Nat}{c:Str}{t j:Nat}{v:HC}:∀ {hs:List ExceptHandler}{ns:List (Str×Nat×Nat×HC)}{zs:List (Addr×Nat×HC)},HdNs X L mp hs ns zs->ZJ c ns=some (t,j,v)->t<X.N.length
 |_,_,_,.nil,e=>by cases e
 |_,_,_,.cons h r,e=>by
  unfold ZJ at e
  split at e
  ·cases e
   obtain⟨_,_,_,_,_,_,_,_,_,_,q,_⟩:=h.k.ex
   exact (xb.mp q).1
  ·exact r.lt e
noncomputable def zaJ(io:List Nat)(b:SM)(hs:List (Str×Nat×Nat×HC)):SM:=fun Γ=>match b Γ with
 |.exc x Γ1=>match ZJ x.cls hs with
  |some (_,j,v)=>if j<Γ1.length/\j∉io then .ok (.next,Γ1.set j (some (.d v.D))) else .bad
  |none=>.bad
 |r=>r
noncomputable def XPt (X:Cx) (zs:List (Addr×Nat×HC)) (D:qF):XPT:=fun x _ _ _ σ H=>∃ C t v,X.mg x.cls=some (.ref C)/\PySem.W.excIn X.K C bmV "ValueError.__new__" =true/\wD X.K C zs=some (t,v)/\D.nx (σ.set t (some v.V)) H
section
variable {X:Cx} {XP:XPT} {mp io:List Nat} {L:Str->Addr->Prop} {hs:List ExceptHandler} {ns:List (Str×Nat×Nat×HC)} {zs:List (Addr×Nat×HC)} {f:SM} {body:List Stmt} {hd:ExceptHandler} {pos:Pos}
theorem zeW(hst:X.stack=X.env::X.outer)(hfr:X.env.frame=some X.env.locals)(hN:X.N.Nodup)(hh:yc X hs zs)(pins:List (Addr×Obj))(D:qF):PxOk (X.tried pins (zbg X pins D hs)) (XPt X zs D):=fun σ pins' H e s x Γ F ν C h1 ⟨C',t,v,h2,h3,h4,h5⟩ u=>by
 have h1':X.mg x.cls=some (.ref C):=h1
 rw[h2]at h1'
 cases h1'
 obtain⟨ea,a0,fl,B,rfl,al,inv⟩:=u
 have I:=inv s.heap al.1 (.refl _)
 have ok:X.Ok:=⟨I.ok.mod,I.ok.kind,I.ok.glob,I.ok.blt,I.ok.above,I.ok.inj,I.ok.has,I.ok.cab,I.ok.hd,I.ok.frames,I.ok.stk,I.ok.exf,I.ok.bs,I.ok.bsz,I.ok.noex,I.ok.exfs,I.ok.funs,I.ok.frf⟩
 exact zd8 (X:=X) (pins:=pins) ⟨ea,a0,fl,B,rfl,al,fun h6 k1 k2=>(inv h6 k1 k2).untried ok⟩ ok hst hfr hN hh h3 h4 h5
theorem zfv (hn:mp.Nodup) (hh:HdNs X L mp (hd::hs) ns zs) (mr:∀ x C y C2,L x C->L y C2->(mroIn X.K C).contains (.ref C2)=decide (x=y)) (exL:∀ x C,L x C->X.mg x=some (.ref C)/\PySem.W.excIn X.K C bmV "ValueError.__new__" =true)
  (hb:∀ pins D,SB (X.tried pins (zbg X pins D (hd::hs))) (XPt X zs D) mp io body f):SS X XP mp io (.Try body (hd::hs) [] [] pos) (zaJ io f ns):=fun M0 F Γ ν σ H D rs hs0 hsl hp=>by
 refine zfP fun pins=>hb pins D M0 F Γ ν σ H D rs hs0 hsl ?_
 unfold zaJ at hp
 generalize f Γ=r at hp
 cases r with
 |bad=>exact hp
 |ok z=>
  obtain⟨fl,Γ'⟩:=z
  cases fl<;>exact hp
 |exc x Γ1=>
  dsimp only at hp
  intro F' ν' σ' H' rs' s' hs' hl' hio
  split at hp
  ·rename_i t j v ep
   split at hp
   ·rename_i hj
    obtain⟨C,k,hcL,hmj⟩:=hh.found ep
    refine⟨C,t,v,(exL _ _ hcL).1,(exL _ _ hcL).2,hh.pick mr hcL ep,?_⟩
    obtain⟨F2,rs2,s2⟩:=rs'.setD (i:=j) (d:=v.D) (v:=v.V) (HC.rep v) hj.1
    have hl'':σ'.length=X.N.length:=hl'
    refine hp F2 _ _ H' rs2 (s'.trans s2) (hs'.set hn hmj (by rw[hl''];exact hh.lt ep)) (by rw[xH];exact hl') fun l hl2=>?_
    rw[xg (fun z=>hj.2 (by rw[z];exact hl2))]
    exact hio l hl2
   ·exact hp.elim
  ·exact hp.elim
end
end L3
namespace Tab
open PySem PySem.Spec PyProof.Rows
section
variable {prog:Program} {w:World} {A:Around} {E:Value->Shared->Prop} {s:Shared}
end
end Tab
namespace L2
open PySem PySem.Spec PyProof.Rows
variable [Cs]
section
variable {X:Cx}
end
end L2
namespace L3
open PySem PySem.Spec PyProof.Rows L2
variable [Cs]
section
variable {X:Cx} {XP:XPT} {mp:List Nat} {a b:Expr} {p1 p2 q1 q2:Pos} {fa fb:EM FV}
theorem ZG{M:Addr->Prop}{H:Hp}:∀ {vs:List V}{ds:List PyData}{ns:List Int},RepL M H vs ds->vy ds=some ns->vs=ns.map V.int
 |_,_,_,.nil,e=>by cases e;rfl
 |_,_,_,.cons (ds:=ds) (d:=d) r t,e=>by
  cases d with
  |int i=>
   unfold vy at e
   cases q:vy ds with
   |none=>rw[q]at e;cases e
   |some ms=>
    rw[q]at e
    cases e
    cases r
    rw[xq,ZG t q]
  |_=>cases e
end
end L3
namespace L2
open PySem PySem.Spec PyProof.Rows
variable [Cs]
section
variable {X:Cx}
end
end L2
namespace L3
open PySem PySem.Spec PyProof.Rows L2
variable [Cs]
section
variable {X:Cx} {XP:XPT} {mp io:List Nat} {a e:Expr} {p p1 p2 q1 q2 pos px py ps:Pos} {fa:EM FV}
theorem Sees.again{ν:Nu}{σ:St}{s i:Nat}{v:V}(h:Sees mp ν σ)(hm:mp[s]?=some i)(hv:ν[i]?=some (some v))(hs:s<σ.length):Sees mp ν (σ.set s (some v)):=fun s' j w e1 e2=>by
 by_cases hj:s=s'
 ·subst hj
  rw[hm]at e1
  cases e1
  rw[hv]at e2
  cases e2
  rw[xh hs]
 ·rw[xg hj];exact h s' j w e1 e2
noncomputable def WR(io:List Nat)(i j:Nat)(fa:EM FV):SM:=fun Γ=>(fa Γ).bind fun (u,Γ1)=>match derS Γ1 u with
 |some (.list (d::ds))=>if i<Γ1.length/\j<Γ1.length/\i∉io/\j∉io then .ok (.next,(Γ1.set i (some (.d d))).set j (some (.d (.list ds)))) else .bad
 |some (.tuple (d::ds))=>if i<Γ1.length/\j<Γ1.length/\i∉io/\j∉io then .ok (.next,(Γ1.set i (some (.d d))).set j (some (.d (.list ds)))) else .bad
 |_=>.bad
theorem zc7{s i t j:Nat}{x y:Str}{k:Nat}(hc:X.calm=true)(hN:X.N.Nodup)(hn:mp.Nodup)(hi:X.N[s]?=some x)(hx:Loc X.env.scope x)(hfx:X.fn x=true∨X.env.scope.names.lookup x=some .local)(hm:mp[s]?=some i)(hj:X.N[t]?=some y)(hy:Loc X.env.scope y)(hfy:X.fn y=true∨X.env.scope.names.lookup y=some .local)(hmt:mp[t]?=some j)
  (ha:SE X XP mp a fa) (hsw:swapsWithSole [.Tuple [.Name x px,.Starred (.Name y py) ps] k p] a pos.line X.env=pure false) (hw:swappedStores [.Tuple [.Name x px,.Starred (.Name y py) ps] k p] a X.env=pure none) :
  SS X XP mp io (.Assign [.Tuple [.Name x px,.Starred (.Name y py) ps] k p] a pos) (WR io i j fa):=fun M0 F Γ ν σ H D rs hs hl hp=>by
 have hsl:s<X.N.length:=(xb.mp hi).1
 have htl:t<X.N.length:=(xb.mp hj).1
 refine (yG zd (zcs hc hN hi hx hfx hj hy hfy) hsw hw).wp (ha M0 F Γ ν σ H _ rs hs ((SPost.seq hs hl hp).mono fun F1 Γ1 H1 u rs1 s1 h1 v hv=>?_))
 have go:∀ (d:PyData) (ds:List PyData) (l:Addr) (zs:List V),(SqL X.K H1 l zs∨SqT X.K H1 l zs)->v=.ref l->RepL (MM M0 F1) H1 zs (d::ds)->SPost M0 F1 ν H1 XP mp X.N.length io D (if i<Γ1.length/\j<Γ1.length/\i∉io/\j∉io then R.ok (FL.next,(Γ1.set i (some (.d d))).set j (some (.d (.list ds)))) else .bad)->zdz X.K s t v σ H1 fun σ' H'=>D.nx σ' H':=fun d ds l zs hq hv r h1=>by
  subst hv
  split at h1
  ·rename_i hh
   obtain⟨k1,k2,k3,k4⟩:=hh
   cases r with
   |cons r1 r2=>
    rename_i w ws
    refine⟨l,w,ws,rfl,hq,fun q hq=>?_⟩
    have sm:Same H1 (upd H1 q (.lst ws)):=zu hq
    obtain⟨F2,rs2,s2⟩:=(rs1.same sm).setD (i:=i) (r1.grow sm.grow) k1
    have hnm:¬ MM M0 F1 q:=fun z=>rs1.al q z hq
    have rl:Rep (MM M0 F1) (upd H1 q (.lst ws)) (.ref q) (.list ds):=Rep.list zh hnm (r2.grow sm.grow)
    obtain⟨F3,rs3,s3⟩:=rs2.setD (i:=j) (zq s2 (rs1.same sm).al0 rl) (by simpa using k2)
    refine h1 F3 _ _ _ rs3 (((Stp.same sm).trans s2).trans s3) ((hs.set hn hm (by rw[hl];exact hsl)).set hn hmt (by rw[xH,hl];exact htl)) (by simpa using hl) fun z hz=>?_
    rw[xg (fun e=>k4 (by rw[e];exact hz)),xg (fun e=>k3 (by rw[e];exact hz))]
  ·exact h1.elim
 dsimp only at h1
 split at h1
 ·rename_i d ds ed
  obtain⟨l,zs,e,el,_,r⟩:=(hv.strong rs1 ed).lst_inv
  exact go d ds l zs (.inl (SqL.of el)) e r h1
 ·rename_i d ds ed
  obtain⟨l,zs,e,el,r⟩:=(hv.strong rs1 ed).tup_inv
  exact go d ds l zs (.inr (SqT.of el)) e r h1
 ·exact h1.elim
end
end L3
namespace L2
open PySem PySem.Spec PyProof.Rows
variable [Cs]
section
variable {X:Cx}
theorem zcn:OpR X (binaryOp .Add) (fun x y H Q=>∃ a b,x=.str a/\y=.str b/\a.length+b.length<=sizeLine/\Q (.str (a++b)) H):=by
 intro pins s σ H x y v u Q I rx ry h
 obtain⟨a,b,rfl,rfl,hz,q⟩:=h
 obtain⟨t,rfl⟩:=rx
 obtain⟨t2,rfl⟩:=ry
 exact PyProof.Rows.add_str (fun t' tk=>⟨.str (a++b),H,I.tok tk,⟨t',rfl⟩,q⟩) hz
theorem zeJ:OpR X (compareOp .In) (fun x y H Q=>∃ a b,x=.str a/\y=.str b/\Q (.bl (Txt.contains b a)) H):=by
 intro pins s σ H x y v u Q I rx ry h
 obtain⟨a,b,rfl,rfl,q⟩:=h
 obtain⟨t,rfl⟩:=rx
 obtain⟨t2,rfl⟩:=ry
 exact SB.contains ⟨.bl _,H,I,rfl,q⟩
theorem vh:qL X (.builtin "len") (fun xs H Q=>∃ a,xs= [.str a]/\a.length<=sizeLine/\Q (.int a.length) H):=by
 intro pins s σ H xs us Q I r h
 obtain⟨a,rfl,hz,q⟩:=h
 obtain⟨u,rfl,t,rfl⟩:=jf r
 have:=sizeLine_eq
 exact PyProof.Rows.len_str (by omega) ⟨.int a.length,H,I.tok _,⟨_,rfl⟩,q⟩
theorem Ww:qL X (.type "str") (fun xs H Q=>(∃ a,xs= [.str a]/\Q (.str a) H)∨∃ i:Int,xs= [.int i]/\i.natAbs.log2<1920/\Q (.str (toString i)) H):=by
 intro pins s σ H xs us Q I r h
 rcases h with ⟨a,rfl,q⟩ | ⟨i,rfl,hi,q⟩
 ·obtain⟨u,rfl,t,rfl⟩:=jf r
  exact PySem.P.str_of_str ⟨.str a,H,I,⟨_,rfl⟩,q⟩
 ·obtain⟨u,rfl,t,rfl⟩:=jf r
  exact PySem.P.str_of_int hi ⟨.str (toString i),H,I.tok _,⟨_,rfl⟩,q⟩
theorem wO:∀ {xs:List V}{us:List Value}{ys:List Str},Vals xs us->xs=ys.map .str->StrsAre us ys
 |_,_,[],.nil,_=>.nil
 |_,_,_::_,.nil,e=>by cases e
 |_,_,[],.cons _ _,e=>by cases e
 |_,_,y::ys,.cons r t,e=>by
  rw[xq,List.cons.injEq]at e
  obtain⟨e1,e2⟩:=e
  subst e1
  obtain⟨tk,rfl⟩:=r
  exact .cons y tk (wO t e2)
theorem zcg:MtR X "str.join" (fun x xs H Q=>∃ (a:Str) (p:Addr) (ys:List Str),x=.str a/\xs= [.ref p]/\(SqL X.K H p (ys.map .str)∨SqT X.K H p (ys.map .str))/\a.length<=16/\(ys.map (·.length)).sum+ys.length<=1048576/\Q (.str (Txt.join a ys)) H):=by
 intro pins s σ H x xs v us Q I rx r h
 obtain⟨a,p,ys,rfl,rfl,hq,h16,hw,q⟩:=h
 obtain⟨t,rfl⟩:=rx
 obtain⟨u,rfl,ru⟩:=jf r
 cases ru
 rcases hq with hq | hq
 ·obtain⟨its,r2,pl,hz⟩:=I.list hq
  exact join_listW pl.isList (by simpa using wO r2 rfl) h16 hw fun t' k=>⟨.str _,H,I.tok k,⟨t',rfl⟩,q⟩
 ·obtain⟨its,r2,pl,hz⟩:=I.tuple hq
  exact join_tupleW pl (by simpa using wO r2 rfl) h16 hw fun t' k=>⟨.str _,H,I.tok k,⟨t',rfl⟩,q⟩
end
end L2
namespace L3
open PySem PySem.Spec PyProof.Rows L2
variable [Cs]
section
variable {X:Cx} {XP:XPT} {mp:List Nat} {a b c e:Expr} {es:List Expr} {pos p p2:Pos} {fa fb fc:EM FV}
noncomputable def jS:PyData->PyData->Option PyData
 |.str x,.str y=>if x.length+y.length<=1000000 then some (.str (x++y)) else none
 |_,_=>none
theorem zcD:OpS X (binaryOp .Add) jS:=fun x y z e=>by
 unfold jS at e
 split at e
 ·split at e
  ·rename_i h
   cases e
   exact⟨_,zcn,fun M H v u Q _ r1 r2 k=>by
    cases r1;cases r2
    exact⟨_,_,rfl,rfl,sz6 h,k _ H (Same.refl H) (.str _)⟩⟩
  ·cases e
 ·cases e
noncomputable def yw:PyData->PyData->Option Bool
 |.str x,.str y=>some (Txt.contains y x)
 |_,_=>none
theorem za0:W4 X .In yw:=fun x y z e=>by
 unfold yw at e
 split at e
 ·cases e
  exact⟨_,zeJ,fun H v u Q r1 r2 k=>by
   cases r1;cases r2
   exact⟨_,_,rfl,rfl,k⟩⟩
 ·cases e
noncomputable def zN:PyData->Option PyData
 |.str x=>if x.length<=1000000 then some (.int x.length) else none
 |_=>none
theorem zb3:ZI X (.builtin "len") zN:=fun x z e=>by
 unfold zN at e
 split at e
 ·split at e
  ·rename_i h
   cases e
   exact⟨rfl,_,vh,fun H v Q r k=>by cases r;exact⟨_,rfl,sz6 h,k _ (.int _)⟩⟩
  ·cases e
 ·cases e
noncomputable def yx:PyData->Option PyData
 |.str x=>some (.str x)
 |.int i=>if i.natAbs.log2<1920 then some (.str (toString i)) else none
 |_=>none
theorem zed:ZI X (.type "str") yx:=fun x z e=>by
 unfold yx at e
 split at e
 ·cases e
  exact⟨rfl,_,Ww,fun H v Q r k=>by cases r;exact .inl ⟨_,rfl,k _ (.str _)⟩⟩
 ·split at e
  ·rename_i h
   cases e
   exact⟨rfl,_,Ww,fun H v Q r k=>by cases r;exact .inr ⟨_,rfl,h,k _ (.str _)⟩⟩
  ·cases e
 ·cases e
noncomputable def Vo(fa fb:EM FV):EM FV:=fun Γ=>(fa Γ).bind fun (u,Γ1)=>(fb Γ1).bind fun (w,Γ2)=>match derf Γ2 u,derf Γ2 w with
 |some (.str x),some (.int i)=>if x.length<=1000000 then match atI x.cps.toList i with
  |some c=>.ok (.dat (.str ⟨#[c]⟩),Γ2)
  |none=>.bad
  else .bad
 |_,_=>.bad
theorem ze7(ha:SE X XP mp a fa)(hb:SE X XP mp b fb)(hx:J2 b):SE X XP mp (.Subscript a b pos) (Vo fa fb):=fun M0 F Γ ν σ H Q rs hs hp=>
 (VI zeq zd zd hx).wp (ha.run rs hs hp fun F1 Γ1 H1 u v rs1 s1 o1 h1=>hb.run rs1 hs h1 fun F2 Γ2 H2 w v2 rs2 s2 o2 h2=>by
  dsimp only at h2
  split at h2
  ·rename_i x i e1 e2
   split at h2
   ·rename_i hz
    split at h2
    ·rename_i cc ec
     have r1:=(o1.stp s2 rs1.al0).weak rs2 e1
     have r2:=o2.weak rs2 e2
     cases r1;cases r2
     exact⟨_,_,cc,rfl,rfl,sz6 hz,ec,h2 F2 H2 rs2 (.refl _ _) _ (Rep.str _)⟩
    ·exact h2.elim
   ·exact h2.elim
  ·exact h2.elim)
noncomputable def Zb:List PyData->Option (List Str)
 |[]=>some []
 |.str x::r=>(Zb r).map (x::·)
 |_=>none
theorem wN(xs:List Str):Zb (xs.map .str)=some xs:=by
 induction xs with
 |nil=>rfl
 |cons b r ih=>simp[Zb,ih]
theorem JL:∀ {ds:List PyData}{xs:List Str},Zb ds=some xs->ds=xs.map .str
 |[],xs,e=>by cases e;rfl
 |.str b::r,xs,e=>by
  unfold Zb at e
  cases q:Zb r with
  |none=>rw[q]at e;cases e
  |some l=>rw[q]at e;cases e;rw[JL q];rfl
 |.none::r,xs,e=>by cases e
 |.bool _::r,xs,e=>by cases e
 |.int _::r,xs,e=>by cases e
 |.list _::r,xs,e=>by cases e
 |.tuple _::r,xs,e=>by cases e
 |.dict _::r,xs,e=>by cases e
theorem JJ{M:Addr->Prop}{H:Hp}:∀ {vs:List V}{xs:List Str},RepL M H vs (xs.map .str)->vs=xs.map .str
 |_,[],.nil=>rfl
 |_,x::xs,.cons r t=>by
  cases r
  rw[JJ t];rfl
noncomputable def Qf(z:Str)(x:PyData):Option PyData:=match (match x with | .list ds=>Zb ds | .tuple ds=>Zb ds | _=>none) with
 |some ys=>if (ys.map (·.length)).sum+ys.length<=1000000/\z.length<=16 then some (.str (Txt.join z ys)) else none
 |none=>none
theorem zcN {z:Str}{j:Nat}{p1:Pos}{name:Str}(en:name= "join") (ha:SE X XP mp a fa) (hst:starEach [a] X.env= [(false,eval a X.env)]) (hl:(p2.endLine==pos.line)=true) :
  SE X XP mp (.Call (.Attribute (.Constant (.str z) j p1) name p2) [a] [] pos) (f1 (Qf z) fa):=fun M0 F Γ ν σ H Q rs hs hp=>by
 subst en
 have hfew:((backTo pos (starEach [a] X.env)).all (fun x=> !x.1)&&(backToKw pos (keywordEach [] X.env)).all (fun x=>x.1.isSome)&&decide ([a].length+([]:List Keyword).length+(if ([]:List Keyword).isEmpty then 0 else 1)<30))=true:=by rw[hst];rfl
 refine (WP PySem.F.plainAttrs_str PySem.F.slot_str_join PySem.F.type_str_join zcg pe_str (zp zd pa_nil hst) rfl hfew hl hst rfl).wp ⟨rfl,?_⟩
 refine ha.run rs hs hp fun F1 Γ1 H1 u v rs1 s1 o1 h1=>?_
 dsimp only at h1
 split at h1
 ·rename_i y ey
  cases ex:derf Γ1 u with
  |none=>rw[ex]at ey;cases ey
  |some x=>
   rw[ex]at ey
   have ey:Qf z x=some y:=ey
   unfold Qf at ey
   split at ey
   ·rename_i ys es
    split at ey
    ·rename_i hh
     cases ey
     have r:=o1.weak rs1 ex
     cases x with
     |list ds=>
      obtain⟨l,vs,rfl,el,_,rl⟩:=r.lst_inv
      rw[JL es]at rl
      have:=JJ rl
      subst this
      exact⟨z,l,ys,rfl,rfl,.inl (SqL.of el),hh.2,by omega,h1 F1 H1 rs1 (.refl _ _) _ (Rep.str _)⟩
     |tuple ds=>
      obtain⟨l,vs,rfl,el,rl⟩:=r.tup_inv
      rw[JL es]at rl
      have:=JJ rl
      subst this
      exact⟨z,l,ys,rfl,rfl,.inr (SqT.of el),hh.2,by omega,h1 F1 H1 rs1 (.refl _ _) _ (Rep.str _)⟩
     |_=>cases es
    ·cases ey
   ·cases ey
 ·exact h1.elim
noncomputable def jR:PyData->Option Str
 |.str x=>if x.length<=10000 then some x else none
 |.int i=>if i.natAbs.log2<1920/\(Str.ofString (toString i)).length<=10000 then some (toString i) else none
 |_=>none
noncomputable def JX:List Str->Str
 |[]=>Str.empty
 |x::r=>x++JX r
theorem ZY(x y z:Str):x++y++z=x++(y++z):=by
 show Str.append (Str.append x y) z=Str.append x (Str.append y z)
 simp[Str.append,Array.append_assoc]
theorem yL(x:Str):x++Str.empty=x:=by
 show Str.append x Str.empty=x
 cases x;simp[Str.append,Str.empty]
theorem yM(x:Str):Str.empty++x=x:=by
 show Str.append Str.empty x=x
 cases x;simp[Str.append,Str.empty]
theorem j7(x y:Str):(x++y).length=x.length+y.length:=by
 show (Str.append x y).length=_
 simp[Str.append,Str.length]
noncomputable def yt:EM (List Str):=fun Γ=>.ok ([],Γ)
noncomputable def wg(fa:EM FV)(fl:EM (List Str)):EM (List Str):=fun Γ=>(fa Γ).bind fun (u,Γ1)=>match (derf Γ1 u).bind jR with
 |some y=>(fl Γ1).bind fun (ys,Γ2)=>.ok (y::ys,Γ2)
 |none=>.bad
noncomputable def Vl(fl:EM (List Str)):EM FV:=fun Γ=>(fl Γ).bind fun (ys,Γ1)=>.ok (.dat (.str (JX ys)),Γ1)
noncomputable def SJ(X:Cx)(XP:XPT)(mp:List Nat)(es:List Expr)(f:EM (List Str)):Prop:=∀ (M0:Addr->Prop) (F:Fp) (Γ:Gv) (ν:Nu) (σ:St) (H:Hp) (acc:Str) (Q:Str->Hp->Prop),RS M0 F Γ ν H->Sees mp ν σ->acc.length+10000*es.length<=10000000 ->
 EPost M0 F ν σ H XP (fun F' Γ' H' ys=>Q (acc++JX ys) H') (f Γ)->∀ pins s,Inv X pins σ H s->Joins (model X.prog X.w) X.A X.xe (evalEach es X.env) acc (fun out s1=>out.length<=sizeLine/\∃ H',Inv X pins σ H' s1/\Q out H') s
theorem zfi:SJ X XP mp [] yt:=fun M0 F Γ ν σ H acc Q rs hs hz hp pins s I=>by
 have:=hp F H rs (.refl _ _)
 unfold JX at this
 rw[yL]at this
 exact⟨by have:=sizeLine_eq;omega,H,I,this⟩
theorem Yl{x:PyData}{y:Str}(e:jR x=some y):y.length<=10000:=by
 unfold jR at e
 split at e
 ·split at e
  ·rename_i h;cases e;exact h
  ·cases e
 ·split at e
  ·rename_i h;cases e;exact h.2
  ·cases e
 ·cases e
theorem zfh{fl:EM (List Str)}{z:Str}{j:Nat}(hz:z.length<=10000)(hl:SJ X XP mp es fl):SJ X XP mp (.Constant (.str z) j p::es) (wg (fC (.str z)) fl):=fun M0 F Γ ν σ H acc Q rs hs hb hp pins s I=>by
 rw[xo]at hb
 have hb1:=sizeLine_eq
 have hg:jR (.str z)=some z:=by simp[jR,hz]
 have hp':EPost M0 F ν σ H XP (fun F' Γ' H' ys=>Q (acc++JX ys) H') ((fl Γ).bind fun (ys,Γ2)=>.ok (z::ys,Γ2)):=by
  have e:wg (fC (.str z)) fl Γ=((fl Γ).bind fun (ys,Γ2)=>.ok (z::ys,Γ2)):=by
   unfold wg fC
   show (match (some (PyData.str z)).bind jR with | some y=>(fl Γ).bind fun (ys,Γ2)=>R.ok (y::ys,Γ2) | none=>.bad)=_
   have:(some (PyData.str z)).bind jR=some z:=hg
   rw[this]
  rw[<- e];exact hp
 show wpAny _ _ (eval (.Constant (.str z) j p) X.env) _ _ s
 refine thn (pe_str (X:=X) (j:=j) (pos:=p) pins s σ H (fun v H'=>v=.str z/\H'=H) I ⟨rfl,rfl⟩) fun v s1 ⟨x,H1,I1,r1,e1,e2⟩=>?_
 subst e1 e2
 obtain⟨t,rfl⟩:=r1
 refine⟨z,t,rfl,by rw[j7];omega,?_⟩
 refine hl M0 F Γ ν σ H1 (acc++z) Q rs hs (by rw[j7];omega) ?_ pins s1 I1
 cases q:fl Γ with
 |ok w=>
  obtain⟨ys,Γ2⟩:=w
  rw[q]at hp'
  exact fun F' H' rs' s'=>by have:=hp' F' H' rs' s';show Q (acc++z++JX ys) H';rw[ZY];exact this
 |exc x y=>rw[q]at hp';exact hp'
 |bad=>rw[q]at hp';exact hp'
theorem zfj{fl:EM (List Str)}(ha:SE X XP mp a fa)(hl:SJ X XP mp es fl):SJ X XP mp (.FormattedValue a (-1) none p::es) (wg fa fl):=fun M0 F Γ ν σ H acc Q rs hs hb hp pins s I=>by
 rw[xo]at hb
 have hb1:=sizeLine_eq
 show wpAny _ _ (eval (.FormattedValue a (-1) none p) X.env) _ _ s
 refine wpAny_FormattedValue_plain ?_
 have key:wpE X a σ H fun v H1=>∃ F1 Γ1 x y,RS M0 F1 Γ1 ν H1/\Stp F H F1 H1/\Rep zt H1 v x/\jR x=some y/\EPost M0 F1 ν σ H1 XP (fun F' Γ' H' ys=>Q (acc++JX ys) H') ((fl Γ1).bind fun (ys,Γ2)=>.ok (y::ys,Γ2)):=by
  refine ha.run rs hs hp fun F1 Γ1 H1 u v rs1 s1 o1 h1=>?_
  dsimp only at h1
  split at h1
  ·rename_i y ey
   cases ex:derf Γ1 u with
   |none=>rw[ex]at ey;cases ey
   |some x=>
    rw[ex]at ey
    exact⟨F1,Γ1,x,y,rs1,s1,o1.weak rs1 ex,ey,h1⟩
  ·exact h1.elim
 refine thn (key pins s I) fun r s1 ⟨v,H1,I1,r1,F1,Γ1,x,y,rs1,s1',rx,ey,h1⟩=>?_
 have go:∀ t (k:Nat),∃ y0 t0,(Value.str y t:Value)=.str y0 t0/\(acc++y0).length<=sizeLine/\Joins (model X.prog X.w) X.A X.xe (evalEach es X.env) (acc++y0) (fun out s2=>out.length<=sizeLine/\∃ H',Inv X pins σ H' s2/\Q out H') { s1 with toks:=k }:=fun t k=>by
  have hy:=Yl ey
  refine⟨y,t,rfl,by rw[j7];omega,?_⟩
  refine hl M0 F1 Γ1 ν σ H1 (acc++y) Q rs1 hs (by rw[j7];omega) ?_ pins _ (I1.tok k)
  cases q:fl Γ1 with
  |ok w=>
   obtain⟨ys,Γ2⟩:=w
   rw[q]at h1
   exact fun F' H' rs' s'=>by have:=h1 F' H' rs' s';show Q (acc++y++JX ys) H';rw[ZY];exact this
  |exc x y=>rw[q]at h1;exact h1
  |bad=>rw[q]at h1;exact h1
 cases rx with
 |str z=>
  obtain⟨t,rfl⟩:=r1
  have hy:=Yl ey
  have ez:y=z:=by
   simp only[jR]at ey
   split at ey
   ·cases ey;rfl
   ·cases ey
  subst ez
  exact wpAny_formatField_str (go t s1.toks) (go _ _) (by omega)
 |int i=>
  obtain⟨t,rfl⟩:=r1
  simp only[jR]at ey
  split at ey
  ·rename_i hh
   cases ey
   exact wpAny_formatField_int hh.1 (go _ _)
  ·cases ey
 |none=>cases ey
 |bool b=>cases ey
 |list _ _ _=>cases ey
 |tuple _ _=>cases ey
 |dict _ _ _ _=>cases ey
 |inst _ _ _ _=>cases ey
theorem zcK{fl:EM (List Str)}{v1 v2:Expr}(hl:SJ X XP mp (v1::v2::es) fl)(hz:(v1::v2::es).length<=100):SE X XP mp (.JoinedStr (v1::v2::es) pos) (Vl fl):=fun M0 F Γ ν σ H Q rs hs hp pins s I=>by
 refine wpAny_JoinedStr ?_
 have he:Str.empty.length=0:=rfl
 have:=hl M0 F Γ ν σ H Str.empty (fun out H'=>Q (.str out) H') rs hs (by rw[he];omega) (by
  unfold Vl at hp
  refine (EPost.seq hp).mono fun F1 Γ1 H1 ys rs1 s1 h1=>?_
  rw[yM]
  exact h1 F1 H1 rs1 (.refl _ _) _ (Rep.str _)) pins s I
 revert this
 generalize evalEach (v1::v2::es) X.env=parts
 generalize Str.empty=acc
 intro this
 have mono:∀ (parts:List (Sem Value)) (acc:Str) (s:Shared),Joins (model X.prog X.w) X.A X.xe parts acc (fun out s1=>out.length<=sizeLine/\∃ H',Inv X pins σ H' s1/\Q (.str out) H') s ->
   Joins (model X.prog X.w) X.A X.xe parts acc (fun out s₁=>out.length<=sizeLine/\EP X pins σ Q (.str out s₁.toks) { s₁ with toks:=s₁.toks+1 }) s:=by
  intro parts
  induction parts with
  |nil=>
   intro acc s h
   obtain⟨h1,H',I',q⟩:=h
   exact⟨h1,.str acc,H',I'.tok _,⟨_,rfl⟩,q⟩
  |cons x r ih=>
   intro acc s h
   exact wpAny_mono h (fun v s1 ⟨y,t,e,hz,k⟩=>⟨y,t,e,hz,ih _ _ k⟩) fun _ _ y=>y
 exact mono parts acc s this
end
end L3
namespace L2
open PySem PySem.Spec PyProof.Rows PySem.Builtin PySem.Builtin.Str
variable [Cs]
theorem yO{prog:Program}{w:World}{A:Around}{E:Value->Shared->Prop}{s:Shared}{x y:Str}{t u:Tok}{Q:Value->Shared->Prop}(hy:(y.length==0)=false)
  (h:∀ (l:List (Str×Tok)) k,l.map (·.1)=Txt.split x y->Q (.ref s.heap.objs.size) { s with heap:=s.heap.push { cls:=.type "list",data:=.seq (strValues l).toArray },toks:=k })
  (hsz:x.length+2<=sizeLine):wpAny (model prog w) A (call (.builtin "str.split") [.str x t,.str y u]) Q E s:=by
 have hn:(partsBetween x (occurrences x y 0 x.length (x.length+1)) y.length).length<=sizeLine:=by
  have e1:=StrLaws.occ_length_le x y 0 x.length (x.length+1)
  rw[length_partsBetween];omega
 cases h1:(decide (x.length<y.length)||decide (strKind x<strKind y))
 ·cases hf:(occurrences x y 0 x.length (x.length+1)).isEmpty
  ·refine call_meets F.slot_str_split (typeIs_str _ _ _) F.entry_str_split (F.args_str_split_2 _ _) (meets_str_split_sep x y t u h1 hy hf (by omega) hn) ?_
   show wants Q E _ { s with toks:=_,heap:=s.heap.push { cls:=.type "list",data:=.seq (strsFrom s.toks (partsBetween x (occurrences x y 0 x.length (x.length+1)) y.length)).toArray } }
   rw[strsFrom_eq]
   exact h (numbered s.toks _) _ ((numbered_texts _ _).trans ((if_neg (ne_true_of_eq_false h1)).trans (if_neg (ne_true_of_eq_false hf))).symm)
  ·exact call_meets F.slot_str_split (typeIs_str _ _ _) F.entry_str_split (F.args_str_split_2 _ _) (meets_str_split_not_found x y t u h1 hy hf)
    (h [(x,t)] s.toks ((if_neg (ne_true_of_eq_false h1)).trans (if_pos hf)).symm)
 ·exact call_meets F.slot_str_split (typeIs_str _ _ _) F.entry_str_split (F.args_str_split_2 _ _) (meets_str_split_cannot_occur x y t u h1)
   (h [(x,t)] s.toks (if_pos h1).symm)
theorem WY:∀ (l:List (Str×Tok)),Vals ((l.map (·.1)).map .str) (strValues l)
 |[]=>.nil
 |p::r=>.cons ⟨p.2,rfl⟩ (WY r)
theorem ZD(x y:Str):(Txt.split x y).length<=x.length+2:=by
 unfold Txt.split
 split
 ·simp
 ·split
  ·simp
  ·have e1:=StrLaws.occ_length_le x y 0 x.length (x.length+1)
   rw[length_partsBetween];omega
section
variable {X:Cx}
theorem zcf:MtR X "str.endswith" (fun x xs H Q=>∃ a b:Str,x=.str a/\xs= [.str b]/\Q (.bl (Txt.endswith a b)) H):=by
 intro pins s σ H x xs v us Q I rx r h
 obtain⟨a,b,rfl,rfl,q⟩:=h
 obtain⟨t,rfl⟩:=rx
 obtain⟨u,rfl,t2,rfl⟩:=jf r
 exact SC.endswith ⟨.bl _,H,I,rfl,q⟩
theorem zae:MtR X "str.split" (fun x xs H Q=>∃ a b:Str,x=.str a/\xs= [.str b]/\(b.length==0)=false/\a.length+2<=sizeLine/\∀ p,H p=none->Q (.ref p) (upd H p (.lst ((Txt.split a b).map .str)))):=by
 intro pins s σ H x xs v us Q I rx r h
 obtain⟨a,b,rfl,rfl,hy,hz,q⟩:=h
 obtain⟨t,rfl⟩:=rx
 obtain⟨u,rfl,t2,rfl⟩:=jf r
 refine yO hy (fun l k el=>?_) hz
 refine⟨.ref s.heap.objs.size,_,I.laid (t':=k) (o:=.lst ((Txt.split a b).map .str)) (fun b ob q=>Heap.get?_push_of_some _ q) (xi _) ?_,rfl,q _ (I.hok.fresh (xi _))⟩
 refine⟨?_,_,0,by rw[<- el];exact WY l,Heap.get?_push_size _ rfl⟩
 rw[xn]
 exact xA (ZD a b) hz
theorem vg:qL X (.type "int") (fun xs H Q=>∃ (a:Str) (n:Int),xs= [.str a]/\PySem.intText? a=some n/\a.length<=640/\Q (.int n) H):=by
 intro pins s σ H xs us Q I r h
 obtain⟨a,n,rfl,hn,hz,q⟩:=h
 obtain⟨u,rfl,t,rfl⟩:=jf r
 exact PySem.W.KIN.call_text hn hz ⟨.int n,H,I.tok _,⟨_,rfl⟩,q⟩
theorem zfl:SlR X (fun x lo hi H Q=>∃ a:Str,x=.str a/\a.length<=sizeLine/\Q (.str (Txt.slice a lo hi)) H):=by
 intro pins s σ H x v vl vu lo hi sl Q I rx hs pl pu h
 obtain⟨a,rfl,hz,q⟩:=h
 obtain⟨t,rfl⟩:=rx
 refine⟨"str",_,F.slot_str_getitem.lookup,typeIs_str _ _ _,?_⟩
 have key:∀ (l u:Option (Int×Tok)),vl=partValue l->vu=partValue u->lo=l.map (·.1)->hi=u.map (·.1)->wpAny (model X.prog X.w) X.A (getItem (.str a t) (.ref sl)) (EP X pins σ Q) X.xe s:=by
  intro l u e1 e2 e3 e4
  subst e1 e2 e3 e4
  refine wpAny_getItem_str_slice (l:=l) (u:=u) (st:=none) ?_ rfl ?_
  ·obtain⟨o,ho,hc,hd⟩:=hs
   exact⟨o,ho,hc,hd⟩
  ·exact post_val_or_str ⟨xA (Txt.slice_le a _ _) hz,fun t' k=>⟨.str (Txt.slice a (l.map (·.1)) (u.map (·.1))),H,I.tok k,⟨t',rfl⟩,q⟩⟩
 cases pl with
 |none=>cases pu with
  |none=>exact key none none rfl rfl rfl rfl
  |int j t2=>exact key none (some (j,t2)) rfl rfl rfl rfl
 |int i t1=>cases pu with
  |none=>exact key (some (i,t1)) none rfl rfl rfl rfl
  |int j t2=>exact key (some (i,t1)) (some (j,t2)) rfl rfl rfl rfl
end
noncomputable def Itc(x:Str):It:=⟨fun i _=>i<x.length,fun i H v H'=>H'=H/\∃ c,x.cps[i]?=some c/\v=.str ⟨#[c]⟩,fun i _=>x.length<=i⟩
theorem yS {P:Program}{w:World}{K:PySem.W.Frag}{tg:Expr}(x:Str) (t:Tok) (it:Addr):v0 P w K tg (Itc x) [it] it (fun i h=>h.IsStrIter it "str_ascii_iterator" x t i) where
 mem:=by simp
 obj:=fun i h st b hb=>by
  have e:b=it:=by simpa using hb
  subst e
  obtain⟨o,e,c,d⟩:=st
  exact⟨o,e,fun v z=>by rw[d]at z;cases z⟩
 keep:=fun i h h' st k=>by
  obtain⟨o,e,c,d⟩:=st
  exact⟨o,k it (by simp) o e,c,d⟩
 item:=by
  intro X hP hw hK hc i pins s σ H E I hf st hg
  subst hP hw hK
  have hg:i<x.cps.size:=hg
  obtain⟨f0,f1,f2,f3,f4,f5⟩:=hf it (by simp)
  have hx:x.cps[i]?=some x.cps[i]:=Array.getElem?_eq_getElem hg
  refine wpAny_pyNext_ascii_item st hx fun h' st' sb=>?_
  have I1:Inv X pins σ H { s with heap:=h',toks:=s.toks+1 }:=I.turned (t':=s.toks+1) (fun b o hb e=>(sb.2 b hb).trans e) f0 f1 f3 f4 f5
  obtain⟨o,e,c,d⟩:=id st'
  exact⟨_,rfl,Ym (s:={ s with heap:=h',toks:=s.toks+1 }) e c d (by decide) ⟨.str ⟨#[x.cps[i]]⟩,H,I1,⟨_,rfl⟩,⟨rfl,_,hx,rfl⟩,st',fun b hb=>(hf b hb).1⟩⟩
 done:=by
  intro X hP hw hK hc i pins s σ H E I hf st hg
  subst hP hw hK
  have hg:x.cps.size<=i:=hg
  obtain⟨f0,f1,f2,f3,f4,f5⟩:=hf it (by simp)
  exact wpAny_pyNext_ascii_end (I.ok.hd hc) st (Array.getElem?_eq_none hg) fun h' eb=>⟨rfl,I.turned (t':=s.toks) (fun b o hb e=>eb b o hb e) f0 f1 f3 f4 f5⟩
 self:=fun _ _ _ _ _ st h=>wpAny_pyIter_striter_ascii st h
section
variable {X:Cx}
noncomputable def zel(tl:TE):TI:=fun σ H R=>tl σ H fun x H1=>∃ a:Str,x=.str a/\a.cps.all (·<128)=true/\R (Itc a) H1
theorem zax{tg l:Expr}{tl:TE}(hl:PE X l tl):PI X tg l (zel tl):=by
 intro pins s σ H R I h
 refine thn (hl pins s σ H _ I h) fun v s1 ⟨x,H1,I1,r1,q1⟩=>?_
 obtain⟨a,rfl,ha,q⟩:=q1
 obtain⟨t,rfl⟩:=r1
 refine wpAny_pyIter_ascii ha ?_
 have I2:Inv X pins σ H1 { s1 with heap:=s1.heap.push { cls:=.type "str_ascii_iterator",data:=.fields #[.str a t,.int 0 0] } }:=I1.kept (t':=s1.toks) fun b ob q=>Heap.get?_push_of_some _ q
 refine⟨s1.heap.objs.size,[s1.heap.objs.size],_,_,H1,rfl,I2,yS a t _,⟨_,Heap.get?_push_size _ rfl,rfl,rfl⟩,fun b hb=>?_,q⟩
 have eb:b=s1.heap.objs.size:=by simpa using hb
 subst eb
 exact I1.fpOk (xi _) (I1.hok.fresh (xi _))
end
end L2
namespace L2
open PySem PySem.Spec PyProof.Rows
variable [Cs]
noncomputable def ItK:Bool->Heap->Addr->Addr->Nat->Prop
 |true,h,i,l,k=>h.IsTupleIter i l k
 |false,h,i,l,k=>h.IsListIter i l k
noncomputable def SqK:Bool->Heap->Addr->Array Value->Prop
 |true,h,l,xs=>h.IsTuple l xs
 |false,h,l,xs=>h.IsList l xs
noncomputable def itN:Bool->String
 |true=> "tuple_iterator"
 |false=> "list_iterator"
theorem ItK.obj{tp:Bool}{h:Heap}{i l:Addr}{k:Nat}(x:ItK tp h i l k):∃ o,h.get? i=some o/\o.cls=.type (itN tp)/\o.data=.fields #[.ref l,.int k 0]:=by
 cases tp<;>exact x
theorem ItK.of{tp:Bool}{h:Heap}{i l:Addr}{k:Nat}(x:∃ o,h.get? i=some o/\o.cls=.type (itN tp)/\o.data=.fields #[.ref l,.int k 0]):ItK tp h i l k:=by
 cases tp<;>exact x
theorem ItK.at{tp:Bool}{h h':Heap}{i l:Addr}{k:Nat}(x:ItK tp h i l k)(e:∀ o,h.get? i=some o->h'.get? i=some o):ItK tp h' i l k:=by
 obtain⟨o,a,b,c⟩:=x.obj
 exact .of ⟨o,e o a,b,c⟩
theorem SqK.at{tp:Bool}{h h':Heap}{l:Addr}{xs:Array Value}(x:SqK tp h l xs)(e:∀ o,h.get? l=some o->h'.get? l=some o):SqK tp h' l xs:=by
 cases tp
 ·obtain⟨o,a,b⟩:=id x;exact⟨o,e o a,b⟩
 ·obtain⟨o,a,b⟩:=id x;exact⟨o,e o a,b⟩
section
variable {prog:Program} {w:World} {A:Around} {E:Value->Shared->Prop} {s:Shared}
end
noncomputable def SqV(tp:Bool)(H:Hp)(a:Addr)(xs:List V):Prop:=match tp with
 |true=>H a=some (.tup xs)
 |false=>H a=some (.lst xs)
theorem SqV.inj{H:Hp}{tp:Bool}{a:Addr}{xs ys:List V}(h:SqV tp H a xs)(h':SqV tp H a ys):xs=ys:=by
 cases tp with
 |false=>have:=Eq.trans (Eq.symm h) h';cases this;rfl
 |true=>have:=Eq.trans (Eq.symm h) h';cases this;rfl
theorem SqV.ne{H:Hp}{tp:Bool}{a c:Addr}{xs:List V}(h:SqV tp H a xs)(e:H c=none):a≠c:=fun z=>by
 subst z
 cases tp with
 |false=>have h:H a=some (.lst xs):=h;rw[e]at h;cases h
 |true=>have h:H a=some (.tup xs):=h;rw[e]at h;cases h
section
variable {X:Cx}
end
end L2
namespace L2
open PySem PySem.Spec PyProof.Rows
variable [Cs]
noncomputable def Yg (w:World) (l:List (Str×Nat×Addr)) (ep:Nat):Obj:={ cls:=.type "dict",data:=.dict (l.map fun p=>(⟨PySem.PyData.keyHash w.params p.1,.str p.1 p.2.1,.ref p.2.2⟩:DictEntry)).toArray ep }
inductive GRows(mg:Str->Option Value):List (Str×Nat×Addr)->List (Str×Str)->Prop
 |nil:GRows mg [] []
 |cons {k f:Str} {t:Nat} {a:Addr} {l kf}:mg f=some (.ref a)->GRows mg l kf->GRows mg ((k,t,a)::l) ((k,f)::kf)
structure GD(w:World)(K:PySem.W.Frag)(mg:Str->Option Value)(x:Str)(kf:List (Str×Str)):Prop where
 ex:∃ (D:Addr) (ep:Nat) (l:List (Str×Nat×Addr)),mg x=some (.ref D)/\(D==sysModules)=false/\K.lookup D=some (Yg w l ep)/\GRows mg l kf/\(kf.map (·.1)).Nodup
theorem GRows.keys{mg:Str->Option Value}{l:List (Str×Nat×Addr)}{kf:List (Str×Str)}(h:GRows mg l kf):l.map (·.1)=kf.map (·.1):=by
 induction h with
 |nil=>rfl
 |cons _ _ ih=>simp[ih]
theorem GRows.find{mg:Str->Option Value}{l:List (Str×Nat×Addr)}{kf:List (Str×Str)}(h:GRows mg l kf)(k:Str):match kf.lookup k with
  |some f=>∃ a,mg f=some (.ref a)/\valueAt (l.map fun p=>(p.1,Value.ref p.2.2)) k=some (.ref a)
  |none=>valueAt (l.map fun p=>(p.1,Value.ref p.2.2)) k=none:=by
 induction h with
 |nil=>rfl
 | @cons k' f t a l kf hm hr ih=>
  rw[xr]
  by_cases e:k=k'
  ·subst e
   simp only[beq_self_eq_true]
   exact⟨a,hm,by simp[valueAt]⟩
  ·have e1:(k==k')=false:=by simpa using e
   rw[e1]
   have e2:valueAt (((k',t,a)::l).map fun p=>(p.1,Value.ref p.2.2)) k=valueAt (l.map fun p=>(p.1,Value.ref p.2.2)) k:=by
    unfold valueAt
    rw[xq,List.find?_cons_of_neg (by simpa using Ne.symm e)]
   rw[e2];exact ih
theorem VH{P:Program}{w:World}:∀ (l:List (Str×Nat×Addr)),Pairs (PySem.strKind P w) (l.map fun p=>(⟨PySem.PyData.keyHash w.params p.1,.str p.1 p.2.1,.ref p.2.2⟩:DictEntry)) (l.map fun p=>(p.1,Value.ref p.2.2))
 |[]=>.nil
 |p::r=>.cons (by simp[PySem.strKind,Value.isStrOf]) rfl (VH r)
theorem zb5{P:Program}{w:World}{h:Heap}{D:Addr}{ep:Nat}{l:List (Str×Nat×Addr)}(hd:h.get? D=some (Yg w l ep))(nd:(l.map (·.1)).Nodup):h.DictOf (PySem.strKind P w) D (l.map fun p=>(p.1,Value.ref p.2.2)):=by
 refine⟨_,_,ep,hd,⟨rfl,rfl,rfl⟩,rfl,?_,by simpa using VH l,?_⟩
 ·intro e he
  simp only[List.mem_toArray,xK]at he
  obtain⟨p,hp,rfl⟩:=he
  exact⟨p.1,by simp[PySem.strKind,Value.isStrOf],rfl⟩
 ·rw[xN];exact nd
section
variable {X:Cx}
theorem zc8 {x r:Str}{kf:List (Str×Str)}{i:Nat}{e:Expr}{p1 p2 q1 q2:Pos}(g:GD X.w X.K X.mg x kf) (hg:Gl X x) (hdb:(x==("__debug__" :Str))=false) (hs:∀ ov iv,subscripted e false ov iv=operate [ov,iv] (getItem ov iv)) (hN:X.N.Nodup) (hi:X.N[i]?=some r) (hx:Loc X.env.scope r)
  (hsw:swapsWith (.Subscript (.Name x p1) e q1) (some (.Name r p2)) q2.line X.env=pure false) (hf:X.fn r=true∨X.env.scope.names.lookup r=some .local) :
  PS X (.Assign [.Name r p2] (.Subscript (.Name x p1) e q1) q2) (fun D σ H=>wpE X e σ H fun v H1=>∃ (a f:Str) (b:Addr),v=.str a/\kf.lookup a=some f/\(X.mg f=some (.ref b)->D.nx (σ.set i (some (.ref b))) H1)/\X.mg f=some (.ref b)):=by
 have hpe:PE X (.Subscript (.Name x p1) e q1) (fun σ H Q=>wpE X e σ H fun v H1=>∃ (a f:Str) (b:Addr),v=.str a/\kf.lookup a=some f/\X.mg f=some (.ref b)/\Q (.ref b) H1):=by
  intro pins s σ H Q I h
  obtain⟨D,ep,l,h1,h2,h3,h4,h5⟩:=g.ex
  refine Subscript_ (jD I hg h1 (thn (h pins s I) fun iv s2 ⟨y,H2,I2,ry,a,f,b,ey,ef,eb,q⟩=>?_) hdb)
  subst ey
  obtain⟨t,rfl⟩:=ry
  have hd:=zb5 (P:=X.prog) (I2.kIn D _ h3) (by rw[h4.keys];exact h5)
  have hfd:=h4.find a
  rw[ef]at hfd
  obtain⟨b',eb',ev⟩:=hfd
  rw[eb]at eb';cases eb'
  refine tail_any (ops:= [.ref D,.str a t]) hd.typeIs PySem.F.slot_dict_getitem.lookup ?_ (hs _ _)
  exact wpAny_getItem_of (knd:=PySem.strKind X.prog X.w) (k:=a) (by simp[PySem.strKind,Value.isStrOf]) hd.mapOf ev ⟨.ref b,H2,I2.tok _,rfl,q⟩
 intro pins s σ H D I h
 exact JH hN hi hx hpe hsw hf pins s σ H D I (h.mono fun v H1 ⟨a,f,b,e1,e2,q,e3⟩=>⟨a,f,b,e1,e2,e3,q e3⟩)
end
end L2
namespace L2
open PySem PySem.Spec PyProof.Rows
variable [Cs]
end L2
namespace L3
open PySem PySem.Spec PyProof.Rows L2
variable [Cs]
section
variable {X:Cx} {XP:XPT} {mp io:List Nat} {a b c e:Expr} {es:List Expr} {pos p p2:Pos} {fa fb fc:EM FV}
noncomputable def Qe(fa fb:EM FV):EM FV:=fun Γ=>(fa Γ).bind fun (u,Γ1)=>match derf Γ1 u with
 |some (.str x)=>(fb Γ1).bind fun (w,Γ2)=>match derf Γ2 w with
  |some (.str y)=>.ok (.dat (.bool (Txt.endswith x y)),Γ2)
  |_=>.bad
 |_=>.bad
theorem zcJ {name:Str}(en:name= "endswith") (ha:SE X XP mp a fa) (hb:SE X XP mp b fb) (hbase:attributeBase a name X.env (eval a X.env)=eval a X.env) (hst:starEach [b] X.env= [(false,eval b X.env)]) (hline:(p2.endLine==pos.line)=true) :
  SE X XP mp (.Call (.Attribute a name p2) [b] [] pos) (Qe fa fb):=fun M0 F Γ ν σ H Q rs hs hp=>by
 subst en
 refine (WP PySem.F.plainAttrs_str PySem.F.slot_str_endswith PySem.F.type_str_endswith zcf zd (zp zd pa_nil hst) hbase (by rw[hst];rfl) hline hst rfl).wp (ha.run rs hs hp fun F1 Γ1 H1 u v rs1 s1 o1 h1=>?_)
 dsimp only at h1
 split at h1
 ·rename_i x ex
  have r1:=o1.weak rs1 ex
  cases r1
  refine⟨rfl,?_⟩
  refine hb.run rs1 hs h1 fun F2 Γ2 H2 w v2 rs2 s2 o2 h2=>?_
  dsimp only at h2
  split at h2
  ·rename_i y ey
   have r2:=o2.weak rs2 ey
   cases r2
   exact⟨_,_,rfl,rfl,h2 F2 H2 rs2 (.refl _ _) _ (Rep.bool _)⟩
  ·exact h2.elim
 ·exact h1.elim
noncomputable def zk(fa fb:EM FV):EM (List PyData):=fun Γ=>(fa Γ).bind fun (u,Γ1)=>match derf Γ1 u with
 |some (.str x)=>(fb Γ1).bind fun (w,Γ2)=>match derf Γ2 w with
  |some (.str y)=>if (y.length==0)=false/\x.length<=900000 then .ok ((Txt.split x y).map .str,Γ2) else .bad
  |_=>.bad
 |_=>.bad
theorem VL{M:Addr->Prop}{H:Hp}:∀ (xs:List Str),RepL M H (xs.map V.str) (xs.map PyData.str)
 |[]=>.nil
 |x::r=>.cons (.str x) (VL r)
theorem za1 {name:Str}(en:name= "split") (ha:SE X XP mp a fa) (hb:SE X XP mp b fb) (hbase:attributeBase a name X.env (eval a X.env)=eval a X.env) (hst:starEach [b] X.env= [(false,eval b X.env)]) (hline:(p2.endLine==pos.line)=true) :
  SN X XP mp (.Call (.Attribute a name p2) [b] [] pos) (zk fa fb):=fun M0 F Γ ν σ H Q rs hs hp=>by
 subst en
 refine (WP PySem.F.plainAttrs_str PySem.F.slot_str_split PySem.F.type_str_split zae zd (zp zd pa_nil hst) hbase (by rw[hst];rfl) hline hst rfl).wp (ha.run rs hs hp fun F1 Γ1 H1 u v rs1 s1 o1 h1=>?_)
 dsimp only at h1
 split at h1
 ·rename_i x ex
  have r1:=o1.weak rs1 ex
  cases r1
  refine⟨rfl,?_⟩
  refine hb.run rs1 hs h1 fun F2 Γ2 H2 w v2 rs2 s2 o2 h2=>?_
  dsimp only at h2
  split at h2
  ·rename_i y ey
   split at h2
   ·rename_i hz
    have r2:=o2.weak rs2 ey
    cases r2
    exact⟨_,_,rfl,rfl,hz.1,by have:=sizeLine_eq;omega,fun p n=>h2 F2 H2 rs2 (.refl _ _) _ p (VL _) n⟩
   ·exact h2.elim
  ·exact h2.elim
 ·exact h1.elim
noncomputable def Qg:PyData->Option PyData
 |.str x=>if x.length<=640 then (PySem.intText? x).map .int else none
 |_=>none
theorem zb2:ZI X (.type "int") Qg:=fun x z e=>by
 unfold Qg at e
 split at e
 ·split at e
  ·rename_i x h
   cases q:PySem.intText? x with
   |none=>rw[q]at e;cases e
   |some n=>
    rw[q]at e
    cases e
    exact⟨rfl,_,vg,fun H v Q r k=>by cases r;exact⟨_,n,rfl,q,h,k _ (.int _)⟩⟩
  ·cases e
 ·cases e
noncomputable def jG(fa:EM FV)(fl fh:EM (Option Int)):EM FV:=fun Γ=>(fa Γ).bind fun (u,Γ1)=>(fl Γ1).bind fun (lo,Γ2)=>(fh Γ2).bind fun (hi,Γ3)=>match derf Γ3 u with
 |some (.str x)=>if x.length<=1000000 then .ok (.dat (.str (Txt.slice x lo hi)),Γ3) else .bad
 |_=>.bad
theorem zcI{lo hi:Option Expr}{fl fh:EM (Option Int)}(ha:SE X XP mp a fa)(hl:SOp X XP mp lo fl)(hh:SOp X XP mp hi fh):SE X XP mp (.Subscript a (.Slice lo hi none p2) pos) (jG fa fl fh):=fun M0 F Γ ν σ H Q rs hs hp=>by
 obtain⟨tl,pl,kl⟩:=hl
 obtain⟨th,ph,kh⟩:=hh
 refine (Qm zfl zd pl ph).wp (ha.run rs hs hp fun F1 Γ1 H1 u v rs1 s1 o1 h1=>?_)
 refine kl M0 F1 Γ1 ν σ H1 _ rs1 hs (h1.seq.mono fun F2 Γ2 H2 lo rs2 s2 h2=>?_)
 refine kh M0 F2 Γ2 ν σ H2 _ rs2 hs (h2.seq.mono fun F3 Γ3 H3 hi rs3 s3 h3=>?_)
 dsimp only at h3
 split at h3
 ·rename_i x e
  split at h3
  ·rename_i hz
   have r3:=((o1.stp s2 rs1.al0).stp s3 rs2.al0).weak rs3 e
   cases r3
   exact⟨_,rfl,sz6 hz,h3 F3 H3 rs3 (.refl _ _) _ (Rep.str _)⟩
  ·exact h3.elim
 ·exact h3.elim
noncomputable def qD(x:Str):List PyData:=x.cps.toList.map fun c=>.str ⟨#[c]⟩
theorem K0{M0:Addr->Prop}{F:Fp}{H1:Hp}(x:Str):JI M0 F (Itc x) (qD x) H1:=fun i F' H' s h0=>by
 refine⟨fun d hd=>?_,fun hi=>?_⟩
 ·unfold qD at hd
  rw[xB]at hd
  cases q:x.cps.toList[i]? with
  |none=>rw[q]at hd;cases hd
  |some c=>
   rw[q]at hd
   cases hd
   have q':x.cps[i]?=some c:=by simpa using q
   refine⟨(xY.mp q').1,fun z H2 ⟨e2,c',ec,ez⟩=>?_⟩
   subst e2 ez
   rw[q']at ec;cases ec
   exact⟨.refl _,.str _⟩
 ·have:(qD x).length=x.length:=by simp[qD,Str.length]
  rw[this]at hi;exact hi
noncomputable def qR(fa:EM FV):EM (List PyData):=fun Γ=>(fa Γ).bind fun (u,Γ1)=>match derf Γ1 u with
 |some (.str x)=>if x.cps.all (·<128) then .ok (qD x,Γ1) else .bad
 |_=>.bad
theorem zaY{tg:Expr}(ha:SE X XP mp a fa):SI X XP mp tg a (qR fa):=fun M0 F Γ ν σ H R rs hs hp=>
 (zax zd).wp (ha.run rs hs hp fun F1 Γ1 H1 u v rs1 s1 o1 h1=>by
  dsimp only at h1
  split at h1
  ·rename_i x ex
   split at h1
   ·rename_i hz
    have r1:=o1.weak rs1 ex
    cases r1
    exact⟨_,rfl,hz,h1 F1 H1 rs1 (.refl _ _) _ (K0 x)⟩
   ·exact h1.elim
  ·exact h1.elim)
theorem RS.unset{M0:Addr->Prop}{F:Fp}{Γ:Gv}{ν:Nu}{H:Hp}{i:Nat}(r:RS M0 F Γ ν H)(h:∀ o,Γ[i]?≠some (some o)):RS M0 F Γ (ν.set i none) H :=
 ⟨r.al0,r.dis0,r.nd,r.dis,fun j o e=>by
  obtain⟨w,e1,z⟩:=r.at' j o e
  refine⟨w,?_,z⟩
  rw[xg (fun q=>h o (by rw[q];exact e))]
  exact e1,r.emp,by rw[xH];exact r.len⟩
theorem Sees.unset{ν:Nu}{σ:St}{s i:Nat}{v:V}(h:Sees mp ν σ)(hn:mp.Nodup)(hm:mp[s]?=some i):Sees mp (ν.set i none) (σ.set s (some v)):=fun t j w e1 e2=>by
 by_cases hj:j=i
 ·subst hj
  have hs:t=s:=(List.getElem?_inj (xb.mp e1).1 hn).mp (e1.trans hm.symm)
  subst hs
  rw[List.getElem?_set_self']at e2
  cases q:ν[j]? with
  |none=>rw[q]at e2;cases e2
  |some z=>rw[q]at e2;cases e2
 ·rw[xg (Ne.symm hj)]at e2
  have hts:s≠t:=fun z=>by subst z;rw[hm]at e1;cases e1;exact hj rfl
  rw[xg hts]
  exact h t j w e1 e2
noncomputable def zdD(io:List Nat)(kf:List (Str×Str))(run:Str->List OV->RF)(i:Nat)(fe:EM FV)(fl:EM (List AV)):SM:=fun Γ=>(fe Γ).bind fun (u,Γ1)=>match derf Γ1 u with
 |some (.str k)=>match kf.lookup k with
  |some f=>if i∈io∨(Γ1[i]?.join).isSome=true then .bad else (fCall (run f) fl Γ1).bind fun (o,Γ2)=>.ok (.ret o,Γ2)
  |none=>.bad
 |_=>.bad
theorem zcE {s i k n:Nat}{r x:Str}{kf:List (Str×Str)}{run:Str->List OV->RF}{fl:EM (List AV)}{p1 p3 q1 q2 q3 q4:Pos}(g:GD X.w X.K X.mg x kf) (hg:Gl X x) (hdb:(x==("__debug__" :Str))=false)
  (px:PxOk X XP) (kn:∀ key f,kf.lookup key=some f->Kn X.prog X.w X.K X.mg X.base (CX1 X.prog X.w) f k (spX X.mg n (run f))/\∀ args,run f args≠ .bad->args.length=n) (hr:Room k X.A)
  (he:SE X XP mp e fa) (hps:PS X (.Assign [.Name r p2] (.Subscript (.Name x p1) e q1) q2) (fun D σ H=>wpE X e σ H fun v H1=>∃ (a f:Str) (b:Addr),v=.str a/\kf.lookup a=some f/\(X.mg f=some (.ref b)->D.nx (σ.set s (some (.ref b))) H1)/\X.mg f=some (.ref b)))
  (hN:X.N[s]?=some r) (hv:Vis X.env.scope r) (hd:(r==("__debug__" :Str))=false) (hcd:(r==("__classdict__" :Str))=false) (hn:mp.Nodup) (hm:mp[s]?=some i)
  (hl:SA X XP mp (a::es) fl) (hst:starEach (a::es) X.env=(false,eval a X.env)::starEach es X.env) (hpl:(backTo q3 (starEach es X.env)).any (·.1)=false) :
  SB X XP mp io [.Assign [.Name r p2] (.Subscript (.Name x p1) e q1) q2,.Return (some (.Call (.Name r p3) (a::es) [] q3)) q4] (zdD io kf run i fa fl):=fun M0 F Γ ν σ H D rs hs hl0 hp=>by
 refine (qX hps (Qo (yH zd))).wp ?_
 refine he M0 F Γ ν σ H _ rs hs ((SPost.seq hs hl0 hp).mono fun F1 Γ1 H1 u rs1 s1 h1 v hv1=>?_)
 dsimp only at h1
 split at h1
 ·rename_i key ek
  have r1:=hv1.weak rs1 ek
  cases r1
  split at h1
  ·rename_i f ef
   split at h1
   ·exact h1.elim
   ·rename_i hh
    obtain⟨kn1,hrun⟩:=kn key f ef
    obtain⟨b,fd,ps,_,hb,_⟩:=kn1.ex
    have hio:i∉io:=fun z=>hh (.inl z)
    have hΓ:∀ o,Γ1[i]?≠some (some o):=fun o z=>hh (.inr (by rw[z];rfl))
    have rs2:=rs1.unset hΓ
    have hs2:Sees mp (ν.set i none) (σ.set s (some (.ref b))):=hs.unset hn hm
    have hlen:(σ.set s (some (.ref b)):St).length=X.N.length:=by rw[xH];exact hl0
    refine⟨key,f,b,rfl,ef,fun _=>?_,hb⟩
    refine Kf (E:=EX X XP (σ.set s (some (.ref b)))) kn1 hb hr hN hv hd hcd ?_ (fun pins H1 s1 e s' I hx=>px.call _ pins H1 s1 e s' _ (fun c H' q=>q) I hx) (hl M0 F1 Γ1 (ν.set i none) (σ.set s (some (.ref b))) H1 _ rs2 hs2 (Jr rs2 hrun ?_)) hst hpl
    ·have:s<σ.length:=by rw[hl0];exact (xb.mp hN).1
     rw[xh this]
    ·have h1':SPost M0 F1 (ν.set i none) H1 XP mp X.N.length io D ((fCall (run f) fl Γ1).bind fun (o,Γ2)=>.ok (.ret o,Γ2)):=h1.step (.refl _ _) fun j hj=>by
      rw[xg (fun z=>hio (by rw[z];exact hj))]
     exact (SPost.seqO hs2 hlen h1').mono fun F3 Γ3 H3 o v rs3 s3 h3=>h3 F3 _ v H3 rs3 (.refl _ _) fun _ _=>rfl
  ·exact h1.elim
 ·exact h1.elim
end
end L3
namespace L3
open PySem PySem.Spec PyProof.Rows L2
variable [Cs]
section
variable {M0:Addr->Prop} {F F':Fp} {Γ Γ':Gv} {ν ν':Nu} {H H':Hp}
theorem RS.pair{o:OV}{v u:V}{x:PyData}{p:Addr}(r:RS M0 F (Γ++ [some o]) (ν++ [some v]) H)(n:H p=none)(qx:Rep (MM M0 F) H u x) :
  RS M0 F (Γ++ [some (.t [.d x,o])]) (ν++ [some (.ref p)]) (upd H p (.tup [u,v]))/\Stp F H F (upd H p (.tup [u,v])):=by
 have hl:ν.length=Γ.length:=by have:=r.len;simp at this;exact this
 have hp:∀ i,p∉F i:=fun i h=>by
  obtain⟨vs,e⟩:=r.laidF h
  rw[n]at e;cases e
 obtain⟨w,ew,q⟩:=r.at' Γ.length o (by rw[xf (xi _)];simp)
 have ewv:w=v:=by
  rw[xf (by omega),hl]at ew
  simpa using ew.symm
 subst ewv
 have s:Stp F H F (upd H p (.tup [u,w])):=.same (zu n)
 have hF:zz F Γ.length (F Γ.length)=F:=by
  funext j
  by_cases hj:j=Γ.length
  ·subst hj;exact zg
  ·exact zi hj
 have keep:∀ j,∀ a∈F j,upd H p (.tup [u,w]) a=H a:=fun j a ha=>zf (fun e=>hp j (by rw[<- e];exact ha))
 have q2:ORL (MM M0 F) (upd H p (.tup [u,w])) [u,w] [.d x,o] (F Γ.length):=by
  have:=ORL.cons (A:= []) (.d (zq s r.al0 qx)) (ORL.cons (q.go (fun _ _ x=>zq s r.al0 x) s.tups (keep _)) ORL.nil)
  rw[xG,xP]at this;exact this
 have r1:=r.put (i:=Γ.length) (o:=.t [.d x,o]) (v:=.ref p) (A:=F Γ.length) (H':=upd H p (.tup [u,w])) (by rw[hF];exact s) (fun j _=>keep j)
  (fun a h=>s.stay a (r.al0 a h)) (fun a ha h=>r.dis0 _ a ha h) (r.nd _) (fun j hj a ha h=>hj (r.dis _ _ a h ha)) (by simp) (by rw[hF];exact .t zh q2)
 rw[hF]at r1
 have e1:(Γ++ [some o]).set Γ.length (some (OV.t [.d x,o]))=Γ++ [some (.t [.d x,o])]:=by
  rw[uj _ _ (xi _)];simp
 have e2:(ν++ [some w]).set Γ.length (some (V.ref p))=ν++ [some (.ref p)]:=by
  rw[<- hl,uj _ _ (xi _)];simp
 rw[e1,e2]at r1
 exact⟨r1,s⟩
theorem zfE{i:Nat}{xs:List OV}(rs:RS M0 F Γ ν H)(e:Γ[i]?=some (some (.t xs))):∃ a vs,ν[i]?=some (some (.ref a))/\H a=some (.tup vs)/\ORL (MM M0 F) H vs xs (F i):=by
 obtain⟨v,ev,q⟩:=rs.at' i _ e
 generalize F i=A at q
 cases q with
 |t ea qa=>exact⟨_,_,ev,ea,qa⟩
end
section
variable {X:Cx} {XP:XPT} {mp io:List Nat} {a b c e:Expr} {es:List Expr} {pos p p2 pos' p3:Pos} {fa fb fc:EM FV} {fo:EM OV} {kx:Nat}
noncomputable def Yi(fa:EM FV)(fo:EM OV):EM OV:=fun Γ=>(fa Γ).bind fun (u,Γ1)=>match derS Γ1 u with
 |some x=>(fo Γ1).bind fun (o,Γ2)=>.ok (.t [.d x,o],Γ2)
 |none=>.bad
theorem zc3(ha:SE X XP mp a fa)(h:SO X XP mp b fo)(h1:starEach [a,b] X.env=(false,eval a X.env)::starEach [b] X.env)(h2:starEach [b] X.env= [(false,eval b X.env)]):SO X XP mp (.Tuple [a,b] kx pos) (Yi fa fo):=fun M0 F Γ ν σ H Q rs hs hp=>by
 refine (zat (zp zd (zp zd pa_nil h2) h1)).wp ?_
 refine ha M0 F Γ ν σ H _ rs hs (hp.seq.mono fun F1 Γ1 H1 u rs1 s1 h1 v hv=>?_)
 dsimp only at h1
 split at h1
 ·rename_i x ex
  have rx:=hv.strong rs1 ex
  refine h M0 F1 Γ1 ν σ H1 _ rs1 hs ?_
  cases q:fo Γ1 with
  |bad=>rw[q]at h1;exact h1.elim
  |exc x y=>rw[q]at h1;exact h1
  |ok z=>
   obtain⟨o,Γ2⟩:=z
   rw[q]at h1
   intro F2 H2 w rs2 s2
   refine⟨by show 2<=sizeLine;decide,fun p n=>?_⟩
   obtain⟨r3,s3⟩:=rs2.pair n (zq s2 rs1.al0 rx)
   exact h1 F2 _ _ r3 (s2.trans s3)
 ·exact h1.elim
end
end L3
namespace L2
open PySem PySem.Spec PyProof.Rows
section
variable {β:Type}
noncomputable def zbw(ds:List (Str×β))(x:Str):Option β:=(ds.find? fun p=>decide (p.1=x)).map (·.2)
noncomputable def Wb(ds:List (Str×β))(x:Str)(y:β):List (Str×β):=if (ds.any fun p=>decide (p.1=x))=true then ds.map (fun p=>if p.1=x then (p.1,y) else p) else ds++ [(x,y)]
noncomputable def KK(ds:List (Str×β))(x:Str):List (Str×β):=ds.filter fun p=>decide (p.1≠x)
theorem Vy(ds:List (Str×β))(x:Str)(y:β):(Wb ds x y).length<=ds.length+1:=by
 unfold Wb
 split
 ·rw[xn];omega
 ·rw[xw,xo,List.length_nil];omega
end
theorem inr_eq{x y:Str}:((Sum.inr x:Key)=Sum.inr y)↔x=y:=⟨fun h=>by injection h,fun h=>by rw[h]⟩
theorem Kt(x:Str):∀ (ks:List (Str×V)),((ks.map kK).any fun p=>decide (p.1=(.inr x:Key)))=ks.any fun p=>decide (p.1=x)
 |[]=>rfl
 |p::r=>by
  rw[xq,xM,xM,Kt x r]
  congr 1
  exact decide_eq_decide.mpr inr_eq
theorem zcx(ks:List (Str×V))(x:Str)(v:V):yI (ks.map kK) (.inr x) v=(Wb ks x v).map kK:=by
 unfold yI Wb
 rw[Kt]
 split
 ·rw[xN,xN]
  refine List.map_congr_left fun p _=>?_
  show (if (kK p).1=Sum.inr x then _ else _)=kK (if p.1=x then _ else _)
  by_cases h:p.1=x
  ·rw[if_pos (show (kK p).1=Sum.inr x from inr_eq.mpr h),if_pos h];rfl
  ·rw[if_neg (show ¬ (kK p).1=Sum.inr x from fun z=>h (inr_eq.mp z)),if_neg h]
 ·rw[ug];rfl
variable [Cs]
inductive KR(M:Addr->Prop)(H:Hp):List (Str×V)->List (Str×PyData)->Prop
 |nil:KR M H [] []
 |cons {x:Str} {v:V} {d:PyData} {ks:List (Str×V)} {ds:List (Str×PyData)}:Rep M H v d->KR M H ks ds->KR M H ((x,v)::ks) ((x,d)::ds)
section
variable {M M':Addr->Prop} {H H':Hp}
theorem KR.of:∀ {ks:List (Str×V)}{ds:List (Str×PyData)},ks.map (·.1)=ds.map (·.1)->RepL M H (ks.map (·.2)) (ds.map (·.2))->KR M H ks ds
 |[],[],_,_=>.nil
 |[],_::_,h,_=>by simp at h
 |_::_,[],h,_=>by simp at h
 | (x,v)::ks,(y,d)::ds,h,r=>by
  simp only[xq,List.cons.injEq]at h
  obtain⟨rfl,h⟩:=h
  simp only[xq]at r
  cases r with
  |cons r t=>exact .cons r (KR.of h t)
theorem KR.keys:∀ {ks:List (Str×V)}{ds:List (Str×PyData)},KR M H ks ds->ks.map (·.1)=ds.map (·.1)
 |_,_,.nil=>rfl
 |_,_,.cons _ t=>by rw[xq,xq,t.keys]
theorem KR.vals:∀ {ks:List (Str×V)}{ds:List (Str×PyData)},KR M H ks ds->RepL M H (ks.map (·.2)) (ds.map (·.2))
 |_,_,.nil=>.nil
 |_,_,.cons r t=>.cons r t.vals
theorem KR.length{ks:List (Str×V)}{ds:List (Str×PyData)}(h:KR M H ks ds):ks.length=ds.length:=by have:=congrArg List.length h.keys;simpa using this
theorem KR.map(hr:∀ v d,Rep M H v d->Rep M' H' v d):∀ {ks:List (Str×V)}{ds:List (Str×PyData)},KR M H ks ds->KR M' H' ks ds
 |_,_,.nil=>.nil
 |_,_,.cons r t=>.cons (hr _ _ r) (t.map hr)
theorem KR.any(x:Str):∀ {ks:List (Str×V)}{ds:List (Str×PyData)},KR M H ks ds->(ks.any fun p=>decide (p.1=x))=ds.any fun p=>decide (p.1=x)
 |_,_,.nil=>rfl
 |_,_,.cons _ t=>by rw[xM,xM,t.any x]
theorem KR.repl{x:Str}{v:V}{d:PyData}(r:Rep M H v d):∀ {ks:List (Str×V)}{ds:List (Str×PyData)},KR M H ks ds->KR M H (ks.map fun p=>if p.1=x then (p.1,v) else p) (ds.map fun p=>if p.1=x then (p.1,d) else p)
 |_,_,.nil=>.nil
 |_,_,.cons (x:=y) q t=>by
  rw[xq,xq]
  by_cases h:y=x
  ·rw[if_pos h,if_pos h];exact .cons r (t.repl r)
  ·rw[if_neg h,if_neg h];exact .cons q (t.repl r)
theorem KR.append:∀ {ks ks':List (Str×V)}{ds ds':List (Str×PyData)},KR M H ks ds->KR M H ks' ds'->KR M H (ks++ks') (ds++ds')
 |_,_,_,_,.nil,s=>s
 |_,_,_,_,.cons r t,s=>.cons r (t.append s)
theorem KR.put{ks:List (Str×V)}{ds:List (Str×PyData)}(x:Str){v:V}{d:PyData}(h:KR M H ks ds)(r:Rep M H v d):KR M H (Wb ks x v) (Wb ds x d):=by
 unfold Wb
 rw[h.any x]
 split
 ·exact h.repl r
 ·exact h.append (.cons r .nil)
theorem KR.drop(x:Str):∀ {ks:List (Str×V)}{ds:List (Str×PyData)},KR M H ks ds->KR M H (KK ks x) (KK ds x)
 |_,_,.nil=>.nil
 |_,_,.cons (x:=y) q t=>by
  unfold KK
  rw[ux,ux]
  by_cases h:y=x
  ·rw[if_neg (by simp[h]),if_neg (by simp[h])];exact t.drop x
  ·rw[if_pos (by simp[h]),if_pos (by simp[h])];exact .cons q (t.drop x)
theorem KR.val(x:Str):∀ {ks:List (Str×V)}{ds:List (Str×PyData)},KR M H ks ds->(zbw ks x).isSome=(zbw ds x).isSome/\∀ d,zbw ds x=some d->∃ v,zbw ks x=some v/\Rep M H v d
 |_,_,.nil=>⟨rfl,fun d e=>by cases e⟩
 |_,_,.cons (x:=y) (v:=v) q t=>by
  have ih:=t.val x
  unfold zbw at *
  rw[xW,xW]
  by_cases h:y=x
  ·rw[decide_eq_true (show (y,v).1=x from h)]
   exact⟨rfl,fun d e=>by cases e;exact⟨v,rfl,q⟩⟩
  ·rw[decide_eq_false (show ¬ (y,v).1=x from h)];exact ih
theorem KR.get:∀ {ks:List (Str×V)}{ds:List (Str×PyData)}{i:Nat}{p:Str×PyData},KR M H ks ds->ds[i]?=some p->∃ v,ks[i]?=some (p.1,v)/\Rep M H v p.2
 |_,_,_,_,.nil,e=>by simp at e
 |_,_,0,_,.cons r _,e=>by simp at e;subst e;exact⟨_,rfl,r⟩
 |_,_,i+1,p,.cons _ t,e=>by
  obtain⟨v,h1,h2⟩:=KR.get (i:=i) (p:=p) t (by simpa using e)
  exact⟨v,by simpa using h1,h2⟩
theorem Rep.dict_inv{v:V}{kv:List (PyData×PyData)}(r:Rep M H v (.dict kv)):∃ a,v=.ref a/\¬ M a/\((∃ ks ds,Rd H a (.dK (ks.map kK))/\kv=ds.map dK/\KR M H ks ds)∨∃ dx c fs ds,H a=some (.ins (Cs.adr c) dx fs)/\kv=(.none,.str c)::ds.map dK/\KR M H fs ds):=by
 cases r with
 |dict e n k q=>exact⟨_,rfl,n,.inl ⟨_,_,e,rfl,.of k q⟩⟩
 |inst e n k q=>exact⟨_,rfl,n,.inr ⟨_,_,_,_,e,rfl,.of k q⟩⟩
end
noncomputable def unD:List (PyData×PyData)->Option (List (Str×PyData))
 |[]=>some []
 | (.str x,d)::r=>(unD r).map ((x,d)::·)
 |_=>none
theorem zdg(ds:List (Str×PyData)):unD (ds.map dK)=some ds:=by
 induction ds with
 |nil=>rfl
 |cons p r ih=>simp[unD,dK,ih]
section
variable {X:Cx} {pins:List (Addr×Obj)} {σ:St} {H:Hp} {s:Shared} {a b:Addr} {kvs more:List (Key×V)} {A:Around} {E:Value->Shared->Prop}
end
section
variable {X:Cx} {o e:Expr} {apos cpos:Pos} {td te:TE}
end
theorem StrsAre.of:∀ {ss:List Str}{us:List Value},Vals (ss.map V.str) us->StrsAre us ss
 |[],_,.nil=>.nil
 |n::ns,_,.cons ⟨t,e⟩ r=>by subst e;exact .cons n t (StrsAre.of r)
section
variable {X:Cx}
end
section
variable {prog:Program} {w:World} {A:Around} {E:Value->Shared->Prop} {s:Shared}
end
section
variable {X:Cx}
end
end L2
namespace L2
open PySem PySem.Spec PyProof.Rows
variable [Cs]
section
variable {X:Cx} {pins:List (Addr×Obj)} {σ:St} {H:Hp} {s:Shared} {a:Addr} {kvs:List (Key×V)}
theorem Inv.ghost{o o':HO}(I:Inv X pins σ H s)(e:H a=some o)(hn:∀ xs,o≠ .tup xs)(hno:∀ b,o≠ .own b)(hnt:∀ ps,o≠ .tbl ps)(hf:∀ ob u,X.H₀ a≠some (.frz ob u))(new:ObjOk X.prog X.w (upd H a o') s.heap a o'):Inv X pins σ (upd H a o') s where
 ok:=I.ok
 os:=I.os
 bare:=I.bare
 base:={
  keep:=I.base.keep
  slot:=I.base.slot
  free:=fun b ob e' n hx=>by
   have:=I.base.free b ob e' n hx
   rw[zf (fun z=>by subst z;rw[e]at this;cases this)];exact this
  there:=I.base.there
  tups:=fun b xs e'=>by
   have:=I.base.tups b xs e'
   rw[zf (fun z=>by subst z;rw[e]at this;exact hn xs (Option.some.inj this))];exact this
  frzs:=fun b ob u e'=>by
   rw[zf (fun z=>by subst z;exact hf ob u e')];exact I.base.frzs b ob u e'
  tbls:=fun b ps e'=>by
   obtain⟨mo,this⟩:=I.base.tbls b ps e'
   exact⟨mo,by rw[zf (fun z=>by subst z;rw[e]at this;exact hnt _ (Option.some.inj this))];exact this⟩ }
 loc:=I.loc
 cell:=I.cell
 free:=by rw[zf (fun z=>by have:=I.free;rw[z,e]at this;cases this)];exact I.free
 freeC:=fun x c e'=>by
  have:=I.freeC x c e'
  rw[zf (fun z=>by rw[z,e]at this;cases this)];exact this
 pin:=fun p h=>by
  obtain⟨e1,n,r⟩:=I.pin p h
  exact⟨e1,by rw[zf (fun z=>by rw[z,e]at n;cases n)];exact n,r⟩
 hok:=fun b u q=>by
  by_cases hb:b=a
  ·subst hb;rw[zh]at q;cases q;exact new
  ·rw[zf hb]at q
   exact (I.hok b u q).stay (fun c v _ r=>r) (fun c r=>by rw[zf (fun z=>by subst z;rw[e]at r;exact hno _ (Option.some.inj r))];exact r) fun c xs r=>by rw[zf (fun z=>by subst z;rw[e]at r;exact hn _ (Option.some.inj r))];exact r
 len:=I.len
noncomputable def Fz(X:Cx)(H Hf:Hp)(a:Addr)(o:Obj)(kvs:List (Key×V)):Prop:=Hf a=some (.frz o (.dK kvs))/\(Hf=H∨(H a=some (.dK kvs)/\Hf=upd H a (.frz o (.dK kvs))/\∀ ob u,X.H₀ a≠some (.frz ob u)))
theorem Inv.thaw{o:Obj}{H':Hp}(I:Inv X pins σ H s)(e:H a=some (.frz o (.dK kvs)))(hf:∀ ob u,X.H₀ a≠some (.frz ob u)):Inv X pins σ (upd H a (.dK kvs)) s:=by
 obtain⟨_,z,hd,vs,rel,dd⟩:=(show ObjOk X.prog X.w H s.heap a (.frz o (.dK kvs)) from I.hok a _ e)
 exact I.ghost e (fun _ z=>nomatch z) (fun _ z=>nomatch z) (fun _ z=>nomatch z) hf ⟨z,hd,vs,rel,dd⟩
theorem zbC{e:Expr}{Q:VK}(h:wpE X e σ H fun v H'=>Q v H'∨∃ a kvs o,H' a=some (.frz o (.dK kvs))/\(∀ ob u,X.H₀ a≠some (.frz ob u))/\Q v (upd H' a (.dK kvs))):wpE X e σ H Q:=fun pins s I=>
 thn (h pins s I) fun u s' ⟨v,H',I',r,q⟩=>by
  rcases q with q | ⟨a,kvs,o,e,hf,q⟩
  ·exact⟨v,H',I',r,q⟩
  ·exact⟨v,_,I'.thaw (H':=H') e hf,r,q⟩
end
section
variable {X:Cx} {tg:Expr}
end
section
variable {X:Cx} {tg o:Expr} {apos cpos:Pos}
end
end L2
namespace L3
open PySem PySem.Spec PyProof.Rows L2
variable [Cs]
noncomputable def Eqv(H H':Hp):Prop:=∀ b o,H b=some o->H' b=some o∨∃ kvs,(o=.dK kvs∨∃ ob,o=.frz ob (.dK kvs))/\Rd H' b (.dK kvs)
section
variable {M0 M:Addr->Prop} {F F':Fp} {Γ Γ':Gv} {ν:Nu} {H H' Hf:Hp} {X:Cx} {a:Addr} {o:Obj} {kvs:List (Key×V)}
theorem Eqv.refl(H:Hp):Eqv H H:=fun _ _ e=>.inl e
theorem Eqv.rd(h:Eqv H H'){b:Addr}{kvs:List (Key×V)}(r:Rd H b (.dK kvs)):Rd H' b (.dK kvs):=by
 rcases r with e | ⟨ob,e⟩
 ·rcases h b _ e with z | ⟨k,z | ⟨ob,z⟩,r⟩
  ·exact .inl z
  ·cases z;exact r
  ·cases z
 ·rcases h b _ e with z | ⟨k,z | ⟨ob',z⟩,r⟩
  ·exact .inr ⟨_,z⟩
  ·cases z
  ·cases z;exact r
theorem Eqv.of(h:Eqv H H'){b:Addr}{o:HO}(e:H b=some o)(h1:∀ kvs,o≠ .dK kvs)(h2:∀ ob kvs,o≠ .frz ob (.dK kvs)):H' b=some o:=by
 rcases h b _ e with z | ⟨k,z | ⟨ob,z⟩,r⟩
 ·exact z
 ·exact absurd z (h1 k)
 ·exact absurd z (h2 ob k)
theorem Eqv.stay(h:Eqv H H'){b:Addr}(n:H b≠none):H' b≠none:=by
 cases q:H b with
 |none=>exact absurd q n
 |some o=>
  rcases h b _ q with z | ⟨k,_,z | ⟨ob,z⟩⟩<;>rw[z]<;>exact fun w=>nomatch w
mutual
theorem Rep.eqv(h:Eqv H H'):∀ {v:V}{d:PyData},Rep M H v d->Rep M H' v d
 |_,_,.none=>.none
 |_,_,.bool b=>.bool b
 |_,_,.int i=>.int i
 |_,_,.str x=>.str x
 |_,_,.list e n r=>.list (h.of e (fun _ z=>nomatch z) (fun _ _ z=>nomatch z)) n (RepL.eqv h r)
 |_,_,.tuple e r=>.tuple (h.of e (fun _ z=>nomatch z) (fun _ _ z=>nomatch z)) (RepL.eqv h r)
 |_,_,.dict e n k r=>.dict (h.rd e) n k (RepL.eqv h r)
 |_,_,.inst e n k r=>.inst (h.of e (fun _ z=>nomatch z) (fun _ _ z=>nomatch z)) n k (RepL.eqv h r)
theorem RepL.eqv(h:Eqv H H'):∀ {vs:List V}{ds:List PyData},RepL M H vs ds->RepL M H' vs ds
 |_,_,.nil=>.nil
 |_,_,.cons r t=>.cons (Rep.eqv h r) (RepL.eqv h t)
end
theorem RS.eqv(r:RS M0 F Γ ν H)(h:Eqv H H')(hF:∀ i,∀ a∈F i,H' a=H a):RS M0 F Γ ν H' :=
 ⟨fun a ha=>h.stay (r.al0 a ha),r.dis0,r.nd,r.dis,fun i o e=>let ⟨v,e1,q⟩:=r.at' i o e;⟨v,e1,q.go (fun _ _ x=>Rep.eqv h x) (fun b xs e=>h.of e (fun _ z=>nomatch z) (fun _ _ z=>nomatch z)) (hF i)⟩,r.emp,r.len⟩
theorem zej(z:Fz X H Hf a o kvs):Eqv H Hf:=by
 obtain⟨e,rfl | ⟨e1,rfl,_⟩⟩:=z
 ·exact .refl _
 ·intro b u eb
  by_cases hb:b=a
  ·subst hb
   rw[e1]at eb;cases eb
   exact .inr ⟨kvs,.inl rfl,.inr ⟨o,zh⟩⟩
  ·exact .inl (by rw[zf hb];exact eb)
theorem VV(e:H a=some (.frz o (.dK kvs))):Eqv H (upd H a (.dK kvs)):=fun b u eb=>by
 by_cases hb:b=a
 ·subst hb
  rw[e]at eb;cases eb
  exact .inr ⟨kvs,.inr ⟨o,rfl⟩,.inl zh⟩
 ·exact .inl (by rw[zf hb];exact eb)
theorem zbe{H'f:Hp}(e:H a=some (.dK kvs))(s:Stp F (upd H a (.frz o (.dK kvs))) F' H'f)(hn:∀ i,a∉F i):Stp F H F' (upd H'f a (.dK kvs)):=by
 have ka:=s.keep a _ zh hn
 refine⟨fun b u eb nb=>?_,fun b xs eb=>?_,fun b hb=>?_⟩
 ·by_cases hb:b=a
  ·subst hb
   rw[e]at eb;cases eb
   exact⟨zh,ka.2⟩
  ·rw[zf hb]
   exact s.keep b u (by rw[zf hb];exact eb) nb
 ·have hb:b≠a:=fun z=>by subst z;rw[e]at eb;cases eb
  rw[zf hb]
  exact s.tups b xs (by rw[zf hb];exact eb)
 ·by_cases z:b=a
  ·subst z;rw[zh];exact fun w=>nomatch w
  ·rw[zf z]
   exact s.stay b (by rw[zf z];exact hb)
end
noncomputable def Qh(M0:Addr->Prop)(F:Fp)(i:Nat):Addr->Prop:=fun a=>M0 a∨a∈F i
section
variable {M0:Addr->Prop} {F F':Fp} {Γ Γ':Gv} {ν:Nu} {H H':Hp} {i:Nat}
theorem Qj{F3:Fp}(h:F3 i= []):MM (Qh M0 F i) F3=MM M0 (zz F3 i (F i)):=by
 funext a
 apply propext
 constructor
 ·rintro ((h1 | h1) | ⟨j,h1⟩)
  ·exact .inl h1
  ·exact .inr ⟨i,by rw[zg];exact h1⟩
  ·refine .inr ⟨j,?_⟩
   rw[zi (fun z=>by subst z;rw[h]at h1;cases h1)];exact h1
 ·rintro (h1 | ⟨j,h1⟩)
  ·exact .inl (.inl h1)
  ·by_cases z:j=i
   ·subst z;rw[zg]at h1;exact .inl (.inr h1)
   ·rw[zi z]at h1;exact .inr ⟨j,h1⟩
theorem vt:zz (zz F i []) i (F i)=F:=by
 funext j
 by_cases z:j=i
 ·subst z;rw[zg]
 ·rw[zi z,zi z]
theorem RS.hide(r:RS M0 F Γ ν H):RS (Qh M0 F i) (zz F i []) (Γ.set i none) ν H:=by
 have hm:MM (Qh M0 F i) (zz F i [])=MM M0 F:=by rw[Qj zg,vt]
 have sub:∀ j a,a∈zz F i [] j->j≠i/\a∈F j:=fun j a h=>by
  by_cases z:j=i
  ·subst z;rw[zg]at h;cases h
  ·rw[zi z]at h;exact⟨z,h⟩
 refine⟨fun a h=>?_,fun j a h=>?_,fun j=>?_,fun j k a h1 h2=>r.dis _ _ a (sub _ _ h1).2 (sub _ _ h2).2,fun j o e=>?_,fun j h=>?_,by rw[xH];exact r.len⟩
 ·rcases h with h | h
  ·exact r.al0 a h
  ·exact r.al a (.inr ⟨i,h⟩)
 ·obtain⟨h1,h2⟩:=sub j a h
  rintro (z | z)
  ·exact r.dis0 j a h2 z
  ·exact h1 (r.dis _ _ a h2 z)
 ·by_cases z:j=i
  ·subst z;rw[zg];exact .nil
  ·rw[zi z];exact r.nd j
 ·by_cases z:j=i
  ·subst z
   by_cases hl:j<Γ.length
   ·rw[xh hl]at e;cases e
   ·rw[xv (by simpa using hl)]at e;cases e
  ·rw[xg (Ne.symm z)]at e
   rw[hm,zi z]
   exact r.at' j o e
 ·by_cases z:j=i
  ·subst z;exact zg
  ·rw[zi z]
   refine r.emp j fun o e=>h o ?_
   rw[xg (Ne.symm z)];exact e
theorem RS.unhide{o:OV}(r:RS M0 F Γ ν H)(e:Γ[i]?=some (some o))(r':RS (Qh M0 F i) F' Γ' ν H')(e':Γ'[i]?=some none)(s:Stp (zz F i []) H F' H'):RS M0 (zz F' i (F i)) (Γ'.set i (some o)) ν H'/\Stp F H (zz F' i (F i)) H':=by
 have hi':i<Γ'.length:=(xb.mp e').1
 have hFi:F' i= []:=r'.emp i fun o z=>by rw[e']at z;cases z
 have hm:MM (Qh M0 F i) F'=MM M0 (zz F' i (F i)):=Qj hFi
 have kp:∀ a∈F i,H' a=H a/\∀ j,a∉F' j:=fun a ha=>by
  obtain⟨u,eu⟩:=r.laidF ha
  obtain⟨k1,k2⟩:=s.keep a u eu fun j hj=>by
   by_cases z:j=i
   ·subst z;rw[zg]at hj;cases hj
   ·rw[zi z]at hj;exact z (r.dis _ _ a hj ha)
  exact⟨by rw[k1,eu],k2⟩
 have cls:∀ j a,a∈zz F' i (F i) j->(j=i/\a∈F i)∨(j≠i/\a∈F' j):=fun j a h=>by
  by_cases z:j=i
  ·subst z;rw[zg]at h;exact .inl ⟨rfl,h⟩
  ·rw[zi z]at h;exact .inr ⟨z,h⟩
 have s0:MM (Qh M0 F i) (zz F i [])=MM M0 F:=by rw[Qj zg,vt]
 refine⟨⟨fun a h=>r'.al0 a (.inl h),fun j a h=>?_,fun j=>?_,fun j k a h1 h2=>?_,fun j p ep=>?_,fun j h=>?_,by rw[xH];exact r'.len⟩,⟨fun b u eb nb=>?_,s.tups,s.stay⟩⟩
 ·rcases cls j a h with ⟨_,h⟩ | ⟨_,h⟩
  ·exact r.dis0 i a h
  ·exact fun z=>r'.dis0 j a h (.inl z)
 ·by_cases z:j=i
  ·subst z;rw[zg];exact r.nd _
  ·rw[zi z];exact r'.nd j
 ·rcases cls j a h1 with ⟨z1,h1⟩ | ⟨z1,h1⟩<;>rcases cls k a h2 with ⟨z2,h2⟩ | ⟨z2,h2⟩
  ·rw[z1,z2]
  ·exact absurd h2 ((kp a h1).2 k)
  ·exact absurd h1 ((kp a h2).2 j)
  ·exact r'.dis _ _ a h1 h2
 ·by_cases z:j=i
  ·subst z
   rw[xh hi']at ep
   cases ep
   obtain⟨v,ev,q⟩:=r.at' j _ e
   refine⟨v,ev,?_⟩
   rw[zg,<- hm]
   exact q.go (fun w d x=>zq s (fun a h=>(r.hide (i:=j)).al0 a h) (by rw[s0];exact x)) s.tups fun a ha=>(kp a ha).1
  ·rw[xg (Ne.symm z)]at ep
   rw[<- hm,zi z]
   exact r'.at' j p ep
 ·by_cases z:j=i
  ·subst z
   rw[xh hi']at h
   exact absurd rfl (h o)
  ·rw[zi z]
   refine r'.emp j fun p ep=>h p ?_
   rw[xg (Ne.symm z)];exact ep
 ·obtain⟨k1,k2⟩:=s.keep b u eb fun j hj=>by
   by_cases z:j=i
   ·subst z;rw[zg]at hj;cases hj
   ·rw[zi z]at hj;exact nb j hj
  refine⟨k1,fun j hj=>?_⟩
  rcases cls j b hj with ⟨_,h⟩ | ⟨_,h⟩
  ·exact nb i h
  ·exact k2 j h
end
noncomputable def noX{γ:Type}:R γ->R γ
 |.exc _ _=>.bad
 |r=>r
noncomputable def hid{γ:Type}(z:Option (Option Nat))(f:EM γ):EM γ:=fun Γ=>match z with
 |none=>f Γ
 |some none=>noX (f Γ)
 |some (some i)=>match Γ[i]? with
  |some (some o)=>match f (Γ.set i none) with
   |.ok (y,Γ2)=>match Γ2[i]? with
    |some none=>.ok (y,Γ2.set i (some o))
    |_=>.bad
   |.exc x Γ2=>match Γ2[i]? with
    |some none=>.exc x (Γ2.set i (some o))
    |_=>.bad
   |.bad=>.bad
  |_=>.bad
noncomputable def Wk(X:Cx)(F:Fp)(H Hf:Hp):Prop:=Hf=H∨∃ a o kvs,Fz X H Hf a o kvs/\∀ i,a∉F i
noncomputable def JIw(X:Cx)(M0:Addr->Prop)(F:Fp)(J:It)(z:List PyData×Option (Option Nat))(H Hf:Hp):Prop:=match z.2 with
 |none=>Hf=H/\JI M0 F J z.1 H
 |some none=>Wk X F H Hf/\JI M0 F J z.1 Hf
 |some (some i)=>Hf=H/\JI (Qh M0 F i) (zz F i []) J z.1 H
noncomputable def SIw(X:Cx)(XP:XPT)(mp:List Nat)(tg iter:Expr)(f:EM (List PyData×Option (Option Nat))):Prop:=∀ (M0:Addr->Prop) (F:Fp) (Γ:Gv) (ν:Nu) (σ:St) (H:Hp) (R:It->Hp->Prop),RS M0 F Γ ν H->Sees mp ν σ ->
 EPost M0 F ν σ H XP (fun F' Γ' H' z=>∀ J Hf,JIw X M0 F' J z H' Hf->R J Hf) (f Γ)->wpI X tg iter σ H R
section
variable {X:Cx} {XP:XPT} {mp:List Nat} {a b c e tg iter elt:Expr} {es ifs:List Expr} {pos p p2:Pos} {fa fb fc:EM FV} {ta tb:EM Bool} {na nb:EM (List PyData)}
noncomputable def zb9(f:EM (List PyData)):EM (List PyData×Option (Option Nat)):=fun Γ=>(f Γ).bind fun (ds,Γ1)=>.ok ((ds,none),Γ1)
theorem zcW(h:SI X XP mp tg iter na):SIw X XP mp tg iter (zb9 na):=fun M0 F Γ ν σ H R rs hs hp=>
 h M0 F Γ ν σ H R rs hs (hp.seq.mono fun F1 Γ1 H1 ds rs1 s1 h1 J hJ=>h1 F1 H1 rs1 (.refl _ _) J H1 ⟨rfl,hJ⟩)
noncomputable def qp{β γ:Type}(k:Nat)(t:IT)(cond:EM Bool)(it:EM β)(add:γ->β->γ):List PyData->γ->Gv->R (γ×Gv)
 |[],ys,Γ=>.ok (ys,Γ)
 |d::ds,ys,Γ=>match tgF t d (Γ++List.replicate k none) with
  |none=>.bad
  |some Γ2=>match cond Γ2 with
   |.ok (true,Γ3)=>match it Γ3 with
    |.ok (y,Γ4)=>qp k t cond it add ds (add ys y) (Γ4.take Γ.length)
    |.exc x Γ4=>.exc x (Γ4.take Γ.length)
    |.bad=>.bad
   |.ok (false,Γ3)=>qp k t cond it add ds ys (Γ3.take Γ.length)
   |.exc x Γ3=>.exc x (Γ3.take Γ.length)
   |.bad=>.bad
structure Kh{α β γ δ:Type}(ac:Acc α β)(ad:γ->δ->γ)(RA:(Addr->Prop)->Fp->Hp->α->γ->Prop)(RB:(Addr->Prop)->Fp->Hp->β->δ->Prop)(ln:γ->Nat):Prop where
 stp:∀ {M0:Addr->Prop} {F F':Fp} {H H':Hp} {x:α} {y:γ},RA M0 F H x y->Stp F H F' H'->(∀ a,M0 a->H a≠none)->RA M0 F' H' x y
 add:∀ {M0:Addr->Prop} {F:Fp} {H:Hp} {x:α} {y:γ} {u:β} {d:δ},RA M0 F H x y->RB M0 F H u d->RA M0 F H (ac.add x u) (ad y d)
 bst:∀ {M0:Addr->Prop} {F F':Fp} {H H':Hp} {u:β} {d:δ},RB M0 F H u d->Stp F H F' H'->(∀ a,M0 a->H a≠none)->RB M0 F' H' u d
 len:∀ {M0:Addr->Prop} {F:Fp} {H:Hp} {x:α} {y:γ},RA M0 F H x y->ac.len x=ln y
 lin:∀ (y:γ) (d:δ),ln (ad y d)<=ln y+1
 eqv:∀ {M0:Addr->Prop} {F:Fp} {H H':Hp} {x:α} {y:γ},RA M0 F H x y->Eqv H H'->RA M0 F H' x y
 mm:∀ {M0 M0':Addr->Prop} {F F':Fp} {H:Hp} {x:α} {y:γ},MM M0 F=MM M0' F'->RA M0 F H x y->RA M0' F' H x y
theorem qc{XQ:XPT}{α β γ δ:Type}{ac:Acc α β}{add:γ->δ->γ}{RA:(Addr->Prop)->Fp->Hp->α->γ->Prop}{RB:(Addr->Prop)->Fp->Hp->β->δ->Prop}{len:γ->Nat}(AR:Kh ac add RA RB len){N':List Str}{scope:Scope}{n k:Nat}{ix:List Nat}{t:IT}{cond:EM Bool}{it:EM δ}{te:St->Hp->(β->Hp->Prop)->Prop}{M0:Addr->Prop}{F1:Fp}{ν:Nu}{σ:St}{H1:Hp}{J:It}{ds:List PyData}{P:Fp->Gv->Hp->γ->Prop}{Γ1:Gv}{Q:α->Hp->Prop}{c0:γ}
  (hm:∀ j i:Nat,ix[j]?=some i->∃ m,mp[i]?=some m/\m<n) (hN':N'.length=k+ix.length) (h0:RA M0 F1 H1 ac.a0 c0) (hl0:len c0=0)
  (hg:∀ cl C s2 H2 fp,Cat X σ C s2 H2 fp->SG (X.comp N' scope cl C s2 H2 fp) (mpC mp n k ix) (·<n) tg t) (hc:∀ cl C s2 H2 fp,Cat X σ C s2 H2 fp->SF (X.comp N' scope cl C s2 H2 fp) (XPc XP σ) (mpC mp n k ix) ifs cond)
  (he:∀ (M0:Addr->Prop) (F:Fp) (Γ:Gv) (ν:Nu) (σ1:St) (H:Hp) (Q:β->Hp->Prop),RS M0 F Γ ν H->Sees (mpC mp n k ix) ν σ1->EPost M0 F ν σ1 H (XPc XP σ) (fun F' Γ' H' d=>∀ y,RB M0 F' H' y d->Q y H') (it Γ)->te σ1 H Q)
  (hq:∀ x Γ F ν H,XQ x Γ F ν σ H->XPc XP σ x Γ F ν σ H) (rs1:RS M0 F1 Γ1 ν H1) (hs:Sees mp ν σ) (hJ:JI M0 F1 J ds H1) (hd:ds.length<=1000000) (hn:Γ1.length=n) (hp:EPost M0 F1 ν σ H1 XQ P (qp k t cond it add ds c0 Γ1))
  (fin:∀ F' Γ' H' ys vs,RS M0 F' Γ' ν H'->RA M0 F' H' vs ys->P F' Γ' H' ys->Stp F1 H1 F' H'->Q vs H') :
  vf ac k ix (gU X N' scope tg σ) (fU X N' scope ifs σ) te σ J H1 Q:=by
 have hνn:ν.length=n:=by rw[rs1.len,hn]
 refine⟨fun i m vs H=>m=ds.length-i/\i<=ds.length/\∃ F' Γ' ys,RS M0 F' Γ' ν H/\Stp F1 H1 F' H/\RA M0 F' H vs ys/\Γ'.length=n/\len ys<=i/\EPost M0 F' ν σ H XQ P (qp k t cond it add (ds.drop i) ys Γ'),⟨ds.length,by simp,ua _,F1,Γ1,c0,rs1,.refl _ _,h0,hn,by rw[hl0];exact xi _,hp⟩,?_⟩
 rintro i m vs H ⟨rfl,hil,F',Γ',ys,rs,st,rv,hln,hyl,hp⟩
 have hsz:=sizeLine_eq
 refine⟨by rw[AR.len rv];omega,?_⟩
 by_cases hlt:i<ds.length
 ·rw[um hlt,qp]at hp
  obtain⟨jgo,jst⟩:=hJ i F' H st rs1.al0
  obtain⟨go,yl⟩:=jgo ds[i] (by simp[hlt])
  refine .inr ⟨go,fun vs' H'=>∃ F'' Γ'' ys',RS M0 F'' Γ'' ν H'/\Stp F1 H1 F'' H'/\RA M0 F'' H' vs' ys'/\Γ''.length=n/\len ys'<=i+1/\EPost M0 F'' ν σ H' XQ P (qp k t cond it add (ds.drop (i+1)) ys' Γ''),fun vs' H' h=>⟨ds.length-(i+1),by omega,rfl,hlt,h⟩,fun x H2 hy=>?_⟩
  obtain⟨s2,rx⟩:=yl x H2 hy
  have rs2:=(rs.same s2).ext k
  have hcl:(cS k ix σ).length=N'.length:=by unfold cS;simp[hN']
  have hsee:Sees (mpC mp n k ix) (ν++List.replicate k none) (cS k ix σ):=fun s j v e1 e2=>by
   by_cases hsk:s<k
   ·rw[zey hsk]at e1
    cases e1
    rw[xf (by omega),xJ]at e2
    split at e2<;>cases e2
   ·obtain⟨j',rfl⟩:∃ j',s=k+j':=⟨s-k,by omega⟩
    rw[zad]at e1
    cases q:ix[j']? with
    |none=>rw[q]at e1;cases e1
    |some i0=>
     rw[q]at e1
     obtain⟨m,hm1,hm2⟩:=hm j' i0 q
     have:mp.getD i0 0=m:=by rw[uk,hm1];rfl
     have ej:m=j:=by
      have e3:some (mp.getD i0 0)=some j:=e1
      rw[this]at e3;exact Option.some.inj e3
     subst ej
     rw[xc (by omega)]at e2
     exact zd4 q (hs i0 m v hm1 e2)
  cases et:tgF t ds[i] (Γ'++List.replicate k none) with
  |none=>rw[et]at hp;exact hp.elim
  |some Γ2=>
   rw[et]at hp
   intro cl C s2' H2' fp cat
   refine hg cl C s2' H2' fp cat M0 F' _ Γ2 _ (cS k ix σ) H2 x ds[i] _ rs2 hsee hcl rx et fun F3 ν3 σ3 rs3 s3 hs3 hl3 n3 m3=>⟨?_,fun cl C s2' H2' fp cat=>?_⟩
   ·apply ud
    intro j
    rw[List.getElem?_drop,List.getElem?_drop]
    by_cases hj:j<ix.length
    ·obtain⟨m,hm1,hm2⟩:=hm j ix[j] (by simp[hj])
     refine m3 (k+j) m ?_ hm2
     rw[zad,xC hj]
     show some (mp.getD ix[j] 0)=some m
     rw[uk,hm1];rfl
    ·have hl3':σ3.length=N'.length:=hl3
     rw[xv (by omega),xv (by omega)]
   ·have stA:Stp F1 H1 F3 H2:=(st.trans (.same s2)).trans s3
    have back:∀ {F4:Fp} {Γ4:Gv} {H4:Hp},RS M0 F4 Γ4 ν3 H4->RS M0 (wj F4 n) (Γ4.take n) ν H4/\Stp F4 H4 (wj F4 n) H4:=fun {F4 Γ4 H4} r4=>by
     obtain⟨r5,s5⟩:=r4.cut n
     have:ν3.take n=ν:=by
      apply ud
      intro j
      by_cases hj:j<n
      ·rw[xL hj,n3 j hj,xc (by omega)]
      ·rw[xv (by rw[xI];omega),xv (by omega)]
     rw[this]at r5
     exact⟨r5,s5⟩
    have lenOf:∀ {F4:Fp} {Γ4:Gv} {H4:Hp},RS M0 F4 Γ4 ν3 H4->(Γ4.take n).length=n:=fun {F4 Γ4 H4} r4=>by
     have h1:=r4.len
     have h2:=rs3.len
     have h3:Γ2.length=n+k:=by rw[yR _ _ _ _ et,xw,uh,hln]
     rw[xI];omega
    refine hc cl C s2' H2' fp cat M0 F3 Γ2 ν3 σ3 H2 _ rs3 hs3 ?_
    dsimp only at hp
    cases ec:cond Γ2 with
    |bad=>rw[ec]at hp;exact hp.elim
    |exc xx yy=>
     rw[ec]at hp
     intro F4 H4 rs4 s4
     obtain⟨r5,s5⟩:=back rs4
     exact hq _ _ _ _ _ (hp _ H4 (by rw[hln];exact r5) ((((Stp.same s2).trans s3).trans s4).trans s5))
    |ok z=>
     obtain⟨bb,Γ3⟩:=z
     rw[ec]at hp
     intro F4 H4 rs4 s4
     have rvA:RA M0 F4 H4 vs ys:=AR.stp (AR.stp (AR.stp rv (.same s2) rs.al0) s3 (rs.same s2).al0) s4 rs3.al0
     cases bb with
     |false=>
      refine Vt ?_
      obtain⟨r5,s5⟩:=back rs4
      have stB:=(stA.trans s4).trans s5
      rw[hln]at hp
      exact⟨_,_,ys,r5,stB,AR.stp rvA s5 rs4.al0,lenOf rs4,by omega,hp.step ((((Stp.same s2).trans s3).trans s4).trans s5)⟩
     |true=>
      refine Vu (he M0 F4 Γ3 ν3 σ3 H4 _ rs4 hs3 ?_)
      dsimp only at hp
      cases ee:it Γ3 with
      |bad=>rw[ee]at hp;exact hp.elim
      |exc xx yy=>
       rw[ee]at hp
       intro F5 H5 rs5 s5
       obtain⟨r6,s6⟩:=back rs5
       exact hq _ _ _ _ _ (hp _ H5 (by rw[hln];exact r6) (((((Stp.same s2).trans s3).trans s4).trans s5).trans s6))
      |ok z=>
       obtain⟨u,Γ4⟩:=z
       rw[ee]at hp
       intro F5 H5 rs5 s5 v hv
       dsimp only at hp
       obtain⟨r6,s6⟩:=back rs5
       have stB:=((stA.trans s4).trans s5).trans s6
       rw[hln]at hp
       exact⟨_,_,add ys u,r6,stB,AR.add (AR.stp (AR.stp rvA s5 rs4.al0) s6 rs5.al0) (AR.bst hv s6 rs5.al0),lenOf rs5,by have:=AR.lin ys u;omega,hp.step (((((Stp.same s2).trans s3).trans s4).trans s5).trans s6)⟩
 ·have e:i=ds.length:=by omega
  subst e
  rw[uy,qp]at hp
  obtain⟨jgo,jst⟩:=hJ _ F' H st rs1.al0
  exact .inl ⟨jst (xi _),fin F' Γ' H ys vs rs rv (hp F' H rs (.refl _ _)) st⟩
theorem zbt{H:Hp}{a b:Addr}{o u:HO}(h:a≠b):upd (upd H a o) b u=upd (upd H b u) a o:=by
 funext c
 unfold upd
 by_cases h1:c=b
 ·rw[if_pos h1,if_neg (fun z=>h (z.symm.trans h1)),if_pos h1]
 ·rw[if_neg h1]
  by_cases h2:c=a
  ·rw[if_pos h2,if_pos h2]
  ·rw[if_neg h2,if_neg h2,if_neg h1]
theorem EPost.noX{α:Type}{M0:Addr->Prop}{F:Fp}{ν:Nu}{σ:St}{H:Hp}{P:Fp->Gv->Hp->α->Prop}{r:R (α×Gv)}(h:EPost M0 F ν σ H XP P (noX r)):EPost M0 F ν σ H XP P r:=by
 cases r with
 |exc x Γ=>exact h.elim
 |ok a=>exact h
 |bad=>exact h
theorem zfY{α β γ δ:Type}{ac:Acc α β}{ad:γ->δ->γ}{RA:(Addr->Prop)->Fp->Hp->α->γ->Prop}{RB:(Addr->Prop)->Fp->Hp->β->δ->Prop}{ln:γ->Nat}(AR:Kh ac ad RA RB ln){N':List Str}{scope:Scope}{n k:Nat}{ix:List Nat}{t:IT}{cond:EM Bool}{it:EM δ}{te:St->Hp->(β->Hp->Prop)->Prop}{M0:Addr->Prop}{F1:Fp}{ν:Nu}{σ:St}{H1 Hf:Hp}{J:It}{ds:List PyData}{Γ1:Gv}{Q:VK}{c0:γ}
  (hm:∀ j i:Nat,ix[j]?=some i->∃ m,mp[i]?=some m/\m<n) (hN':N'.length=k+ix.length) (h0:∀ M0 F H,RA M0 F H ac.a0 c0) (hl0:ln c0=0)
  (hg:∀ cl C s2 H2 fp,Cat X σ C s2 H2 fp->SG (X.comp N' scope cl C s2 H2 fp) (mpC mp n k ix) (·<n) tg t) (hc:∀ cl C s2 H2 fp,Cat X σ C s2 H2 fp->SF (X.comp N' scope cl C s2 H2 fp) (XPc XP σ) (mpC mp n k ix) ifs cond)
  (he:∀ (M0:Addr->Prop) (F:Fp) (Γ:Gv) (ν:Nu) (σ1:St) (H:Hp) (Q:β->Hp->Prop),RS M0 F Γ ν H->Sees (mpC mp n k ix) ν σ1->EPost M0 F ν σ1 H (XPc XP σ) (fun F' Γ' H' d=>∀ y,RB M0 F' H' y d->Q y H') (it Γ)->te σ1 H Q)
  (rs1:RS M0 F1 Γ1 ν H1) (hs:Sees mp ν σ) (wk:Wk X F1 H1 Hf) (hJ:JI M0 F1 J ds Hf) (hd:ds.length<=1000000) (hn:Γ1.length=n)
  (hp:EPost M0 F1 ν σ H1 XP (fun F' Γ' H' ys=>∀ vs p,RA M0 F' H' vs ys->H' p=none->Q (.ref p) (upd H' p (ac.ho vs))) (noX (qp k t cond it ad ds c0 Γ1))) :
  vf ac k ix (gU X N' scope tg σ) (fU X N' scope ifs σ) te σ J Hf fun ys H2=>∀ p,H2 p=none->(Q (.ref p) (upd H2 p (ac.ho ys))∨∃ a kvs o,upd H2 p (ac.ho ys) a=some (.frz o (.dK kvs))/\(∀ ob u,X.H₀ a≠some (.frz ob u))/\Q (.ref p) (upd (upd H2 p (ac.ho ys)) a (.dK kvs))):=by
 have plain:Hf=H1->vf ac k ix (gU X N' scope tg σ) (fU X N' scope ifs σ) te σ J Hf fun ys H2=>∀ p,H2 p=none->(Q (.ref p) (upd H2 p (ac.ho ys))∨∃ a kvs o,upd H2 p (ac.ho ys) a=some (.frz o (.dK kvs))/\(∀ ob u,X.H₀ a≠some (.frz ob u))/\Q (.ref p) (upd (upd H2 p (ac.ho ys)) a (.dK kvs))):=fun e=>by
  subst e
  exact qc AR hm hN' (h0 _ _ _) hl0 hg hc he (fun _ _ _ _ _ h=>⟨_,_,_,h⟩) rs1 hs hJ hd hn hp.noX fun F' Γ' H' ys vs rs' rv hP st p hp'=>.inl (hP vs p rv hp')
 rcases wk with e | ⟨a,o,kvs,⟨ef,e | ⟨ea,e,hH⟩⟩,hna⟩
 ·exact plain e
 ·exact plain e
 ·subst e
  have hp2:EPost M0 F1 ν σ (upd H1 a (.frz o (.dK kvs))) XP (fun F' Γ' H' ys=>∀ vs p,RA M0 F' (upd H' a (.dK kvs)) vs ys->upd H' a (.dK kvs) p=none->Q (.ref p) (upd (upd H' a (.dK kvs)) p (ac.ho vs))) (qp k t cond it ad ds c0 Γ1):=by
   cases er:qp k t cond it ad ds c0 Γ1 with
   |bad=>rw[er]at hp;exact hp
   |exc x y=>rw[er]at hp;exact hp.elim
   |ok z=>
    rw[er]at hp
    intro F' H' rs' s'
    have ka:=(s'.keep a _ zh hna).1
    exact hp F' _ (rs'.eqv (VV ka) fun i b hb=>zf fun z=>(s'.keep a _ zh hna).2 i (by rw[<- z];exact hb)) (zbe ea s' hna)
  refine qc AR hm hN' (h0 _ _ _) hl0 hg hc he (fun _ _ _ _ _ h=>⟨_,_,_,h⟩) (rs1.eqv (zej ⟨zh,.inr ⟨ea,rfl,hH⟩⟩) fun i b hb=>zf fun z=>hna i (by rw[<- z];exact hb)) hs hJ hd hn hp2 fun F' Γ' H' ys vs rs' rv hP st p hp'=>.inr ⟨a,kvs,o,?_,hH,?_⟩
  ·have ka:=(st.keep a _ zh hna).1
   rw[zf (fun z=>by subst z;rw[ka]at hp';cases hp')];exact ka
  ·have ka:=(st.keep a _ zh hna).1
   have hpa:p≠a:=fun z=>by subst z;rw[ka]at hp';cases hp'
   rw[zbt hpa]
   exact hP vs p (AR.eqv rv (VV ka)) (by rw[zf hpa];exact hp')
theorem zfZ{α β γ δ:Type}{ac:Acc α β}{ad:γ->δ->γ}{RA:(Addr->Prop)->Fp->Hp->α->γ->Prop}{RB:(Addr->Prop)->Fp->Hp->β->δ->Prop}{ln:γ->Nat}(AR:Kh ac ad RA RB ln){N':List Str}{scope:Scope}{n k:Nat}{ix:List Nat}{t:IT}{cond:EM Bool}{it:EM δ}{te:St->Hp->(β->Hp->Prop)->Prop}{M0:Addr->Prop}{F1:Fp}{ν:Nu}{σ:St}{H1 Hf:Hp}{J:It}{z:List PyData×Option (Option Nat)}{Γ1:Gv}{Q:VK}{c0:γ}
  (hm:∀ j i:Nat,ix[j]?=some i->∃ m,mp[i]?=some m/\m<n) (hN':N'.length=k+ix.length) (h0:∀ M0 F H,RA M0 F H ac.a0 c0) (hl0:ln c0=0)
  (hg:∀ cl C s2 H2 fp,Cat X σ C s2 H2 fp->SG (X.comp N' scope cl C s2 H2 fp) (mpC mp n k ix) (·<n) tg t) (hc:∀ cl C s2 H2 fp,Cat X σ C s2 H2 fp->SF (X.comp N' scope cl C s2 H2 fp) (XPc XP σ) (mpC mp n k ix) ifs cond)
  (he:∀ (M0:Addr->Prop) (F:Fp) (Γ:Gv) (ν:Nu) (σ1:St) (H:Hp) (Q:β->Hp->Prop),RS M0 F Γ ν H->Sees (mpC mp n k ix) ν σ1->EPost M0 F ν σ1 H (XPc XP σ) (fun F' Γ' H' d=>∀ y,RB M0 F' H' y d->Q y H') (it Γ)->te σ1 H Q)
  (rs1:RS M0 F1 Γ1 ν H1) (hs:Sees mp ν σ) (hJ:JIw X M0 F1 J z H1 Hf) (hd:z.1.length<=1000000) (hn:Γ1.length=n)
  (hp:EPost M0 F1 ν σ H1 XP (fun F' Γ' H' ys=>∀ vs p,RA M0 F' H' vs ys->H' p=none->Q (.ref p) (upd H' p (ac.ho vs))) (hid z.2 (qp k t cond it ad z.1 c0) Γ1)) :
  vf ac k ix (gU X N' scope tg σ) (fU X N' scope ifs σ) te σ J Hf fun ys H2=>∀ p,H2 p=none->(Q (.ref p) (upd H2 p (ac.ho ys))∨∃ a kvs o,upd H2 p (ac.ho ys) a=some (.frz o (.dK kvs))/\(∀ ob u,X.H₀ a≠some (.frz ob u))/\Q (.ref p) (upd (upd H2 p (ac.ho ys)) a (.dK kvs))):=by
 obtain⟨ds,z⟩:=z
 cases z with
 |none=>
  obtain⟨rfl,hJ⟩:=hJ
  exact qc AR hm hN' (h0 _ _ _) hl0 hg hc he (fun _ _ _ _ _ h=>⟨_,_,_,h⟩) rs1 hs hJ hd hn hp fun F' Γ' H' ys vs rs' rv hP st p hp'=>.inl (hP vs p rv hp')
 |some z=>cases z with
  |none=>exact zfY AR hm hN' h0 hl0 hg hc he rs1 hs hJ.1 hJ.2 hd hn hp
  |some i=>
   obtain⟨rfl,hJ⟩:=hJ
   dsimp only [hid]at hp
   split at hp
   ·rename_i o eo
    refine qc AR hm hN' (h0 _ _ _) hl0 hg hc he (fun _ _ _ _ _ h=>h) (rs1.hide (i:=i)) hs hJ hd (by rw[xH];exact hn) (P:=fun F' Γ' H' ys=>∀ vs p,RA (Qh M0 F1 i) F' H' vs ys->H' p=none->Q (.ref p) (upd H' p (ac.ho vs))) (XQ:=XPc XP σ) ?_ fun F' Γ' H' ys vs rs' rv hP st p hp'=>.inl (hP vs p rv hp')
    generalize qp k t cond it ad ds c0 (Γ1.set i none)=r at hp
    cases r with
    |bad=>exact hp
    |exc x Γ2=>
     dsimp only at hp
     split at hp
     ·rename_i e2
      intro F' H' rs' s'
      obtain⟨rs3,s3⟩:=rs1.unhide eo rs' e2 s'
      exact⟨_,_,_,hp _ H' rs3 s3⟩
     ·exact hp.elim
    |ok w=>
     obtain⟨ys,Γ2⟩:=w
     dsimp only at hp
     split at hp
     ·rename_i e2
      intro F' H' rs' s' vs p ra hp'
      obtain⟨rs3,s3⟩:=rs1.unhide eo rs' e2 s'
      exact hp _ H' rs3 s3 vs p (AR.mm (Qj (rs'.emp i fun o z=>by rw[e2]at z;cases z)) ra) hp'
     ·exact hp.elim
   ·exact hp.elim
noncomputable def itL(elt:EM FV):EM PyData:=fun Γ=>(elt Γ).bind fun (u,Γ1)=>match derS Γ1 u with
 |some y=>.ok (y,Γ1)
 |none=>.bad
theorem YV:Kh zbM (fun (ys:List PyData) y=>ys++ [y]) (fun M0 F H vs ys=>RepL (MM M0 F) H vs ys) (fun M0 F H v y=>Rep (MM M0 F) H v y) List.length where
 stp r s h0:=qE s h0 r
 add r q:=RepL.append r (.cons q .nil)
 bst r s h0:=zq s h0 r
 len r:=r.length
 lin y d:=by simp
 eqv r h:=RepL.eqv h r
 mm e r:=by rw[<- e];exact r
noncomputable def zW(k:Nat)(t:IT)(cond:EM Bool)(elt:EM FV):List PyData->List PyData->Gv->R (List PyData×Gv):=qp k t cond (itL elt) fun ys y=>ys++ [y]
noncomputable def fComp(n k:Nat)(t:IT)(src:EM (List PyData))(cond:EM Bool)(elt:EM FV):EM (List PyData):=fun Γ=>(src Γ).bind fun (ds,Γ1)=>if ds.length<=1000000/\Γ1.length=n then zW k t cond elt ds [] Γ1 else .bad
theorem zep{mp':List Nat}{Y:Cx}{el:EM FV}{XP:XPT}(he:SE Y XP mp' elt el){M0:Addr->Prop}{F:Fp}{Γ:Gv}{ν:Nu}{σ:St}{H:Hp}{Q:VK}(rs:RS M0 F Γ ν H)(hs:Sees mp' ν σ)(hp:EPost M0 F ν σ H XP (fun F' Γ' H' d=>∀ y,Rep (MM M0 F') H' y d->Q y H') (itL el Γ)):wpE Y elt σ H Q :=
 he.run rs hs hp fun F1 Γ1 H1 u v rs1 s1 o1 h1=>by
  dsimp only at h1
  split at h1
  ·rename_i y ey
   exact h1 F1 H1 rs1 (.refl _ _) v (o1.strong rs1 ey)
  ·exact h1.elim
theorem VN{N':List Str}{scope:Scope}{n k:Nat}{ix:List Nat}{t:IT}{src:EM (List PyData)}{cond:EM Bool}{el:EM FV}(S:CSc X.env.scope X.N scope N' k ix)(hm:∀ j i:Nat,ix[j]?=some i->∃ m,mp[i]?=some m/\m<n)
  (hi:SI X XP mp tg iter src) (hg:∀ σ cl C s2 H2 fp,Cat X σ C s2 H2 fp->SG (X.comp N' scope cl C s2 H2 fp) (mpC mp n k ix) (·<n) tg t) (hc:∀ σ cl C s2 H2 fp,Cat X σ C s2 H2 fp->SF (X.comp N' scope cl C s2 H2 fp) (XPc XP σ) (mpC mp n k ix) ifs cond) (he:∀ σ cl C s2 H2 fp,Cat X σ C s2 H2 fp->SE (X.comp N' scope cl C s2 H2 fp) (XPc XP σ) (mpC mp n k ix) elt el) :
  SNt XP mp (WT k ix (wpI X tg iter) (gU X N' scope tg) (fU X N' scope ifs) (eU X N' scope elt)) (fComp n k t src cond el):=fun M0 F Γ ν σ H Q rs hs hp=>by
 refine hi M0 F Γ ν σ H _ rs hs (hp.seq.mono fun F1 Γ1 H1 ds rs1 s1 h1 J hJ=>?_)
 dsimp only at h1
 split at h1
 ·rename_i hh
  exact qc YV hm S.len .nil rfl (hg σ) (hc σ) (fun M0 F Γ ν σ1 H Q rs hs hp cl C s2 H2 fp c=>zep (he σ cl C s2 H2 fp c) rs hs hp) (fun _ _ _ _ _ h=>⟨_,_,_,h⟩) rs1 hs hJ hh.1 hh.2 h1 fun F' Γ' H' ys vs rs' rv hP _ p hp'=>hP vs p rv hp'
 ·exact h1.elim
theorem zcY{N':List Str}{scope:Scope}{n k:Nat}{ix:List Nat}{t:IT}{src:EM (List PyData)}{cond:EM Bool}{el:EM FV}(hcalm:X.calm=true)(S:CSc X.env.scope X.N scope N' k ix)(hm:∀ j i:Nat,ix[j]?=some i->∃ m,mp[i]?=some m/\m<n)
  (hi:SI X XP mp tg iter src) (hg:∀ σ cl C s2 H2 fp,Cat X σ C s2 H2 fp->SG (X.comp N' scope cl C s2 H2 fp) (mpC mp n k ix) (·<n) tg t) (hc:∀ σ cl C s2 H2 fp,Cat X σ C s2 H2 fp->SF (X.comp N' scope cl C s2 H2 fp) (XPc XP σ) (mpC mp n k ix) ifs cond) (he:∀ σ cl C s2 H2 fp,Cat X σ C s2 H2 fp->SE (X.comp N' scope cl C s2 H2 fp) (XPc XP σ) (mpC mp n k ix) elt el)
  (hf:∀ x,foldedSetIterable iter X.env x=pure x):SN X XP mp (.ListComp elt [⟨tg,iter,ifs,0⟩] scope pos) (fComp n k t src cond el):=fun M0 F Γ ν σ H Q rs hs hp=>
 (zap hcalm S hf).wp (VN S hm hi hg hc he M0 F Γ ν σ H Q rs hs hp)
noncomputable def SD(X:Cx)(XP:XPT)(mp:List Nat)(e:Expr)(f:EM (List (Str×PyData))):Prop:=∀ (M0:Addr->Prop) (F:Fp) (Γ:Gv) (ν:Nu) (σ:St) (H:Hp) (Q:VK),RS M0 F Γ ν H->Sees mp ν σ ->
 EPost M0 F ν σ H XP (fun F' Γ' H' ds=>∀ ks p,KR (MM M0 F') H' ks ds->H' p=none->Q (.ref p) (upd H' p (.dK (ks.map kK)))) (f Γ)->wpE X e σ H Q
noncomputable def SDt(XP:XPT)(mp:List Nat)(t:TE)(f:EM (List (Str×PyData))):Prop:=∀ (M0:Addr->Prop) (F:Fp) (Γ:Gv) (ν:Nu) (σ:St) (H:Hp) (Q:VK),RS M0 F Γ ν H->Sees mp ν σ ->
 EPost M0 F ν σ H XP (fun F' Γ' H' ds=>∀ ks p,KR (MM M0 F') H' ks ds->H' p=none->Q (.ref p) (upd H' p (.dK (ks.map kK)))) (f Γ)->t σ H Q
theorem KR.stp{M0:Addr->Prop}{F F':Fp}{H H':Hp}{ks:List (Str×V)}{ds:List (Str×PyData)}(h:KR (MM M0 F) H ks ds)(s:Stp F H F' H')(h0:∀ a,M0 a->H a≠none):KR (MM M0 F') H' ks ds:=h.map fun _ _ x=>zq s h0 x
noncomputable def itD(ek ev:EM FV):EM (Str×PyData):=fun Γ=>(ek Γ).bind fun (u,Γ1)=>match derf Γ1 u with
 |some (.str x)=>(ev Γ1).bind fun (w,Γ2)=>match derS Γ2 w with
  |some y=>.ok ((x,y),Γ2)
  |none=>.bad
 |_=>.bad
theorem Wh:Kh zbL (fun (ys:List (Str×PyData)) (y:Str×PyData)=>Wb ys y.1 y.2) (fun M0 F H kvs ys=>∃ ks,kvs=ks.map kK/\KR (MM M0 F) H ks ys) (fun M0 F H (u:Key×V) (y:Str×PyData)=>u.1=.inr y.1/\Rep (MM M0 F) H u.2 y.2) List.length where
 stp:=fun ⟨ks,e,r⟩ s h0=>⟨ks,e,KR.stp r s h0⟩
 add:=fun {M0 F H x y u d} ⟨ks,e,r⟩ ⟨q1,q2⟩=>⟨Wb ks d.1 u.2,by rw[e,<- zcx,<- q1],r.put d.1 q2⟩
 bst:=fun ⟨q1,q2⟩ s h0=>⟨q1,zq s h0 q2⟩
 len:=fun ⟨ks,e,r⟩=>by rw[e];show (ks.map kK).length=_;rw[xn,r.length]
 lin y d:=Vy y d.1 d.2
 eqv:=fun ⟨ks,e,r⟩ h=>⟨ks,e,r.map fun _ _ x=>Rep.eqv h x⟩
 mm:=fun e ⟨ks,e',r⟩=>⟨ks,e',by rw[<- e];exact r⟩
noncomputable def eD(X:Cx)(N':List Str)(scope:Scope)(kx vx:Expr)(σ0:St):St->Hp->(Key×V->Hp->Prop)->Prop:=VU (eU X N' scope kx σ0) (eU X N' scope vx σ0)
noncomputable def vp(n k:Nat)(t:IT)(src:EM (List PyData×Option (Option Nat)))(cond:EM Bool)(ek ev:EM FV):EM (List (Str×PyData)):=fun Γ=>(src Γ).bind fun (z,Γ1)=>if z.1.length<=1000000/\Γ1.length=n then hid z.2 (qp k t cond (itD ek ev) (fun ys y=>Wb ys y.1 y.2) z.1 []) Γ1 else .bad
theorem kB{kx vx:Expr}{N':List Str}{scope:Scope}{k:Nat}{ix:List Nat}(hcalm:X.calm=true)(S:CSc X.env.scope X.N scope N' k ix)(hf:∀ x,foldedSetIterable iter X.env x=pure x) :
  PE X (.DictComp kx vx [⟨tg,iter,ifs,0⟩] scope pos) (JM k ix (wpI X tg iter) (gU X N' scope tg) (fU X N' scope ifs) (eD X N' scope kx vx)) :=
 zao hcalm S Qn (fun _ cl C s2 H2 fp c pins s σ H v u Q I r h=>h cl C s2 H2 fp c pins s u I r) (fun _ cl C s2 H2 fp c pins s σ H Q I h=>h cl C s2 H2 fp c pins s I)
  (fun _ cl C s2 H2 fp c pins s σ H Q I h=>h cl C s2 H2 fp c pins s I) (fun _ cl C s2 H2 fp c pins s σ H Q I h=>h cl C s2 H2 fp c pins s I) hf
theorem zdv{N':List Str}{scope:Scope}{mp':List Nat}{kx vx:Expr}{ek ev:EM FV}{σ0:St}(hk:∀ cl C s2 H2 fp,Cat X σ0 C s2 H2 fp->SE (X.comp N' scope cl C s2 H2 fp) (XPc XP σ0) mp' kx ek)(hv:∀ cl C s2 H2 fp,Cat X σ0 C s2 H2 fp->SE (X.comp N' scope cl C s2 H2 fp) (XPc XP σ0) mp' vx ev){M0:Addr->Prop}{F:Fp}{Γ:Gv}{ν:Nu}{σ:St}{H:Hp}{Q:Key×V->Hp->Prop}(rs:RS M0 F Γ ν H)(hs:Sees mp' ν σ)
  (hp:EPost M0 F ν σ H (XPc XP σ0) (fun F' Γ' H' d=>∀ y:Key×V,(y.1=.inr d.1/\Rep (MM M0 F') H' y.2 d.2)->Q y H') (itD ek ev Γ)):eD X N' scope kx vx σ0 σ H Q:=fun cl C s2 H2 fp c=>
 (hk cl C s2 H2 fp c).run rs hs hp fun F1 Γ1 H1 u v rs1 s1 o1 h1=>by
  dsimp only at h1
  split at h1
  ·rename_i x ex
   cases o1.weak rs1 ex
   intro cl C s2 H2 fp c
   refine (hv cl C s2 H2 fp c).run rs1 hs h1 fun F2 Γ2 H2 w v2 rs2 s2 o2 h2=>?_
   dsimp only at h2
   split at h2
   ·rename_i y ey
    exact⟨.inr x,rfl,h2 F2 H2 rs2 (.refl _ _) (.inr x,v2) ⟨rfl,o2.strong rs2 ey⟩⟩
   ·exact h2.elim
  ·exact h1.elim
theorem zcG{kx vx:Expr}{N':List Str}{scope:Scope}{n k:Nat}{ix:List Nat}{t:IT}{src:EM (List PyData×Option (Option Nat))}{cond:EM Bool}{ek ev:EM FV}(hcalm:X.calm=true)(S:CSc X.env.scope X.N scope N' k ix)(hm:∀ j i:Nat,ix[j]?=some i->∃ m,mp[i]?=some m/\m<n)
  (hi:SIw X XP mp tg iter src) (hg:∀ σ cl C s2 H2 fp,Cat X σ C s2 H2 fp->SG (X.comp N' scope cl C s2 H2 fp) (mpC mp n k ix) (·<n) tg t) (hc:∀ σ cl C s2 H2 fp,Cat X σ C s2 H2 fp->SF (X.comp N' scope cl C s2 H2 fp) (XPc XP σ) (mpC mp n k ix) ifs cond) (hk:∀ σ cl C s2 H2 fp,Cat X σ C s2 H2 fp->SE (X.comp N' scope cl C s2 H2 fp) (XPc XP σ) (mpC mp n k ix) kx ek) (hv:∀ σ cl C s2 H2 fp,Cat X σ C s2 H2 fp->SE (X.comp N' scope cl C s2 H2 fp) (XPc XP σ) (mpC mp n k ix) vx ev)
  (hf:∀ x,foldedSetIterable iter X.env x=pure x):SD X XP mp (.DictComp kx vx [⟨tg,iter,ifs,0⟩] scope pos) (vp n k t src cond ek ev):=fun M0 F Γ ν σ H Q rs hs hp=>
 zbC ((kB hcalm S hf).wp (hi M0 F Γ ν σ H _ rs hs (hp.seq.mono fun F1 Γ1 H1 z rs1 s1 h1 J Hf hJ=>by
  dsimp only at h1
  split at h1
  ·rename_i hh
   exact zfZ Wh hm S.len (fun _ _ _=>⟨[],rfl,.nil⟩) rfl (hg σ) (hc σ) (fun M0 F Γ ν σ1 H Q rs hs hp=>zdv (hk σ) (hv σ) rs hs hp) rs1 hs hJ hh.1 hh.2 (h1.mono fun F' Γ' H' ys rs' s' hP vs p ⟨ks,e,r⟩ hp'=>by rw[e];exact hP ks p r hp')
  ·exact h1.elim)))
theorem zaM{kx vx:Expr}{N':List Str}{scope:Scope}{n k:Nat}{ix:List Nat}{t:IT}{src:EM (List PyData)}{cond:EM Bool}{ek ev:EM FV}(S:CSc X.env.scope X.N scope N' k ix)(hm:∀ j i:Nat,ix[j]?=some i->∃ m,mp[i]?=some m/\m<n)
  (hi:SI X XP mp tg iter src) (hg:∀ σ cl C s2 H2 fp,Cat X σ C s2 H2 fp->SG (X.comp N' scope cl C s2 H2 fp) (mpC mp n k ix) (·<n) tg t) (hc:∀ σ cl C s2 H2 fp,Cat X σ C s2 H2 fp->SF (X.comp N' scope cl C s2 H2 fp) (XPc XP σ) (mpC mp n k ix) ifs cond) (hk:∀ σ cl C s2 H2 fp,Cat X σ C s2 H2 fp->SE (X.comp N' scope cl C s2 H2 fp) (XPc XP σ) (mpC mp n k ix) kx ek) (hv:∀ σ cl C s2 H2 fp,Cat X σ C s2 H2 fp->SE (X.comp N' scope cl C s2 H2 fp) (XPc XP σ) (mpC mp n k ix) vx ev) :
  SDt XP mp (JM k ix (wpI X tg iter) (gU X N' scope tg) (fU X N' scope ifs) (eD X N' scope kx vx)) (vp n k t (zb9 src) cond ek ev):=fun M0 F Γ ν σ H Q rs hs hp=>by
 unfold vp zb9 at hp
 rw[R.bind_assoc]at hp
 refine hi M0 F Γ ν σ H _ rs hs (hp.seq.mono fun F1 Γ1 H1 ds rs1 s1 h1 J hJ=>?_)
 simp only[R.bind,hid]at h1
 split at h1
 ·rename_i hh
  exact qc Wh hm S.len ⟨[],rfl,.nil⟩ rfl (hg σ) (hc σ) (fun M0 F Γ ν σ1 H Q rs hs hp=>zdv (hk σ) (hv σ) rs hs hp) (fun _ _ _ _ _ h=>⟨_,_,_,h⟩) rs1 hs hJ hh.1 hh.2 h1 fun F' Γ' H' ys vs rs' ⟨ks,e,r⟩ hP _ p hp'=>by
   rw[e];exact hP ks p r hp'
 ·exact h1.elim
theorem zaB{kx vx:Expr}{N':List Str}{scope:Scope}{k:Nat}{ix:List Nat}{i:Nat}{x:Str}{pos' spos:Pos}(hN:X.N.Nodup)(hi':X.N[i]?=some x)(hx:Loc X.env.scope x)(hcalm:X.calm=true)(S:CSc X.env.scope X.N scope N' k ix)
  (hsw:swapsWith (.DictComp kx vx [⟨tg,iter,ifs,0⟩] scope pos) (some (.Name x pos')) spos.line X.env=pure true) (hs:∀ x,foldedSetIterable iter X.env x=pure x) (hf:X.fn x=true∨X.env.scope.names.lookup x=some .local) :
  PS X (.Assign [.Name x pos'] (.DictComp kx vx [⟨tg,iter,ifs,0⟩] scope pos) spos) (vO (JM k ix (wpI X tg iter) (gU X N' scope tg) (fU X N' scope ifs) (eD X N' scope kx vx)) (wm i)) :=
 zaA hN hi' hx hcalm S Qn (fun _ cl C s2 H2 fp c pins s σ H v u Q I r h=>h cl C s2 H2 fp c pins s u I r) (fun _ cl C s2 H2 fp c pins s σ H Q I h=>h cl C s2 H2 fp c pins s I)
  (fun _ cl C s2 H2 fp c pins s σ H Q I h=>h cl C s2 H2 fp c pins s I) (fun _ cl C s2 H2 fp c pins s σ H Q I h=>h cl C s2 H2 fp c pins s I) hsw hs hf
end
end L3
namespace L2
open PySem PySem.Spec PyProof.Rows
variable [Cs]
noncomputable def zfz(tk tv:TE):TE:=fun σ H Q=>tk σ H fun x H1=>tv σ H1 fun y H2=>∃ k:Key,x=kV k/\∀ p,H2 p=none->Q (.ref p) (upd H2 p (.dK [(k,y)]))
theorem zaq{X:Cx}{pos:Pos}{k v:Expr}{tk tv:TE}(hk:PE X k tk)(hv:PE X v tv):PE X (.Dict [some k] [v] pos) (zfz tk tv):=by
 intro pins s σ H Q I q
 have hn:=I.hok.fresh (xi s.heap.objs.size)
 have e0:(s.heap.push { cls:=.type "dict",data:=.dict #[] }).get? s.heap.objs.size=some { cls:=.type "dict",data:=.dict #[] }:=Heap.get?_push_size _ rfl
 have I0:Inv X pins σ H { s with heap:=s.heap.push { cls:=.type "dict",data:=.dict #[] } }:=I.kept (t':=s.toks) fun b o e=>Heap.get?_push_of_some _ e
 have I1:=I0.pinned (fp:= [s.heap.objs.size]) (fun b hb=>by
  have e:b=s.heap.objs.size:=by simpa using hb
  subst e
  exact I.fpOk (xi _) hn) (fun b hb=>by
  have e:b=s.heap.objs.size:=by simpa using hb
  subst e
  exact⟨_,e0,fun v z=>by cases z⟩)
 refine wpAny_Dict_walk (knd:=qC X.prog X.w) rfl rfl (by simp) (by simp) (pairTrees_cons_walk (thn (hk _ _ σ _ _ I1 q) fun kv s2 ⟨x,H1,I2,rx,q1⟩=>thn (hv _ _ σ _ _ I2 q1) fun vv s3 ⟨y,H2,I3,ry,kk,ek,q2⟩=>pairTrees_nil_walk ?_))
 have hm:=qV (fp:= [s.heap.objs.size]) (by simp) e0
 obtain⟨p1,p2,_⟩:=I3.pin _ (xt _ (xt _ hm))
 have I4:Inv X pins σ H2 s3:=I3.unpinned
 subst ek
 refine⟨[(kk,vv)],⟨zdB rx,rfl,True.intro⟩,⟨_,#[],0,p1,⟨rfl,rfl,rfl⟩,rfl,fun _ he=>by simp at he,Pairs.nil,List.nodup_nil⟩,fun h' dd hs=>⟨.ref s.heap.objs.size,_,?_,rfl,q2 _ p2⟩⟩
 have em:merged [] [(kk,vv)]= [(kk,vv)]:=rfl
 rw[em]at dd
 have I5:Inv X pins σ H2 { s3 with heap:=h',toks:=s3.toks+ [(kv,vv)].length }:=I4.turned (it:=s.heap.objs.size) (fun b o hb e=>(hs.2 b hb).trans e) p2 (Ne.symm (xm I.lt)) (.inr I.sz)
  (fun x c e=>by
   obtain⟨v,ob,hob,_⟩:=I.cell x c e
   exact xm (Heap.lt_size hob)) (fun p hp=>xm (Heap.lt_size (I.pin p hp).1))
 exact I5.track I.sz p2 (Ne.symm (xm I.lt)) (fun x c e=>by
   obtain⟨v,ob,hob,_⟩:=I.cell x c e
   exact xm (Heap.lt_size hob)) (fun p hp=>xm (Heap.lt_size (I.pin p hp).1)) (zef (by show 1<=sizeLine;decide) (beq_eq_false_iff_ne.mpr (Ne.symm (xm I.big))) (.cons ⟨rfl,ry⟩ .nil) dd)
end L2
namespace L3
open PySem PySem.Spec PyProof.Rows L2
noncomputable def ixF:List Str->Str->Option Nat
 |[],_=>none
 |n::ns,f=>if n=f then some 0 else (ixF ns f).map (·+1)
variable [Cs]
theorem ORL.at'{M:Addr->Prop}{H:Hp}:∀ {vs:List V}{xs:List OV}{A:List Addr}{j:Nat}{x:OV},ORL M H vs xs A->xs[j]?=some x->∃ v A1 B A2,vs[j]?=some v/\OR M H v x B/\A=A1++(B++A2) /\
  ∀ (M':Addr->Prop) (H':Hp) (v':V) (x':OV) (B':List Addr),(∀ w d,Rep M H w d->Rep M' H' w d)->(∀ c xs,H c=some (.tup xs)->H' c=some (.tup xs))->(∀ b∈A1++A2,H' b=H b)->OR M' H' v' x' B'->ORL M' H' (vs.set j v') (xs.set j x') (A1++(B'++A2))
 |_,_,_,_,_,.nil,e=>by simp at e
 |_,_,_,0,x,.cons (A:=A) (B:=B) r t,e=>by
  simp at e
  subst e
  exact⟨_,[],A,B,rfl,r,rfl,fun M' H' v' x' B' hr ht hk q=>ORL.cons (A:=B') (B:=B) q (t.go hr ht fun b hb=>hk b (by simpa using hb))⟩
 |_,_,_,j+1,x,.cons (A:=A) (B:=B) r t,e=>by
  obtain⟨v,A1,C,A2,h1,h2,h3,h4⟩:=ORL.at' (j:=j) t (by simpa using e)
  refine⟨v,A++A1,C,A2,by simpa using h1,h2,by rw[h3];simp,fun M' H' v' x' B' hr ht hk q=>?_⟩
  have:=ORL.cons (r.go hr ht fun b hb=>hk b (by simp[hb])) (h4 M' H' v' x' B' hr ht (fun b hb=>hk b (by simp at hb |-;rcases hb with h | h<;>simp[h])) q)
  simpa using this
section
variable {M0:Addr->Prop} {F F':Fp} {Γ Γ':Gv} {ν ν':Nu} {H H':Hp} {c:Str} {ns:List Str} {xs:List OV}
theorem zez{i:Nat}{v:V}(h:ν[i]?=some (some v)):ν.set i (some v)=ν:=by
 apply ud
 intro k
 by_cases hk:i=k
 ·subst hk;rw[xh (xb.mp h).1,h]
 ·rw[xg hk]
theorem RS.wrO{i:Nat}{b:Addr}{u:HO}{o:OV}{v:V}{A:List Addr}(r:RS M0 F Γ ν H)(hi:i<Γ.length)(hv:ν[i]?=some (some v))(hb:b∈F i)(hu:∀ xs,H b≠some (.tup xs))(hsub:∀ a∈A,a∈F i)(hnd:A.Nodup)
  (q:(∀ w d,Rep (MM M0 F) H w d->Rep (MM M0 (zz F i A)) (upd H b u) w d)->(∀ c xs,H c=some (.tup xs)->upd H b u c=some (.tup xs))->OR (MM M0 (zz F i A)) (upd H b u) v o A) :
  ∃ F',RS M0 F' (Γ.set i (some o)) ν (upd H b u)/\Stp F H F' (upd H b u):=by
 have ht:∀ c xs,H c=some (.tup xs)->upd H b u c=some (.tup xs):=fun c xs e=>by
  rw[zf (fun z=>by subst z;exact hu xs e)];exact e
 have s:Stp F H (zz F i A) (upd H b u):=⟨fun c o ec nc=>⟨by
   rw[zf (fun z=>by subst z;exact nc i hb)];exact ec,fun k h=>by
   by_cases hk:k=i
   ·subst hk;rw[zg]at h;exact nc _ (hsub _ h)
   ·rw[zi hk]at h;exact nc _ h⟩,ht,fun c h=>by
   by_cases z:c=b
   ·subst z;rw[zh];exact fun z=>nomatch z
   ·rw[zf z];exact h⟩
 have r1:=r.put (i:=i) (o:=o) (v:=v) (A:=A) (H':=upd H b u) s (fun k hk c hc=>zf fun z=>by subst z;exact hk (r.dis _ _ _ hc hb))
  (fun c h=>s.stay c (r.al0 c h)) (fun a ha=>r.dis0 i a (hsub a ha)) hnd (fun k hk c hc h=>hk (r.dis _ _ c h (hsub c hc))) hi (q (fun w d x=>zq s r.al0 x) ht)
 rw[zez hv]at r1
 exact⟨_,r1,s⟩
end
structure FldK(X:Cx)(c f:Str):Prop where
 cl:Cls X.K (Cs.adr c)
 no:ZL X.K (Cs.adr c) f
section
variable {X:Cx} {XP:XPT} {mp io:List Nat} {a b e:Expr} {es:List Expr} {pos p p2 pos' p3:Pos} {fa fb fc:EM FV} {fo:EM OV} {kx:Nat} {c f x:Str} {s i:Nat} {M0:Addr->Prop} {F:Fp} {Γ:Gv} {ν:Nu} {σ:St} {H:Hp}
structure FldAt(M0:Addr->Prop)(F:Fp)(Γ:Gv)(ν:Nu)(H:Hp)(i:Nat)(c f:Str)(o:OV)(v:V):Prop where
 ex:∃ a dx fs ns xs j A1 B A2,Γ[i]?=some (some (.o c ns xs))/\ν[i]?=some (some (.ref a))/\H a=some (.ins (Cs.adr c) dx fs)/\fs.map (·.1)=ns/\ixF ns f=some j/\xs[j]?=some o/\fs[j]?=some (f,v)/\OR (MM M0 F) H v o B/\F i=a::(A1++(B++A2)) /\
  ∀ (M':Addr->Prop) (H':Hp) (v':V) (x':OV) (B':List Addr),(∀ w d,Rep (MM M0 F) H w d->Rep M' H' w d)->(∀ c xs,H c=some (.tup xs)->H' c=some (.tup xs))->(∀ b∈A1++A2,H' b=H b)->OR M' H' v' x' B'->ORL M' H' ((fs.set j (f,v')).map (·.2)) (xs.set j x') (A1++(B'++A2))
noncomputable def zfb(c:Str)(ns:List Str)(xs:List OV)(f:Str)(o:OV):OV:=match ixF ns f with
 |some j=>.o c ns (xs.set j o)
 |none=>.o c (ns++ [f]) (xs++ [o])
end
end L3
namespace L3
open PySem PySem.Spec PyProof.Rows L2
noncomputable def zdm(Γ:Gv)(i:Nat)(f:Str)(o:OV):Gv:=match Γ[i]? with
 |some (some (.o c ns xs))=>Γ.set i (some (zfb c ns xs f o))
 |_=>Γ
variable [Cs]
section
variable {X:Cx} {XP:XPT} {mp io:List Nat} {a b e:Expr} {es:List Expr} {pos p p2 pos' p3:Pos} {fa fb fc:EM FV} {fo:EM OV} {kx:Nat} {c f x:Str} {s i:Nat} {M0:Addr->Prop} {F:Fp} {Γ:Gv} {ν:Nu} {σ:St} {H H':Hp}
theorem FldAt.same{o o':OV}{v v':V}(h:FldAt M0 F Γ ν H i c f o v)(h':FldAt M0 F Γ ν H' i c f o' v')(s:Same H H'):v=v':=by
 obtain⟨a,dx,fs,ns,xs,j,_,_,_,e1,e2,e3,_,e5,_,e7,_⟩:=h.ex
 obtain⟨a',dx',fs',ns',xs',j',_,_,_,e1',e2',e3',_,e5',_,e7',_⟩:=h'.ex
 rw[e1]at e1';cases e1'
 rw[e2]at e2';cases e2'
 rw[s _ _ e3]at e3';cases e3'
 rw[e5]at e5';cases e5'
 rw[e7]at e7';cases e7'
 rfl
theorem FldAt.mut{o o':OV}{b:Addr}{u:HO}{Bs:List Addr}(h:FldAt M0 F Γ ν H i c f o (.ref b))(rs:RS M0 F Γ ν H)(hB:∀ B,OR (MM M0 F) H (.ref b) o B->B=b::Bs)(hu:∀ xs,H b≠some (.tup xs))(hui:∀ C dx fs,H b≠some (.ins C dx fs))
  (q:∀ (M':Addr->Prop) (H':Hp),H' b=some u->(∀ w d,Rep (MM M0 F) H w d->Rep M' H' w d)->(∀ b'∈Bs,b'≠b->H' b'=H b')->(∀ c xs,H c=some (.tup xs)->H' c=some (.tup xs))->OR M' H' (.ref b) o' (b::Bs)) :
  ∃ F',RS M0 F' (zdm Γ i f o') ν (upd H b u)/\Stp F H F' (upd H b u):=by
 obtain⟨a,dx,fs,ns,xs,j,A1,B,A2,e1,e2,e3,e4,e5,e6,e7,e8,e9,e10⟩:=h.ex
 have eB:=hB B e8
 subst eB
 have hi:i<Γ.length:=(xb.mp e1).1
 have hba:b≠a:=fun z=>by subst z;exact hui _ _ _ e3
 have hbF:b∈F i:=by rw[e9];simp
 have hnd:=rs.nd i
 have hset:zdm Γ i f o'=Γ.set i (some (.o c ns (xs.set j o'))):=by
  unfold zdm
  rw[e1]
  show Γ.set i (some (zfb c ns xs f o'))=_
  unfold zfb
  rw[e5]
 rw[hset]
 have hfs:fs.set j (f,.ref b)=fs:=by
  apply ud
  intro k
  by_cases hk:j=k
  ·subst hk;rw[xh (xb.mp e7).1,e7]
  ·rw[xg hk]
 refine rs.wrO (A:=F i) hi e2 hbF hu (fun _ h=>h) hnd fun hr ht=>?_
 rw[e9]at hnd
 have hndc:=xD.mp hnd
 have n1:=uu.mp hndc.2
 have n2:=uu.mp n1.2.1
 have hnot:∀ b',b'∈A1++A2->b'≠b:=fun b' hb' z=>by
  subst z
  rcases xF.mp hb' with h | h
  ·exact n1.2.2 _ h _ (by simp) rfl
  ·exact n2.2.2 _ xp _ h rfl
 have:=e10 (MM M0 (zz F i (F i))) (upd H b u) (.ref b) o' (b::Bs) hr ht (fun b' hb'=>zf (hnot b' hb')) (q _ _ zh hr (fun b' _ hne=>zf hne) ht)
 rw[hfs]at this
 have e9':=e9
 generalize MM M0 (zz F i (F i))=MX at this |-
 rw[e9]
 exact .o (by rw[zf (Ne.symm hba)];exact e3) e4 this
theorem FldAt.lst{ys:List OV}{ds:List PyData}{v:V}(h:FldAt M0 F Γ ν H i c f (.l ys) v)(rs:RS M0 F Γ ν H)(hl:leaves ys=some ds):∃ b us,v=.ref b/\H b=some (.lst us)/\RepL (MM M0 F) H us ds /\
  ∀ us' ds',RepL (MM M0 F) H us' ds'->∃ F',RS M0 F' (zdm Γ i f (.l (ds'.map .d))) ν (upd H b (.lst us'))/\Stp F H F' (upd H b (.lst us')):=by
 obtain⟨a,dx,fs,ns,xs,j,A1,B,A2,e1,e2,e3,e4,e5,e6,e7,e8,e9,e10⟩:=id h.ex
 cases e8 with
 | @l b us _ A' eb qb=>
  obtain⟨q1,q2⟩:=qb.leaf hl
  subst q2
  refine⟨b,us,rfl,eb,q1,fun us' ds' r'=>h.mut (Bs:= []) rs (fun B q=>?_) (fun xs z=>by rw[eb]at z;cases z) (fun C dx fs z=>by rw[eb]at z;cases z) fun M' H' hb hr _ _=>.l hb (ORL.data (Qq hr r'))⟩
  cases q with
  | @l _ us2 _ A2 eb2 qb2=>
   rw[(qb2.leaf hl).2]
end
end L3
namespace L3
open PySem PySem.Spec PyProof.Rows L2
noncomputable def zf0(Γ:Gv):FV->Option (List (Str×PyData))
 |.dat (.dict kv)=>unD kv
 |.own i=>match Γ[i]? with
  |some (some (.m ds))=>some ds
  |some (some (.d (.dict kv)))=>unD kv
  |_=>none
 |_=>none
variable [Cs]
theorem Rep.tab{M:Addr->Prop}{H:Hp}{v:V}{kv:List (PyData×PyData)}{ds:List (Str×PyData)}(r:Rep M H v (.dict kv))(e:unD kv=some ds):∃ a ks,v=.ref a/\¬ M a/\Rd H a (.dK (ks.map kK))/\KR M H ks ds:=by
 obtain⟨a,rfl,n,h | h⟩:=r.dict_inv
 ·obtain⟨ks,ds',h1,rfl,h2⟩:=h
  rw[zdg]at e;cases e
  exact⟨a,ks,rfl,n,h1,h2⟩
 ·obtain⟨_,_,_,_,_,rfl,_⟩:=h
  cases e
theorem RepL.strs{M:Addr->Prop}{H:Hp}:∀ (ss:List Str),RepL M H (ss.map V.str) (ss.map .str)
 |[]=>.nil
 |x::r=>.cons (.str x) (RepL.strs r)
section
variable {X:Cx} {XP:XPT} {mp io:List Nat} {a b c e tg iter elt:Expr} {es ifs:List Expr} {pos p p2 pos' p3:Pos} {fa fb fc:EM FV} {fo:EM OV} {na:EM (List PyData)} {ma:EM (List (Str×PyData))} {kx:Nat} {cl f x:Str} {s i:Nat} {M0:Addr->Prop} {F:Fp} {Γ:Gv} {ν:Nu} {σ:St} {H H':Hp} {u:FV} {v:V}
theorem FOk.dict{ds:List (Str×PyData)}(h:FOk M0 F ν H v u)(rs:RS M0 F Γ ν H)(e:zf0 Γ u=some ds):∃ a ks,v=.ref a/\Rd H a (.dK (ks.map kK))/\KR (MM M0 F) H ks ds:=by
 cases u with
 |dat y=>
  cases y<;>try (cases e;done)
  rename_i kv
  obtain⟨a,ks,h1,_,h2,h3⟩:=Rep.tab (show Rep (MM M0 F) H v _ from h) e
  exact⟨a,ks,h1,h2,h3⟩
 |own i=>
  have hv:ν[i]?=some (some v):=h
  dsimp only [zf0]at e
  split at e
  ·rename_i ds' q
   cases e
   obtain⟨w,e1,r⟩:=rs.at' i _ q
   rw[hv]at e1;cases e1
   generalize F i=A at r
   cases r with
   |m ea k r=>exact⟨_,_,rfl,.inl ea,.of k r⟩
  ·rename_i kv q
   obtain⟨w,e1,r⟩:=rs.at' i _ q
   rw[hv]at e1;cases e1
   generalize F i=A at r
   cases r with
   |d r=>
    obtain⟨a,ks,h1,_,h2,h3⟩:=Rep.tab r e
    exact⟨a,ks,h1,h2,h3⟩
  ·cases e
theorem RS.newM{p:Addr}{ks:List (Str×V)}{ds:List (Str×PyData)}(r:RS M0 F Γ ν H)(n:H p=none)(q:KR (MM M0 F) H ks ds) :
  RS M0 (zz F Γ.length [p]) (Γ++ [some (.m ds)]) (ν++ [some (.ref p)]) (upd H p (.dK (ks.map kK)))/\Stp F H (zz F Γ.length [p]) (upd H p (.dK (ks.map kK))):=by
 have hp:∀ i,p∉F i:=fun i h=>by
  obtain⟨vs,e⟩:=r.laidF h
  rw[n]at e;cases e
 have s:Stp F H (zz F Γ.length [p]) (upd H p (.dK (ks.map kK))):=⟨fun b o e nb=>⟨zu n b o e,fun j h=>by
  by_cases hj:j=Γ.length
  ·subst hj;rw[zg]at h
   have e':b=p:=by simpa using h
   subst e';rw[n]at e;cases e
  ·rw[zi hj]at h;exact nb j h⟩,fun b xs e=>zu n b _ e,fun b h=>by
   by_cases e:b=p
   ·subst e;exact absurd n h
   ·rw[zf e];exact h⟩
 have q':=KR.stp q s r.al0
 have r1:=(r.ext 1).put (i:=Γ.length) (o:=.m ds) (v:=.ref p) (A:= [p]) (H':=upd H p (.dK (ks.map kK))) s (fun j _ a ha=>zf (fun e=>hp j (by rw[<- e];exact ha)))
  (fun a h=>s.stay a (r.al0 a h)) (fun a ha h=>by
   have e:a=p:=by simpa using ha
   subst e;exact r.al0 a h n) (xD.mpr ⟨(fun z=>nomatch z),.nil⟩) (fun j _ a ha=>by
   have e:a=p:=by simpa using ha
   subst e;exact hp j) (by simp) (.m zh q'.keys q'.vals)
 rw[j6]at r1
 have e2:(ν++List.replicate 1 none).set Γ.length (some (V.ref p))=ν++ [some (V.ref p)]:=by rw[<- r.len,j6]
 rw[e2]at r1
 exact⟨r1,s⟩
noncomputable def Vn(n:EM (List (Str×PyData))):EM OV:=fun Γ=>(n Γ).bind fun (ds,Γ1)=>.ok (.m ds,Γ1)
theorem SD.so(h:SD X XP mp a ma):SO X XP mp a (Vn ma):=fun M0 F Γ ν σ H Q rs hs hp=>
 h M0 F Γ ν σ H Q rs hs (hp.seq.mono fun F1 Γ1 H1 ds rs1 s1 h1 ks p r n=>by
  obtain⟨r2,s2⟩:=rs1.newM n r
  exact h1 _ _ _ r2 s2)
noncomputable def Vm(n:EM (List (Str×PyData))):EM FV:=fOD (Vn n)
theorem SD.se(h:SD X XP mp a ma):SE X XP mp a (Vm ma):=h.so.se
theorem SDt.so{t:TE}(h:SDt XP mp t ma):SOt XP mp t (Vn ma):=fun M0 F Γ ν σ H Q rs hs hp=>
 h M0 F Γ ν σ H Q rs hs (hp.seq.mono fun F1 Γ1 H1 ds rs1 s1 h1 ks p r n=>by
  obtain⟨r2,s2⟩:=rs1.newM n r
  exact h1 _ _ _ r2 s2)
theorem SDt.sd{t:TE}(h:SDt XP mp t ma):SOt XP mp t (fD (Vm ma)):=fun M0 F Γ ν σ H Q rs hs hp=>
 h M0 F Γ ν σ H Q rs hs (by
  have hp':OPost M0 F ν σ H XP (fun F' Γ' H' o v=>Q v H') ((ma Γ).bind fun (ds,Γ1)=>.ok (.d (.dict (ds.map dK)),Γ1)):=by
   have e:fD (Vm ma) Γ=(ma Γ).bind fun (ds,Γ1)=>.ok (.d (.dict (ds.map dK)),Γ1):=by
    unfold fD Vm fOD Vn
    cases ma Γ<;>rfl
   rw[<- e];exact hp
  exact hp'.seq.mono fun F1 Γ1 H1 ds rs1 s1 h1 ks p r n=>by
   obtain⟨r2,s2⟩:=rs1.newM n r
   obtain⟨F3,r3,s3,q3⟩:=r2.dropD
   exact h1 F3 _ _ (r3.newD q3) (s2.trans s3))
noncomputable def zdw:EM (List (Str×PyData)):=fun Γ=>.ok ([],Γ)
theorem ze1:SD X XP mp (.Dict [] [] pos) zdw:=fun M0 F Γ ν σ H Q rs hs hp=>pe_dnewK.wp fun p n=>hp F H rs (.refl _ _) [] p .nil n
noncomputable def zdx(fa fb:EM FV):EM (List (Str×PyData)):=fun Γ=>(fa Γ).bind fun (u,Γ1)=>match derf Γ1 u with
 |some (.str z)=>(fb Γ1).bind fun (w,Γ2)=>match derS Γ2 w with
  |some y=>.ok ([(z,y)],Γ2)
  |none=>.bad
 |_=>.bad
theorem ze2(ha:SE X XP mp a fa)(hb:SE X XP mp b fb):SD X XP mp (.Dict [some a] [b] pos) (zdx fa fb):=fun M0 F Γ ν σ H Q rs hs hp=>
 (zaq zd zd).wp (ha.run rs hs hp fun F1 Γ1 H1 u v rs1 s1 o1 h1=>by
  dsimp only at h1
  split at h1
  ·rename_i z ez
   cases o1.weak rs1 ez
   refine hb.run rs1 hs h1 fun F2 Γ2 H2 w v2 rs2 s2 o2 h2=>?_
   dsimp only at h2
   split at h2
   ·rename_i y ey
    exact⟨.inr z,rfl,fun p n=>h2 F2 H2 rs2 (.refl _ _) [(z,v2)] p (.cons (o2.strong rs2 ey) .nil) n⟩
   ·exact h2.elim
  ·exact h1.elim)
end
end L3
namespace L3
open PySem PySem.Spec PyProof.Rows L2
variable [Cs]
section
variable {X:Cx} {XP:XPT} {mp io:List Nat} {a b e tg iter elt:Expr} {es ifs:List Expr} {pos p p2 pos' p3 apos cpos:Pos} {fa fb fc:EM FV} {fo:EM OV} {na:EM (List PyData)} {ma:EM (List (Str×PyData))} {kx:Nat} {c f x:Str} {s i:Nat} {M0:Addr->Prop} {F:Fp} {Γ:Gv} {ν:Nu} {σ:St} {H H':Hp} {u:FV} {v:V}
theorem FldAt.own{ys:List OV}{ds:List PyData}{v:V}(h:FldAt M0 F Γ ν H i c f (.l ys) v)(rs:RS M0 F Γ ν H)(hl:leaves ys=some ds):∃ b us,v=.ref b/\H b=some (.lst us)/\RepL (MM (Qh M0 F i) (zz F i [])) H us ds/\∀ j,b∉zz F i [] j:=by
 obtain⟨a,dx,fs,ns,xs,j,A1,B,A2,e1,e2,e3,e4,e5,e6,e7,e8,e9,e10⟩:=id h.ex
 cases e8 with
 | @l b us _ A' eb qb=>
  obtain⟨q1,q2⟩:=qb.leaf hl
  refine⟨b,us,rfl,eb,by rw[Qj zg,vt];exact q1,fun j hj=>?_⟩
  have hb:b∈F i:=by rw[e9];simp
  by_cases z:j=i
  ·subst z;rw[zg]at hj;cases hj
  ·rw[zi z]at hj;exact z (rs.dis _ _ b hj hb)
end
end L3
namespace L2
open PySem PySem.Spec PyProof.Rows
variable [Cs]
section
variable {X:Cx} {σ:St} {H:Hp} {CX:CXT} {E:XK} {sp:Sp} {Q:VK} {C f:Addr} {fd:FuncData} {ps:List Str} {k:Nat} {m x:Str} {o e:Expr} {es:List Expr} {p pos apos:Pos}
end
structure KnM(P:Program)(w:World)(K:PySem.W.Frag)(mg:Str->Option Value)(base:Heap)(CX:CXT)(C:Addr)(m:Str)(k:Nat)(sp:Sp):Prop where
 ex:∃ (f:Addr) (fd:FuncData) (ps:List Str),FnOk P w K mg base CX k f fd ps sp/\Cls K C/\zdP K C m f/\Binds K fd ps []
structure KnI(P:Program)(w:World)(K:PySem.W.Frag)(mg:Str->Option Value)(base:Heap)(CX:CXT)(C:Addr)(k:Nat)(sp:Sp):Prop where
 ex:∃ (f:Addr) (fd:FuncData) (ps:List Str),FnOk P w K mg base CX k f fd ps sp/\Mk K C f/\Binds K fd ps []
end L2
namespace L3
open PySem PySem.Spec PyProof.Rows L2
variable [Cs]
section
variable {X:Cx} {XP:XPT} {mp io:List Nat} {a b e:Expr} {es:List Expr} {pos p p2 pos' p3 apos:Pos} {fa fb fc:EM FV} {fl:EM (List AV)} {kx:Nat} {c f m x:Str} {s i k n:Nat} {M0:Addr->Prop} {F F':Fp} {Γ:Gv} {ν:Nu} {σ:St} {H H':Hp} {u:FV} {v:V} {run:List OV->RF}
theorem AOks.stp{F1:Fp}{H1:Hp}{ν1:Nu}(s1:Stp F H F1 H1)(h0:∀ a,M0 a->H a≠none)(hn:ν <+: ν1):∀ {vs:List V}{as:List AV},AOks M0 F ν H vs as->AOks M0 F1 ν1 H1 vs as
 |_,_,.nil=>.nil
 |_,_,.v h t=>.v ((h.stp s1 h0).ext hn) (AOks.stp s1 h0 hn t)
 |_,_,.io h t=>.io (by
   obtain⟨t',rfl⟩:=hn
   rw[xc (xb.mp h).1];exact h) (AOks.stp s1 h0 hn t)
end
end L3
namespace Tab
open PySem PySem.Spec PyProof.Rows
section
variable {prog:Program} {w:World} {A:Around} {R:Result->Shared->Prop} {I:Addr} {fp wr:List Addr} {G:Array GenState->Array GenState->Prop} {n:Nat} {P:Nat->Value->Prop} {St:Nat->Shared->Prop}
end
section
variable {prog:Program} {w:World} {A:Around} {E:Value->Shared->Prop} {s:Shared}
end
end Tab
namespace L2
open PySem PySem.Spec PyProof.Rows
variable [Cs]
section
variable {X:Cx}
end
end L2
namespace L3
open PySem PySem.Spec PyProof.Rows L2
variable [Cs]
section
variable {X:Cx} {XP:XPT} {mp:List Nat} {a b:Expr} {p1 p2 q1 q2:Pos} {fa fb:EM FV}
end
end L3
namespace L3
open PySem PySem.Spec PyProof.Rows L2
variable [Cs]
section
variable {M0:Addr->Prop} {F F':Fp} {Γ Γ':Gv} {ν ν':Nu} {H H':Hp}
theorem RS.junk{i:Nat}(r:RS M0 F Γ ν H)(hk:∀ a,a∉F i->H' a=H a)(ht:∀ b xs,H b=some (.tup xs)->H' b=some (.tup xs))(hs:∀ b,H b≠none->H' b≠none):RS M0 (zz F i []) (Γ.set i none) ν H'/\Stp F H (zz F i []) H':=by
 have sub:∀ j a,a∈zz F i [] j->a∈F j/\j≠i:=fun j a h=>by
  by_cases hj:j=i
  ·subst hj;rw[zg]at h;cases h
  ·rw[zi hj]at h;exact⟨h,hj⟩
 have s:Stp F H (zz F i []) H':=⟨fun b o e n=>⟨by rw[hk b (n i)];exact e,fun j h=>n j (sub j b h).1⟩,ht,hs⟩
 refine⟨⟨fun a h=>hs a (r.al0 a h),fun j a h=>r.dis0 j a (sub j a h).1,fun j=>?_,fun j k a h1 h2=>r.dis j k a (sub j a h1).1 (sub k a h2).1,fun j o e=>?_,fun j h=>?_,by rw[xH];exact r.len⟩,s⟩
 ·by_cases hj:j=i
  ·subst hj;rw[zg];exact List.nodup_nil
  ·rw[zi hj];exact r.nd j
 ·have hj:j≠i:=fun z=>by
   subst z
   by_cases hl:j<Γ.length
   ·rw[xh hl]at e;cases e
   ·rw[xv (by simp;omega)]at e;cases e
  rw[xg (Ne.symm hj)]at e
  obtain⟨v,ev,q⟩:=r.at' j o e
  refine⟨v,ev,?_⟩
  rw[zi hj]
  exact q.go (fun _ _ x=>zq s r.al0 x) s.tups fun a ha=>hk a fun h=>hj (r.dis j i a ha h)
 ·by_cases hj:j=i
  ·subst hj;exact zg
  ·rw[zi hj]
   exact r.emp j fun o z=>h o (by rw[xg (Ne.symm hj)];exact z)
theorem ORL.two{M:Addr->Prop}{vs:List V}{o1 o2:OV}{A:List Addr}(h:ORL M H vs [o1,o2] A):∃ v1 v2 A1 A2,vs= [v1,v2]/\A=A1++A2/\OR M H v1 o1 A1/\OR M H v2 o2 A2:=by
 cases h with
 |cons q1 h=>
  cases h with
  |cons q2 h=>
   cases h
   exact⟨_,_,_,_,rfl,by rw[xG],q1,q2⟩
end
section
variable {X:Cx} {XP:XPT} {mp io:List Nat} {a b c e:Expr} {es:List Expr} {pos p p2 pos' p3:Pos} {fo fo2:EM OV} {kx:Nat}
theorem Sees.more{ν:Nu}{σ:St}{v:Option V}(h:Sees mp ν σ)(hm:∀ i∈mp,i<ν.length):Sees mp (ν++ [v]) σ:=fun s i w e1 e2=>h s i w e1 (by
 rw[xc (hm i (ub e1))]at e2;exact e2)
noncomputable def zaI(i:Nat)(g:SM):SM:=fun Γ=>match Γ[i]? with
 |some (some (.t [.l xs,.l ys]))=>if xs.length<1000000/\ys.length<1000000 then g (Γ.set i none) else .bad
 |_=>.bad
theorem zcF{s i:Nat}{x:Str}{sts:List Stmt}{g:SM}{j0 j1 j2 j3:Nat}{c0 c1 c2 c3 p1 p4 p5 a1 a2 q1 q2 q3 q4:Pos}(n:NmK X mp s i x)(hg:SB X XP mp io sts g)(hl1:(a1.endLine==q1.line)=true)(hl2:(a2.endLine==q3.line)=true) :
  SB X XP mp io (.Expr (.Call (.Attribute (.Subscript (.Name x p) (.Constant (.int 0) j0 c0) p1) "append" a1) [.Subscript (.Name x p2) (.Constant (.int 1) j1 c1) p3] [] q1) q2::.Expr (.Call (.Attribute (.Subscript (.Name x p4) (.Constant (.int 1) j2 c2) p5) "append" a2) [.Constant (.bool true) j3 c3] [] q3) q4::sts) (zaI i g):=fun M0 F Γ ν σ H D rs hs hl hp=>by
 have hv:PE X (.Name x p) (zfD s):=zT n.hN n.hv n.hd n.hcd
 refine (qX (J6 (WP PySem.F.plainAttrs_list PySem.F.slot_list_append PySem.F.type_list_append JF (VI vz (zT n.hN n.hv n.hd n.hcd) pe_int (fun _ _=>rfl)) (zp (VI vz (zT n.hN n.hv n.hd n.hcd) pe_int (fun _ _=>rfl)) pa_nil rfl) rfl rfl hl1 rfl rfl) rfl)
  (qX (J6 (WP PySem.F.plainAttrs_list PySem.F.slot_list_append PySem.F.type_list_append JF (VI vz (zT n.hN n.hv n.hd n.hcd) pe_int (fun _ _=>rfl)) (zp pe_bl pa_nil rfl) rfl rfl hl2 rfl rfl) rfl) qi)).wp ?_
 unfold zaI at hp
 split at hp
 ·rename_i xs ys e
  split at hp
  ·rename_i hz
   obtain⟨a,vs,en,ea,qa⟩:=zfE rs e
   obtain⟨v1,v2,A1,A2,rfl,hA,o1,o2⟩:=qa.two
   cases o1 with
   |l ex nx=>
    rename_i b1 us1 B1
    cases o2 with
    |l ey ny=>
     rename_i b2 us2 B2
     have z1:us1.length=xs.length:=nx.length
     have z2:us2.length=ys.length:=ny.length
     have m1:b1∈F i:=by rw[hA];simp
     have m2:b2∈F i:=by rw[hA];simp
     have hne:b1≠b2:=fun z=>by
      have:=rs.nd i
      rw[hA,uu]at this
      exact this.2.2 b1 (by simp) b2 (by simp) z
     have na1:b1≠a:=fun z=>by subst z;rw[ex]at ea;cases ea
     have na2:b2≠a:=fun z=>by subst z;rw[ey]at ea;cases ea
     have hsz:=sizeLine_eq
     have hσ:=hs s i _ n.hm en
     refine⟨_,hσ,a,_,0,_,rfl,rfl,SqT.of ea,rfl,.inl ⟨rfl,_,SqL.of ex⟩,_,hσ,a,_,1,_,rfl,rfl,SqT.of ea,rfl,?_⟩
     refine⟨b1,us1,_,rfl,rfl,ex,by omega,?_⟩
     have ea':upd H b1 (.lst (us1++ [.ref b2])) a=some (.tup [.ref b1,.ref b2]):=by rw[zf na1.symm];exact ea
     have ey':upd H b1 (.lst (us1++ [.ref b2])) b2=some (.lst us2):=by rw[zf hne.symm];exact ey
     refine⟨_,hσ,a,_,1,_,rfl,rfl,SqT.of ea',rfl,.inl ⟨rfl,_,SqL.of ey'⟩,?_⟩
     refine⟨b2,us2,_,rfl,rfl,ey',by omega,?_⟩
     obtain⟨r5,s5⟩:=rs.junk (i:=i) (H':=upd (upd H b1 (.lst (us1++ [.ref b2]))) b2 (.lst (us2++ [.bl true]))) (fun c hc=>by
       rw[zf (fun z=>hc (by rw[z];exact m2)),zf (fun z=>hc (by rw[z];exact m1))])
      (fun b us eb=>by
       rw[zf (fun z=>by subst z;rw[ey]at eb;cases eb),zf (fun z=>by subst z;rw[ex]at eb;cases eb)];exact eb)
      (fun b hb=>by
       by_cases y1:b=b2
       ·subst y1;rw[zh];exact fun z=>nomatch z
       ·rw[zf y1]
        by_cases y2:b=b1
        ·subst y2;rw[zh];exact fun z=>nomatch z
        ·rw[zf y2];exact hb)
     exact hg M0 _ _ ν σ _ D r5 hs hl (hp.step s5 fun _ _=>rfl)
  ·exact hp.elim
 ·exact hp.elim
end
end L3
namespace L3
open PySem PySem.Spec PyProof.Rows L2
mutual
inductive IE where
 |var (s i:Nat)
 |frz (s i:Nat)
 |cint (i:Int)
 |cstr (x:Str)
 |cbool (b:Bool)
 |cnone
 |gint (x:Str) (i:Int)
 |gstr (x:Str) (z:Str)
 |tup (a:IL)
 |new (n:IN)
 |bin (op:Operator) (a b:IE)
 |cmp (op:CmpOp) (a b:IE)
 |chain (op op':CmpOp) (a b c:IE)
 |not (a:IE)
 |neg (a:IE)
 |and (a b:IE)
 |or (a b:IE)
 |ite (c a b:IE)
 |ix (a b:IE)
 |len (a:IE)
 |int (a:IE)
 |all (a:IE)
 |any (a:IE)
 |tuple (a:IE)
 |isi (T:String) (a:IE)
 |min (a b:IE)
 |max (a b:IE)
 |call (o:IO)
 |sadd (a b:IE)
 |sin (a b:IE)
 |slen (a:IE)
 |str (a:IE)
 |join (z:Str) (a:IE)
 |six (a b:IE)
 |fstr (a:IJ)
 |ends (a b:IE)
 |sint (a:IE)
 |cutS (a:IE) (lo hi:IP)
 |newD (m:IM)
inductive IL where
 |nil
 |cons (e:IE) (a:IL)
inductive IA where
 |nil
 |cons (e:IE) (a:IA)
 |io (s i:Nat) (a:IA)
 |tmp (n:IN)
inductive IN where
 |lst (a:IL)
 |cut (e:IE) (lo hi:IP)
 |cat (a b:IE)
 |list (e:IE)
 |comp (n k:Nat) (ix:List Nat) (N':List Str) (t:IT) (src:II) (c:IC) (el:IE)
 |split (a b:IE)
inductive IP where
 |non
 |one (e:IE)
inductive II where
 |list (e:IE)
 |tup (e:IE)
 |range (e:IE)
 |chars (e:IE)
inductive IC where
 |yes
 |one (e:IE)
inductive IO where
 |dat (e:IE)
 |own (n:IN)
 |call (f:Str) (n:Nat) (a:IA)
 |move (s i:Nat)
 |pair (e:IE) (o:IO)
 |ownD (m:IM)
inductive IJ where
 |nil
 |con (z:Str) (r:IJ)
 |val (e:IE) (r:IJ)
inductive IM where
 |nil
 |one (a b:IE)
 |comp (n k:Nat) (ix:List Nat) (N':List Str) (t:IT) (src:IG) (c:IC) (ek ev:IE)
inductive IG where
 |std (src:II)
end
noncomputable def IN.plain:IN->Bool
 |_=>true
noncomputable def IM.plain:IM->Bool
 |.comp _ _ _ _ _ (.std _) _ _ _=>true
 |_=>true
noncomputable abbrev CF:=Str->List OV->RF
noncomputable def fNo:EM Bool:=fun _=>.bad
mutual
noncomputable def IE.ev(cf:CF):IE->EM FV×EM Bool
 |.var _ i=>(fVar i,fTru (fVar i))
 |.frz _ i=>(fFrz i,fTru (fFrz i))
 |.cint i=>(fC (.int i),fTru (fC (.int i)))
 |.cstr x=>(fC (.str x),fTru (fC (.str x)))
 |.cbool b=>(fC (.bool b),fTru (fC (.bool b)))
 |.cnone=>(fC .none,fTru (fC .none))
 |.gint _ i=>(fC (.int i),fTru (fC (.int i)))
 |.gstr _ z=>(fC (.str z),fTru (fC (.str z)))
 |.tup a=>(fTup (a.ev cf),fTru (fTup (a.ev cf)))
 |.new n=>(fNew (n.ev cf),fTru (fNew (n.ev cf)))
 |.bin op a b=>(fBin (binD op) (a.ev cf).1 (b.ev cf).1,fTru (fBin (binD op) (a.ev cf).1 (b.ev cf).1))
 |.cmp op a b=>(fB (fCmp (cmpD op) (a.ev cf).1 (b.ev cf).1),fCmp (cmpD op) (a.ev cf).1 (b.ev cf).1)
 |.chain op op' a b c=>(fB (fChain (cmpD op) (cmpD op') (a.ev cf).1 (b.ev cf).1 (c.ev cf).1),fChain (cmpD op) (cmpD op') (a.ev cf).1 (b.ev cf).1 (c.ev cf).1)
 |.not a=>(fB (fNotT (fTru (a.ev cf).1)),fNotT (a.ev cf).2)
 |.neg a=>(f1 gNeg (a.ev cf).1,fTru (f1 gNeg (a.ev cf).1))
 |.and a b=>(fAndV (a.ev cf).1 (b.ev cf).1,fAndT (a.ev cf).2 (b.ev cf).2)
 |.or a b=>(fOrV (a.ev cf).1 (b.ev cf).1,fOrT (a.ev cf).2 (b.ev cf).2)
 |.ite c a b=>(fIf (c.ev cf).2 (a.ev cf).1 (b.ev cf).1,fNo)
 |.ix a b=>(fIx (a.ev cf).1 (b.ev cf).1,fTru (fIx (a.ev cf).1 (b.ev cf).1))
 |.len a=>(f1 gLen (a.ev cf).1,fTru (f1 gLen (a.ev cf).1))
 |.int a=>(f1 gInt (a.ev cf).1,fTru (f1 gInt (a.ev cf).1))
 |.all a=>(f1 gAll (a.ev cf).1,fTru (f1 gAll (a.ev cf).1))
 |.any a=>(f1 gAny (a.ev cf).1,fTru (f1 gAny (a.ev cf).1))
 |.tuple a=>(fTupC (a.ev cf).1,fTru (fTupC (a.ev cf).1))
 |.isi T a=>(fIsi T (a.ev cf).1,fTru (fIsi T (a.ev cf).1))
 |.min a b=>(f2 gMin (a.ev cf).1 (b.ev cf).1,fTru (f2 gMin (a.ev cf).1 (b.ev cf).1))
 |.max a b=>(f2 gMax (a.ev cf).1 (b.ev cf).1,fTru (f2 gMax (a.ev cf).1 (b.ev cf).1))
 |.call o=>(fOD (o.ev cf),fTru (fOD (o.ev cf)))
 |.sadd a b=>(fBin jS (a.ev cf).1 (b.ev cf).1,fTru (fBin jS (a.ev cf).1 (b.ev cf).1))
 |.sin a b=>(fB (fCmp yw (a.ev cf).1 (b.ev cf).1),fCmp yw (a.ev cf).1 (b.ev cf).1)
 |.slen a=>(f1 zN (a.ev cf).1,fTru (f1 zN (a.ev cf).1))
 |.str a=>(f1 yx (a.ev cf).1,fTru (f1 yx (a.ev cf).1))
 |.join z a=>(f1 (Qf z) (a.ev cf).1,fTru (f1 (Qf z) (a.ev cf).1))
 |.six a b=>(Vo (a.ev cf).1 (b.ev cf).1,fTru (Vo (a.ev cf).1 (b.ev cf).1))
 |.fstr a=>(Vl (a.ev cf),fTru (Vl (a.ev cf)))
 |.ends a b=>(Qe (a.ev cf).1 (b.ev cf).1,fTru (Qe (a.ev cf).1 (b.ev cf).1))
 |.sint a=>(f1 Qg (a.ev cf).1,fTru (f1 Qg (a.ev cf).1))
 |.cutS a lo hi=>(jG (a.ev cf).1 (lo.ev cf) (hi.ev cf),fTru (jG (a.ev cf).1 (lo.ev cf) (hi.ev cf)))
 |.newD m=>(Vm (m.ev cf),fNo)
noncomputable def IL.ev(cf:CF):IL->EM (List FV)
 |.nil=>fNil
 |.cons e a=>fCons (e.ev cf).1 (a.ev cf)
noncomputable def IA.ev(cf:CF):IA->EM (List AV)
 |.nil=>aNil
 |.cons e a=>aCons (e.ev cf).1 (a.ev cf)
 |.io _ i a=>aIo i (a.ev cf)
 |.tmp n=>zfW (n.ev cf)
noncomputable def IN.ev(cf:CF):IN->EM (List PyData)
 |.lst a=>fLst (a.ev cf)
 |.cut e lo hi=>Qd (e.ev cf).1 (lo.ev cf) (hi.ev cf)
 |.cat a b=>Y8 (a.ev cf).1 (b.ev cf).1
 |.list e=>fListC (e.ev cf).1
 |.comp n k _ _ t src c el=>fComp n k t (src.ev cf) (c.ev cf) (el.ev cf).1
 |.split a b=>zk (a.ev cf).1 (b.ev cf).1
noncomputable def IP.ev(cf:CF):IP->EM (Option Int)
 |.non=>jh
 |.one e=>qS (e.ev cf).1
noncomputable def II.ev(cf:CF):II->EM (List PyData)
 |.list e=>fSeqL (e.ev cf).1
 |.tup e=>fSeqT (e.ev cf).1
 |.range e=>fRange (e.ev cf).1
 |.chars e=>qR (e.ev cf).1
noncomputable def IC.ev(cf:CF):IC->EM Bool
 |.yes=>fYes
 |.one e=>(e.ev cf).2
noncomputable def IO.ev(cf:CF):IO->EM OV
 |.dat e=>fD (e.ev cf).1
 |.own n=>fOwn (n.ev cf)
 |.call f _ a=>fCall (cf f) (a.ev cf)
 |.move _ i=>fMove i
 |.pair e o=>Yi (e.ev cf).1 (o.ev cf)
 |.ownD m=>Vn (m.ev cf)
noncomputable def IJ.ev(cf:CF):IJ->EM (List Str)
 |.nil=>yt
 |.con z r=>wg (fC (.str z)) (r.ev cf)
 |.val e r=>wg (e.ev cf).1 (r.ev cf)
noncomputable def IM.ev(cf:CF):IM->EM (List (Str×PyData))
 |.nil=>zdw
 |.one a b=>zdx (a.ev cf).1 (b.ev cf).1
 |.comp n k _ _ t src c ek ev=>vp n k t (src.ev cf) (c.ev cf) (ek.ev cf).1 (ev.ev cf).1
noncomputable def IG.ev(cf:CF):IG->EM (List PyData×Option (Option Nat))
 |.std src=>zb9 (src.ev cf)
end
structure Wd where
 bi:List Str
 gi:List (Str×Int)
 gs:List (Str×Str)
 fl:List (Str×Nat)
 ex:List Str
 gd:List (Str×List (Str×Str))
 fk:List (Str×Str):= []
 mc:List (Str×Str×Nat):= []
 ml:List (Str×Str×Str×Nat):= []
noncomputable def zl:Expr->Bool
 |.Starred .. =>false
 |_=>true
noncomputable def JG:Expr->Bool
 |.UnaryOp .Not _ _=>false
 |.BoolOp .. =>false
 |.IfExp .. =>false
 |.Compare .. =>false
 |_=>true
noncomputable def qf:Expr->Bool
 |.Slice .. =>false
 |_=>true
noncomputable def qW:Expr->Bool
 |.Set .. =>false
 |_=>true
noncomputable def zga:Expr->Bool
 |.Tuple .. =>true
 |_=>false
noncomputable def zbz(sc:Scope)(x:Str):Bool:=decide (sc.names.lookup x=some .local)||decide (sc.names.lookup x=some .cell)||decide (sc.names.lookup x=some .free)
noncomputable def w6(sc:Scope)(x:Str):Bool:=decide (sc.names.lookup x=some .globalImplicit)
noncomputable def nmB (sc:Scope) (N:List Str) (mp:List Nat) (s i:Nat) (x:Str):Bool:=decide (N[s]?=some x)&&zbz sc x&&decide (mp[s]?=some i)&& !(x==("__debug__" :Str))&& !(x==("__classdict__" :Str))
noncomputable def biB(W:Wd)(sc:Scope)(x y:Str):Bool:=decide (x=y)&&w6 sc x&&W.bi.contains x
noncomputable def okO{α:Type}(o:Option α)(f:α->Bool):Bool:=match o with
 |some a=>f a
 |none=>false
theorem za{α:Type}{o:Option α}{f:α->Bool}(h:okO o f=true):∃ a,o=some a/\f a=true:=by
 cases o with
 |none=>cases h
 |some a=>exact⟨a,rfl,h⟩
noncomputable def zx:Expr->Option (Str×Pos)
 |.Name x p=>some (x,p)
 |_=>none
noncomputable def qZ:Expr->Option (Const×Nat×Pos)
 |.Constant c j p=>some (c,j,p)
 |_=>none
noncomputable def zdY:Const->Option Int
 |.int i=>some i
 |_=>none
noncomputable def Va:Const->Option Str
 |.str i=>some i
 |_=>none
noncomputable def Yc:Const->Option Bool
 |.bool i=>some i
 |_=>none
noncomputable def zdt:Const->Bool
 |.none=>true
 |_=>false
noncomputable def V4:Expr->Option (List Expr×Nat×Pos)
 |.Tuple es n p=>some (es,n,p)
 |_=>none
noncomputable def zbq:Expr->Option (List Expr×Pos)
 |.List es p=>some (es,p)
 |_=>none
noncomputable def V0:Expr->Option (Expr×Operator×Expr×Pos)
 |.BinOp x op y p=>some (x,op,y,p)
 |_=>none
noncomputable def V1:Expr->Option (Expr×List CmpOp×List Expr×Pos)
 |.Compare x ops ys p=>some (x,ops,ys,p)
 |_=>none
noncomputable def zdk:Expr->Option (UnaryOp×Expr×Pos)
 |.UnaryOp op x p=>some (op,x,p)
 |_=>none
noncomputable def zdf:Expr->Option (BoolOp×List Expr×Pos)
 |.BoolOp op vs p=>some (op,vs,p)
 |_=>none
noncomputable def zbm:Expr->Option (Expr×Expr×Expr×Pos)
 |.IfExp z x y p=>some (z,x,y,p)
 |_=>none
noncomputable def Zc:Expr->Option (Expr×Expr×Pos)
 |.Subscript x y p=>some (x,y,p)
 |_=>none
noncomputable def YJ:Expr->Option (Option Expr×Option Expr×Option Expr×Pos)
 |.Slice l h s p=>some (l,h,s,p)
 |_=>none
noncomputable def jJ:Expr->Option (Expr×List Expr×List Keyword×Pos)
 |.Call f xs ks q=>some (f,xs,ks,q)
 |_=>none
noncomputable def ZK:Expr->Option (Expr×Str×Pos)
 |.Attribute x f p=>some (x,f,p)
 |_=>none
noncomputable def YI:Expr->Option (Expr×List Comprehension×Scope×Pos)
 |.ListComp elt gens scope p=>some (elt,gens,scope,p)
 |_=>none
theorem zo{e:Expr}{x:Str}{p:Pos}(h:zx e=some (x,p)):e=.Name x p:=by
 unfold zx at h
 split at h
 ·cases h;rfl
 ·cases h
theorem zE{e:Expr}{c:Const}{j:Nat}{p:Pos}(h:qZ e=some (c,j,p)):e=.Constant c j p:=by
 unfold qZ at h
 split at h
 ·cases h;rfl
 ·cases h
theorem Kz{c:Const}{i:Int}(h:zdY c=some i):c=.int i:=by
 unfold zdY at h
 split at h
 ·cases h;rfl
 ·cases h
theorem jQ{c:Const}{i:Str}(h:Va c=some i):c=.str i:=by
 unfold Va at h
 split at h
 ·cases h;rfl
 ·cases h
theorem Wr{c:Const}{i:Bool}(h:Yc c=some i):c=.bool i:=by
 unfold Yc at h
 split at h
 ·cases h;rfl
 ·cases h
theorem Y1{c:Const}(h:zdt c=true):c=.none:=by cases c<;>first | rfl | cases h
theorem JP{e:Expr}{es:List Expr}{n:Nat}{p:Pos}(h:V4 e=some (es,n,p)):e=.Tuple es n p:=by
 unfold V4 at h
 split at h
 ·cases h;rfl
 ·cases h
theorem k8{e:Expr}{es:List Expr}{p:Pos}(h:zbq e=some (es,p)):e=.List es p:=by
 unfold zbq at h
 split at h
 ·cases h;rfl
 ·cases h
theorem JN{e x y:Expr}{op:Operator}{p:Pos}(h:V0 e=some (x,op,y,p)):e=.BinOp x op y p:=by
 unfold V0 at h
 split at h
 ·cases h;rfl
 ·cases h
theorem JO{e x:Expr}{ops:List CmpOp}{ys:List Expr}{p:Pos}(h:V1 e=some (x,ops,ys,p)):e=.Compare x ops ys p:=by
 unfold V1 at h
 split at h
 ·cases h;rfl
 ·cases h
theorem V5{e x:Expr}{op:UnaryOp}{p:Pos}(h:zdk e=some (op,x,p)):e=.UnaryOp op x p:=by
 unfold zdk at h
 split at h
 ·cases h;rfl
 ·cases h
theorem zbi{e:Expr}{op:BoolOp}{vs:List Expr}{p:Pos}(h:zdf e=some (op,vs,p)):e=.BoolOp op vs p:=by
 unfold zdf at h
 split at h
 ·cases h;rfl
 ·cases h
theorem kZ{e z x y:Expr}{p:Pos}(h:zbm e=some (z,x,y,p)):e=.IfExp z x y p:=by
 unfold zbm at h
 split at h
 ·cases h;rfl
 ·cases h
theorem qz{e x y:Expr}{p:Pos}(h:Zc e=some (x,y,p)):e=.Subscript x y p:=by
 unfold Zc at h
 split at h
 ·cases h;rfl
 ·cases h
theorem k9{e:Expr}{l u s:Option Expr}{p:Pos}(h:YJ e=some (l,u,s,p)):e=.Slice l u s p:=by
 unfold YJ at h
 split at h
 ·cases h;rfl
 ·cases h
theorem ju{e f:Expr}{xs:List Expr}{ks:List Keyword}{p:Pos}(h:jJ e=some (f,xs,ks,p)):e=.Call f xs ks p:=by
 unfold jJ at h
 split at h
 ·cases h;rfl
 ·cases h
theorem ZF{e x:Expr}{f:Str}{p:Pos}(h:ZK e=some (x,f,p)):e=.Attribute x f p:=by
 unfold ZK at h
 split at h
 ·cases h;rfl
 ·cases h
theorem k6{e elt:Expr}{gens:List Comprehension}{scope:Scope}{p:Pos}(h:YI e=some (elt,gens,scope,p)):e=.ListComp elt gens scope p:=by
 unfold YI at h
 split at h
 ·cases h;rfl
 ·cases h
noncomputable def unN(e:Expr):Option (Str×Pos×List Expr×Pos):=(jJ e).bind fun (f,xs,ks,q)=>match ks with
 |[]=>(zx f).map fun (x,p)=>(x,p,xs,q)
 |_::_=>none
theorem J8{e:Expr}{f:Str}{p:Pos}{xs:List Expr}{q:Pos}(h:unN e=some (f,p,xs,q)):e=.Call (.Name f p) xs [] q:=by
 unfold unN at h
 cases e1:jJ e with
 |none=>rw[e1]at h;cases h
 |some z=>
  obtain⟨g,ys,ks,q'⟩:=z
  rw[e1]at h
  cases ks with
  |cons _ _=>cases h
  |nil=>
   cases e2:zx g with
   |none=>simp[e2]at h
   |some z=>
    obtain⟨x,p'⟩:=z
    simp[e2]at h
    obtain⟨rfl,rfl,rfl,rfl⟩:=h
    rw[ju e1,zo e2]
noncomputable def q8{α:Type}:List α->Option α
 |[x]=>some x
 |_=>none
theorem zB{α:Type}{l:List α}{x:α}(h:q8 l=some x):l= [x]:=by
 match l,h with
 |[_],h=>cases h;rfl
noncomputable def VZ{α:Type}:List α->Option (α×α)
 |[x,y]=>some (x,y)
 |_=>none
theorem jt{α:Type}{l:List α}{x y:α}(h:VZ l=some (x,y)):l= [x,y]:=by
 match l,h with
 |[_,_],h=>cases h;rfl
noncomputable def un1(e:Expr):Option (Str×Pos×Expr×Pos):=(unN e).bind fun (f,p,xs,q)=>(q8 xs).map fun x=>(f,p,x,q)
theorem ql{e:Expr}{f:Str}{p:Pos}{x:Expr}{q:Pos}(h:un1 e=some (f,p,x,q)):e=.Call (.Name f p) [x] [] q:=by
 unfold un1 at h
 cases e1:unN e with
 |none=>rw[e1]at h;cases h
 |some z=>
  obtain⟨g,p',xs,q'⟩:=z
  cases e2:q8 xs with
  |none=>simp[e1,e2]at h
  |some y=>
   simp[e1,e2]at h
   obtain⟨rfl,rfl,rfl,rfl⟩:=h
   rw[J8 e1,zB e2]
noncomputable def un2(e:Expr):Option (Str×Pos×Expr×Expr×Pos):=(unN e).bind fun (f,p,xs,q)=>(VZ xs).map fun (x,y)=>(f,p,x,y,q)
theorem vP{e:Expr}{f:Str}{p:Pos}{x y:Expr}{q:Pos}(h:un2 e=some (f,p,x,y,q)):e=.Call (.Name f p) [x,y] [] q:=by
 unfold un2 at h
 cases e1:unN e with
 |none=>rw[e1]at h;cases h
 |some z=>
  obtain⟨g,p',xs,q'⟩:=z
  cases e2:VZ xs with
  |none=>simp[e1,e2]at h
  |some y=>
   obtain⟨y1,y2⟩:=y
   simp[e1,e2]at h
   obtain⟨rfl,rfl,rfl,rfl,rfl⟩:=h
   rw[J8 e1,jt e2]
noncomputable def zdi(e:Expr):Option (Str×Pos×Str×Pos×List Expr×Pos):=(jJ e).bind fun (f,xs,ks,q)=>match ks with
 |[]=>(ZK f).bind fun (x,m,p2)=>(zx x).map fun (y,p)=>(y,p,m,p2,xs,q)
 |_::_=>none
theorem zbr{e:Expr}{x f:Str}{p p2:Pos}{xs:List Expr}{q:Pos}(h:zdi e=some (x,p,f,p2,xs,q)):e=.Call (.Attribute (.Name x p) f p2) xs [] q:=by
 unfold zdi at h
 cases e1:jJ e with
 |none=>rw[e1]at h;cases h
 |some z=>
  obtain⟨g,ys,ks,q'⟩:=z
  rw[e1]at h
  cases ks with
  |cons _ _=>cases h
  |nil=>
   cases e2:ZK g with
   |none=>simp[e2]at h
   |some z=>
    obtain⟨y,m,p3⟩:=z
    cases e3:zx y with
    |none=>simp[e2,e3]at h
    |some z=>
     obtain⟨y',p'⟩:=z
     simp[e2,e3]at h
     obtain⟨rfl,rfl,rfl,rfl,rfl,rfl⟩:=h
     rw[ju e1,ZF e2,zo e3]
noncomputable def YG(e:Expr):Option (Expr×Option Expr×Option Expr×Pos×Pos):=(Zc e).bind fun (x,y,q)=>(YJ y).bind fun (l,h,s,p)=>match s with
 |none=>some (x,l,h,p,q)
 |some _=>none
theorem WW{e x:Expr}{l h:Option Expr}{p q:Pos}(hh:YG e=some (x,l,h,p,q)):e=.Subscript x (.Slice l h none p) q:=by
 unfold YG at hh
 cases e1:Zc e with
 |none=>rw[e1]at hh;cases hh
 |some z=>
  obtain⟨x',y,q'⟩:=z
  cases e2:YJ y with
  |none=>simp[e1,e2]at hh
  |some z=>
   obtain⟨l',h',s,p'⟩:=z
   cases s with
   |some _=>simp[e1,e2]at hh
   |none=>
    simp[e1,e2]at hh
    obtain⟨rfl,rfl,rfl,rfl,rfl⟩:=hh
    rw[qz e1,k9 e2]
noncomputable def zfL(e:Expr):Option (Expr×Expr×Expr×List Expr×Scope×Pos):=(YI e).bind fun (elt,gens,scope,p)=>(q8 gens).bind fun g=>if g.is_async=0 then some (elt,g.target,g.iter,g.ifs,scope,p) else none
theorem zbp{e elt tg iter:Expr}{ifs:List Expr}{scope:Scope}{p:Pos}(h:zfL e=some (elt,tg,iter,ifs,scope,p)):e=.ListComp elt [⟨tg,iter,ifs,0⟩] scope p:=by
 unfold zfL at h
 cases e1:YI e with
 |none=>rw[e1]at h;cases h
 |some z=>
  obtain⟨a1,a2,a3,a4⟩:=z
  cases e2:q8 a2 with
  |none=>simp[e1,e2]at h
  |some g=>
   obtain⟨g1,g2,g3,g4⟩:=g
   by_cases hz:g4=0
   ·subst hz
    simp[e1,e2]at h
    obtain⟨rfl,rfl,rfl,rfl,rfl,rfl⟩:=h
    rw[k6 e1,zB e2]
   ·simp[e1,e2,hz]at h
noncomputable def YE(op:BoolOp)(e:Expr):Option (Expr×Expr):=(zdf e).bind fun (o,vs,p)=>if o=op then (match vs with
 |x::y:: []=>some (x,y)
 |x::y::z::r=>some (x,.BoolOp op (y::z::r) p)
 |_=>none) else none
theorem WU{op:BoolOp}{e x z:Expr}(h:YE op e=some (x,z)):(∃ p,e=.BoolOp op [x,z] p)∨∃ y w r p,e=.BoolOp op (x::y::w::r) p/\z=.BoolOp op (y::w::r) p:=by
 unfold YE at h
 cases e1:zdf e with
 |none=>rw[e1]at h;cases h
 |some q=>
  obtain⟨o,vs,p⟩:=q
  rw[zbi e1]
  by_cases ho:o=op
  ·subst ho
   match vs with
   |[]=>simp[e1]at h
   |[_]=>simp[e1]at h
   |[a,b]=>
    simp[e1]at h
    obtain⟨rfl,rfl⟩:=h
    exact .inl ⟨p,rfl⟩
   |a::b::c::r=>
    simp[e1]at h
    obtain⟨rfl,rfl⟩:=h
    exact .inr ⟨b,c,r,p,rfl,rfl⟩
  ·simp[e1,ho]at h
mutual
noncomputable def wW(sc:Scope)(N:List Str)(mp:List Nat)(lo:Nat):IT->Expr->Bool
 |.nm s i,.Name x _=>decide (N[s]?=some x)&&decide (mp[s]?=some i)&&decide (lo<=i)&&(decide (sc.names.lookup x=some .local)||decide (sc.names.lookup x=some .cell))
 |.tp ts,.Tuple es _ _=>Wz sc N mp lo ts es
 |_,_=>false
noncomputable def Wz(sc:Scope)(N:List Str)(mp:List Nat)(lo:Nat):ITs->List Expr->Bool
 |.nil,[]=>true
 |.cons t ts,e::es=>zl e&&wW sc N mp lo t e&&Wz sc N mp lo ts es
 |_,_=>false
end
noncomputable def zfK:Expr->Option (List Expr×Pos)
 |.JoinedStr vs p=>some (vs,p)
 |_=>none
theorem zbo{e:Expr}{vs:List Expr}{p:Pos}(h:zfK e=some (vs,p)):e=.JoinedStr vs p:=by
 unfold zfK at h
 split at h
 ·cases h;rfl
 ·cases h
noncomputable def zfH:Expr->Option (Expr×Pos)
 |.FormattedValue v c none p=>if c= -1 then some (v,p) else none
 |_=>none
theorem zbk{e v:Expr}{p:Pos}(h:zfH e=some (v,p)):e=.FormattedValue v (-1) none p:=by
 cases e<;>try (cases h;done)
 rename_i v' c sp p'
 cases sp with
 |some _=>cases h
 |none=>
  simp only[zfH]at h
  split at h
  ·rename_i hc;subst hc;cases h;rfl
  ·cases h
noncomputable def zfJ(e:Expr):Option (Str×Nat×Pos×Str×Pos×Expr×Pos):=(jJ e).bind fun (f,xs,ks,q)=>match ks with
 |[]=>(ZK f).bind fun (x,m,p2)=>(qZ x).bind fun (c,j,p1)=>(Va c).bind fun z=>(q8 xs).map fun a=>(z,j,p1,m,p2,a,q)
 |_::_=>none
theorem zbn{e a:Expr}{z m:Str}{j:Nat}{p1 p2 q:Pos}(h:zfJ e=some (z,j,p1,m,p2,a,q)):e=.Call (.Attribute (.Constant (.str z) j p1) m p2) [a] [] q:=by
 unfold zfJ at h
 cases e1:jJ e with
 |none=>rw[e1]at h;cases h
 |some w=>
  obtain⟨f,xs,ks,q'⟩:=w
  rw[e1]at h
  cases ks with
  |cons _ _=>cases h
  |nil=>
   cases e2:ZK f with
   |none=>simp[e2]at h
   |some w=>
    obtain⟨x,m',p2'⟩:=w
    cases e3:qZ x with
    |none=>simp[e2,e3]at h
    |some w=>
     obtain⟨c,j',p1'⟩:=w
     cases e4:Va c with
     |none=>simp[e2,e3,e4]at h
     |some z'=>
      cases e5:q8 xs with
      |none=>simp[e2,e3,e4,e5]at h
      |some a'=>
       simp[e2,e3,e4,e5]at h
       obtain⟨rfl,rfl,rfl,rfl,rfl,rfl,rfl⟩:=h
       rw[ju e1,ZF e2,zE e3,jQ e4,zB e5]
noncomputable def wG:Expr->Bool
 |.Name .. =>true
 |.Subscript .. =>true
 |.Attribute .. =>true
 |.Call (.Attribute ..) .. =>true
 |_=>false
theorem Z6{o:Expr}{nm:Str}{env:Env}(h:wG o=true):attributeBase o nm env (eval o env)=eval o env:=by
 cases o<;>first | rfl | (simp[wG]at h;done) | skip
 rename_i f xs ks q
 cases f<;>first | rfl | (simp[wG]at h)
noncomputable def zdj(e:Expr):Option (Expr×Str×Pos×Expr×Pos):=(jJ e).bind fun (f,xs,ks,q)=>match ks with
 |[]=>(ZK f).bind fun (x,m,p2)=>(q8 xs).map fun a=>(x,m,p2,a,q)
 |_::_=>none
theorem V3{e o a:Expr}{m:Str}{p2 q:Pos}(h:zdj e=some (o,m,p2,a,q)):e=.Call (.Attribute o m p2) [a] [] q:=by
 unfold zdj at h
 cases e1:jJ e with
 |none=>rw[e1]at h;cases h
 |some w=>
  obtain⟨f,xs,ks,q'⟩:=w
  rw[e1]at h
  cases ks with
  |cons _ _=>cases h
  |nil=>
   cases e2:ZK f with
   |none=>simp[e2]at h
   |some w=>
    obtain⟨x,m',p2'⟩:=w
    cases e5:q8 xs with
    |none=>simp[e2,e5]at h
    |some a'=>
     simp[e2,e5]at h
     obtain⟨rfl,rfl,rfl,rfl,rfl⟩:=h
     rw[ju e1,ZF e2,zB e5]
noncomputable def zdh:Expr->Option (List (Option Expr)×List Expr×Pos)
 |.Dict ks vs p=>some (ks,vs,p)
 |_=>none
theorem V2{e:Expr}{ks:List (Option Expr)}{vs:List Expr}{p:Pos}(h:zdh e=some (ks,vs,p)):e=.Dict ks vs p:=by
 unfold zdh at h
 split at h
 ·cases h;rfl
 ·cases h
noncomputable def YH:Expr->Option (Expr×Expr×List Comprehension×Scope×Pos)
 |.DictComp k v gens scope p=>some (k,v,gens,scope,p)
 |_=>none
theorem kY{e k v:Expr}{gens:List Comprehension}{scope:Scope}{p:Pos}(h:YH e=some (k,v,gens,scope,p)):e=.DictComp k v gens scope p:=by
 unfold YH at h
 split at h
 ·cases h;rfl
 ·cases h
noncomputable def zfG(e:Expr):Option (Expr×Expr×Expr×Expr×List Expr×Scope×Pos):=(YH e).bind fun (k,v,gens,scope,p)=>(q8 gens).bind fun g=>if g.is_async=0 then some (k,v,g.target,g.iter,g.ifs,scope,p) else none
theorem zbj{e k v tg iter:Expr}{ifs:List Expr}{scope:Scope}{p:Pos}(h:zfG e=some (k,v,tg,iter,ifs,scope,p)):e=.DictComp k v [⟨tg,iter,ifs,0⟩] scope p:=by
 unfold zfG at h
 cases e1:YH e with
 |none=>rw[e1]at h;cases h
 |some z=>
  obtain⟨a0,a1,a2,a3,a4⟩:=z
  cases e2:q8 a2 with
  |none=>simp[e1,e2]at h
  |some g=>
   obtain⟨g1,g2,g3,g4⟩:=g
   by_cases hz:g4=0
   ·subst hz
    simp[e1,e2]at h
    obtain⟨rfl,rfl,rfl,rfl,rfl,rfl,rfl⟩:=h
    rw[kY e1,zB e2]
   ·simp[e1,e2,hz]at h
mutual
noncomputable def IE.chk(W:Wd)(sc:Scope)(N:List Str)(mp:List Nat)(m:Nat):IE->Expr->Bool
 |.var s i,e=>okO (zx e) fun x=>nmB sc N mp s i x.1
 |.frz s i,e=>okO (zx e) fun x=>nmB sc N mp s i x.1
 |.cint i,e=>okO (qZ e) fun c=>okO (zdY c.1) fun j=>decide (i=j)
 |.cstr x,e=>okO (qZ e) fun c=>okO (Va c.1) fun y=>decide (x=y)
 |.cbool b,e=>okO (qZ e) fun c=>okO (Yc c.1) fun y=>decide (b=y)
 |.cnone,e=>okO (qZ e) fun c=>zdt c.1
 |.gint x i,e=>okO (zx e) fun y=>decide (x=y.1)&&w6 sc x&&W.gi.contains (x,i)&& !(x==("__debug__" :Str))
 |.gstr x i,e=>okO (zx e) fun y=>decide (x=y.1)&&w6 sc x&&W.gs.contains (x,i)&& !(x==("__debug__" :Str))
 |.tup a,e=>okO (V4 e) fun es=>a.chk W sc N mp m es.1
 |.new n,e=>JG e&&n.chk W sc N mp m e
 |.bin op a b,e=>okO (V0 e) fun z=>decide (op=z.2.1)&&a.chk W sc N mp m z.1&&b.chk W sc N mp m z.2.2.1
 |.cmp op a b,e=>okO (V1 e) fun z=>okO (q8 z.2.1) fun op'=>okO (q8 z.2.2.1) fun y=>decide (op=op')&&qW y&&a.chk W sc N mp m z.1&&b.chk W sc N mp m y
 |.chain op1 op2 a b c,e=>okO (V1 e) fun z=>okO (VZ z.2.1) fun o=>okO (VZ z.2.2.1) fun y=>decide (op1=o.1)&&decide (op2=o.2)&&qW y.2&&a.chk W sc N mp m z.1&&b.chk W sc N mp m y.1&&c.chk W sc N mp m y.2
 |.not a,e=>okO (zdk e) fun z=>decide (z.1=.Not)&&a.chk W sc N mp m z.2.1
 |.neg a,e=>okO (zdk e) fun z=>decide (z.1=.USub)&&a.chk W sc N mp m z.2.1
 |.and a b,e=>okO (YE .And e) fun z=>a.chk W sc N mp m z.1&&b.chk W sc N mp m z.2
 |.or a b,e=>okO (YE .Or e) fun z=>a.chk W sc N mp m z.1&&b.chk W sc N mp m z.2
 |.ite c a b,e=>okO (zbm e) fun z=>c.chk W sc N mp m z.1&&a.chk W sc N mp m z.2.1&&b.chk W sc N mp m z.2.2.1
 |.ix a b,e=>okO (Zc e) fun z=>qf z.2.1&&a.chk W sc N mp m z.1&&b.chk W sc N mp m z.2.1
 |.len a,e=>match un1 e with
  |some (f,_,x,_)=>biB W sc f "len" &&zl x&&a.chk W sc N mp m x
  |none=>false
 |.int a,e=>match un1 e with
  |some (f,_,x,_)=>biB W sc f "int" &&zl x&&a.chk W sc N mp m x
  |none=>false
 |.all a,e=>match un1 e with
  |some (f,_,x,_)=>biB W sc f "all" &&zl x&&a.chk W sc N mp m x
  |none=>false
 |.any a,e=>match un1 e with
  |some (f,_,x,_)=>biB W sc f "any" &&zl x&&a.chk W sc N mp m x
  |none=>false
 |.tuple a,e=>match un1 e with
  |some (f,_,x,_)=>biB W sc f "tuple" &&zl x&&a.chk W sc N mp m x
  |none=>false
 |.isi T a,e=>match un2 e with
  |some (f,_,x,y,_)=>biB W sc f "isinstance" &&zl x&&(T== "int" ||T== "bool" ||T== "list" ||T== "tuple" ||T== "str")&&okO (zx y) (fun z=>biB W sc z.1 (Str.ofString T))&&a.chk W sc N mp m x
  |none=>false
 |.min a b,e=>match un2 e with
  |some (f,_,x,y,_)=>biB W sc f "min" &&zl x&&zl y&&a.chk W sc N mp m x&&b.chk W sc N mp m y
  |none=>false
 |.max a b,e=>match un2 e with
  |some (f,_,x,y,_)=>biB W sc f "max" &&zl x&&zl y&&a.chk W sc N mp m x&&b.chk W sc N mp m y
  |none=>false
 |.call o,e=>JG e&&o.chk W sc N mp m e
 |.sadd a b,e=>okO (V0 e) fun z=>decide (z.2.1=.Add)&&a.chk W sc N mp m z.1&&b.chk W sc N mp m z.2.2.1
 |.sin a b,e=>okO (V1 e) fun z=>okO (q8 z.2.1) fun op=>okO (q8 z.2.2.1) fun y=>decide (op=.In)&&qW y&&a.chk W sc N mp m z.1&&b.chk W sc N mp m y
 |.slen a,e=>match un1 e with
  |some (f,_,x,_)=>biB W sc f "len" &&zl x&&a.chk W sc N mp m x
  |none=>false
 |.str a,e=>match un1 e with
  |some (f,_,x,_)=>biB W sc f "str" &&zl x&&a.chk W sc N mp m x
  |none=>false
 |.join z a,e=>okO (zfJ e) fun y=>decide (z=y.1)&&decide (y.2.2.2.1= "join")&&zl y.2.2.2.2.2.1&&(y.2.2.2.2.1.endLine==y.2.2.2.2.2.2.line)&&a.chk W sc N mp m y.2.2.2.2.2.1
 |.six a b,e=>okO (Zc e) fun z=>qf z.2.1&&a.chk W sc N mp m z.1&&b.chk W sc N mp m z.2.1
 |.ends a b,e=>okO (zdj e) fun z=>wG z.1&&decide (z.2.1= "endswith")&&zl z.2.2.2.1&&(z.2.2.1.endLine==z.2.2.2.2.line)&&a.chk W sc N mp m z.1&&b.chk W sc N mp m z.2.2.2.1
 |.sint a,e=>match un1 e with
  |some (f,_,x,_)=>biB W sc f "int" &&zl x&&a.chk W sc N mp m x
  |none=>false
 |.cutS a lo hi,e=>match YG e with
  |some (x,l,h,_,_)=>a.chk W sc N mp m x&&lo.chk W sc N mp m l&&hi.chk W sc N mp m h
  |none=>false
 |.fstr a,e=>okO (zfK e) fun z=>decide (2<=z.1.length/\z.1.length<=100)&&a.chk W sc N mp m z.1
 |.newD n,e=>n.chk W sc N mp m e
noncomputable def IL.chk(W:Wd)(sc:Scope)(N:List Str)(mp:List Nat)(m:Nat):IL->List Expr->Bool
 |.nil,[]=>true
 |.cons e a,x::xs=>zl x&&e.chk W sc N mp m x&&a.chk W sc N mp m xs
 |_,_=>false
noncomputable def IA.chk(W:Wd)(sc:Scope)(N:List Str)(mp:List Nat)(m:Nat):IA->List Expr->Bool
 |.nil,[]=>true
 |.cons e a,x::xs=>zl x&&e.chk W sc N mp m x&&a.chk W sc N mp m xs
 |.io s i a,x::xs=>okO (zx x) (fun z=>nmB sc N mp s i z.1)&&a.chk W sc N mp m xs
 |.tmp n,[x]=>zl x&&n.chk W sc N mp m x
 |_,_=>false
noncomputable def IN.chk(W:Wd)(sc:Scope)(N:List Str)(mp:List Nat)(m:Nat):IN->Expr->Bool
 |.lst a,e=>okO (zbq e) fun z=>a.chk W sc N mp m z.1
 |.cut e lo hi,z=>okO (YG z) fun z=>e.chk W sc N mp m z.1&&lo.chk W sc N mp m z.2.1&&hi.chk W sc N mp m z.2.2.1
 |.cat a b,e=>okO (V0 e) fun z=>decide (z.2.1=.Add)&&a.chk W sc N mp m z.1&&b.chk W sc N mp m z.2.2.1
 |.list e,y=>match un1 y with
  |some (f,_,x,_)=>biB W sc f "list" &&zl x&&e.chk W sc N mp m x
  |none=>false
 |.comp n k ix N' t src c el,e=>match zfL e with
  |some (elt,tg,iter,ifs,scope,_)=>decide (n=m)&&Ye sc N scope N' k ix&&decide (mpC mp n k ix).Nodup&&ix.all (fun i=>match mp[i]? with
   |some j=>decide (j<n)
   |none=>false)&&qW iter&&src.chk W sc N mp m iter tg&&wW scope N' (mpC mp n k ix) n t tg&&c.chk W scope N' (mpC mp n k ix) (n+k) ifs&&el.chk W scope N' (mpC mp n k ix) (n+k) elt
  |none=>false
 |.split a b,e=>okO (zdj e) fun z=>wG z.1&&decide (z.2.1= "split")&&zl z.2.2.2.1&&(z.2.2.1.endLine==z.2.2.2.2.line)&&a.chk W sc N mp m z.1&&b.chk W sc N mp m z.2.2.2.1
noncomputable def IP.chk(W:Wd)(sc:Scope)(N:List Str)(mp:List Nat)(m:Nat):IP->Option Expr->Bool
 |.non,none=>true
 |.one e,some x=>e.chk W sc N mp m x
 |_,_=>false
noncomputable def II.chk(W:Wd)(sc:Scope)(N:List Str)(mp:List Nat)(m:Nat):II->Expr->Expr->Bool
 |.list e,x,_=>e.chk W sc N mp m x
 |.tup e,x,_=>e.chk W sc N mp m x
 |.range e,y,_=>match un1 y with
  |some (f,_,x,_)=>biB W sc f "range" &&zl x&&e.chk W sc N mp m x
  |none=>false
 |.chars e,x,_=>e.chk W sc N mp m x
noncomputable def IC.chk(W:Wd)(sc:Scope)(N:List Str)(mp:List Nat)(m:Nat):IC->List Expr->Bool
 |.yes,[]=>true
 |.one e,[x]=>e.chk W sc N mp m x
 |_,_=>false
noncomputable def IO.chk(W:Wd)(sc:Scope)(N:List Str)(mp:List Nat)(m:Nat):IO->Expr->Bool
 |.dat e,x=>e.chk W sc N mp m x
 |.own n,x=>n.chk W sc N mp m x
 |.call f n a,e=>match unN e with
  |some (g,_,xs,_)=>decide (f=g)&&w6 sc f&&W.fl.contains (f,n)&& !(f==("__debug__" :Str))&&xs.all zl&&a.chk W sc N mp m xs
  |none=>false
 |.move s i,e=>okO (zx e) fun x=>nmB sc N mp s i x.1
 |.pair a o,e=>okO (V4 e) fun z=>okO (VZ z.1) fun x=>zl x.1&&zl x.2&&a.chk W sc N mp m x.1&&o.chk W sc N mp m x.2
 |.ownD n,e=>n.chk W sc N mp m e
noncomputable def IJ.chk(W:Wd)(sc:Scope)(N:List Str)(mp:List Nat)(m:Nat):IJ->List Expr->Bool
 |.nil,[]=>true
 |.con z r,x::xs=>okO (qZ x) (fun c=>okO (Va c.1) fun y=>decide (z=y))&&decide (z.length<=10000)&&r.chk W sc N mp m xs
 |.val e r,x::xs=>okO (zfH x) (fun v=>e.chk W sc N mp m v.1)&&r.chk W sc N mp m xs
 |_,_=>false
noncomputable def IM.chk(W:Wd)(sc:Scope)(N:List Str)(mp:List Nat)(m:Nat):IM->Expr->Bool
 |.nil,e=>okO (zdh e) fun z=>z.1.isEmpty&&z.2.1.isEmpty
 |.one a b,e=>okO (zdh e) fun z=>okO (q8 z.1) fun k=>okO k fun x=>okO (q8 z.2.1) fun y=>a.chk W sc N mp m x&&b.chk W sc N mp m y
 |.comp n k ix N' t src c ek ev,e=>match zfG e with
  |some (kx,vx,tg,iter,ifs,scope,_)=>decide (n=m)&&Ye sc N scope N' k ix&&decide (mpC mp n k ix).Nodup&&ix.all (fun i=>match mp[i]? with
   |some j=>decide (j<n)
   |none=>false)&&qW iter&&src.chk W sc N mp m iter tg&&wW scope N' (mpC mp n k ix) n t tg&&c.chk W scope N' (mpC mp n k ix) (n+k) ifs&&ek.chk W scope N' (mpC mp n k ix) (n+k) kx&&ev.chk W scope N' (mpC mp n k ix) (n+k) vx
  |none=>false
noncomputable def IG.chk(W:Wd)(sc:Scope)(N:List Str)(mp:List Nat)(m:Nat):IG->Expr->Expr->Bool
 |.std src,x,tg=>src.chk W sc N mp m x tg
end
end L3
set_option maxHeartbeats 4000000
namespace L3
open PySem PySem.Spec PyProof.Rows L2
variable [Cs]
structure XSc(X:Cx)(sc:Scope)(N:List Str):Prop where
 hN:X.N=N
 vis:∀ x,zbz sc x=true->Vis X.env.scope x
 loc:∀ x,sc.names.lookup x=some .local->X.env.scope.names.lookup x=some .local
 cel:∀ x,sc.names.lookup x=some .cell->X.env.scope.names.lookup x=some .cell/\X.fn x=true
 fre:∀ x,sc.names.lookup x=some .free->X.env.scope.names.lookup x=some .cell∨X.env.scope.names.lookup x=some .free
 glo:∀ x,w6 sc x=true->Gl X x
structure XW(X:Cx)(XP:XPT)(cf:CF)(W:Wd)(k:Nat):Prop where
 bi:∀ x,W.bi.contains x=true->X.mg x=none
 gi:∀ x i,W.gi.contains (x,i)=true->∃ t,X.mg x=some (.int i t)
 gs:∀ x i,W.gs.contains (x,i)=true->∃ t,X.mg x=some (.str i t)
 fn:∀ x n,W.fl.contains (x,n)=true->Kn X.prog X.w X.K X.mg X.base (CX1 X.prog X.w) x k (spX X.mg n (cf x))/\∀ args,cf x args≠ .bad->args.length=n
 rm:Room k X.A
 hk:1<=k
 calm:X.calm=true
 ex:∀ x,W.ex.contains x=true->∃ C,X.mg x=some (.ref C)/\PySem.W.excIn X.K C bmV "ValueError.__new__" =true
 mr:∀ x C y C2,W.ex.contains x=true->X.mg x=some (.ref C)->W.ex.contains y=true->X.mg y=some (.ref C2)->(mroIn X.K C).contains (.ref C2)=decide (x=y)
 gd:∀ x kf,W.gd.contains (x,kf)=true->GD X.w X.K X.mg x kf
 fk:∀ c f,W.fk.contains (c,f)=true->FldK X c f
 mc:∀ c q n,W.mc.contains (c,q,n)=true->X.mg c=some (.ref (Cs.adr c))/\(∃ j,j+1<=k/\KnI X.prog X.w X.K X.mg X.base (CX1 X.prog X.w) (Cs.adr c) j (spX X.mg n (cf q)))/\∀ args,cf q args≠ .bad->args.length=n
 ml:∀ c m q n,W.ml.contains (c,m,q,n)=true->KnM X.prog X.w X.K X.mg X.base (CX1 X.prog X.w) (Cs.adr c) m k (spX X.mg n (cf q))/\∀ args,cf q args≠ .bad->args.length=n
 px:PxOk X XP
 sk:Sk X
theorem zn{e:Expr}{es:List Expr}{env:Env}(h:zl e=true):starEach (e::es) env=(false,eval e env)::starEach es env:=by
 cases e<;>first | rfl | (simp[zl]at h)
theorem VQ{es:List Expr}{env:Env}:es.all zl=true->(starEach es env).any (·.1)=false:=by
 induction es with
 |nil=>intro;rfl
 |cons e es ih=>
  intro h
  rw[ue,xa]at h
  rw[zn h.1,xM,ih h.2];rfl
theorem ZO{pos:Pos}:∀ {l:List (Bool×Sem Value)},l.any (·.1)=false->(backTo pos l).any (·.1)=false
 |[],_=>rfl
 | (b,t)::r,h=>by
  rw[xM,Bool.or_eq_false_iff]at h
  show ((b,_)::backTo pos r).any (·.1)=false
  rw[xM,ZO h.2]
  have hb:b=false:=h.1
  rw[hb];rfl
theorem wF{e:Expr}(h:qf e=true):J2 e:=fun o i=>by
 cases e<;>first | rfl | (simp[qf]at h)
theorem jq{e:Expr}{env:Env}(h:qW e=true)(x:Value):foldedSetIterable e env x=pure x:=by
 cases e<;>first | rfl | (simp[qW]at h)
theorem jW{e:Expr}(op:CmpOp)(h:qW e=true):behindInMarks op e=false:=by
 cases e<;>first | rfl | (simp[qW]at h)
theorem WN{e b:Expr}(op op':CmpOp)(h:qW e=true):lastMarks [op,op'] [b,e]=false:=jW op' h
theorem Za{x y:Str}(h:(!(x==y))=true):(x==y)=false:=by simpa using h
section
variable {X:Cx} {XP:XPT} {cf:CF} {W:Wd} {k:Nat} {sc:Scope} {N:List Str} {mp:List Nat} {m:Nat}
theorem wv{s i:Nat}{x:Str}(S:XSc X sc N)(h:nmB sc N mp s i x=true):NmK X mp s i x:=by
 unfold nmB at h
 simp only[xa,decide_eq_true_eq]at h
 obtain⟨⟨⟨⟨h1,h2⟩,h3⟩,h4⟩,h5⟩:=h
 exact⟨by rw[S.hN];exact h1,S.vis x h2,h3,Za h4,Za h5⟩
theorem qm {x y:Str}{v:Value}(S:XSc X sc N) (T:XW X XP cf W k) (h:biB W sc x y=true) (hb:bootBuiltins y=some v) (hn:y≠ "__name__") (hd:(y==("__debug__" :Str))=false):BiK X x v:=by
 unfold biB at h
 simp only[xa,decide_eq_true_eq]at h
 obtain⟨⟨h1,h2⟩,h3⟩:=h
 subst h1
 exact⟨S.glo x h2,T.bi x h3,hb,hn,hd⟩
theorem JU{f:Str->NameKind->NameKind}:∀ {names:List (Str×NameKind)}{x:Str},(names.map fun (n,k)=>(n,f n k)).lookup x=(names.lookup x).map (f x)
 |[],_=>rfl
 | (n,k)::r,x=>by
  rw[xq]
  cases hx:x==n with
  |true=>rw[xr,xr,hx];rw[eq_of_beq hx];rfl
  |false=>rw[xr,xr,hx];exact JU
theorem qj{scope:Scope}{env:Env}{x:Str}:(relabel scope env).names.lookup x=(scope.names.lookup x).map fun k=>if (k==.free&&env.scope.kind==ScopeKind.function&&env.kindOf x==some NameKind.cell) then .cell else k:=by
 unfold relabel
 have e:(scope.names.map fun (n,k)=>if (k==NameKind.free&&env.scope.kind==ScopeKind.function&&env.kindOf n==some NameKind.cell) then (n,NameKind.cell) else (n,k)) =
   scope.names.map fun (n,k)=>(n,(fun n k=>if (k==NameKind.free&&env.scope.kind==ScopeKind.function&&env.kindOf n==some NameKind.cell) then NameKind.cell else k) n k):=by
  apply List.map_congr_left
  rintro⟨n,k⟩ _
  dsimp only
  split<;>rfl
 rw[e]
 exact JU (f:=fun n k=>if (k==NameKind.free&&env.scope.kind==ScopeKind.function&&env.kindOf n==some NameKind.cell) then NameKind.cell else k)
theorem XSc.comp{scope:Scope}{N':List Str}{k:Nat}{ix:List Nat}{psc:Scope}(S:CSc psc N scope N' k ix)(cl:List (Str×Addr))(C:Addr)(s2:Shared)(H2:Hp)(fp:List Addr):XSc (X.comp N' scope cl C s2 H2 fp) scope N' where
 hN:=rfl
 vis x h:=by
  unfold zbz at h
  simp only[xE,decide_eq_true_eq]at h
  show Vis (relabel scope X.env) x
  unfold Vis
  rw[qj]
  rcases h with (h | h) | h
  ·rw[h];exact .inl rfl
  ·rw[h];exact .inr (.inl rfl)
  ·rw[h]
   simp only[Option.map_some]
   split
   ·exact .inr (.inl rfl)
   ·exact .inr (.inr rfl)
 loc x h:=by
  show (relabel scope X.env).names.lookup x=_
  rw[qj,h];rfl
 cel x h:=by
  refine⟨?_,decide_eq_true h⟩
  show (relabel scope X.env).names.lookup x=_
  rw[qj,h];rfl
 fre x h:=by
  show (relabel scope X.env).names.lookup x=_∨(relabel scope X.env).names.lookup x=_
  rw[qj,h]
  simp only[Option.map_some]
  split
  ·exact .inl rfl
  ·exact .inr rfl
 glo x h:=by
  unfold w6 at h
  simp only[decide_eq_true_eq]at h
  show (relabel scope X.env).names.lookup x=_
  rw[qj,h];rfl
theorem XW.comp(T:XW X XP cf W k){N':List Str}{scope:Scope}{σ:St}{cl:List (Str×Addr)}{C:Addr}{s2:Shared}{H2:Hp}{fp:List Addr}(c:Cat X σ C s2 H2 fp):XW (X.comp N' scope cl C s2 H2 fp) (XPc XP σ) cf W k:=⟨T.bi,T.gi,T.gs,T.fn,T.rm,T.hk,T.calm,T.ex,T.mr,T.gd,fun c f h=>⟨(T.fk c f h).cl,(T.fk c f h).no⟩,T.mc,T.ml,zcz T.px T.sk c,T.sk⟩
theorem KF{scope:Scope}{N':List Str}{k:Nat}{ix:List Nat}(S:XSc X sc N)(h:CSc sc N scope N' k ix):CSc X.env.scope X.N scope N' k ix :=
 ⟨h.kind,h.cel,h.loc,fun y hy e=>by
  rcases h.fre y hy e with z | z
  ·exact .inl (S.cel _ z).1
  ·exact S.fre _ z,h.len,h.nd,fun j i e=>by
  rw[S.hN];exact h.cap j i e⟩
theorem Room.at1(T:XW X XP cf W k):Room 1 X.A:=T.rm.mono T.hk
theorem Room.atk(T:XW X XP cf W k):Room k X.A:=T.rm
theorem yg{es:List Expr}{env:Env}:(assignEach es env).length=es.length:=by
 induction es with
 |nil=>rfl
 |cons e es ih=>cases e<;>simp[assignEach,ih]
theorem JR{e:Expr}{es:List Expr}{env:Env}(h:zl e=true):assignEach (e::es) env=(false,assign e env)::assignEach es env:=by
 cases e<;>first | rfl | (simp[zl]at h)
mutual
theorem Qs{kp:Nat->Prop}{lo:Nat}(S:XSc X sc N)(hN:N.Nodup)(hn:mp.Nodup)(hc:X.calm=true)(hk:∀ i,lo<=i->¬ kp i):∀ (t:IT) (e:Expr),wW sc N mp lo t e=true->SG X mp kp e t
  |.nm s i,e,h=>by
   cases e with
   |Name x p=>
    simp only[wW,xa,xE,decide_eq_true_eq]at h
    obtain⟨⟨⟨h1,h2⟩,h3⟩,h4⟩:=h
    refine zcS (by rw[S.hN];exact hN) hn (by rw[S.hN];exact h1) h2 (hk i h3) ?_ ?_
    · rcases h4 with h4 | h4
      · exact .inl (S.loc x h4)
      · exact .inr (S.cel x h4).1
    · rcases h4 with h4 | h4
      · exact .inr (S.loc x h4)
      · exact .inl (S.cel x h4).2
   |_=>simp[wW]at h
  |.tp ts,e,h=>by
   cases e with
   |Tuple es n p=>
    simp only[wW]at h
    obtain⟨h1,h2,h3⟩:=VO S hN hn hc hk ts es h
    exact zfe hc h1 (by rw[yg];exact h2) h3
   |_=>simp[wW]at h
theorem VO{kp:Nat->Prop}{lo:Nat}(S:XSc X sc N)(hN:N.Nodup)(hn:mp.Nodup)(hc:X.calm=true)(hk:∀ i,lo<=i->¬ kp i):∀ (ts:ITs) (es:List Expr),Wz sc N mp lo ts es=true->SGs X mp kp es ts/\ts.len=es.length/\(assignEach es X.env).findIdx? (·.1)=none
  |.nil,[],h=>⟨zcT,rfl,rfl⟩
  |.cons t ts,e::es,h=>by
    simp only[Wz,xa]at h
    obtain⟨⟨h1,h2⟩,h3⟩:=h
    have ih1:=Qs S hN hn hc hk t e h2
    obtain⟨i1,i2,i3⟩:=VO S hN hn hc hk ts es h3
    refine⟨zaX ih1 i1 (by rw[JR h1];rfl),by rw[ITs.len,i2];rfl,?_⟩
    rw[JR h1,List.findIdx?_cons]
    simp[i3]
  |.nil,_::_,h=>by simp[Wz]at h
  |.cons ..,[],h=>by simp[Wz]at h
end
noncomputable def Kk(X:Cx)(XP:XPT)(mp:List Nat)(e:Expr)(f:EM (List PyData)):Prop:=∀ elt gens scope pos,e=.ListComp elt gens scope pos->∃ tg iter ifs N' k ix,gens= [⟨tg,iter,ifs,0⟩]/\CSc X.env.scope X.N scope N' k ix/\(∀ x,foldedSetIterable iter X.env x=pure x) /\
 SNt XP mp (WT k ix (wpI X tg iter) (gU X N' scope tg) (fU X N' scope ifs) (eU X N' scope elt)) f
theorem ww{X:Cx}{XP:XPT}{mp:List Nat}{e:Expr}{f:EM (List PyData)}(h:∀ elt gens scope pos,e≠ .ListComp elt gens scope pos):Kk X XP mp e f:=fun a b c d q=>absurd q (h a b c d)
theorem kE{e:Expr}{env:Env}(h:JG e=true)(whole:Sem Value):isTrue e env whole=(do let v<-whole;standAt e.pos;holding [v] (truthy v)):=by
 cases e<;>first | rfl | (simp[JG]at h;done) | skip
 rename_i op x p
 cases op<;>first | rfl | (simp[JG]at h)
theorem zO{X:Cx}{XP:XPT}{mp:List Nat}{e:Expr}{fa:EM FV}(h:SE X XP mp e fa)(hp:JG e=true):SE X XP mp e fa/\ST X XP mp e (fTru fa):=⟨h,za9 h (kE hp)⟩
theorem VS{X:Cx}{XP:XPT}{mp:List Nat}{op:BoolOp}{vs:List Expr}{p:Pos}{t:EM Bool}(h:ST X XP mp (.BoolOp op vs p) t):SW X XP mp (.BoolOp op vs p) t:=fun M0 F Γ ν σ H Q rs hs hp whole pins s I=>h M0 F Γ ν σ H Q rs hs hp pins s I
theorem v9:bootBuiltins "range" =some (.type "range"):=by decide +kernel
theorem Wo:bootBuiltins "len" =some (.builtin "len"):=by decide +kernel
theorem Y0:bootBuiltins "min" =some (.builtin "min"):=by decide +kernel
theorem YZ:bootBuiltins "max" =some (.builtin "max"):=by decide +kernel
theorem Wp:bootBuiltins "str" =some (.type "str"):=by decide +kernel
theorem YY:bootBuiltins "isinstance" =some (.builtin "isinstance"):=by decide +kernel
noncomputable abbrev QE(cf:CF)(W:Wd)(a:IE):Prop:=∀ (X:Cx) (XP:XPT) (k:Nat) (sc:Scope) (N:List Str) (mp:List Nat) (m:Nat),XSc X sc N->XW X XP cf W k->∀ (e:Expr),a.chk W sc N mp m e=true->SE X XP mp e (a.ev cf).1/\ST X XP mp e (a.ev cf).2
noncomputable abbrev QL(cf:CF)(W:Wd)(a:IL):Prop:=∀ (X:Cx) (XP:XPT) (k:Nat) (sc:Scope) (N:List Str) (mp:List Nat) (m:Nat),XSc X sc N->XW X XP cf W k->∀ (e:List Expr),a.chk W sc N mp m e=true->SL X XP mp e (a.ev cf)
noncomputable abbrev QA(cf:CF)(W:Wd)(a:IA):Prop:=∀ (X:Cx) (XP:XPT) (k:Nat) (sc:Scope) (N:List Str) (mp:List Nat) (m:Nat),XSc X sc N->XW X XP cf W k->∀ (e:List Expr),a.chk W sc N mp m e=true->SA X XP mp e (a.ev cf)
noncomputable abbrev QN(cf:CF)(W:Wd)(a:IN):Prop:=∀ (X:Cx) (XP:XPT) (k:Nat) (sc:Scope) (N:List Str) (mp:List Nat) (m:Nat),XSc X sc N->XW X XP cf W k->∀ (e:Expr),a.chk W sc N mp m e=true->SN X XP mp e (a.ev cf)/\(a.plain=true->Kk X XP mp e (a.ev cf))
noncomputable abbrev QP(cf:CF)(W:Wd)(a:IP):Prop:=∀ (X:Cx) (XP:XPT) (k:Nat) (sc:Scope) (N:List Str) (mp:List Nat) (m:Nat),XSc X sc N->XW X XP cf W k->∀ (e:Option Expr),a.chk W sc N mp m e=true->SOp X XP mp e (a.ev cf)
noncomputable abbrev QI(cf:CF)(W:Wd)(a:II):Prop:=∀ (X:Cx) (XP:XPT) (k:Nat) (sc:Scope) (N:List Str) (mp:List Nat) (m:Nat),XSc X sc N->XW X XP cf W k->∀ (tg e:Expr),a.chk W sc N mp m e tg=true->SI X XP mp tg e (a.ev cf)
noncomputable abbrev QC(cf:CF)(W:Wd)(a:IC):Prop:=∀ (X:Cx) (XP:XPT) (k:Nat) (sc:Scope) (N:List Str) (mp:List Nat) (m:Nat),XSc X sc N->XW X XP cf W k->∀ (e:List Expr),a.chk W sc N mp m e=true->SF X XP mp e (a.ev cf)
noncomputable abbrev QO(cf:CF)(W:Wd)(a:IO):Prop:=∀ (X:Cx) (XP:XPT) (k:Nat) (sc:Scope) (N:List Str) (mp:List Nat) (m:Nat),XSc X sc N->XW X XP cf W k->∀ (e:Expr),a.chk W sc N mp m e=true->SO X XP mp e (a.ev cf)
noncomputable abbrev QJ(cf:CF)(W:Wd)(a:IJ):Prop:=∀ (X:Cx) (XP:XPT) (k:Nat) (sc:Scope) (N:List Str) (mp:List Nat) (m:Nat),XSc X sc N->XW X XP cf W k->∀ (e:List Expr),a.chk W sc N mp m e=true->SJ X XP mp e (a.ev cf)
noncomputable def zbG(X:Cx)(XP:XPT)(mp:List Nat)(e:Expr)(f:EM (List (Str×PyData))):Prop:=∀ kx vx gens scope pos,e=.DictComp kx vx gens scope pos->∃ tg iter ifs N' k ix,gens= [⟨tg,iter,ifs,0⟩]/\CSc X.env.scope X.N scope N' k ix/\(∀ x,foldedSetIterable iter X.env x=pure x) /\
 SDt XP mp (JM k ix (wpI X tg iter) (gU X N' scope tg) (fU X N' scope ifs) (eD X N' scope kx vx)) f
noncomputable abbrev QM(cf:CF)(W:Wd)(a:IM):Prop:=∀ (X:Cx) (XP:XPT) (k:Nat) (sc:Scope) (N:List Str) (mp:List Nat) (m:Nat),XSc X sc N->XW X XP cf W k->∀ (e:Expr),a.chk W sc N mp m e=true->SD X XP mp e (a.ev cf)/\(a.plain=true->zbG X XP mp e (a.ev cf))
noncomputable abbrev QG(cf:CF)(W:Wd)(a:IG):Prop:=∀ (X:Cx) (XP:XPT) (k:Nat) (sc:Scope) (N:List Str) (mp:List Nat) (m:Nat),XSc X sc N->XW X XP cf W k->∀ (tg e:Expr),a.chk W sc N mp m e tg=true->SIw X XP mp tg e (a.ev cf)/\∀ b,a=.std b->SI X XP mp tg e (b.ev cf)
theorem Ja{cf:CF}{W:Wd}(s i:Nat):QE cf W (.var s i):=by
 intro X XP k sc N mp m S T e g0
 obtain⟨⟨x,p⟩,eu,h⟩:=za g0
 clear g0
 cases zo eu
 have n:=wv S h
 exact zO (zfa n.hN n.hv n.hm n.hd n.hcd) rfl
theorem QU{cf:CF}{W:Wd}(s i:Nat):QE cf W (.frz s i):=by
 intro X XP k sc N mp m S T e g0
 obtain⟨⟨x,p⟩,eu,h⟩:=za g0
 clear g0
 cases zo eu
 have n:=wv S h
 exact zO (ze3 n.hN n.hv n.hm n.hd n.hcd) rfl
theorem Zf{cf:CF}{W:Wd}(i:Int):QE cf W (.cint i):=by
 intro X XP k sc N mp m S T e g0
 obtain⟨⟨c,j,p⟩,eu,h⟩:=za g0
 clear g0
 cases zE eu
 obtain⟨z,ez,h⟩:=za h
 cases Kz ez
 cases of_decide_eq_true h
 exact zO ze4 rfl
theorem Zg{cf:CF}{W:Wd}(i:Str):QE cf W (.cstr i):=by
 intro X XP k sc N mp m S T e g0
 obtain⟨⟨c,j,p⟩,eu,h⟩:=za g0
 clear g0
 cases zE eu
 obtain⟨z,ez,h⟩:=za h
 cases jQ ez
 cases of_decide_eq_true h
 exact zO ze8 rfl
theorem jj{cf:CF}{W:Wd}(i:Bool):QE cf W (.cbool i):=by
 intro X XP k sc N mp m S T e g0
 obtain⟨⟨c,j,p⟩,eu,h⟩:=za g0
 clear g0
 cases zE eu
 obtain⟨z,ez,h⟩:=za h
 cases Wr ez
 cases of_decide_eq_true h
 exact zO zcH rfl
theorem jl{cf:CF}{W:Wd}  :QE cf W (.cnone):=by
 intro X XP k sc N mp m S T e g0
 obtain⟨⟨c,j,p⟩,eu,h⟩:=za g0
 clear g0
 cases zE eu
 cases Y1 h
 exact zO zcQ rfl
theorem Zk{cf:CF}{W:Wd}(x:Str)(i:Int):QE cf W (.gint x i):=by
 intro X XP k sc N mp m S T e g0
 obtain⟨⟨y,p⟩,eu,h⟩:=za g0
 clear g0
 cases zo eu
 simp only[xa,decide_eq_true_eq]at h
 obtain⟨⟨⟨h1,h2⟩,h3⟩,h4⟩:=h
 subst h1
 exact zO (zcL (S.glo x h2) (T.gi x i h3) (Za h4)) rfl
theorem Zl{cf:CF}{W:Wd}(x:Str)(i:Str):QE cf W (.gstr x i):=by
 intro X XP k sc N mp m S T e g0
 obtain⟨⟨y,p⟩,eu,h⟩:=za g0
 clear g0
 cases zo eu
 simp only[xa,decide_eq_true_eq]at h
 obtain⟨⟨⟨h1,h2⟩,h3⟩,h4⟩:=h
 subst h1
 exact zO (zcM (S.glo x h2) (T.gs x i h3) (Za h4)) rfl
theorem Q9{cf:CF}{W:Wd}(a:IL)(ih_a:QL cf W a):QE cf W (.tup a):=by
 intro X XP k sc N mp m S T e g0
 obtain⟨⟨es,j,p⟩,eu,h⟩:=za g0
 clear g0
 cases JP eu
 exact zO (ze9 (ih_a _ _ _ _ _ _ _ S T es h)) rfl
theorem Q4{cf:CF}{W:Wd}(n:IN)(ih_n:QN cf W n):QE cf W (.new n):=by
 intro X XP k sc N mp m S T e h
 replace h:=xu.mp h
 try simp only[xa]at h
 exact zO (SN.se (ih_n _ _ _ _ _ _ _ S T e h.2).1) h.1
theorem QR{cf:CF}{W:Wd}(op:Operator)(a b:IE)(ih_a:QE cf W a)(ih_b:QE cf W b):QE cf W (.bin op a b):=by
 intro X XP k sc N mp m S T e g0
 obtain⟨⟨x,op',y,p⟩,eu,h⟩:=za g0
 clear g0
 cases JN eu
 simp only[xa,decide_eq_true_eq]at h
 obtain⟨⟨h1,h2⟩,h3⟩:=h
 subst h1
 exact zO (zaO (zdV op) (ih_a _ _ _ _ _ _ _ S T x h2).1 (ih_b _ _ _ _ _ _ _ S T y h3).1) rfl
theorem QT{cf:CF}{W:Wd}(op:CmpOp)(a b:IE)(ih_a:QE cf W a)(ih_b:QE cf W b):QE cf W (.cmp op a b):=by
 intro X XP k sc N mp m S T e g0
 obtain⟨⟨x,ops,ys,p⟩,eu,g1⟩:=za g0
 clear g0
 cases JO eu
 obtain⟨op',eo,h⟩:=za g1
 clear g1
 cases zB eo
 obtain⟨y,ey,h⟩:=za h
 cases zB ey
 simp only[xa,decide_eq_true_eq]at h
 obtain⟨⟨⟨h1,h2⟩,h3⟩,h4⟩:=h
 subst h1
 have ha:=(ih_a _ XP _ _ _ _ _ S T x h3).1
 have hb:=(ih_b _ XP _ _ _ _ _ S T y h4).1
 exact⟨zaQ (Js (Room.at1 T) op) ha hb (jW op h2),za8 (Js (Room.at1 T) op) ha hb (jW op h2)⟩
theorem jk{cf:CF}{W:Wd}(op1 op2:CmpOp)(a b c:IE)(ih_a:QE cf W a)(ih_b:QE cf W b)(ih_c:QE cf W c):QE cf W (.chain op1 op2 a b c):=by
 intro X XP k sc N mp m S T e g0
 obtain⟨⟨x,ops,ys,p⟩,eu,g1⟩:=za g0
 clear g0
 cases JO eu
 obtain⟨⟨o1,o2⟩,eo,h⟩:=za g1
 clear g1
 cases jt eo
 obtain⟨⟨y,z⟩,ey,h⟩:=za h
 cases jt ey
 simp only[xa,decide_eq_true_eq]at h
 obtain⟨⟨⟨⟨⟨h1,h2⟩,h3⟩,h4⟩,h5⟩,h6⟩:=h
 subst h1 h2
 have ha:=(ih_a _ XP _ _ _ _ _ S T x h4).1
 have hb:=(ih_b _ XP _ _ _ _ _ S T y h5).1
 have hc:=(ih_c _ XP _ _ _ _ _ S T z h6).1
 exact⟨zaP (Js (Room.at1 T) op1) (Js (Room.at1 T) op2) ha hb hc (WN op1 op2 h3),za7 (Js (Room.at1 T) op1) (Js (Room.at1 T) op2) ha hb hc (WN op1 op2 h3)⟩
theorem Q5{cf:CF}{W:Wd}(a:IE)(ih_a:QE cf W a):QE cf W (.not a):=by
 intro X XP k sc N mp m S T e g0
 obtain⟨⟨op,x,p⟩,eu,h⟩:=za g0
 clear g0
 cases V5 eu
 simp only[xa,decide_eq_true_eq]at h
 cases h.1
 have hh:=ih_a _ XP _ _ _ _ _ S T x h.2
 exact⟨ze6 hh.1,zfw hh.2⟩
theorem Q3{cf:CF}{W:Wd}(a:IE)(ih_a:QE cf W a):QE cf W (.neg a):=by
 intro X XP k sc N mp m S T e g0
 obtain⟨⟨op,x,p⟩,eu,h⟩:=za g0
 clear g0
 cases V5 eu
 simp only[xa,decide_eq_true_eq]at h
 cases h.1
 exact zO (ze5 (ih_a _ _ _ _ _ _ _ S T x h.2).1) rfl
theorem QH{cf:CF}{W:Wd}(a b:IE)(ih_a:QE cf W a)(ih_b:QE cf W b):QE cf W (.and a b):=by
 intro X XP k sc N mp m S T e g0
 obtain⟨⟨x,z⟩,eu,h⟩:=za g0
 clear g0
 rw[xa]at h
 have ha:=ih_a _ XP _ _ _ _ _ S T x h.1
 have hb:=ih_b _ XP _ _ _ _ _ S T z h.2
 rcases WU eu with ⟨p,rfl⟩ | ⟨y,w,r,p,rfl,rfl⟩
 ·exact⟨zaN ha.1 (zaR hb.1),(zbb ha.2 (zc9 hb.2)).st⟩
 ·exact⟨zaN ha.1 hb.1,(zbb ha.2 (VS hb.2)).st⟩
theorem Wt{cf:CF}{W:Wd}(a b:IE)(ih_a:QE cf W a)(ih_b:QE cf W b):QE cf W (.or a b):=by
 intro X XP k sc N mp m S T e g0
 obtain⟨⟨x,z⟩,eu,h⟩:=za g0
 clear g0
 rw[xa]at h
 have ha:=ih_a _ XP _ _ _ _ _ S T x h.1
 have hb:=ih_b _ XP _ _ _ _ _ S T z h.2
 rcases WU eu with ⟨p,rfl⟩ | ⟨y,w,r,p,rfl,rfl⟩
 ·exact⟨zdE ha.1 (zaR hb.1),(zdK ha.2 (zda hb.2)).st⟩
 ·exact⟨zdE ha.1 hb.1,(zdK ha.2 (VS hb.2)).st⟩
theorem QX{cf:CF}{W:Wd}(c a b:IE)(ih_c:QE cf W c)(ih_a:QE cf W a)(ih_b:QE cf W b):QE cf W (.ite c a b):=by
 intro X XP k sc N mp m S T e g0
 obtain⟨⟨z,x,y,p⟩,eu,h⟩:=za g0
 clear g0
 cases kZ eu
 simp only[xa]at h
 obtain⟨⟨h1,h2⟩,h3⟩:=h
 exact⟨zgy (ih_c _ _ _ _ _ _ _ S T z h1).2 (ih_a _ _ _ _ _ _ _ S T x h2).1 (ih_b _ _ _ _ _ _ _ S T y h3).1,fun M0 F Γ ν σ H Q rs hs hp=>hp.elim⟩
theorem Ws{cf:CF}{W:Wd}(a b:IE)(ih_a:QE cf W a)(ih_b:QE cf W b):QE cf W (.ix a b):=by
 intro X XP k sc N mp m S T e g0
 obtain⟨⟨x,y,p⟩,eu,h⟩:=za g0
 clear g0
 cases qz eu
 simp only[xa]at h
 obtain⟨⟨h1,h2⟩,h3⟩:=h
 exact zO (zgz (ih_a _ _ _ _ _ _ _ S T x h2).1 (ih_b _ _ _ _ _ _ _ S T y h3).1 (wF h1)) rfl
theorem QY{cf:CF}{W:Wd}(a:IE)(ih_a:QE cf W a):QE cf W (.len a):=by
 intro X XP k sc N mp m S T e h
 conv at h=>lhs;whnf
 split at h
 ·rename_i f p x q eu
  cases ql eu
  simp only[xa]at h
  obtain⟨⟨h1,h2⟩,h3⟩:=h
  exact zO (Yw zec (qm S T h1 Wo (by decide) (by decide)) (ih_a _ _ _ _ _ _ _ S T x h3).1 (zn h2)) rfl
 ·cases h
theorem QV{cf:CF}{W:Wd}(a:IE)(ih_a:QE cf W a):QE cf W (.int a):=by
 intro X XP k sc N mp m S T e h
 conv at h=>lhs;whnf
 split at h
 ·rename_i f p x q eu
  cases ql eu
  simp only[xa]at h
  obtain⟨⟨h1,h2⟩,h3⟩:=h
  exact zO (zaS zeb (qm S T h1 Qw (by decide) (by decide)) (ih_a _ _ _ _ _ _ _ S T x h3).1 (zn h2)) rfl
 ·cases h
theorem QF{cf:CF}{W:Wd}(a:IE)(ih_a:QE cf W a):QE cf W (.all a):=by
 intro X XP k sc N mp m S T e h
 conv at h=>lhs;whnf
 split at h
 ·rename_i f p x q eu
  cases ql eu
  simp only[xa]at h
  obtain⟨⟨h1,h2⟩,h3⟩:=h
  exact zO (Yw (zd9 T.calm) (qm S T h1 YW (by decide) (by decide)) (ih_a _ _ _ _ _ _ _ S T x h3).1 (zn h2)) rfl
 ·cases h
theorem QK{cf:CF}{W:Wd}(a:IE)(ih_a:QE cf W a):QE cf W (.any a):=by
 intro X XP k sc N mp m S T e h
 conv at h=>lhs;whnf
 split at h
 ·rename_i f p x q eu
  cases ql eu
  simp only[xa]at h
  obtain⟨⟨h1,h2⟩,h3⟩:=h
  exact zO (Yw (zea T.calm) (qm S T h1 YX (by decide) (by decide)) (ih_a _ _ _ _ _ _ _ S T x h3).1 (zn h2)) rfl
 ·cases h
theorem jm{cf:CF}{W:Wd}(a:IE)(ih_a:QE cf W a):QE cf W (.tuple a):=by
 intro X XP k sc N mp m S T e h
 conv at h=>lhs;whnf
 split at h
 ·rename_i f p x q eu
  cases ql eu
  simp only[xa]at h
  obtain⟨⟨h1,h2⟩,h3⟩:=h
  exact zO (zaT (qm S T h1 JS (by decide) (by decide)) (ih_a _ _ _ _ _ _ _ S T x h3).1 (zn h2)) rfl
 ·cases h
theorem QW{cf:CF}{W:Wd}(TT:String)(a:IE)(ih_a:QE cf W a):QE cf W (.isi TT a):=by
 intro X XP k sc N mp m S T e h
 conv at h=>lhs;whnf
 split at h
 ·rename_i f p x y q eu
  cases vP eu
  simp only[xa,xE,beq_iff_eq]at h
  obtain⟨⟨⟨⟨h1,h2⟩,h3⟩,h4⟩,h5⟩:=h
  obtain⟨⟨y,p2⟩,ey,h4⟩:=za h4
  cases zo ey
  have B:=qm S T h1 YY (by decide) (by decide)
  have ha:=(ih_a _ XP _ _ _ _ _ S T x h5).1
  rcases h3 with (((rfl | rfl) | rfl) | rfl) | rfl
  ·exact zO (wK B (qm S T h4 Qw (by decide) (by decide)) ha (zn h2)) rfl
  ·exact zO (wK B (qm S T h4 yi (by decide) (by decide)) ha (zn h2)) rfl
  ·exact zO (wK B (qm S T h4 ZQ (by decide) (by decide)) ha (zn h2)) rfl
  ·exact zO (wK B (qm S T h4 JS (by decide) (by decide)) ha (zn h2)) rfl
  ·exact zO (wK B (qm S T h4 Wp (by decide) (by decide)) ha (zn h2)) rfl
 ·cases h
theorem Q0{cf:CF}{W:Wd}(a b:IE)(ih_a:QE cf W a)(ih_b:QE cf W b):QE cf W (.min a b):=by
 intro X XP k sc N mp m S T e h
 conv at h=>lhs;whnf
 split at h
 ·rename_i f p x y q eu
  cases vP eu
  simp only[xa]at h
  obtain⟨⟨⟨⟨h1,h2⟩,h3⟩,h4⟩,h5⟩:=h
  exact zO (zcP T.calm (qm S T h1 Y0 (by decide) (by decide)) (ih_a _ _ _ _ _ _ _ S T x h4).1 (ih_b _ _ _ _ _ _ _ S T y h5).1 (zn h2) (zn h3)) rfl
 ·cases h
theorem QZ{cf:CF}{W:Wd}(a b:IE)(ih_a:QE cf W a)(ih_b:QE cf W b):QE cf W (.max a b):=by
 intro X XP k sc N mp m S T e h
 conv at h=>lhs;whnf
 split at h
 ·rename_i f p x y q eu
  cases vP eu
  simp only[xa]at h
  obtain⟨⟨⟨⟨h1,h2⟩,h3⟩,h4⟩,h5⟩:=h
  exact zO (zcO T.calm (qm S T h1 YZ (by decide) (by decide)) (ih_a _ _ _ _ _ _ _ S T x h4).1 (ih_b _ _ _ _ _ _ _ S T y h5).1 (zn h2) (zn h3)) rfl
 ·cases h
theorem Ze{cf:CF}{W:Wd}(o:IO)(ih_o:QO cf W o):QE cf W (.call o):=by
 intro X XP k sc N mp m S T e h
 replace h:=xu.mp h
 try simp only[xa]at h
 exact zO (ih_o _ _ _ _ _ _ _ S T e h.2).se h.1
theorem Jm{cf:CF}{W:Wd}(a:IL)(ih_a:QL cf W a):QN cf W (.lst a):=by
 intro X XP k sc N mp m S T e g0
 obtain⟨⟨es,p⟩,eu,h⟩:=za g0
 clear g0
 cases k8 eu
 exact⟨zfo (ih_a _ _ _ _ _ _ _ S T es h),fun _=>ww (fun _ _ _ _ q=>nomatch q)⟩
theorem Jl{cf:CF}{W:Wd}(x:IE)(lo hi:IP)(ih_x:QE cf W x)(ih_lo:QP cf W lo)(ih_hi:QP cf W hi):QN cf W (.cut x lo hi):=by
 intro X XP k sc N mp m S T e g0
 obtain⟨⟨y,l,u,p,q⟩,eu,h⟩:=za g0
 clear g0
 cases WW eu
 simp only[xa]at h
 obtain⟨⟨h1,h2⟩,h3⟩:=h
 exact⟨zfn (ih_x _ _ _ _ _ _ _ S T y h1).1 (ih_lo _ _ _ _ _ _ _ S T l h2) (ih_hi _ _ _ _ _ _ _ S T u h3),fun _=>ww (fun _ _ _ _ q=>nomatch q)⟩
theorem Jk{cf:CF}{W:Wd}(a b:IE)(ih_a:QE cf W a)(ih_b:QE cf W b):QN cf W (.cat a b):=by
 intro X XP k sc N mp m S T e g0
 obtain⟨⟨x,op,y,p⟩,eu,h⟩:=za g0
 clear g0
 cases JN eu
 simp only[xa,decide_eq_true_eq]at h
 obtain⟨⟨h0,h1⟩,h2⟩:=h
 cases h0
 exact⟨zfm (ih_a _ _ _ _ _ _ _ S T x h1).1 (ih_b _ _ _ _ _ _ _ S T y h2).1,fun _=>ww (fun _ _ _ _ q=>nomatch q)⟩
theorem Zv{cf:CF}{W:Wd}(a:IE)(ih_a:QE cf W a):QN cf W (.list a):=by
 intro X XP k sc N mp m S T e h
 conv at h=>lhs;whnf
 split at h
 ·rename_i f p x q eu
  cases ql eu
  simp only[xa]at h
  obtain⟨⟨h1,h2⟩,h3⟩:=h
  exact⟨zcZ (qm S T h1 ZQ (by decide) (by decide)) (ih_a _ _ _ _ _ _ _ S T x h3).1 (zn h2),fun _=>ww (fun _ _ _ _ q=>nomatch q)⟩
 ·cases h
theorem Zu{cf:CF}{W:Wd}(n kk:Nat)(ix:List Nat)(N':List Str)(t:IT)(src:II)(c:IC)(el:IE)(ih_src:QI cf W src)(ih_c:QC cf W c)(ih_el:QE cf W el):QN cf W (.comp n kk ix N' t src c el):=by
 intro X XP k sc N mp m S T e h
 conv at h=>lhs;whnf
 split at h
 ·rename_i elt tg iter ifs scope p eu
  cases zbp eu
  simp only[xa,decide_eq_true_eq]at h
  obtain⟨⟨⟨⟨⟨⟨⟨⟨h1,h3⟩,h4⟩,h5⟩,h6⟩,h7⟩,h8⟩,h9⟩,h10⟩:=h
  subst h1
  have C0:CSc sc N scope N' kk ix:=CSc.of h3
  have C1:=KF S C0
  have hm:∀ j i:Nat,ix[j]?=some i->∃ m,mp[i]?=some m/\m<n:=fun j i e=>by
   have:=xz.mp h5 i (ub e)
   split at this
   ·rename_i q eq;exact⟨q,eq,by simpa using this⟩
   ·cases this
  have hi:=ih_src _ XP _ _ _ _ _ S T tg iter h7
  have hg:∀ σ cl C s2 H2 fp,Cat X σ C s2 H2 fp->SG (X.comp N' scope cl C s2 H2 fp) (mpC mp n kk ix) (·<n) tg t:=fun σ cl C s2 H2 fp cat=>Qs (XSc.comp C0 cl C s2 H2 fp) C0.nd h4 T.calm (fun i h=>by omega) t tg h8
  have hc:∀ σ cl C s2 H2 fp,Cat X σ C s2 H2 fp->SF (X.comp N' scope cl C s2 H2 fp) (XPc XP σ) (mpC mp n kk ix) ifs (c.ev cf):=fun σ cl C s2 H2 fp cat=>ih_c _ _ _ _ _ _ _ (XSc.comp C0 cl C s2 H2 fp) (T.comp cat) ifs h9
  have he:∀ σ cl C s2 H2 fp,Cat X σ C s2 H2 fp->SE (X.comp N' scope cl C s2 H2 fp) (XPc XP σ) (mpC mp n kk ix) elt (el.ev cf).1:=fun σ cl C s2 H2 fp cat=>(ih_el _ _ _ _ _ _ _ (XSc.comp C0 cl C s2 H2 fp) (T.comp cat) elt h10).1
  refine⟨zcY T.calm C1 hm hi hg hc he (jq h6),fun _ a b c' d q=>?_⟩
  cases q
  exact⟨tg,iter,ifs,N',kk,ix,rfl,C1,jq h6,VN C1 hm hi hg hc he⟩
 ·cases h
theorem Zr{cf:CF}{W:Wd}(a:IE)(ih_a:QE cf W a):QI cf W (.list a):=by
 intro X XP k sc N mp m S T tg e h
 exact zcU (ih_a _ _ _ _ _ _ _ S T e h).1
theorem Jd{cf:CF}{W:Wd}(a:IE)(ih_a:QE cf W a):QI cf W (.tup a):=by
 intro X XP k sc N mp m S T tg e h
 exact zfg (ih_a _ _ _ _ _ _ _ S T e h).1
theorem jo{cf:CF}{W:Wd}(a:IE)(ih_a:QE cf W a):QI cf W (.range a):=by
 intro X XP k sc N mp m S T tg e h
 conv at h=>lhs;whnf
 split at h
 ·rename_i f p x q eu
  cases ql eu
  simp only[xa]at h
  obtain⟨⟨h1,h2⟩,h3⟩:=h
  have ef:f= "range" :=by
   unfold biB at h1
   simp only[xa,decide_eq_true_eq]at h1
   exact h1.1.1
  exact zaZ (qm S T h1 v9 (by decide) (by decide)) ef (ih_a _ _ _ _ _ _ _ S T x h3).1 (zn h2)
 ·cases h
theorem Jn{cf:CF}{W:Wd}(a:IE)(ih_a:QE cf W a):QO cf W (.dat a):=by
 intro X XP k sc N mp m S T e h
 exact (ih_a _ _ _ _ _ _ _ S T e h).1.so
theorem Jo{cf:CF}{W:Wd}(n:IN)(ih_n:QN cf W n):QO cf W (.own n):=by
 intro X XP k sc N mp m S T e h
 exact (ih_n _ _ _ _ _ _ _ S T e h).1.so
theorem Zw{cf:CF}{W:Wd}(g:Str)(n:Nat)(a:IA)(ih_a:QA cf W a):QO cf W (.call g n a):=by
 intro X XP k sc N mp m S T e h
 conv at h=>lhs;whnf
 split at h
 ·rename_i f p xs q eu
  cases J8 eu
  simp only[xa,decide_eq_true_eq]at h
  obtain⟨⟨⟨⟨⟨h1,h2⟩,h3⟩,h4⟩,h5⟩,h6⟩:=h
  subst h1
  obtain⟨kn,hrun⟩:=T.fn _ _ h3
  cases xs with
  |nil=>
   cases a with
   |nil=>exact za2 T.px kn (Room.atk T) (S.glo _ h2) hrun (Za h4)
   |cons _ _=>cases h6
   |io _ _ _=>cases h6
   |tmp _=>cases h6
  |cons x xs=>
   rw[ue,xa]at h5
   exact zc0 T.px kn (Room.atk T) (S.glo _ h2) hrun (ih_a _ _ _ _ _ _ _ S T (x::xs) h6) (Za h4) (zn h5.1) (ZO (VQ h5.2))
 ·cases h
theorem Zx{cf:CF}{W:Wd}(s i:Nat):QO cf W (.move s i):=by
 intro X XP k sc N mp m S T e g0
 obtain⟨⟨x,p⟩,eu,h⟩:=za g0
 clear g0
 cases zo eu
 have n:=wv S h
 exact zc1 n.hN n.hv n.hm n.hd n.hcd
theorem Jh{cf:CF}{W:Wd}:QL cf W .nil:=by
 intro X XP k sc N mp m S T es h
 cases es with
 |nil=>exact zfk
 |cons _ _=>cases h
theorem Zs{cf:CF}{W:Wd}(e:IE)(a:IL)(ih_e:QE cf W e)(ih_a:QL cf W a):QL cf W (.cons e a):=by
 intro X XP k sc N mp m S T es h
 cases es with
 |nil=>cases h
 |cons x xs=>
  replace h:=xu.mp h
  try simp only[xa]at h
  obtain⟨⟨h1,h2⟩,h3⟩:=h
  exact zcX (ih_e _ _ _ _ _ _ _ S T x h2).1 (ih_a _ _ _ _ _ _ _ S T xs h3) (zn h1)
theorem Qx{cf:CF}{W:Wd}:QA cf W .nil:=by
 intro X XP k sc N mp m S T es h
 cases es with
 |nil=>exact zeZ
 |cons _ _=>cases h
theorem Zd{cf:CF}{W:Wd}(e:IE)(a:IA)(ih_e:QE cf W e)(ih_a:QA cf W a):QA cf W (.cons e a):=by
 intro X XP k sc N mp m S T es h
 cases es with
 |nil=>cases h
 |cons x xs=>
  replace h:=xu.mp h
  try simp only[xa]at h
  obtain⟨⟨h1,h2⟩,h3⟩:=h
  exact zcC (ih_e _ _ _ _ _ _ _ S T x h2).1 (ih_a _ _ _ _ _ _ _ S T xs h3) (zn h1)
theorem Wq{cf:CF}{W:Wd}(s i:Nat)(a:IA)(ih_a:QA cf W a):QA cf W (.io s i a):=by
 intro X XP k sc N mp m S T es h
 cases es with
 |nil=>cases h
 |cons e xs=>
  replace h:=xu.mp h
  try simp only[xa]at h
  obtain⟨⟨x,p⟩,eu,h1⟩:=za h.1
  cases zo eu
  have n:=wv S h1
  exact zgx n.hN n.hv n.hm n.hd n.hcd (ih_a _ _ _ _ _ _ _ S T xs h.2) rfl
theorem Qy{cf:CF}{W:Wd}(n:IN)(ih_n:QN cf W n):QA cf W (.tmp n):=by
 intro X XP k sc N mp m S T es h
 match es,h with
 |[],h=>nomatch h
 |[x],h=>
  replace h:=xu.mp h
  try simp only[xa]at h
  exact ze0 (ih_n _ _ _ _ _ _ _ S T x h.2).1 (zn h.1)
 |_::_::_,h=>nomatch h
theorem Jp{cf:CF}{W:Wd}:QP cf W .non:=by
 intro X XP k sc N mp m S T e h
 cases e with
 |none=>exact zc2
 |some _=>cases h
theorem Jq{cf:CF}{W:Wd}(a:IE)(ih_a:QE cf W a):QP cf W (.one a):=by
 intro X XP k sc N mp m S T e h
 cases e with
 |none=>cases h
 |some x=>exact zc4 (ih_a _ _ _ _ _ _ _ S T x h).1
theorem QD{cf:CF}{W:Wd}:QC cf W .yes:=by
 intro X XP k sc N mp m S T es h
 cases es with
 |nil=>exact zfc
 |cons _ _=>cases h
theorem Qz{cf:CF}{W:Wd}(a:IE)(ih_a:QE cf W a):QC cf W (.one a):=by
 intro X XP k sc N mp m S T es h
 match es,h with
 |[],h=>nomatch h
 |[x],h=>exact zfd (ih_a _ _ _ _ _ _ _ S T x h).2
 |_::_::_,h=>nomatch h
theorem Zo{cf:CF}{W:Wd}(a b:IE)(ih_a:QE cf W a)(ih_b:QE cf W b):QE cf W (.sadd a b):=by
 intro X XP k sc N mp m S T e g0
 obtain⟨⟨x,op,y,p⟩,eu,h⟩:=za g0
 clear g0
 cases JN eu
 simp only[xa,decide_eq_true_eq]at h
 obtain⟨⟨h1,h2⟩,h3⟩:=h
 subst h1
 exact zO (zaO zcD (ih_a _ _ _ _ _ _ _ S T x h2).1 (ih_b _ _ _ _ _ _ _ S T y h3).1) rfl
theorem Q6{cf:CF}{W:Wd}(a b:IE)(ih_a:QE cf W a)(ih_b:QE cf W b):QE cf W (.sin a b):=by
 intro X XP k sc N mp m S T e g0
 obtain⟨⟨x,ops,ys,p⟩,eu,g1⟩:=za g0
 clear g0
 cases JO eu
 obtain⟨op',eo,h⟩:=za g1
 clear g1
 cases zB eo
 obtain⟨y,ey,h⟩:=za h
 cases zB ey
 simp only[xa,decide_eq_true_eq]at h
 obtain⟨⟨⟨h1,h2⟩,h3⟩,h4⟩:=h
 subst h1
 have ha:=(ih_a _ XP _ _ _ _ _ S T x h3).1
 have hb:=(ih_b _ XP _ _ _ _ _ S T y h4).1
 exact⟨zaQ za0 ha hb (jW .In h2),za8 za0 ha hb (jW .In h2)⟩
theorem Zq{cf:CF}{W:Wd}(a:IE)(ih_a:QE cf W a):QE cf W (.slen a):=by
 intro X XP k sc N mp m S T e h
 conv at h=>lhs;whnf
 split at h
 ·rename_i f p x q eu
  cases ql eu
  simp only[xa]at h
  obtain⟨⟨h1,h2⟩,h3⟩:=h
  exact zO (Yw zb3 (qm S T h1 Wo (by decide) (by decide)) (ih_a _ _ _ _ _ _ _ S T x h3).1 (zn h2)) rfl
 ·cases h
theorem Q8{cf:CF}{W:Wd}(a:IE)(ih_a:QE cf W a):QE cf W (.str a):=by
 intro X XP k sc N mp m S T e h
 conv at h=>lhs;whnf
 split at h
 ·rename_i f p x q eu
  cases ql eu
  simp only[xa]at h
  obtain⟨⟨h1,h2⟩,h3⟩:=h
  exact zO (zaS zed (qm S T h1 Wp (by decide) (by decide)) (ih_a _ _ _ _ _ _ _ S T x h3).1 (zn h2)) rfl
 ·cases h
theorem Zm{cf:CF}{W:Wd}(z:Str)(a:IE)(ih_a:QE cf W a):QE cf W (.join z a):=by
 intro X XP k sc N mp m S T e g0
 obtain⟨⟨z',j,p1,nm,p2,x,q⟩,eu,h⟩:=za g0
 clear g0
 cases zbn eu
 simp only[xa,decide_eq_true_eq]at h
 obtain⟨⟨⟨⟨h1,h2⟩,h3⟩,h4⟩,h5⟩:=h
 subst h1
 exact zO (zcN h2 (ih_a _ _ _ _ _ _ _ S T x h5).1 (zn h3) h4) rfl
theorem Q7{cf:CF}{W:Wd}(a b:IE)(ih_a:QE cf W a)(ih_b:QE cf W b):QE cf W (.six a b):=by
 intro X XP k sc N mp m S T e g0
 obtain⟨⟨x,y,p⟩,eu,h⟩:=za g0
 clear g0
 cases qz eu
 simp only[xa]at h
 obtain⟨⟨h1,h2⟩,h3⟩:=h
 exact zO (ze7 (ih_a _ _ _ _ _ _ _ S T x h2).1 (ih_b _ _ _ _ _ _ _ S T y h3).1 (wF h1)) rfl
theorem Zj{cf:CF}{W:Wd}(a:IJ)(ih_a:QJ cf W a):QE cf W (.fstr a):=by
 intro X XP k sc N mp m S T e g0
 obtain⟨⟨vs,p⟩,eu,h⟩:=za g0
 clear g0
 cases zbo eu
 simp only[xa,decide_eq_true_eq]at h
 obtain⟨⟨h1,h2⟩,h3⟩:=h
 match vs,h1,h2,h3 with
 |v1::v2::r,h1,h2,h3=>exact zO (zcK (ih_a _ XP _ _ _ _ _ S T _ h3) h2) rfl
theorem Jf{cf:CF}{W:Wd}:QJ cf W .nil:=by
 intro X XP k sc N mp m S T e h
 cases e with
 |nil=>exact zfi
 |cons _ _=>exact Bool.noConfusion (show false=true from h)
theorem Je{cf:CF}{W:Wd}(z:Str)(r:IJ)(ih_r:QJ cf W r):QJ cf W (.con z r):=by
 intro X XP k sc N mp m S T e h
 cases e with
 |nil=>exact Bool.noConfusion (show false=true from h)
 |cons x xs=>
  replace h:=xu.mp h
  try simp only[xa,decide_eq_true_eq]at h
  obtain⟨⟨g0,h2⟩,h3⟩:=h
  obtain⟨⟨c,j,p⟩,eu,h⟩:=za g0
  clear g0
  cases zE eu
  obtain⟨y,ey,h⟩:=za h
  cases jQ ey
  cases of_decide_eq_true h
  exact zfh h2 (ih_r _ XP _ _ _ _ _ S T xs h3)
theorem Jg{cf:CF}{W:Wd}(a:IE)(r:IJ)(ih_a:QE cf W a)(ih_r:QJ cf W r):QJ cf W (.val a r):=by
 intro X XP k sc N mp m S T e h
 cases e with
 |nil=>exact Bool.noConfusion (show false=true from h)
 |cons x xs=>
  replace h:=xu.mp h
  try simp only[xa]at h
  obtain⟨g0,h3⟩:=h
  obtain⟨⟨v,p⟩,eu,h⟩:=za g0
  clear g0
  cases zbk eu
  exact zfj (ih_a _ XP _ _ _ _ _ S T v h).1 (ih_r _ XP _ _ _ _ _ S T xs h3)
theorem Zi{cf:CF}{W:Wd}(a b:IE)(ih_a:QE cf W a)(ih_b:QE cf W b):QE cf W (.ends a b):=by
 intro X XP k sc N mp m S T e g0
 obtain⟨⟨o,nm,p2,x,q⟩,eu,h⟩:=za g0
 clear g0
 cases V3 eu
 simp only[xa,decide_eq_true_eq]at h
 obtain⟨⟨⟨⟨⟨h1,h2⟩,h3⟩,h4⟩,h5⟩,h6⟩:=h
 exact zO (zcJ h2 (ih_a _ _ _ _ _ _ _ S T o h5).1 (ih_b _ _ _ _ _ _ _ S T x h6).1 (Z6 h1) (zn h3) h4) rfl
theorem Zp{cf:CF}{W:Wd}(a:IE)(ih_a:QE cf W a):QE cf W (.sint a):=by
 intro X XP k sc N mp m S T e h
 conv at h=>lhs;whnf
 split at h
 ·rename_i f p x q eu
  cases ql eu
  simp only[xa]at h
  obtain⟨⟨h1,h2⟩,h3⟩:=h
  exact zO (zaS zb2 (qm S T h1 Qw (by decide) (by decide)) (ih_a _ _ _ _ _ _ _ S T x h3).1 (zn h2)) rfl
 ·cases h
theorem Zh{cf:CF}{W:Wd}(a:IE)(lo hi:IP)(ih_a:QE cf W a)(ih_lo:QP cf W lo)(ih_hi:QP cf W hi):QE cf W (.cutS a lo hi):=by
 intro X XP k sc N mp m S T e h
 conv at h=>lhs;whnf
 split at h
 ·rename_i x l u p2 q eu
  cases WW eu
  simp only[xa]at h
  obtain⟨⟨h1,h2⟩,h3⟩:=h
  exact zO (zcI (ih_a _ _ _ _ _ _ _ S T x h1).1 (ih_lo _ _ _ _ _ _ _ S T l h2) (ih_hi _ _ _ _ _ _ _ S T u h3)) rfl
 ·cases h
theorem jp{cf:CF}{W:Wd}(a b:IE)(ih_a:QE cf W a)(ih_b:QE cf W b):QN cf W (.split a b):=by
 intro X XP k sc N mp m S T e g0
 obtain⟨⟨o,nm,p2,x,q⟩,eu,h⟩:=za g0
 clear g0
 cases V3 eu
 simp only[xa,decide_eq_true_eq]at h
 obtain⟨⟨⟨⟨⟨h1,h2⟩,h3⟩,h4⟩,h5⟩,h6⟩:=h
 exact⟨za1 h2 (ih_a _ _ _ _ _ _ _ S T o h5).1 (ih_b _ _ _ _ _ _ _ S T x h6).1 (Z6 h1) (zn h3) h4,fun _=>ww (fun _ _ _ _ q=>nomatch q)⟩
theorem jn{cf:CF}{W:Wd}(a:IE)(ih_a:QE cf W a):QI cf W (.chars a):=by
 intro X XP k sc N mp m S T tg e h
 exact zaY (ih_a _ _ _ _ _ _ _ S T e h).1
theorem Zz{cf:CF}{W:Wd}(a:IE)(o:IO)(ih_a:QE cf W a)(ih_o:QO cf W o):QO cf W (.pair a o):=by
 intro X XP k sc N mp m S T e g0
 obtain⟨⟨es,kk,p⟩,eu,g1⟩:=za g0
 clear g0
 cases JP eu
 obtain⟨⟨x,y⟩,ez,h⟩:=za g1
 clear g1
 cases jt ez
 simp only[xa]at h
 obtain⟨⟨⟨h1,h2⟩,h3⟩,h4⟩:=h
 exact zc3 (ih_a _ XP _ _ _ _ _ S T x h3).1 (ih_o _ XP _ _ _ _ _ S T y h4) (zn h1) (zn h2)
theorem zgG{X:Cx}{XP:XPT}{mp:List Nat}{e:Expr}:ST X XP mp e fNo:=fun M0 F Γ ν σ H Q rs hs hp=>hp.elim
theorem Zn{cf:CF}{W:Wd}(n:IM)(ih_n:QM cf W n):QE cf W (.newD n):=by
 intro X XP k sc N mp m S T e h
 exact⟨(ih_n _ _ _ _ _ _ _ S T e h).1.se,zgG⟩
theorem Ji{cf:CF}{W:Wd}:QM cf W .nil:=by
 intro X XP k sc N mp m S T e g0
 obtain⟨⟨ks,vs,p⟩,eu,h⟩:=za g0
 clear g0
 cases V2 eu
 simp only[xa,List.isEmpty_iff]at h
 obtain⟨rfl,rfl⟩:=h
 exact⟨ze1,fun _ _ _ _ _ _ q=>nomatch q⟩
theorem Jj{cf:CF}{W:Wd}(a b:IE)(ih_a:QE cf W a)(ih_b:QE cf W b):QM cf W (.one a b):=by
 intro X XP k sc N mp m S T e g0
 obtain⟨⟨ks,vs,p⟩,eu,g1⟩:=za g0
 clear g0
 cases V2 eu
 obtain⟨kx,ek,g2⟩:=za g1
 clear g1
 cases zB ek
 obtain⟨x,ex,g3⟩:=za g2
 clear g2
 cases ex
 obtain⟨y,ey,h⟩:=za g3
 clear g3
 cases zB ey
 rw[xa]at h
 exact⟨ze2 (ih_a _ XP _ _ _ _ _ S T x h.1).1 (ih_b _ XP _ _ _ _ _ S T y h.2).1,fun _ _ _ _ _ _ q=>nomatch q⟩
theorem Zt{cf:CF}{W:Wd}(n kk:Nat)(ix:List Nat)(N':List Str)(t:IT)(src:IG)(c:IC)(ek ev:IE)(ih_src:QG cf W src)(ih_c:QC cf W c)(ih_ek:QE cf W ek)(ih_ev:QE cf W ev):QM cf W (.comp n kk ix N' t src c ek ev):=by
 intro X XP k sc N mp m S T e h
 conv at h=>lhs;whnf
 split at h
 ·rename_i kx vx tg iter ifs scope p eu
  cases zbj eu
  simp only[xa,decide_eq_true_eq]at h
  obtain⟨⟨⟨⟨⟨⟨⟨⟨⟨h1,h3⟩,h4⟩,h5⟩,h6⟩,h7⟩,h8⟩,h9⟩,h10⟩,h11⟩:=h
  subst h1
  have C0:CSc sc N scope N' kk ix:=CSc.of h3
  have C1:=KF S C0
  have hm:∀ j i:Nat,ix[j]?=some i->∃ m,mp[i]?=some m/\m<n:=fun j i e=>by
   have:=xz.mp h5 i (ub e)
   split at this
   ·rename_i q eq;exact⟨q,eq,by simpa using this⟩
   ·cases this
  have hi:=ih_src _ XP _ _ _ _ _ S T tg iter h7
  have hg:∀ σ cl C s2 H2 fp,Cat X σ C s2 H2 fp->SG (X.comp N' scope cl C s2 H2 fp) (mpC mp n kk ix) (·<n) tg t:=fun σ cl C s2 H2 fp cat=>Qs (XSc.comp C0 cl C s2 H2 fp) C0.nd h4 T.calm (fun i h=>by omega) t tg h8
  have hc:∀ σ cl C s2 H2 fp,Cat X σ C s2 H2 fp->SF (X.comp N' scope cl C s2 H2 fp) (XPc XP σ) (mpC mp n kk ix) ifs (c.ev cf):=fun σ cl C s2 H2 fp cat=>ih_c _ _ _ _ _ _ _ (XSc.comp C0 cl C s2 H2 fp) (T.comp cat) ifs h9
  have hk:∀ σ cl C s2 H2 fp,Cat X σ C s2 H2 fp->SE (X.comp N' scope cl C s2 H2 fp) (XPc XP σ) (mpC mp n kk ix) kx (ek.ev cf).1:=fun σ cl C s2 H2 fp cat=>(ih_ek _ _ _ _ _ _ _ (XSc.comp C0 cl C s2 H2 fp) (T.comp cat) kx h10).1
  have hv:∀ σ cl C s2 H2 fp,Cat X σ C s2 H2 fp->SE (X.comp N' scope cl C s2 H2 fp) (XPc XP σ) (mpC mp n kk ix) vx (ev.ev cf).1:=fun σ cl C s2 H2 fp cat=>(ih_ev _ _ _ _ _ _ _ (XSc.comp C0 cl C s2 H2 fp) (T.comp cat) vx h11).1
  refine⟨zcG T.calm C1 hm hi.1 hg hc hk hv (jq h6),fun hp a b c' d e' q=>?_⟩
  cases q
  cases src with
  |std b=>exact⟨tg,iter,ifs,N',kk,ix,rfl,C1,jq h6,zaM C1 hm (hi.2 b rfl) hg hc hk hv⟩
 ·cases h
theorem Jc{cf:CF}{W:Wd}(b:II)(ih_b:QI cf W b):QG cf W (.std b):=by
 intro X XP k sc N mp m S T tg e h
 have h':=ih_b _ XP _ _ _ _ _ S T tg e h
 exact⟨zcW h',fun b' q=>by cases q;exact h'⟩
theorem Zy{cf:CF}{W:Wd}(n:IM)(ih_n:QM cf W n):QO cf W (.ownD n):=by
 intro X XP k sc N mp m S T e h
 exact (ih_n _ _ _ _ _ _ _ S T e h).1.so
theorem Qr(cf:CF)(W:Wd)(a:IE):QE cf W a:=IE.rec (motive_1:=QE cf W) (motive_2:=QL cf W) (motive_3:=QA cf W) (motive_4:=QN cf W) (motive_5:=QP cf W) (motive_6:=QI cf W) (motive_7:=QC cf W) (motive_8:=QO cf W) (motive_9:=QJ cf W) (motive_10:=QM cf W) (motive_11:=QG cf W) Ja QU Zf Zg jj jl Zk Zl Q9 Q4 QR QT jk Q5 Q3 QH Wt QX Ws QY QV QF QK jm QW Q0 QZ Ze Zo Q6 Zq Q8 Zm Q7 Zj Zi Zp Zh Zn Jh Zs Qx Zd Wq Qy Jm Jl Jk Zv Zu jp Jp Jq Zr Jd jo jn QD Qz Jn Jo Zw Zx Zz Zy Jf Je Jg Ji Jj Zt Jc a
theorem zgB(cf:CF)(W:Wd)(a:IA):QA cf W a:=IA.rec (motive_1:=QE cf W) (motive_2:=QL cf W) (motive_3:=QA cf W) (motive_4:=QN cf W) (motive_5:=QP cf W) (motive_6:=QI cf W) (motive_7:=QC cf W) (motive_8:=QO cf W) (motive_9:=QJ cf W) (motive_10:=QM cf W) (motive_11:=QG cf W) Ja QU Zf Zg jj jl Zk Zl Q9 Q4 QR QT jk Q5 Q3 QH Wt QX Ws QY QV QF QK jm QW Q0 QZ Ze Zo Q6 Zq Q8 Zm Q7 Zj Zi Zp Zh Zn Jh Zs Qx Zd Wq Qy Jm Jl Jk Zv Zu jp Jp Jq Zr Jd jo jn QD Qz Jn Jo Zw Zx Zz Zy Jf Je Jg Ji Jj Zt Jc a
theorem zgE(cf:CF)(W:Wd)(a:IN):QN cf W a:=IN.rec (motive_1:=QE cf W) (motive_2:=QL cf W) (motive_3:=QA cf W) (motive_4:=QN cf W) (motive_5:=QP cf W) (motive_6:=QI cf W) (motive_7:=QC cf W) (motive_8:=QO cf W) (motive_9:=QJ cf W) (motive_10:=QM cf W) (motive_11:=QG cf W) Ja QU Zf Zg jj jl Zk Zl Q9 Q4 QR QT jk Q5 Q3 QH Wt QX Ws QY QV QF QK jm QW Q0 QZ Ze Zo Q6 Zq Q8 Zm Q7 Zj Zi Zp Zh Zn Jh Zs Qx Zd Wq Qy Jm Jl Jk Zv Zu jp Jp Jq Zr Jd jo jn QD Qz Jn Jo Zw Zx Zz Zy Jf Je Jg Ji Jj Zt Jc a
theorem zgC(cf:CF)(W:Wd)(a:II):QI cf W a:=II.rec (motive_1:=QE cf W) (motive_2:=QL cf W) (motive_3:=QA cf W) (motive_4:=QN cf W) (motive_5:=QP cf W) (motive_6:=QI cf W) (motive_7:=QC cf W) (motive_8:=QO cf W) (motive_9:=QJ cf W) (motive_10:=QM cf W) (motive_11:=QG cf W) Ja QU Zf Zg jj jl Zk Zl Q9 Q4 QR QT jk Q5 Q3 QH Wt QX Ws QY QV QF QK jm QW Q0 QZ Ze Zo Q6 Zq Q8 Zm Q7 Zj Zi Zp Zh Zn Jh Zs Qx Zd Wq Qy Jm Jl Jk Zv Zu jp Jp Jq Zr Jd jo jn QD Qz Jn Jo Zw Zx Zz Zy Jf Je Jg Ji Jj Zt Jc a
theorem zdH(cf:CF)(W:Wd)(a:IO):QO cf W a:=IO.rec (motive_1:=QE cf W) (motive_2:=QL cf W) (motive_3:=QA cf W) (motive_4:=QN cf W) (motive_5:=QP cf W) (motive_6:=QI cf W) (motive_7:=QC cf W) (motive_8:=QO cf W) (motive_9:=QJ cf W) (motive_10:=QM cf W) (motive_11:=QG cf W) Ja QU Zf Zg jj jl Zk Zl Q9 Q4 QR QT jk Q5 Q3 QH Wt QX Ws QY QV QF QK jm QW Q0 QZ Ze Zo Q6 Zq Q8 Zm Q7 Zj Zi Zp Zh Zn Jh Zs Qx Zd Wq Qy Jm Jl Jk Zv Zu jp Jp Jq Zr Jd jo jn QD Qz Jn Jo Zw Zx Zz Zy Jf Je Jg Ji Jj Zt Jc a
theorem zgD(cf:CF)(W:Wd)(a:IM):QM cf W a:=IM.rec (motive_1:=QE cf W) (motive_2:=QL cf W) (motive_3:=QA cf W) (motive_4:=QN cf W) (motive_5:=QP cf W) (motive_6:=QI cf W) (motive_7:=QC cf W) (motive_8:=QO cf W) (motive_9:=QJ cf W) (motive_10:=QM cf W) (motive_11:=QG cf W) Ja QU Zf Zg jj jl Zk Zl Q9 Q4 QR QT jk Q5 Q3 QH Wt QX Ws QY QV QF QK jm QW Q0 QZ Ze Zo Q6 Zq Q8 Zm Q7 Zj Zi Zp Zh Zn Jh Zs Qx Zd Wq Qy Jm Jl Jk Zv Zu jp Jp Jq Zr Jd jo jn QD Qz Jn Jo Zw Zx Zz Zy Jf Je Jg Ji Jj Zt Jc a
end
end L3
set_option maxHeartbeats 4000000
namespace L3
open PySem PySem.Spec PyProof.Rows L2
mutual
/-- what may stand in a try -/
inductive IQ where
 |asg (s i:Nat) (o:IO)
 |expr (e:IE)
 |ite (c:IE) (a b:IQs)
inductive IQs where
 |nil
 |cons (q:IQ) (b:IQs)
end
mutual
inductive IS where
 |pass
 |bad
 |asg (s i:Nat) (o:IO)
 |asgT (t:IT) (e:IE)
 |ite (c:IE) (a b:IB)
 |loop (t:IT) (src:II) (b:IB)
 |ret (o:IO)
 |app (s i:Nat) (e:IE)
 |set (s i:Nat) (ie ve:IE)
 |raise (x:Str)
 |tryq (b:IQs) (hs:List (Str×Nat×Nat×HC))
 |star (s i t j:Nat) (e:IE)
inductive IB where
 |nil
 |cons (s:IS) (b:IB)
 |disp (s i:Nat) (x:Str) (kf:List (Str×Str)) (n:Nat) (e:IE) (a:IA)
 |junk (s i:Nat) (b:IB)
end
mutual
noncomputable def IQ.ex(cf:CF)(io:List Nat):IQ->SM
 |.asg _ i o=>sAsg io i (o.ev cf)
 |.expr e=>sExpr (e.ev cf).1
 |.ite c a b=>sIf (c.ev cf).2 (a.ex cf io) (b.ex cf io)
noncomputable def IQs.ex(cf:CF)(io:List Nat):IQs->SM
 |.nil=>sNext
 |.cons s .nil=>s.ex cf io
 |.cons s b=>sSeq (s.ex cf io) (b.ex cf io)
end
mutual
noncomputable def IS.ex(cf:CF)(io:List Nat):IS->SM
 |.pass=>sNext
 |.bad=>zgw
 |.asg _ i o=>sAsg io i (o.ev cf)
 |.asgT t e=>sAsgT t (e.ev cf).1
 |.ite c a b=>sIf (c.ev cf).2 (a.ex cf io) (b.ex cf io)
 |.loop t src b=>sFor t (src.ev cf) (b.ex cf io)
 |.ret o=>sRet (o.ev cf)
 |.app _ i e=>sApp i (e.ev cf).1
 |.set _ i ie ve=>sSet i (ie.ev cf).1 (ve.ev cf).1
 |.raise x=>zU x
 |.tryq b hs=>zaJ io (b.ex cf io) hs
 |.star _ i _ j e=>WR io i j (e.ev cf).1
noncomputable def IB.ex(cf:CF)(io:List Nat):IB->SM
 |.nil=>sNext
 |.cons s .nil=>s.ex cf io
 |.cons s b=>sSeq (s.ex cf io) (b.ex cf io)
 |.disp _ i _ kf _ e a=>zdD io kf cf i (e.ev cf).1 (a.ev cf)
 |.junk _ i b=>zaI i (b.ex cf io)
end
noncomputable def J3:IO->Option IN
 |.own n=>some n
 |.dat (.new n)=>some n
 |_=>none
noncomputable def Z5:IO->Option IM
 |.ownD n=>some n
 |.dat (.newD n)=>some n
 |_=>none
noncomputable def Kv(o:IO):Expr->Bool
 |.ListComp .. =>okO (J3 o) IN.plain
 |.SetComp .. =>false
 |.DictComp .. =>okO (Z5 o) IM.plain
 |_=>true
noncomputable def yX:Stmt->Option Pos
 |.Pass p=>some p
 |_=>none
noncomputable def Z0:Stmt->Option (Expr×Pos)
 |.Expr x p=>some (x,p)
 |_=>none
noncomputable def zdn:Stmt->Option (Expr×List Stmt×List Stmt×Pos)
 |.If x xs ys p=>some (x,xs,ys,p)
 |_=>none
noncomputable def zbu:Stmt->Option (Expr×Expr×List Stmt×List Stmt×Pos)
 |.For tg it b e p=>some (tg,it,b,e,p)
 |_=>none
noncomputable def YL:Stmt->Option (Option Expr×Pos)
 |.Return x p=>some (x,p)
 |_=>none
noncomputable def YK:Stmt->Option (List Expr×Expr×Pos)
 |.Assign ts e p=>some (ts,e,p)
 |_=>none
theorem yY{e:Stmt}{p:Pos}(h:yX e=some p):e=.Pass p:=by
 unfold yX at h
 split at h
 ·cases h;rfl
 ·cases h
theorem Z1{e:Stmt}{x:Expr}{p:Pos}(h:Z0 e=some (x,p)):e=.Expr x p:=by
 unfold Z0 at h
 split at h
 ·cases h;rfl
 ·cases h
theorem V6{e:Stmt}{x:Expr}{xs ys:List Stmt}{p:Pos}(h:zdn e=some (x,xs,ys,p)):e=.If x xs ys p:=by
 unfold zdn at h
 split at h
 ·cases h;rfl
 ·cases h
theorem Kc{e:Stmt}{x y:Expr}{xs ys:List Stmt}{p:Pos}(h:zbu e=some (x,y,xs,ys,p)):e=.For x y xs ys p:=by
 unfold zbu at h
 split at h
 ·cases h;rfl
 ·cases h
theorem WX{e:Stmt}{x:Option Expr}{p:Pos}(h:YL e=some (x,p)):e=.Return x p:=by
 unfold YL at h
 split at h
 ·cases h;rfl
 ·cases h
theorem Kb{e:Stmt}{ts:List Expr}{x:Expr}{p:Pos}(h:YK e=some (ts,x,p)):e=.Assign ts x p:=by
 unfold YK at h
 split at h
 ·cases h;rfl
 ·cases h
noncomputable def zbh(s:Stmt):Option (Str×Pos×Str×Pos×List Expr×Pos×Pos):=(Z0 s).bind fun (e,q2)=>(zdi e).map fun (x,p,f,p2,xs,q)=>(x,p,f,p2,xs,q,q2)
theorem kX{st:Stmt}{x f:Str}{p p2 q q2:Pos}{xs:List Expr}(h:zbh st=some (x,p,f,p2,xs,q,q2)):st=.Expr (.Call (.Attribute (.Name x p) f p2) xs [] q) q2:=by
 unfold zbh at h
 cases e1:Z0 st with
 |none=>rw[e1]at h;cases h
 |some z=>
  obtain⟨e,q3⟩:=z
  cases e2:zdi e with
  |none=>simp[e1,e2]at h
  |some z=>
   obtain⟨a1,a2,a3,a4,a5,a6⟩:=z
   simp[e1,e2]at h
   obtain⟨rfl,rfl,rfl,rfl,rfl,rfl,rfl⟩:=h
   rw[Z1 e1,zbr e2]
noncomputable def JW(s:Stmt):Option (Expr×Expr×Pos):=(YK s).bind fun (ts,e,q)=>(q8 ts).map fun t=>(t,e,q)
theorem qO{st:Stmt}{t e:Expr}{q:Pos}(h:JW st=some (t,e,q)):st=.Assign [t] e q:=by
 unfold JW at h
 cases e1:YK st with
 |none=>rw[e1]at h;cases h
 |some z=>
  obtain⟨ts,e',q'⟩:=z
  cases e2:q8 ts with
  |none=>simp[e1,e2]at h
  |some t'=>
   simp[e1,e2]at h
   obtain⟨rfl,rfl,rfl⟩:=h
   rw[Kb e1,zB e2]
noncomputable def YF(s:Stmt):Option (Str×Pos×Expr×Pos×Str×Pos×List Expr×Pos×Pos):=(Z0 s).bind fun (e,q2)=>(jJ e).bind fun (f,xs,ks,q)=>match ks with
 |[]=>(ZK f).bind fun (z,m,p2)=>(Zc z).bind fun (y,b,p3)=>(zx y).map fun (x,p)=>(x,p,b,p3,m,p2,xs,q,q2)
 |_::_=>none
theorem WV{st:Stmt}{x f:Str}{b:Expr}{p p2 p3 q q2:Pos}{xs:List Expr}(h:YF st=some (x,p,b,p3,f,p2,xs,q,q2)):st=.Expr (.Call (.Attribute (.Subscript (.Name x p) b p3) f p2) xs [] q) q2:=by
 unfold YF at h
 cases e1:Z0 st with
 |none=>rw[e1]at h;cases h
 |some z=>
  obtain⟨e,q3⟩:=z
  cases e2:jJ e with
  |none=>simp[e1,e2]at h
  |some z=>
   obtain⟨g,ys,ks,q'⟩:=z
   cases ks with
   |cons _ _=>simp[e1,e2]at h
   |nil=>
    cases e3:ZK g with
    |none=>simp[e1,e2,e3]at h
    |some z=>
     obtain⟨w,m,p4⟩:=z
     cases e4:Zc w with
     |none=>simp[e1,e2,e3,e4]at h
     |some z=>
      obtain⟨y,b',p5⟩:=z
      cases e5:zx y with
      |none=>simp[e1,e2,e3,e4,e5]at h
      |some z=>
       obtain⟨x',p6⟩:=z
       simp[e1,e2,e3,e4,e5]at h
       obtain⟨rfl,rfl,rfl,rfl,rfl,rfl,rfl,rfl,rfl⟩:=h
       rw[Z1 e1,ju e2,ZF e3,qz e4,zo e5]
noncomputable def vQ:Stmt->Option (Option Expr×Option Expr×Pos)
 |.Raise x y p=>some (x,y,p)
 |_=>none
noncomputable def zbv:Stmt->Option (List Stmt×List ExceptHandler×List Stmt×List Stmt×Pos)
 |.Try b h e f p=>some (b,h,e,f,p)
 |_=>none
theorem V7{e:Stmt}{x y:Option Expr}{p:Pos}(h:vQ e=some (x,y,p)):e=.Raise x y p:=by
 unfold vQ at h
 split at h
 ·cases h;rfl
 ·cases h
theorem Ke{e:Stmt}{b e1 f:List Stmt}{h1:List ExceptHandler}{p:Pos}(h:zbv e=some (b,h1,e1,f,p)):e=.Try b h1 e1 f p:=by
 unfold zbv at h
 split at h
 ·cases h;rfl
 ·cases h
noncomputable def kr(sc:Scope)(x:Str):Bool:=decide (sc.names.lookup x=some .local)||decide (sc.names.lookup x=some .cell)
noncomputable def zb8 (W:Wd) (sc:Scope) (x:Str):Bool:=w6 sc x&&W.ex.contains x&& !(x==("__debug__" :Str))
noncomputable def zfI:ExceptHandler->Option (Expr×Stmt×Pos)
 |.ExceptHandler (some e) none [st] p=>some (e,st,p)
 |_=>none
theorem zbl{hd:ExceptHandler}{e:Expr}{st:Stmt}{p:Pos}(h:zfI hd=some (e,st,p)):hd=.ExceptHandler (some e) none [st] p:=by
 unfold zfI at h
 split at h
 ·cases h;rfl
 ·cases h
noncomputable def hcB:HC->Const->Bool
 |.s z,c=>okO (Va c) fun y=>decide (z=y)
 |.b b,c=>okO (Yc c) fun y=>decide (b=y)
theorem zek{v:HC}{c:Const}(h:hcB v c=true):c=v.C:=by
 cases v with
 |s z=>
  obtain⟨y,e,h⟩:=za h
  rw[jQ e,of_decide_eq_true h];rfl
 |b z=>
  obtain⟨y,e,h⟩:=za h
  rw[Wr e,of_decide_eq_true h];rfl
noncomputable def Y7(W:Wd)(sc:Scope)(N:List Str)(mp:List Nat):List (Str×Nat×Nat×HC)->List ExceptHandler->Bool
 |[],[]=>true
 | (x,t,j,v)::r,hd::hs=>okO (zfI hd) (fun z=>okO (zx z.1) fun y=>decide (x=y.1)&&zb8 W sc x&&okO (JW z.2.1) fun s=>okO (zx s.1) fun q=>okO (qZ s.2.1) fun c=>hcB v c.1&&decide (N[t]?=some q.1)&&decide (mp[t]?=some j)&&kr sc q.1)&&Y7 W sc N mp r hs
 |_,_=>false
noncomputable def zbs:Expr->Option (Expr×Pos)
 |.Starred x p=>some (x,p)
 |_=>none
theorem Ka{e x:Expr}{p:Pos}(h:zbs e=some (x,p)):e=.Starred x p:=by
 unfold zbs at h
 split at h
 ·cases h;rfl
 ·cases h
noncomputable def vD:Expr->Bool
 |.ListComp .. =>false
 |.SetComp .. =>false
 |.DictComp .. =>false
 |_=>true
noncomputable def zK:Expr->Bool
 |.Tuple .. =>false
 |.ListComp .. =>false
 |.SetComp .. =>false
 |.DictComp .. =>false
 |_=>true
noncomputable def zbN(W:Wd)(sc:Scope)(N:List Str)(mp:List Nat)(m:Nat)(s i:Nat)(o:IO)(st:Stmt):Bool:=okO (JW st) fun z=>okO (zx z.1) fun x=>decide (N[s]?=some x.1)&&decide (mp[s]?=some i)&&(decide (sc.names.lookup x.1=some .local)||decide (sc.names.lookup x.1=some .cell))&&Kv o z.2.1&&o.chk W sc N mp m z.2.1
mutual
noncomputable def IQ.chk(W:Wd)(sc:Scope)(N:List Str)(mp:List Nat)(m:Nat):IQ->Stmt->Bool
 |.asg s i o,st=>zbN W sc N mp m s i o st
 |.expr e,st=>okO (Z0 st) fun z=>zK z.1&&e.chk W sc N mp m z.1
 |.ite c a b,st=>okO (zdn st) fun z=>c.chk W sc N mp m z.1&&a.chk W sc N mp m z.2.1&&b.chk W sc N mp m z.2.2.1
noncomputable def IQs.chk(W:Wd)(sc:Scope)(N:List Str)(mp:List Nat)(m:Nat):IQs->List Stmt->Bool
 |.nil,[]=>true
 |.cons s b,x::xs=>s.chk W sc N mp m x&&b.chk W sc N mp m xs
 |_,_=>false
end
mutual
noncomputable def IS.chk(W:Wd)(sc:Scope)(N:List Str)(mp:List Nat)(m np:Nat):IS->Stmt->Bool
 |.pass,st=>okO (yX st) fun _=>true
 |.bad,_=>true
 |.asg s i o,st=>zbN W sc N mp m s i o st
 |.asgT t e,st=>okO (JW st) fun z=>zga z.1&&zK z.2.1&&wW sc N mp np t z.1&&e.chk W sc N mp m z.2.1
 |.ite c a b,st=>okO (zdn st) fun z=>c.chk W sc N mp m z.1&&a.chk W sc N mp m np z.2.1&&b.chk W sc N mp m np z.2.2.1
 |.loop t src b,st=>okO (zbu st) fun z=>z.2.2.2.1.isEmpty&&qW z.2.1&&wW sc N mp np t z.1&&src.chk W sc N mp m z.2.1 z.1&&b.chk W sc N mp m np z.2.2.1
 |.ret o,st=>okO (YL st) fun z=>okO z.1 fun x=>o.chk W sc N mp m x
 |.app s i e,st=>okO (zbh st) fun (x,_,f,p2,xs,q,_)=>okO (q8 xs) fun a=>nmB sc N mp s i x&&decide (f= "append")&&zl a&&(p2.endLine==q.line)&&e.chk W sc N mp m a
 |.set s i ie ve,st=>okO (JW st) fun z=>okO (Zc z.1) fun y=>okO (zx y.1) fun x=>nmB sc N mp s i x.1&&qf y.2.1&&vD z.2.1&&ie.chk W sc N mp m y.2.1&&ve.chk W sc N mp m z.2.1
 |.raise x,st=>okO (vQ st) fun z=>z.2.1.isNone&&okO z.1 fun e=>okO (un1 e) fun (f,_,a,_)=>decide (f=x)&&zb8 W sc x&&okO (qZ a) fun c=>okO (Va c.1) fun _=>true
 |.tryq b hs,st=>okO (zbv st) fun (body,hds,els,fin,_)=>els.isEmpty&&fin.isEmpty&& !hds.isEmpty&&Y7 W sc N mp hs hds&&b.chk W sc N mp m body
 |.star s i t j e,st=>okO (JW st) fun z=>okO (V4 z.1) fun w=>okO (VZ w.1) fun ab=>okO (zx ab.1) fun x=>okO (zbs ab.2) fun c=>okO (zx c.1) fun y=>decide (N[s]?=some x.1)&&decide (mp[s]?=some i)&&kr sc x.1&&decide (N[t]?=some y.1)&&decide (mp[t]?=some j)&&kr sc y.1&&zK z.2.1&&e.chk W sc N mp m z.2.1
noncomputable def IB.chk(W:Wd)(sc:Scope)(N:List Str)(mp:List Nat)(m np:Nat):IB->List Stmt->Bool
 |.nil,[]=>true
 |.cons s b,x::xs=>s.chk W sc N mp m np x&&b.chk W sc N mp m np xs
 |.disp s i x kf n e a,xs=>okO (VZ xs) fun z=>okO (JW z.1) fun (t,v,_)=>okO (zx t) fun r=>okO (Zc v) fun (d,w,_)=>okO (zx d) fun y=>okO (YL z.2) fun (o,_)=>okO o fun c=>okO (unN c) fun (g,_,as,_)=>
  decide (N[s]?=some r.1)&&decide (mp[s]?=some i)&&kr sc r.1&& !(r.1==("__debug__" :Str))&& !(r.1==("__classdict__" :Str))&&decide (x=y.1)&&w6 sc x&&W.gd.contains (x,kf)&& !(x==("__debug__" :Str))&&qf w&&decide (g=r.1)&&kf.all (fun p=>W.fl.contains (p.2,n))&& !as.isEmpty&&as.all zl&&e.chk W sc N mp m w&&a.chk W sc N mp m as
 |.junk s i b,st1::st2::xs=>okO (YF st1) fun (x,_,k,_,f,p2,as,q,_)=>okO (q8 as) fun a=>okO (Zc a) fun y=>okO (zx y.1) fun x2=>okO (YF st2) fun (x3,_,k3,_,f3,p3,as3,q3,_)=>okO (q8 as3) fun a3=>okO (qZ k) fun c1=>okO (qZ y.2.1) fun c2=>okO (qZ k3) fun c3=>okO (qZ a3) fun c4=>
  nmB sc N mp s i x&&decide (x2.1=x)&&decide (x3=x)&&decide (f= "append")&&decide (f3= "append")&&(p2.endLine==q.line)&&(p3.endLine==q3.line)&&decide (c1.1=.int 0)&&decide (c2.1=.int 1)&&decide (c3.1=.int 1)&&decide (c4.1=.bool true)&&b.chk W sc N mp m np xs
 |_,_=>false
end
theorem wP{e:Expr}{t:Option Expr}{l:Nat}{env:Env}(h:zK e=true):swapsWith e t l env=pure false:=by
 cases e<;>first | rfl | (simp[zK]at h)
theorem ZZ{t e:Expr}{l:Nat}{env:Env}(h:zK e=true):swapsWithSole [t] e l env=pure false:=wP (t:=some t) h
theorem j9{t e:Expr}{env:Env}(h:zK e=true):swappedStores [t] e env=pure none:=by
 have hm:(match (generalizing:=false) [t],e with
  |[.Tuple ts _ _],.Tuple vs _ _=>some (ts,vs)
  |[.List ts _],.Tuple vs _ _=>some (ts,vs)
  |_,_=>none)=(none:Option (List Expr×List Expr)):=by
  split
  ·simp[zK]at h
  ·simp[zK]at h
  ·rfl
 unfold swappedStores
 split
 ·rename_i q
  exact absurd (q.symm.trans hm) (fun z=>nomatch z)
 ·rfl
theorem WS{x y e:Expr}{p:Pos}{l:Nat}{env:Env}(h:vD e=true):swapsWithSole [.Subscript x y p] e l env=pure false:=by
 show swapsWith e (some (.Subscript x y p)) l env=pure false
 cases e<;>first | rfl | (simp[vD]at h)
theorem wL{x y e:Expr}{p:Pos}{env:Env}:swappedStores [.Subscript x y p] e env=pure none:=by
 cases e<;>rfl
theorem kS{o:IO}{e:Expr}{x:Str}{p:Pos}{l:Nat}{env:Env}(h:Kv o e=true)(hn:∀ a b c d,e≠ .ListComp a b c d)(hn2:∀ a b c d q,e≠ .DictComp a b c d q):swapsWith e (some (.Name x p)) l env=pure false:=by
 cases e with
 |ListComp a b c d=>exact absurd rfl (hn a b c d)
 |SetComp=>simp[Kv]at h
 |DictComp a b c d q=>exact absurd rfl (hn2 a b c d q)
 |_=>rfl
theorem yP{elt:Expr}{gens:List Comprehension}{scope:Scope}{q:Pos}{x:Str}{p:Pos}{l:Nat}{env:Env}:∃ b:Bool,swapsWith (.ListComp elt gens scope q) (some (.Name x p)) l env=pure b:=⟨_,rfl⟩
theorem VT{ek ev:Expr}{gens:List Comprehension}{scope:Scope}{q:Pos}{x:Str}{p:Pos}{l:Nat}{env:Env}:∃ b:Bool,swapsWith (.DictComp ek ev gens scope q) (some (.Name x p)) l env=pure b:=⟨_,rfl⟩
theorem yh{o b:Expr}{p:Pos}{env:Env}(h:qf b=true)(v:Value):assign (.Subscript o b p) env v=(do
  let ov<-holding [v] (eval o env)
  let iv<-holding [v,ov] (eval b env)
  standAt p
  holding [v,ov,iv] (setItem ov iv v)
  release [v,ov,iv] []):=by
 cases b<;>first | rfl | (simp[qf]at h)
variable [Cs]
structure XB(X:Cx)(XP:XPT)(mp io:List Nat)(np:Nat):Prop where
 po:PassesOwn (model X.prog X.w) X.A X.env X.xe
 nd:X.N.Nodup
 mn:mp.Nodup
 io:∀ i∈io,i<np
 rz:zfU X XP
 sk:X.stack=X.env::X.outer
 fr:X.env.frame=some X.env.locals
noncomputable abbrev QS(cf:CF)(W:Wd)(a:IS):Prop:=∀ (X:Cx) (XP:XPT) (k:Nat) (sc:Scope) (N:List Str) (mp:List Nat) (m np:Nat) (io:List Nat),XSc X sc N->XW X XP cf W k->XB X XP mp io np->∀ (e:Stmt),a.chk W sc N mp m np e=true->SS X XP mp io e (a.ex cf io)
noncomputable abbrev QB(cf:CF)(W:Wd)(a:IB):Prop:=∀ (X:Cx) (XP:XPT) (k:Nat) (sc:Scope) (N:List Str) (mp:List Nat) (m np:Nat) (io:List Nat),XSc X sc N->XW X XP cf W k->XB X XP mp io np->∀ (e:List Stmt),a.chk W sc N mp m np e=true->SB X XP mp io e (a.ex cf io)
section
variable {cf:CF} {W:Wd}
theorem zbX:QS cf W .pass:=by
 intro X XP k sc N mp m np io S T B e g0
 obtain⟨p,eu,_⟩:=za g0
 clear g0
 cases yY eu
 exact zc6
theorem zd3:QS cf W .bad:=fun X XP k sc N mp m np io S T B e h=>zfr
theorem v6{o:IO}{n:IN}(h:J3 o=some n):o=.own n∨o=.dat (.new n):=by
 unfold J3 at h
 split at h<;>first | (cases h;exact .inl rfl) | (cases h;exact .inr rfl) | cases h
theorem vb{o:IO}{n:IM}(h:Z5 o=some n):o=.ownD n∨o=.dat (.newD n):=by
 unfold Z5 at h
 split at h<;>first | (cases h;exact .inl rfl) | (cases h;exact .inr rfl) | cases h
theorem Kw{X:Cx}{XP:XPT}{k:Nat}{sc:Scope}{N:List Str}{mp io:List Nat}{m:Nat}(s i:Nat)(o:IO)(S:XSc X sc N)(T:XW X XP cf W k)(nd:X.N.Nodup)(mn:mp.Nodup)(st:Stmt)(g0:zbN W sc N mp m s i o st=true):SS X XP mp io st (sAsg io i (o.ev cf)):=by
 unfold zbN at g0
 obtain⟨⟨tx,e,q⟩,eu,g1⟩:=za g0
 clear g0
 cases qO eu
 obtain⟨⟨x,p⟩,ex,h⟩:=za g1
 clear g1
 cases zo ex
 simp only[xa,xE,decide_eq_true_eq]at h
 obtain⟨⟨⟨⟨h1,h2⟩,h3⟩,h4⟩,h5⟩:=h
 have hi:X.N[s]?=some x:=by rw[S.hN];exact h1
 have hx:Loc X.env.scope x:=by
  rcases h3 with h3 | h3
  ·exact .inl (S.loc x h3)
  ·exact .inr (S.cel x h3).1
 have hf:X.fn x=true∨X.env.scope.names.lookup x=some .local:=by
  rcases h3 with h3 | h3
  ·exact .inr (S.loc x h3)
  ·exact .inl (S.cel x h3).2
 have plain:swapsWith e (some (.Name x p)) q.line X.env=pure false->SS X XP mp io (.Assign [.Name x p] e q) (sAsg io i (o.ev cf)):=fun hsw=>
  zfq nd hi hx hf mn h2 (zdH cf W o _ XP _ _ _ _ _ S T e h5) hsw
 by_cases hl:∃ a b c d,e=.ListComp a b c d
 ·obtain⟨elt,gens,scope,pc,rfl⟩:=hl
  obtain⟨bb,hb⟩:=yP (elt:=elt) (gens:=gens) (scope:=scope) (q:=pc) (x:=x) (p:=p) (l:=q.line) (env:=X.env)
  cases bb with
  |false=>exact plain hb
  |true=>
   obtain⟨n,en,hp⟩:=za (show okO (J3 o) IN.plain=true from h4)
   have go:n.chk W sc N mp m (.ListComp elt gens scope pc)=true->∀ (fo:EM OV),(∀ t,SNt XP mp t (n.ev cf)->SOt XP mp t fo)->SS X XP mp io (.Assign [.Name x p] (.ListComp elt gens scope pc) q) (sAsg io i fo):=fun hn fo hfo=>by
    obtain⟨tg,iter,ifs,N',kk,ix,rfl,C,hfold,hs⟩:=(zgE cf W n _ XP _ _ _ _ _ S T _ hn).2 hp elt gens scope pc rfl
    exact vM (zcv nd hi hx T.calm C hb hfold hf) mn h2 (xb.mp hi).1 (hfo _ hs)
   rcases v6 en with rfl | rfl
   ·exact go h5 _ fun t ht=>ht.so
   ·exact go (xu.mp (show IE.chk W sc N mp m (.new n) _=true from h5)).2 _ fun t ht=>ht.sd
 ·by_cases hl2:∃ a b c d q,e=.DictComp a b c d q
  ·obtain⟨kx,vx,gens,scope,pc,rfl⟩:=hl2
   obtain⟨bb,hb⟩:=VT (ek:=kx) (ev:=vx) (gens:=gens) (scope:=scope) (q:=pc) (x:=x) (p:=p) (l:=q.line) (env:=X.env)
   cases bb with
   |false=>exact plain hb
   |true=>
    obtain⟨n,en,hp⟩:=za (show okO (Z5 o) IM.plain=true from h4)
    have go:n.chk W sc N mp m (.DictComp kx vx gens scope pc)=true->∀ (fo:EM OV),(∀ t,SDt XP mp t (n.ev cf)->SOt XP mp t fo)->SS X XP mp io (.Assign [.Name x p] (.DictComp kx vx gens scope pc) q) (sAsg io i fo):=fun hn fo hfo=>by
     obtain⟨tg,iter,ifs,N',kk,ix,rfl,C,hfold,hs⟩:=(zgD cf W n _ XP _ _ _ _ _ S T _ hn).2 hp kx vx gens scope pc rfl
     exact vM (zaB nd hi hx T.calm C hb hfold hf) mn h2 (xb.mp hi).1 (hfo _ hs)
    rcases vb en with rfl | rfl
    ·exact go h5 _ fun t ht=>ht.so
    ·exact go h5 _ fun t ht=>ht.sd
  ·exact plain (kS h4 (fun a b c d z=>hl ⟨a,b,c,d,z⟩) fun a b c d q z=>hl2 ⟨a,b,c,d,q,z⟩)
theorem zd2(s i:Nat)(o:IO):QS cf W (.asg s i o):=by
 intro X XP k sc N mp m np io S T B st g0
 exact Kw s i o S T B.nd B.mn st g0
theorem zbV(t:IT)(e:IE):QS cf W (.asgT t e):=by
 intro X XP k sc N mp m np io S T B st g0
 obtain⟨⟨tx,x,q⟩,eu,h⟩:=za g0
 clear g0
 cases qO eu
 simp only[xa]at h
 obtain⟨⟨⟨h0,h1⟩,h2⟩,h3⟩:=h
 cases tx with
 |Tuple ts n p=>
  have hg:=Qs (kp:=(·∈io)) S (by rw[<- S.hN];exact B.nd) B.mn T.calm (fun i hi hm=>absurd (B.io i hm) (by omega)) t _ h2
  exact za5 (Qr cf W e _ XP _ _ _ _ _ S T x h3).1 hg (ZZ h1) (j9 h1) (yG zd vE (ZZ h1) (j9 h1))
 |_=>cases h0
theorem zd5(c:IE)(a b:IB)(ih_a:QB cf W a)(ih_b:QB cf W b):QS cf W (.ite c a b):=by
 intro X XP k sc N mp m np io S T B e g0
 obtain⟨⟨x,xs,ys,p⟩,eu,h⟩:=za g0
 clear g0
 cases V6 eu
 simp only[xa]at h
 obtain⟨⟨h1,h2⟩,h3⟩:=h
 exact zdI (Qr cf W c _ XP _ _ _ _ _ S T x h1).2 (ih_a _ XP _ _ _ _ _ _ _ S T B xs h2) (ih_b _ XP _ _ _ _ _ _ _ S T B ys h3)
theorem zbW(t:IT)(src:II)(b:IB)(ih_b:QB cf W b):QS cf W (.loop t src b):=by
 intro X XP k sc N mp m np io S T B e g0
 obtain⟨⟨tg,iter,body,els,p⟩,eu,h⟩:=za g0
 clear g0
 cases Kc eu
 simp only[xa]at h
 obtain⟨⟨⟨⟨h0,h1⟩,h2⟩,h3⟩,h4⟩:=h
 cases els with
 |cons _ _=>cases h0
 |nil=>
  have hg:=Qs (kp:=(·∈io)) S (by rw[<- S.hN];exact B.nd) B.mn T.calm (fun i hi hm=>absurd (B.io i hm) (by omega)) t _ h2
  exact zfs B.po T.calm (zgC cf W src _ XP _ _ _ _ _ S T tg iter h3) hg (ih_b _ XP _ _ _ _ _ _ _ S T B body h4) (jq h1)
theorem zd6(o:IO):QS cf W (.ret o):=by
 intro X XP k sc N mp m np io S T B e g0
 obtain⟨⟨x,p⟩,eu,g1⟩:=za g0
 clear g0
 cases WX eu
 obtain⟨y,ey,h⟩:=za g1
 clear g1
 cases ey
 exact zft (zdH cf W o _ XP _ _ _ _ _ S T y h)
theorem zd1(s i:Nat)(e:IE):QS cf W (.app s i e):=by
 intro X XP k sc N mp m np io S T B st g0
 obtain⟨⟨x,p,f,p2,xs,q,q2⟩,eu,g1⟩:=za g0
 clear g0
 cases kX eu
 obtain⟨a,ea,h⟩:=za g1
 clear g1
 cases zB ea
 simp only[xa,decide_eq_true_eq]at h
 obtain⟨⟨⟨⟨h1,h2⟩,h3⟩,h4⟩,h5⟩:=h
 subst h2
 exact zfp (wv S h1) (Qr cf W e _ XP _ _ _ _ _ S T a h5).1 (zn h3) h4
theorem zd7(s i:Nat)(ie ve:IE):QS cf W (.set s i ie ve):=by
 intro X XP k sc N mp m np io S T B st g0
 obtain⟨⟨tx,a,q⟩,eu,g1⟩:=za g0
 clear g0
 cases qO eu
 obtain⟨⟨tn,b,p2⟩,et,g2⟩:=za g1
 clear g1
 cases qz et
 obtain⟨⟨x,p⟩,ex,h⟩:=za g2
 clear g2
 cases zo ex
 simp only[xa]at h
 obtain⟨⟨⟨⟨h1,h2⟩,h3⟩,h4⟩,h5⟩:=h
 exact zfu (wv S h1) (Qr cf W ie _ XP _ _ _ _ _ S T b h4).1 (Qr cf W ve _ XP _ _ _ _ _ S T a h5).1 (WS h3) wL (fun he hg=>yG he hg (WS h3) wL) (fun ho hi hs=>zeO ho hi hs (yh h2))
theorem vC{X:Cx}{sc:Scope}{N:List Str}{x:Str}(S:XSc X sc N)(h:kr sc x=true):Loc X.env.scope x/\(X.fn x=true∨X.env.scope.names.lookup x=some .local):=by
 unfold kr at h
 simp only[xE,decide_eq_true_eq]at h
 rcases h with h | h
 ·exact⟨.inl (S.loc x h),.inr (S.loc x h)⟩
 ·exact⟨.inr (S.cel x h).1,.inl (S.cel x h).2⟩
theorem KM{X:Cx}{XP:XPT}{sc:Scope}{N:List Str}{x:Str}{k:Nat}(S:XSc X sc N)(T:XW X XP cf W k)(h:zb8 W sc x=true):∃ C,YQ X x C/\W.ex.contains x=true:=by
 unfold zb8 at h
 simp only[xa]at h
 obtain⟨⟨h1,h2⟩,h3⟩:=h
 obtain⟨C,e1,e2⟩:=T.ex x h2
 exact⟨C,⟨S.glo x h1,e1,e2,Za h3⟩,h2⟩
theorem KB(x:Str):QS cf W (.raise x):=by
 intro X XP k sc N mp m np io S T B st g0
 obtain⟨⟨ee,cz,p⟩,eu,g1⟩:=za g0
 clear g0
 cases V7 eu
 simp only[xa]at g1
 obtain⟨g1,g2⟩:=g1
 obtain⟨e,ee1,g3⟩:=za g2
 clear g2
 cases ee1
 obtain⟨⟨f,p1,a,p2⟩,ea,g4⟩:=za g3
 clear g3
 cases ql ea
 simp only[xa,decide_eq_true_eq]at g4
 obtain⟨⟨h1,h2⟩,g5⟩:=g4
 obtain⟨⟨c,j,p3⟩,ec,g6⟩:=za g5
 clear g5
 cases zE ec
 obtain⟨z,ez,_⟩:=za g6
 clear g6
 cases jQ ez
 subst h1
 cases cz with
 |some _=>cases g1
 |none=>
  obtain⟨C,k,_⟩:=KM S T h2
  exact za6 k T.calm B.rz
theorem zdA{X:Cx}{XP:XPT}{sc:Scope}{N:List Str}{mp:List Nat}{k:Nat}(S:XSc X sc N)(T:XW X XP cf W k):∀ (ns:List (Str×Nat×Nat×HC)) (hs:List ExceptHandler),Y7 W sc N mp ns hs=true->∃ zs,HdNs X (fun x C=>W.ex.contains x=true/\X.mg x=some (.ref C)) mp hs ns zs
 |[],[],_=>⟨[],.nil⟩
 |[],_::_,h=>by simp[Y7]at h
 |_::_,[],h=>by simp[Y7]at h
 | (x,t,j,v)::ns,hd::hs,h=>by
  simp only[Y7,xa]at h
  obtain⟨h0,h1⟩:=h
  obtain⟨zs,hz⟩:=zdA S T ns hs h1
  obtain⟨⟨e,st,p⟩,eh,g1⟩:=za h0
  clear h0
  cases zbl eh
  obtain⟨⟨y,py⟩,ey,g2⟩:=za g1
  clear g1
  cases zo ey
  simp only[xa,decide_eq_true_eq]at g2
  obtain⟨⟨q1,q2⟩,g3⟩:=g2
  obtain⟨⟨tg,va,pa⟩,es,g4⟩:=za g3
  clear g3
  cases qO es
  obtain⟨⟨q,pq⟩,eq,g5⟩:=za g4
  clear g4
  cases zo eq
  obtain⟨⟨c,cj,pc⟩,ec,g7⟩:=za g5
  clear g5
  cases zE ec
  simp only[xa,decide_eq_true_eq]at g7
  obtain⟨⟨⟨r1,r2⟩,r3⟩,r4⟩:=g7
  cases zek r1
  subst q1
  obtain⟨C,kx,hxe⟩:=KM S T q2
  obtain⟨l1,l2⟩:=vC S r4
  exact⟨_,.cons ⟨⟨x,py,q,pq,cj,pc,pa,p,rfl,kx,by rw[S.hN];exact r2,l1,l2⟩,kx,⟨hxe,kx.mg⟩,r3⟩ hz⟩
theorem XW.tried{X:Cx}{XP XP':XPT}{k:Nat}(T:XW X XP cf W k)(pins:List (Addr×Obj))(E:Value->Shared->Prop)(px:PxOk (X.tried pins E) XP'):XW (X.tried pins E) XP' cf W k:=⟨T.bi,T.gi,T.gs,T.fn,T.rm,T.hk,T.calm,T.ex,T.mr,T.gd,fun c f h=>⟨(T.fk c f h).cl,(T.fk c f h).no⟩,T.mc,T.ml,px,T.sk⟩
theorem XSc.tried{X:Cx}{sc:Scope}{N:List Str}(S:XSc X sc N)(pins:List (Addr×Obj))(E:Value->Shared->Prop):XSc (X.tried pins E) sc N:=⟨S.hN,S.vis,S.loc,S.cel,S.fre,S.glo⟩
theorem zaL{X:Cx}{XP:XPT}{mp io:List Nat}{st:Stmt}{f:SM}(h:SS X XP mp io st f):SB X XP mp io [st] f:=fun M0 F Γ ν σ H D rs hs hl hp=>(Qo Yu).wp (h M0 F Γ ν σ H D rs hs hl hp)
noncomputable abbrev QQ(cf:CF)(W:Wd)(a:IQ):Prop:=∀ (X:Cx) (XP:XPT) (k:Nat) (sc:Scope) (N:List Str) (mp:List Nat) (m:Nat) (io:List Nat),XSc X sc N->XW X XP cf W k->X.N.Nodup->mp.Nodup->∀ (e:Stmt),a.chk W sc N mp m e=true->SS X XP mp io e (a.ex cf io)
noncomputable abbrev QQs(cf:CF)(W:Wd)(a:IQs):Prop:=∀ (X:Cx) (XP:XPT) (k:Nat) (sc:Scope) (N:List Str) (mp:List Nat) (m:Nat) (io:List Nat),XSc X sc N->XW X XP cf W k->X.N.Nodup->mp.Nodup->∀ (e:List Stmt),a.chk W sc N mp m e=true->SB X XP mp io e (a.ex cf io)
theorem zdZ(s i:Nat)(o:IO):QQ cf W (.asg s i o):=fun X XP k sc N mp m io S T nd mn st g0=>Kw s i o S T nd mn st g0
theorem zbT(a:IE):QQ cf W (.expr a):=by
 intro X XP k sc N mp m io S T nd mn e g0
 obtain⟨⟨x,p⟩,eu,h⟩:=za g0
 clear g0
 cases Z1 eu
 rw[xa]at h
 exact zc5 (Qr cf W a _ XP _ _ _ _ _ S T x h.2).1 (wP h.1)
theorem zd0(c:IE)(a b:IQs)(ih_a:QQs cf W a)(ih_b:QQs cf W b):QQ cf W (.ite c a b):=by
 intro X XP k sc N mp m io S T nd mn e g0
 obtain⟨⟨x,xs,ys,p⟩,eu,h⟩:=za g0
 clear g0
 cases V6 eu
 simp only[xa]at h
 obtain⟨⟨h1,h2⟩,h3⟩:=h
 exact zdI (Qr cf W c _ XP _ _ _ _ _ S T x h1).2 (ih_a _ XP _ _ _ _ _ _ S T nd mn xs h2) (ih_b _ XP _ _ _ _ _ _ S T nd mn ys h3)
theorem zbU:QQs cf W .nil:=by
 intro X XP k sc N mp m io S T nd mn e h
 cases e with
 |nil=>exact zaK
 |cons _ _=>exact Bool.noConfusion (show false=true from h)
theorem KA(s:IQ)(b:IQs)(ih_s:QQ cf W s)(ih_b:QQs cf W b):QQs cf W (.cons s b):=by
 intro X XP k sc N mp m io S T nd mn e h
 cases e with
 |nil=>exact Bool.noConfusion (show false=true from h)
 |cons x xs=>
  replace h:=xu.mp h
  try simp only[xa]at h
  have h1:=ih_s _ XP _ _ _ _ _ io S T nd mn x h.1
  cases b with
  |nil=>
   cases xs with
   |nil=>exact zaL h1
   |cons _ _=>exact Bool.noConfusion (show false=true from h.2)
  |cons s2 b2=>exact J7 h1 (ih_b _ XP _ _ _ _ _ io S T nd mn xs h.2)
theorem zgF(a:IQs):QQs cf W a:=IQs.rec (motive_1:=QQ cf W) (motive_2:=QQs cf W) zdZ zbT zd0 zbU KA a
theorem zbZ(b:IQs)(hs:List (Str×Nat×Nat×HC)):QS cf W (.tryq b hs):=by
 intro X XP k sc N mp m np io S T B st g0
 obtain⟨⟨body,hds,els,fn,p⟩,eu,g1⟩:=za g0
 clear g0
 cases Ke eu
 simp only[xa]at g1
 obtain⟨⟨⟨⟨h1,h2⟩,h3⟩,h4⟩,h5⟩:=g1
 cases els with
 |cons _ _=>cases h1
 |nil=>
 cases fn with
 |cons _ _=>cases h2
 |nil=>
 cases hds with
 |nil=>cases h3
 |cons hd hds=>
  obtain⟨zs,hz⟩:=zdA S T hs (hd::hds) h4
  exact zfv B.mn hz (fun x C y C2 hx hy=>T.mr x C y C2 hx.1 hx.2 hy.1 hy.2) (fun x C hx=>by
   obtain⟨C',e1,e2⟩:=T.ex x hx.1
   have:=hx.2
   rw[e1]at this
   cases this
   exact⟨e1,e2⟩) (fun pins D=>zgF b _ _ _ _ _ _ _ _ (S.tried pins _) (T.tried pins _ (zeW B.sk B.fr B.nd hz.ks pins D)) B.nd B.mn body h5)
theorem zbY(s i t j:Nat)(e:IE):QS cf W (.star s i t j e):=by
 intro X XP k sc N mp m np io S T B st g0
 obtain⟨⟨tg,v,p⟩,eu,g1⟩:=za g0
 clear g0
 cases qO eu
 obtain⟨⟨es,kk,p2⟩,et,g2⟩:=za g1
 clear g1
 cases JP et
 obtain⟨⟨a,b⟩,eab,g3⟩:=za g2
 clear g2
 cases jt eab
 obtain⟨⟨x,px⟩,ex,g4⟩:=za g3
 clear g3
 cases zo ex
 obtain⟨⟨c,pc⟩,ec,g5⟩:=za g4
 clear g4
 cases Ka ec
 obtain⟨⟨y,py⟩,ey,h⟩:=za g5
 clear g5
 cases zo ey
 simp only[xa,decide_eq_true_eq]at h
 obtain⟨⟨⟨⟨⟨⟨⟨h1,h2⟩,h3⟩,h4⟩,h5⟩,h6⟩,h7⟩,h8⟩:=h
 obtain⟨l1,l2⟩:=vC S h3
 obtain⟨l3,l4⟩:=vC S h6
 exact zc7 T.calm B.nd B.mn (by rw[S.hN];exact h1) l1 l2 h2 (by rw[S.hN];exact h4) l3 l4 h5 (Qr cf W e _ XP _ _ _ _ _ S T v h8).1 (ZZ h7) (j9 h7)
theorem zdX:QB cf W .nil:=by
 intro X XP k sc N mp m np io S T B e h
 cases e with
 |nil=>exact zaK
 |cons _ _=>exact Bool.noConfusion (show false=true from h)
theorem zbQ(s:IS)(b:IB)(ih_s:QS cf W s)(ih_b:QB cf W b):QB cf W (.cons s b):=by
 intro X XP k sc N mp m np io S T B e h
 cases e with
 |nil=>exact Bool.noConfusion (show false=true from h)
 |cons x xs=>
  replace h:=xu.mp h
  try simp only[xa]at h
  have h1:=ih_s _ XP _ _ _ _ _ _ _ S T B x h.1
  have h2:=ih_b _ XP _ _ _ _ _ _ _ S T B xs h.2
  cases b with
  |nil=>
   cases xs with
   |nil=>exact zaL h1
   |cons _ _=>exact Bool.noConfusion (show false=true from h.2)
  |cons s' b'=>exact J7 h1 h2
  |disp _ _ _ _ _ _ _=>exact J7 h1 h2
  |junk _ _ _=>exact J7 h1 h2
theorem zQ{kf:List (Str×Str)}{k f:Str}(h:kf.lookup k=some f):(k,f)∈kf:=by
 induction kf with
 |nil=>cases h
 |cons p r ih=>
  obtain⟨a,b⟩:=p
  rw[xr]at h
  cases q:(k==a) with
  |true=>
   rw[q]at h
   cases h
   have:=eq_of_beq q
   subst this
   exact xp
  |false=>rw[q]at h;exact xj _ (ih h)
theorem zbR(s i:Nat)(x:Str)(kf:List (Str×Str))(n:Nat)(e:IE)(a:IA):QB cf W (.disp s i x kf n e a):=by
 intro X XP k sc N mp m np io S T B xs g0
 obtain⟨⟨st1,st2⟩,e1,g1⟩:=za g0
 clear g0
 cases jt e1
 obtain⟨⟨t,v,q2⟩,e2,g2⟩:=za g1
 clear g1
 cases qO e2
 obtain⟨⟨r,pr⟩,e3,g3⟩:=za g2
 clear g2
 cases zo e3
 obtain⟨⟨d,w,q1⟩,e4,g4⟩:=za g3
 clear g3
 cases qz e4
 obtain⟨⟨y,py⟩,e5,g5⟩:=za g4
 clear g4
 cases zo e5
 obtain⟨⟨o,q4⟩,e6,g6⟩:=za g5
 clear g5
 cases WX e6
 obtain⟨c,e7,g7⟩:=za g6
 clear g6
 cases e7
 obtain⟨⟨g,pg,as,q3⟩,e8,h⟩:=za g7
 clear g7
 cases J8 e8
 simp only[xa,decide_eq_true_eq]at h
 obtain⟨⟨⟨⟨⟨⟨⟨⟨⟨⟨⟨⟨⟨⟨⟨h1,h2⟩,h3⟩,h4⟩,h5⟩,h6⟩,h7⟩,h8⟩,h9⟩,h10⟩,h11⟩,h12⟩,h13⟩,h14⟩,h15⟩,h16⟩:=h
 subst h6 h11
 cases as with
 |nil=>cases h13
 |cons a1 as=>
  rw[ue,xa]at h14
  obtain⟨l1,l2⟩:=vC S h3
  have hv:Vis X.env.scope g:=by
   rcases l1 with z | z
   ·exact .inl z
   ·exact .inr (.inl z)
  have hN:X.N[s]?=some g:=by rw[S.hN];exact h1
  refine zcE (T.gd x kf h8) (S.glo _ h7) (Za h9) T.px (fun key f hf=>T.fn f n (xz.mp h12 _ (zQ hf))) T.rm (Qr cf W e _ XP _ _ _ _ _ S T w h15).1
   (zc8 (T.gd x kf h8) (S.glo _ h7) (Za h9) ?_ B.nd hN l1 rfl l2) hN hv (Za h4) (Za h5) B.mn h2 (zgB cf W a _ XP _ _ _ _ _ S T (a1::as) h16) (zn h14.1) (ZO (VQ h14.2))
  intro ov iv
  cases w<;>first | rfl | (simp[qf]at h10)
theorem zbS(s i:Nat)(b:IB)(ih_b:QB cf W b):QB cf W (.junk s i b):=by
 intro X XP k sc N mp m np io S T B e h
 match e,h with
 |[],h=>exact Bool.noConfusion (show false=true from h)
 |[_],h=>exact Bool.noConfusion (show false=true from h)
 |st1::st2::xs,g0=>
  obtain⟨⟨x,p1,k0,p2,f,a1,as,q1,q2⟩,e1,g1⟩:=za g0
  clear g0
  cases WV e1
  obtain⟨a,e2,g2⟩:=za g1
  clear g1
  cases zB e2
  obtain⟨⟨y1,y2,p3⟩,e3,g3⟩:=za g2
  clear g2
  cases qz e3
  obtain⟨⟨x2,p4⟩,e4,g4⟩:=za g3
  clear g3
  cases zo e4
  obtain⟨⟨x3,p5,k3,p6,f3,a2,as3,q3,q4⟩,e5,g5⟩:=za g4
  clear g4
  cases WV e5
  obtain⟨a3,e6,g6⟩:=za g5
  clear g5
  cases zB e6
  obtain⟨⟨c1,j1,r1⟩,e7,g7⟩:=za g6
  clear g6
  cases zE e7
  obtain⟨⟨c2,j2,r2⟩,e8,g8⟩:=za g7
  clear g7
  cases zE e8
  obtain⟨⟨c3,j3,r3⟩,e9,g9⟩:=za g8
  clear g8
  cases zE e9
  obtain⟨⟨c4,j4,r4⟩,e10,h⟩:=za g9
  clear g9
  cases zE e10
  simp only[xa,decide_eq_true_eq]at h
  obtain⟨⟨⟨⟨⟨⟨⟨⟨⟨⟨⟨h1,h2⟩,h3⟩,h4⟩,h5⟩,h6⟩,h7⟩,h8⟩,h9⟩,h10⟩,h11⟩,h12⟩:=h
  subst h2 h3 h4 h5 h8 h9 h10 h11
  exact zcF (wv S h1) (ih_b _ XP _ _ _ _ _ _ _ S T B xs h12) h6 h7
theorem zdG(cf:CF)(W:Wd)(a:IB):QB cf W a :=
 IB.rec (motive_1:=QS cf W) (motive_2:=QB cf W) zbX zd3 zd2 zbV zd5 zbW zd6 zd1 zd7 KB zbZ zbY zdX zbQ zbR zbS a
end
end L3
set_option maxHeartbeats 4000000
namespace L3
open PySem PySem.Spec PyProof.Rows L2
variable [Cs]
inductive Kd where
 |fn
 |me (c m:Str)
 |ini (c:Str)
 deriving DecidableEq
structure DefI where
 name:Str
 st:Stmt
 ps:List Str
 N:List Str
 mask:List Bool
 io:List Nat
 body:IB
 kd:Kd:=.fn
noncomputable def outs:List Bool->Gv->List (Option OV)
 |[],_=> []
 |_::bs,[]=>none::outs bs []
 |b::bs,x::Γ=>(if b then x else none)::outs bs Γ
theorem wA:∀ (bs:List Bool) (Γ:Gv),(outs bs Γ).length=bs.length
 |[],_=>rfl
 |_::bs,[]=>by rw[outs,xo,wA,xo]
 |b::bs,x::Γ=>by rw[outs,xo,wA,xo]
theorem wz:∀ {bs:List Bool}{Γ:Gv}{j:Nat}{o:OV},(outs bs Γ)[j]?=some (some o)->bs[j]?=some true/\Γ[j]?=some (some o)
 |[],_,_,_,h=>by simp[outs]at h
 |b::bs,[],0,_,h=>by simp[outs]at h
 |b::bs,[],j+1,o,h=>by
  have:=wz (bs:=bs) (Γ:= []) (j:=j) (o:=o) (by simpa [outs] using h)
  simp at this
 |b::bs,x::Γ,0,o,h=>by
  simp only[outs,List.getElem?_cons_zero,Option.some.injEq]at h
  split at h
  ·rename_i hb;subst h;exact⟨by simp[hb],rfl⟩
  ·cases h
 |b::bs,x::Γ,j+1,o,h=>by
  have:=wz (bs:=bs) (Γ:=Γ) (j:=j) (o:=o) (by simpa [outs] using h)
  simpa using this
noncomputable def fin(mask:List Bool):R (FL×Gv)->RF
 |.ok (.ret o,Γ)=>.ok o (outs mask Γ)
 |.ok (.next,Γ)=>.ok (.d .none) (outs mask Γ)
 |.exc x Γ=>.exc x (outs mask Γ)
 |_=>.bad
noncomputable def DefI.run(d:DefI)(cf:CF)(args:List OV):RF:=if args.length=d.mask.length then fin d.mask (d.body.ex cf d.io (args.map some++List.replicate (d.N.length-d.mask.length) none)) else .bad
theorem DefI.run_lenX{d:DefI}{cf:CF}{args:List OV}(h:d.run cf args≠ .bad):args.length=d.mask.length:=by
 unfold DefI.run at h
 split at h
 ·assumption
 ·exact absurd rfl h
noncomputable def zj(defs:List DefI):Nat->CF
 |0,_,_=>.bad
 |n+1,x,args=>match defs.find? fun d=>decide (d.name=x) with
  |some d=>d.run (zj defs n) args
  |none=>.bad
section
variable {M0:Addr->Prop} {F:Fp} {Γ:Gv} {ν:Nu} {H:Hp}
theorem RS.outs{o:OV}{v:V}{mask:List Bool}{us:List V}(r:RS M0 F (Γ++ [some o]) (ν++ [some v]) H)(hu:us.length=mask.length)(hν:∀ j:Nat,mask[j]?=some true->ν[j]?=(us[j]?).map some) :
  ∃ F',RS M0 F' (outs mask Γ++ [some o]) (us.map some++ [some v]) H/\Stp F H F' H:=by
 have hνl:ν.length=Γ.length:=by have:=r.len;simpa using this
 have hjl:∀ j:Nat,mask[j]?=some true->j<Γ.length:=fun j hj=>by
  have h1:j<us.length:=by rw[hu];exact (xb.mp hj).1
  have h2:=hν j hj
  rw[xC h1]at h2
  have:=(xb.mp h2).1
  omega
 let n:=mask.length
 let F':Fp:=fun j=>if j<n then (if mask[j]?=some true then F j else []) else if j=n then F Γ.length else []
 have g1:∀ j,j<n->mask[j]?=some true->F' j=F j:=fun j h1 h2=>by show (if j<n then _ else _)=_;rw[if_pos h1,if_pos h2]
 have g2:∀ j,j<n->mask[j]?≠some true->F' j= []:=fun j h1 h2=>by show (if j<n then _ else _)=_;rw[if_pos h1,if_neg h2]
 have g3:F' n=F Γ.length:=by show (if n<n then _ else _)=_;rw[if_neg (xO _),if_pos rfl]
 have g4:∀ j,n<j->F' j= []:=fun j h=>by show (if j<n then _ else _)=_;rw[if_neg (by omega),if_neg (by omega)]
 have cls:∀ j a,a∈F' j->(j<n/\mask[j]?=some true/\a∈F j)∨(j=n/\a∈F Γ.length):=fun j a h=>by
  by_cases h1:j<n
  ·by_cases h2:mask[j]?=some true
   ·rw[g1 j h1 h2]at h;exact .inl ⟨h1,h2,h⟩
   ·rw[g2 j h1 h2]at h;cases h
  ·by_cases h2:j=n
   ·subst h2;rw[g3]at h;exact .inr ⟨rfl,h⟩
   ·rw[g4 j (by omega)]at h;cases h
 have st:Stp F H F' H:=ZE fun j a h=>by
  rcases cls j a h with ⟨_,_,h⟩ | ⟨_,h⟩
  ·exact⟨_,h⟩
  ·exact⟨_,h⟩
 have hol:(L3.outs mask Γ).length=n:=wA _ _
 refine⟨F',⟨r.al0,fun j a h=>?_,fun j=>?_,fun j k a h1 h2=>?_,fun j p e=>?_,fun j h=>?_,by simp[hol,hu,n]⟩,st⟩
 ·rcases cls j a h with ⟨_,_,h⟩ | ⟨_,h⟩
  ·exact r.dis0 _ a h
  ·exact r.dis0 _ a h
 ·by_cases h1:j<n
  ·by_cases h2:mask[j]?=some true
   ·rw[g1 j h1 h2];exact r.nd _
   ·rw[g2 j h1 h2];exact .nil
  ·by_cases h2:j=n
   ·subst h2;rw[g3];exact r.nd _
   ·rw[g4 j (by omega)];exact .nil
 ·rcases cls j a h1 with ⟨l1,m1,z1⟩ | ⟨rfl,z1⟩
  ·rcases cls k a h2 with ⟨l2,m2,z2⟩ | ⟨rfl,z2⟩
   ·exact r.dis _ _ a z1 z2
   ·have:=r.dis _ _ a z1 z2;have:=hjl _ m1;omega
  ·rcases cls k a h2 with ⟨l2,m2,z2⟩ | ⟨rfl,z2⟩
   ·have:=r.dis _ _ a z1 z2;have:=hjl _ m2;omega
   ·rfl
 ·by_cases hj:j<n
  ·rw[xc (by omega)]at e
   obtain⟨hm,hg⟩:=wz e
   have hjj:=hjl j hm
   obtain⟨w,ew,q⟩:=r.at' j p (by rw[xc (by omega)];exact hg)
   rw[xc (by omega),hν j hm]at ew
   refine⟨w,?_,?_⟩
   ·rw[xc (by simp[hu];exact hj),xB];exact ew
   ·rw[g1 j hj hm];exact q.go (fun _ _ x=>zq st r.al0 x) st.tups fun _ _=>rfl
  ·have hjn:j=n:=by
    have:=(xb.mp e).1
    simp[hol]at this;omega
   subst hjn
   rw[xf (by omega),hol]at e
   have:o=p:=by simpa using e
   subst this
   obtain⟨w,ew,q⟩:=r.at' Γ.length o (by rw[xf (xi _)];simp)
   rw[xf (by omega),hνl]at ew
   have:v=w:=by simpa using ew
   subst this
   refine⟨v,?_,?_⟩
   ·rw[xf (by simp[hu,n]),xn,hu];simp[n]
   ·rw[g3];exact q.go (fun _ _ x=>zq st r.al0 x) st.tups fun _ _=>rfl
 ·by_cases hj:j<n
  ·by_cases hm:mask[j]?=some true
   ·rw[g1 j hj hm]
    have hjj:=hjl j hm
    refine r.emp j fun p ep=>?_
    rw[xc (by omega)]at ep
    refine h p ?_
    rw[xc (by omega)]
    exact outs_put hm ep
   ·exact g2 j hj hm
  ·by_cases hjn:j=n
   ·subst hjn
    exact absurd (by rw[xf (by omega),hol];simp[n]) (h o)
   ·exact g4 j (by omega)
where
 outs_put:∀ {bs:List Bool} {Γ:Gv} {j:Nat} {o:OV},bs[j]?=some true->Γ[j]?=some (some o)->(L3.outs bs Γ)[j]?=some (some o)
  |[],_,_,_,h,_=>by simp at h
  |b::bs,[],_,_,_,h=>by simp at h
  |b::bs,x::Γ,0,o,h,e=>by
   simp at h e
   subst h e
   simp[L3.outs]
  |b::bs,x::Γ,j+1,o,h,e=>by
   have:=outs_put (bs:=bs) (Γ:=Γ) (j:=j) (o:=o) (by simpa using h) (by simpa using e)
   simpa [L3.outs] using this
end
noncomputable def wI(N ps:List Str)(sc:Scope):Bool:=decide (sc.kind=.function)&& !sc.isCoroutine&& !sc.isGenerator&&decide N.Nodup&&decide (N.take ps.length=ps)&&ps.all (fun x=>decide (sc.names.lookup x=some .local)||decide (sc.names.lookup x=some .cell))&&sc.names.all (fun y=>decide (y.2≠ .free))
theorem wJ{N ps:List Str}{sc:Scope}(h:wI N ps sc=true):ja N ps sc:=by
 unfold wI at h
 simp only[xa,decide_eq_true_eq,xz,xE,Bool.not_eq_true']at h
 obtain⟨⟨⟨⟨⟨⟨h1,h2⟩,h3⟩,h4⟩,h5⟩,h6⟩,h7⟩:=h
 exact⟨h1,h2,h3,h4,h5,h6,h7⟩
noncomputable def DefI.ok(W:Wd)(d:DefI):Bool:=wI d.N d.ps (defScope d.st)&&decide (d.ps.length=d.mask.length)&&d.io.all (fun i=>decide (d.mask[i]?=some true))&&(List.range d.mask.length).all (fun j=>decide (d.mask[j]?≠some true)||d.io.contains j)
 && d.body.chk W (defScope d.st) d.N (List.range d.N.length) d.N.length d.mask.length (defBody d.st)
structure WK(P:Program)(w:World)(K:PySem.W.Frag)(mg:Str->Option Value)(base:Heap)(cf:CF)(W:Wd)(k:Nat):Prop where
 bi:∀ x,W.bi.contains x=true->mg x=none
 gi:∀ x i,W.gi.contains (x,i)=true->∃ t,mg x=some (.int i t)
 gs:∀ x i,W.gs.contains (x,i)=true->∃ t,mg x=some (.str i t)
 fn:∀ x n,W.fl.contains (x,n)=true->Kn P w K mg base (CX1 P w) x k (spX mg n (cf x))/\∀ args,cf x args≠ .bad->args.length=n
 ex:∀ x,W.ex.contains x=true->∃ C,mg x=some (.ref C)/\PySem.W.excIn K C bmV "ValueError.__new__" =true
 mr:∀ x C y C2,W.ex.contains x=true->mg x=some (.ref C)->W.ex.contains y=true->mg y=some (.ref C2)->(mroIn K C).contains (.ref C2)=decide (x=y)
 gd:∀ x kf,W.gd.contains (x,kf)=true->GD w K mg x kf
 fk:∀ c f,W.fk.contains (c,f)=true->Cls K (Cs.adr c)/\ZL K (Cs.adr c) f
 mc:∀ c q n,W.mc.contains (c,q,n)=true->mg c=some (.ref (Cs.adr c))/\(∃ j,j+1<=k/\KnI P w K mg base (CX1 P w) (Cs.adr c) j (spX mg n (cf q)))/\∀ args,cf q args≠ .bad->args.length=n
 ml:∀ c m q n,W.ml.contains (c,m,q,n)=true->KnM P w K mg base (CX1 P w) (Cs.adr c) m k (spX mg n (cf q))/\∀ args,cf q args≠ .bad->args.length=n
noncomputable def Lk(K:PySem.W.Frag)(mg:Str->Option Value)(f:Addr)(nm:Str):Kd->Prop
 |.fn=>mg nm=some (.ref f)
 |.me c m=>Cls K (Cs.adr c)/\zdP K (Cs.adr c) m f
 |.ini c=>Mk K (Cs.adr c) f/\mg c=some (.ref (Cs.adr c))
structure Dx(K:PySem.W.Frag)(mg:Str->Option Value)(d:DefI):Prop where
 ex:∃ (x:Str) (f:Addr) (fd:FuncData),Fun K x d.name d.st f fd/\Binds K fd d.ps []/\Lk K mg f d.name d.kd
section
variable {P:Program} {w:World} {K:PySem.W.Frag} {mg:Str->Option Value} {base:Heap} {cf:CF} {W:Wd} {k:Nat}
theorem zfQ{N:List Str}{x:Str}{sc:Scope}{f:Addr}{cdv:Value}{A:Around}{outer:List Env}{s:Shared}{H:Hp}{E:XK}:XSc (ZS CX0 P w K mg base N x sc f cdv A outer s H E).nox sc N where
 hN:=rfl
 vis x h:=by
  unfold zbz at h
  simp only[xE,decide_eq_true_eq]at h
  rcases h with (h | h) | h
  ·exact .inl h
  ·exact .inr (.inl h)
  ·exact .inr (.inr h)
 loc x h:=h
 cel x h:=⟨h,rfl⟩
 fre x h:=.inr h
 glo x h:=by
  unfold w6 at h
  simp only[decide_eq_true_eq]at h
  exact h
theorem zdp{N:List Str}{x:Str}{sc:Scope}{f:Addr}{cdv:Value}{A:Around}{outer:List Env}{s:Shared}{H:Hp}{E:XK}:XSc (ZS (CX1 P w) P w K mg base N x sc f cdv A outer s H E) sc N where
 hN:=rfl
 vis x h:=by
  unfold zbz at h
  simp only[xE,decide_eq_true_eq]at h
  rcases h with (h | h) | h
  ·exact .inl h
  ·exact .inr (.inl h)
  ·exact .inr (.inr h)
 loc x h:=h
 cel x h:=⟨h,rfl⟩
 fre x h:=.inr h
 glo x h:=by
  unfold w6 at h
  simp only[decide_eq_true_eq]at h
  exact h
theorem zcR{n:Nat}{ν:Nu}:Sees (List.range n) ν ν:=fun s i v e1 e2=>by
 have hs:s<n:=by
  have:=(xb.mp e1).1
  simpa using this
 rw[uo hs]at e1
 cases e1
 exact e2
theorem zeV{N:List Str}{x:Str}{sc:Scope}{f:Addr}{cdv:Value}{A:Around}{outer:List Env}{s:Shared}{H:Hp}{E:XK} :
  PxOk (ZS (CX1 P w) P w K mg base N x sc f cdv A outer s H E) (fun x _ _ _ _ H'=>∀ C,mg x.cls=some (.ref C)->E (.ref C) none H'):=fun σ pins H1 e s' x Γ F ν C h1 h2 u=>Vc u rfl rfl rfl (h2 C h1)
theorem Yk{x qual:Str}{st:Stmt}{f:Addr}{fd:FuncData}{N ps:List Str}{sp:Sp}(F:Fun K x qual st f fd)(S:ja N ps (defScope st))(len:∀ vs H Q E,sp vs H Q E->vs.length=ps.length)
  (hbody:∀ (cdv:Value) (A:Around) (outer:List Env) (s:Shared) (H:Hp) (vs:List V) (Q:VK) (E:XK),Room k (A.deeper (envOfC qual (defScope st) s.heap.objs.size f cdv))->sp vs H Q E ->
   wpB (ZS (CX1 P w) P w K mg base N qual (defScope st) f cdv A outer s H E) (defBody st) { nx:=fun _ H'=>Q .non H',rt:=Q } (start N vs) H):FnOk P w K mg base (CX1 P w) (k+1) f fd ps sp:=by
 obtain⟨oc,od,kV,doc,pm,an,cdv,ct,osl,rfl,lk,hcd⟩:=F.ex
 exact zdy lk hcd S len fun A outer s H vs Q E hr hsp=>⟨_,qi,hbody cdv A outer s H vs Q E hr hsp⟩
theorem zf4{d:DefI}{x:Str}{f:Addr}{fd:FuncData}(D:Fun K x d.name d.st f fd)(hok:d.ok W=true)(T:WK P w K mg base cf W k)(hk:1<=k):FnOk P w K mg base (CX1 P w) (k+1) f fd d.ps (spX mg d.mask.length (d.run cf)):=by
 unfold DefI.ok at hok
 simp only[xa,decide_eq_true_eq,xz,xE]at hok
 obtain⟨⟨⟨⟨h1,h2⟩,h3⟩,h4⟩,h5⟩:=hok
 have S:=wJ h1
 have hNl:d.mask.length<=d.N.length:=by
  have:=congrArg List.length S.pre
  rw[xI]at this;omega
 refine Yk D S (fun vs H Q E h=>by rw[h.1,h2]) fun cdv A outer s H vs Q E hr hsp=>?_
 obtain⟨hv,M0,F,args,rs,hm⟩:=hsp
 have hal:args.length=d.mask.length:=by have:=rs.len;simpa [hv] using this.symm
 have rs1:=rs.ext (d.N.length-d.mask.length)
 have hst:L2.start d.N vs=vs.map some++List.replicate (d.N.length-d.mask.length) none:=by unfold L2.start;rw[hv]
 rw[hst]
 have hsl:(vs.map some++List.replicate (d.N.length-d.mask.length) none:L2.St).length=d.N.length:=by simp[hv];omega
 refine zdG cf W d.body (ZS (CX1 P w) P w K mg base d.N d.name (defScope d.st) f cdv A outer s H E) (fun x _ _ _ _ H'=>∀ C,mg x.cls=some (.ref C)->E (.ref C) none H') k (defScope d.st) d.N (List.range d.N.length) d.N.length d.mask.length d.io zdp
  ⟨T.bi,T.gi,T.gs,T.fn,hr,hk,rfl,T.ex,T.mr,T.gd,fun c f h=>⟨(T.fk c f h).1,(T.fk c f h).2⟩,T.mc,T.ml,zeV,⟨_,_,_,rfl,rfl,rfl⟩⟩ ⟨PassesOwn.leaving,S.nd,List.nodup_range,fun i hi=>?_,(fun x Γ F ν σ H' h C hC pins s1 I h' ea args hm=>VB I rfl rfl rfl hm (h C hC)),rfl,rfl⟩ (defBody d.st) h5 M0 F _ _ _ H _ rs1 zcR hsl ?_
 ·exact (xb.mp (h3 i hi)).1
 ·have back:∀ {F':Fp} {Γ':Gv} {ν':Nu} {o:OV} {v:V} {H':Hp} {G:Prop},RS M0 F' (Γ'++ [some o]) (ν'++ [some v]) H'->(∀ i∈d.io,ν'[i]?=(vs.map some++List.replicate (d.N.length-d.mask.length) none:Nu)[i]?)->Stp F H F' H' ->
    (∀ F',RS M0 F' (outs d.mask Γ'++ [some o]) (vs.map some++ [some v]) H'->Stp F H F' H'->G)->G:=fun {F' Γ' ν' o v H' G} r' hn s' hq=>by
   obtain⟨F2,r2,s2⟩:=r'.outs hv fun j hj=>by
    have hjl:j<d.mask.length:=(xb.mp hj).1
    have hjm:j∈d.io:=by
     rcases h4 j (List.mem_range.mpr hjl)with z | z
     ·exact absurd hj z
     ·simpa using z
    rw[hn j hjm,xc (by simp[hv];exact hjl),xB]
   exact hq F2 r2 (s'.trans s2)
  unfold DefI.run at hm
  rw[if_pos hal]at hm
  generalize d.body.ex cf d.io (args.map some++List.replicate (d.N.length-d.mask.length) none)=rr at hm
  cases rr with
  |bad=>exact hm.elim
  |exc x Γ'=>exact fun F' ν' σ' H' r' s' _ _ hn C hC=>back (r'.newD .none) hn s' fun F2 r2 s2=>hm C hC F2 H' r2 s2
  |ok z=>
   obtain⟨fl,Γ'⟩:=z
   cases fl with
   |brk=>exact hm.elim
   |cnt=>exact hm.elim
   |next=>
    intro F' ν' σ' H' r' s' hs' hl' hn
    exact back (r'.newD .none) hn s' fun F2 r2 s2=>hm F2 _ H' r2 s2
   |ret o=>
    intro F' ν' v H' r' s' hn
    exact back r' hn s' fun F2 r2 s2=>hm F2 v H' r2 s2
theorem zei{d:DefI}{x:Str}{f:Addr}{fd:FuncData}(D:Fun K x d.name d.st f fd)(hok:d.ok W=true):FnOk P w K mg base (CX1 P w) 1 f fd d.ps (spX mg d.mask.length fun _=>.bad):=by
 unfold DefI.ok at hok
 simp only[xa,decide_eq_true_eq]at hok
 refine Yk (k:=0) D (wJ hok.1.1.1.1) (fun vs H Q E h=>by rw[h.1,hok.1.1.1.2]) fun cdv A outer s H vs Q E hr hsp=>?_
 obtain⟨hv,M0,F,args,rs,hm⟩:=hsp
 exact hm.elim
noncomputable def wOk(defs:List DefI)(W:Wd):Bool:=W.fl.all (fun p=>okO (defs.find? fun d=>decide (d.name=p.1)) fun d=>decide (d.mask.length=p.2)&&decide (d.kd=.fn))
 && W.mc.all (fun p=>okO (defs.find? fun d=>decide (d.name=p.2.1)) fun d=>decide (d.mask.length=p.2.2)&&decide (d.kd=.ini p.1))
 && W.ml.all (fun p=>okO (defs.find? fun d=>decide (d.name=p.2.2.1)) fun d=>decide (d.mask.length=p.2.2.2)&&decide (d.kd=.me p.1 p.2.1))
theorem YN{defs:List DefI}{j:Nat}(hd:∀ d∈defs,Dx K mg d/\d.ok W=true)(hw:wOk defs W=true)(hbi:∀ x,W.bi.contains x=true->mg x=none)
  (hgi:∀ x i,W.gi.contains (x,i)=true->∃ t,mg x=some (.int i t)) (hgs:∀ x i,W.gs.contains (x,i)=true->∃ t,mg x=some (.str i t))
  (hex:∀ x,W.ex.contains x=true->∃ C,mg x=some (.ref C)/\PySem.W.excIn K C bmV "ValueError.__new__" =true) (hmr:∀ x C y C2,W.ex.contains x=true->mg x=some (.ref C)->W.ex.contains y=true->mg y=some (.ref C2)->(mroIn K C).contains (.ref C2)=decide (x=y)) (hgd:∀ x kf,W.gd.contains (x,kf)=true->GD w K mg x kf)
  (hfk:∀ c f,W.fk.contains (c,f)=true->Cls K (Cs.adr c)/\ZL K (Cs.adr c) f)
  (hF:∀ (d:DefI) (x:Str) (f:Addr) (fd:FuncData),defs.find? (fun e=>decide (e.name=d.name))=some d->Fun K x d.name d.st f fd->d.ok W=true->FnOk P w K mg base (CX1 P w) j f fd d.ps (spX mg d.mask.length (cf d.name))/\∀ args,cf d.name args≠ .bad->args.length=d.mask.length) (hj:j+1<=k):WK P w K mg base cf W k:=by
 unfold wOk at hw
 simp only[xa,xz]at hw
 obtain⟨⟨w1,w2⟩,w3⟩:=hw
 have get:∀ (x:Str) (n:Nat) (kd:Kd),okO (defs.find? fun d=>decide (d.name=x)) (fun d=>decide (d.mask.length=n)&&decide (d.kd=kd))=true->∃ (d:DefI) (y:Str) (f:Addr) (fd:FuncData),d.name=x/\Fun K y d.name d.st f fd/\Binds K fd d.ps []/\Lk K mg f x kd/\FnOk P w K mg base (CX1 P w) j f fd d.ps (spX mg n (cf x))/\∀ args,cf x args≠ .bad->args.length=n:=fun x n kd h=>by
  obtain⟨d,e,h⟩:=za h
  simp only[xa,decide_eq_true_eq]at h
  obtain⟨rfl,rfl⟩:=h
  have hmem:=List.mem_of_find?_eq_some e
  have hnm:d.name=x:=by simpa using List.find?_some e
  subst hnm
  obtain⟨D,ok⟩:=hd d hmem
  obtain⟨y,f,fd,F,hb,lk⟩:=D.ex
  obtain⟨q1,q2⟩:=hF d y f fd e F ok
  exact⟨d,y,f,fd,rfl,F,hb,lk,q1,q2⟩
 refine⟨hbi,hgi,hgs,fun x n h=>?_,hex,hmr,hgd,hfk,fun c q n h=>?_,fun c m q n h=>?_⟩
 ·obtain⟨d,y,f,fd,e,F,hb,lk,q1,q2⟩:=get x n .fn (w1 (x,n) (xU.mp h))
  exact⟨⟨f,fd,d.ps,q1.mono (by omega),lk,F.kp,hb⟩,q2⟩
 ·obtain⟨d,y,f,fd,e,F,hb,lk,q1,q2⟩:=get q n (.ini c) (w2 (c,q,n) (xU.mp h))
  exact⟨lk.2,⟨j,hj,f,fd,d.ps,q1,lk.1,hb⟩,q2⟩
 ·obtain⟨d,y,f,fd,e,F,hb,lk,q1,q2⟩:=get q n (.me c m) (w3 (c,m,q,n) (xU.mp h))
  exact⟨⟨f,fd,d.ps,q1.mono (by omega),lk.1,lk.2,hb⟩,q2⟩
theorem wk_all{defs:List DefI}(hd:∀ d∈defs,Dx K mg d/\d.ok W=true)(hw:wOk defs W=true)(hbi:∀ x,W.bi.contains x=true->mg x=none)
  (hgi:∀ x i,W.gi.contains (x,i)=true->∃ t,mg x=some (.int i t)) (hgs:∀ x i,W.gs.contains (x,i)=true->∃ t,mg x=some (.str i t))
  (hex:∀ x,W.ex.contains x=true->∃ C,mg x=some (.ref C)/\PySem.W.excIn K C bmV "ValueError.__new__" =true) (hmr:∀ x C y C2,W.ex.contains x=true->mg x=some (.ref C)->W.ex.contains y=true->mg y=some (.ref C2)->(mroIn K C).contains (.ref C2)=decide (x=y)) (hgd:∀ x kf,W.gd.contains (x,kf)=true->GD w K mg x kf)
  (hfk:∀ c f,W.fk.contains (c,f)=true->Cls K (Cs.adr c)/\ZL K (Cs.adr c) f):∀ n,WK P w K mg base (zj defs n) W (2*n+2)
 |0=>YN (j:=1) hd hw hbi hgi hgs hex hmr hgd hfk (fun d x f fd _ F ok=>⟨zei F ok,fun args e=>absurd rfl e⟩) (by omega)
 |n+1=>YN (j:=2*n+2+1) hd hw hbi hgi hgs hex hmr hgd hfk (fun d x f fd e F ok=>by
   have ec:zj defs (n+1) d.name=d.run (zj defs n):=by
    funext args
    rw[zj,e]
   rw[ec]
   exact⟨zf4 F ok (wk_all hd hw hbi hgi hgs hex hmr hgd hfk n) (by omega),fun args e=>DefI.run_lenX e⟩) (by omega)
noncomputable def ZH(cells:List Int)(i l t s:Int):OV:=.l [.d (.list (cells.map .int)),.d (.int i),.d (.int l),.d (.int t),.d (.int s)]
theorem law_ok {st:Stmt}{fa:Addr}{fd:FuncData}{N:List Str}{x:Str}{kb:Nat}{body:IB}{rest:List Stmt}{pos' p3 p2 p pos:Pos}(Fn:Fun K "law" "law" st fa fd) (hS:wI N ["_law_script"] (defScope st)=true) (hkb:Kn P w K mg base CX0 "_law_box" kb (za3 K)) (hkb2:kb<=k) (T:WK P w K mg base cf W k) (hk:1<=k)
  (hb:defBody st=.Assign [.Name x pos'] (.Call (.Name "_law_box" p3) [.Name "_law_script" p2] [] p) pos::rest) (hN0:N[0]?=some ("_law_script" :Str)) (hN1:N[1]?=some x) (hv0:(defScope st).names.lookup ("_law_script" :Str)=some .local) (hx:Loc (defScope st) x) (hg:(defScope st).names.lookup ("_law_box" :Str)=some .globalImplicit)
  (hchk:body.chk W (defScope st) N (List.range N.length) N.length 0 rest=true)
  (hrun:∀ (cells:List Int) (i l t s:Int),0<=i->∃ Γ',body.ex cf [] (none::some (ZH cells i l t s)::List.replicate (N.length-2) none)=.ok (.ret (.d (.bool true)),Γ')):FnOk P w K mg base CX0 (k+1) fa fd ["_law_script"] (YA K):=by
 have S:=wJ hS
 refine Fn.law S fun cdv A outer s H Q E a ns hr hSq hlen kk=>?_
 have hl2:2<=N.length:=by have:=(xb.mp hN1).1;omega
 rw[hb]
 refine zfN (X:=(ZS CX0 P w K mg base N "law" (defScope st) fa cdv A outer s H E).nox) (N:=N) S.nd hkb (hr.mono hkb2) hSq hlen (fun b σ1 H1 s1 nb hB rs1 l1=>?_) rfl hN0 hN1 (.inl hv0) hx (.inl rfl) hg rfl rfl
 obtain⟨c,cells,i,l,t,sd,B⟩:=hB
 have hσ:σ1[1]?=some (some (.ref b)):=rs1.av 1 (.ref b) (by
  rw[xh]
  simp
  exact hl2)
 have hF:∀ j a,a∈zz (fun _=> []) 1 [b] j->j=1/\a=b:=fun j a h=>by
  by_cases hj:j=1
  ·subst hj;rw[zg]at h;exact⟨rfl,by simpa using h⟩
  ·rw[zi hj]at h;cases h
 have hM:∀ a,MM zt (zz (fun _=> []) 1 [b]) a->a=b:=fun a h=>by
  rcases h with h | ⟨j,h⟩
  ·exact h.elim
  ·exact (hF j a h).2
 have rs:RS zt (zz (fun _=> []) 1 [b]) (none::some (ZH cells i l t sd)::List.replicate (N.length-2) none) (none::some (.ref b)::List.replicate (N.length-2) none) H1:=by
  refine⟨fun a h=>h.elim,fun j a h z=>z,fun j=>?_,fun j k a h1 h2=>by rw[(hF j a h1).1,(hF k a h2).1],fun j o e=>?_,fun j h=>?_,by simp⟩
  ·by_cases hj:j=1
   ·subst hj;rw[zg];exact xD.mpr ⟨(fun z=>nomatch z),.nil⟩
   ·rw[zi hj];exact .nil
  ·match j,e with
   |0,e=>simp at e
   |1,e=>
    have e':ZH cells i l t sd=o:=by simpa using e
    subst e'
    refine⟨.ref b,rfl,?_⟩
    rw[zg]
    refine .l B.hb (.cons (A:= []) (.d (B.hc.less fun a ha _=>hM a ha)) (.cons (A:= []) (.d (.int _)) (.cons (A:= []) (.d (.int _)) (.cons (A:= []) (.d (.int _)) (.cons (A:= []) (.d (.int _)) .nil)))))
   |j+2,e=>
    rw[uf,uf,xJ]at e
    split at e<;>cases e
  ·by_cases hj:j=1
   ·subst hj;exact absurd rfl (h (ZH cells i l t sd))
   ·rw[zi hj]
 have sees:Sees (List.range N.length) (none::some (.ref b)::List.replicate (N.length-2) none) σ1:=fun s' j v e1 e2=>by
  have hs:s'<N.length:=by
   have:=(xb.mp e1).1
   simpa using this
  rw[uo hs]at e1
  cases e1
  match s',e2 with
  |0,e2=>simp at e2
  |1,e2=>
   have:V.ref b=v:=by simpa using e2
   subst this;exact hσ
  |j+2,e2=>
   rw[uf,uf,xJ]at e2
   split at e2<;>cases e2
 obtain⟨Γ',er⟩:=hrun cells i l t sd B.hi
 refine zdG cf W body (ZS CX0 P w K mg base N "law" (defScope st) fa cdv A outer s H E).nox XP0 k (defScope st) N (List.range N.length) N.length 0 [] zfQ ⟨T.bi,T.gi,T.gs,T.fn,hr,hk,rfl,T.ex,T.mr,T.gd,fun c f h=>⟨(T.fk c f h).1,(T.fk c f h).2⟩,T.mc,T.ml,zcA,⟨_,_,_,rfl,rfl,rfl⟩⟩ ⟨PassesOwn.never,S.nd,List.nodup_range,(fun i hi=>nomatch hi),(fun _ _ _ _ _ _ h=>h.elim),rfl,rfl⟩ rest hchk zt _ _ _ σ1 H1 _ rs sees l1 ?_
 rw[er]
 intro F' ν' v H' r' s' hn
 obtain⟨w',ew,q⟩:=r'.at' Γ'.length (.d (.bool true)) (by rw[xf (xi _)];simp)
 have hlen:=r'.len
 have hνl:ν'.length=Γ'.length:=by simpa using hlen
 rw[xf (by omega),hνl]at ew
 have:v=w':=by simpa using ew
 subst this
 generalize F' Γ'.length=Az at q
 cases q with
 |d q=>cases q;exact kk H'
end
noncomputable def csOf(mg:Str->Option Value):Cs:=⟨fun x=>match mg x with
 |some (.ref C)=>C
 |_=>0⟩
theorem zb1{mg:Str->Option Value}{c:Str}{C:Addr}(h:mg c=some (.ref C)):(csOf mg).adr c=C:=by
 show (match mg c with
  |some (.ref C)=>C
  |_=>0)=C
 rw[h]
section
variable {K:PySem.W.Frag} {mg:Str->Option Value} {h:Heap} {d:DefI}
theorem zD(hk:d.kd=.fn)(D:Df K mg d.name d.st d.ps): @Dx (csOf mg) K mg d:=by
 obtain⟨f,fd,F,hm,hb⟩:=D.ex
 exact @Dx.mk (csOf mg) _ _ _ ⟨d.name,f,fd,F,hb,by rw[hk];exact hm⟩
structure vT(K:PySem.W.Frag)(c:Str)(C:Addr):Prop where
 n:PySem.W.nsIn K mainGlobals c=some (some (.ref C))
 cl:Cls K C
structure Dm(K:PySem.W.Frag)(q c m:Str)(st:Stmt)(ps:List Str):Prop where
 ex:∃ (C f:Addr) (fd:FuncData),vT K c C/\Fun K m q st f fd/\Binds K fd ps []/\zdP K C m f
structure Di(K:PySem.W.Frag)(q c:Str)(st:Stmt)(ps:List Str):Prop where
 ex:∃ (C f:Addr) (fd:FuncData),vT K c C/\Fun K "__init__" q st f fd/\Binds K fd ps []/\Mk K C f
theorem Dm.of{q c m:Str}{st:Stmt}{ps:List Str}{C f:Addr}{oc:Value}{od an:Option Addr}{sl:Array (Option Value)}{kV dc pm cd ct:Value}(o:vT K c C)(a:PySem.W.findIn K (.ref C) m=some (some (.ref f)))(fn:PySem.W.isFn K (.ref f)=true)
  (l:K.lookup f=some ⟨oc,od,.func (PySem.W.fnOf m q (zZ st) (defBody st) (defScope st) .none kV dc pm an cd ct),sl⟩) (e:PySem.W.codeIn K cd q=true) (k:PySem.W.keepIn K (.ref f)=true)
  (hb:∀ (kV doc pm:Value) (an:Option Addr) (cdv ct:Value) (us:List Value),us.length=ps.length->bindArgs (PySem.W.fnOf m q (zZ st) (defBody st) (defScope st) .none kV doc pm an cdv ct) ⟨us,[]⟩=pure (ps.zip us)):Dm K q c m st ps :=
 ⟨C,f,_,o,ZU (st:=st) l e k,(ZU (st:=st) l e k).binds hb,a,fn,k⟩
theorem Di.of {q c:Str}{st:Stmt}{ps:List Str}{C f:Addr}{oc:Value}{od an:Option Addr}{sl:Array (Option Value)}{kV dc pm cd ct:Value}(o:vT K c C) (mk:PySem.W.makesIn K C=true) (a:PySem.W.findIn K (.ref C) "__init__" =some (some (.ref f))) (fn:PySem.W.isFn K (.ref f)=true) (kc:PySem.W.keepIn K (.ref C)=true)
  (l:K.lookup f=some ⟨oc,od,.func (PySem.W.fnOf "__init__" q (zZ st) (defBody st) (defScope st) .none kV dc pm an cd ct),sl⟩) (e:PySem.W.codeIn K cd q=true) (k:PySem.W.keepIn K (.ref f)=true)
  (hb:∀ (kV doc pm:Value) (an:Option Addr) (cdv ct:Value) (us:List Value),us.length=ps.length->bindArgs (PySem.W.fnOf "__init__" q (zZ st) (defBody st) (defScope st) .none kV doc pm an cdv ct) ⟨us,[]⟩=pure (ps.zip us)):Di K q c st ps :=
 ⟨C,f,_,o,ZU (st:=st) l e k,(ZU (st:=st) l e k).binds hb,mk,a,fn,kc⟩
theorem zf3{c f:Str}{C:Addr}(X:K.In h)(G:h.Ns mainGlobals mg)(o:vT K c C)(n:ZL K C f):Cls K ((csOf mg).adr c)/\ZL K ((csOf mg).adr c) f:=by
 rw[zb1 (PySem.W.mg_of X G o.n)]
 exact⟨o.cl,n⟩
end
end L3
namespace Wx
open PySem L2 L3
scoped instance noCs:L2.Cs:=⟨fun _=>0⟩
noncomputable def jP:IB:=(.cons (.ret (.dat (.and (.isi "int" (.var 0 0)) (.not (.isi "bool" (.var 0 0)))))) .nil)
noncomputable def jN:IB:=(.cons (.asg 2 2 (.dat (.bin .Mod (.bin .Add (.bin .Add (.bin .Mult (.var 0 0) (.cint 48271)) (.bin .Mult (.var 1 1) (.cint 69621))) (.cint 12345)) (.cint 2147483647)))) (.cons (.asg 3 3 (.dat (.bin .Mod (.bin .Add (.bin .Add (.bin .Mult (.var 2 2) (.bin .Add (.bin .Mod (.var 2 2) (.cint 65521)) (.cint 7))) (.bin .Mult (.var 1 1) (.cint 40692))) (.bin .Mod (.var 0 0) (.cint 104729))) (.cint 998244353)))) (.cons (.ret (.dat (.bin .FloorDiv (.var 3 3) (.cint 7)))) .nil)))
noncomputable def qw:IB:=(.cons (.set 0 0 (.cint 3) (.bin .Add (.ix (.var 0 0) (.cint 3)) (.cint 1))) (.cons (.ite (.cmp .Gt (.ix (.var 0 0) (.cint 2)) (.cint 0)) (.cons (.asg 2 2 (.dat (.ix (.var 0 0) (.cint 2)))) (.cons (.set 0 0 (.cint 2) (.bin .FloorDiv (.var 2 2) (.var 1 1))) (.cons (.ret (.dat (.bin .Mod (.var 2 2) (.var 1 1)))) .nil))) .nil) (.cons (.ite (.cmp .GtE (.ix (.var 0 0) (.cint 1)) (.len (.ix (.var 0 0) (.cint 0)))) (.cons (.ret (.dat (.bin .Mod (.call (.call "_law_mixed" 2 (.cons (.ix (.var 0 0) (.cint 4)) (.cons (.ix (.var 0 0) (.cint 3)) .nil)))) (.var 1 1)))) .nil) .nil) (.cons (.asg 3 3 (.dat (.ix (.ix (.var 0 0) (.cint 0)) (.ix (.var 0 0) (.cint 1))))) (.cons (.set 0 0 (.cint 1) (.bin .Add (.ix (.var 0 0) (.cint 1)) (.cint 1))) (.cons (.ite (.cmp .Lt (.var 3 3) (.bin .Pow (.cint 10) (.cint 18))) (.cons (.ret (.dat (.bin .Mod (.call (.call "_law_mixed" 2 (.cons (.var 3 3) (.cons (.ix (.var 0 0) (.cint 3)) .nil)))) (.var 1 1)))) .nil) .nil) (.cons (.set 0 0 (.cint 2) (.bin .FloorDiv (.var 3 3) (.var 1 1))) (.cons (.ret (.dat (.bin .Mod (.var 3 3) (.var 1 1)))) .nil))))))))
noncomputable def b_law_lacks_1:IE:=(.tup (.cons (.call (.call "_law_take" 2 (.io 1 0 (.cons (.bin .Add (.var 2 2) (.cint 1)) .nil)))) (.cons (.call (.call "_law_take" 2 (.io 1 0 (.cons (.bin .Add (.var 2 2) (.cint 1)) .nil)))) .nil)))
noncomputable def b_law_lacks_2:IB:=(.cons (.ite (.cmp .Eq (.var 3 3) (.cint 0)) (.cons (.app 7 7 (.cmp .Eq (.call (.call "_law_take" 2 (.io 0 0 (.cons (.cint 2) .nil)))) (.cint 1))) .nil) (.cons (.ite (.cmp .Eq (.var 3 3) (.cint 1)) (.cons (.app 7 7 (.chain .LtE .Lt (.min (.var 8 8) (.var 9 9)) (.var 6 6) (.max (.var 8 8) (.var 9 9)))) .nil) (.cons (.ite (.cmp .Eq (.var 3 3) (.cint 2)) (.cons (.app 7 7 (.cmp .Lt (.var 6 6) (.var 8 8))) .nil) (.cons (.app 7 7 (.cmp .NotEq (.cmp .Lt (.var 6 6) (.var 8 8)) (.cmp .Eq (.var 6 6) (.var 9 9)))) .nil)) .nil)) .nil)) .nil)
noncomputable def b_law_lacks_3:IB:=(.cons (.asg 7 7 (.own (.lst .nil))) (.cons (.loop (.tp (.cons (.nm 8 8) (.cons (.nm 9 9) .nil))) (.list (.var 4 4)) b_law_lacks_2) (.cons (.app 5 5 (.frz 7 7)) .nil)))
noncomputable def jM:IB:=(.cons (.asg 3 3 (.dat (.call (.call "_law_take" 2 (.io 0 0 (.cons (.cint 4) .nil)))))) (.cons (.asg 4 4 (.dat (.new (.comp 10 1 [0,2] ["_law_dye","_law_box_here","_law_size"] (.nm 0 10) (.range (.var 1 1)) .yes b_law_lacks_1)))) (.cons (.asg 5 5 (.own (.lst .nil))) (.cons (.loop (.nm 6 6) (.range (.var 2 2)) b_law_lacks_3) (.cons (.ret (.move 5 5)) .nil)))))
noncomputable def b_law_cell_1:IB:=(.cons (.asg 7 7 (.dat (.call (.call "_law_take" 2 (.io 0 0 (.cons (.cint 9) .nil)))))) (.cons (.app 4 4 (.var 7 7)) (.cons (.app 5 5 (.bin .Add (.var 7 7) (.int (.var 6 6)))) (.cons (.ite (.and (.cmp .Gt (.var 2 2) (.cint 0)) (.cmp .Eq (.call (.call "_law_take" 2 (.io 0 0 (.cons (.var 2 2) .nil)))) (.cint 0))) (.cons (.set 4 4 (.neg (.cint 1)) (.call (.call "_law_take" 2 (.io 0 0 (.cons (.cint 10) .nil))))) (.cons (.set 5 5 (.neg (.cint 1)) (.call (.call "_law_take" 2 (.io 0 0 (.cons (.cint 10) .nil))))) .nil)) .nil) .nil))))
noncomputable def jw:IB:=(.cons (.asg 4 4 (.own (.lst .nil))) (.cons (.asg 5 5 (.own (.lst .nil))) (.cons (.loop (.nm 6 6) (.list (.var 1 1)) b_law_cell_1) (.cons (.ret (.dat (.tup (.cons (.tuple (.var 4 4)) (.cons (.and (.cmp .Gt (.var 3 3) (.cint 0)) (.cmp .Lt (.call (.call "_law_take" 2 (.io 0 0 (.cons (.cint 5) .nil)))) (.var 3 3))) (.cons (.tuple (.var 5 5)) .nil)))))) .nil))))
noncomputable def b_law_bolt_1:IE:=(.call (.call "_law_cell" 4 (.io 1 0 (.cons (.var 0 6) (.cons (.var 2 3) (.cons (.var 3 4) .nil))))))
noncomputable def ZM:IB:=(.cons (.asg 4 4 (.dat (.call (.call "_law_take" 2 (.io 0 0 (.cons (.cint 4) .nil)))))) (.cons (.asg 5 5 (.dat (.call (.call "_law_lacks" 3 (.io 0 0 (.cons (.var 1 1) (.cons (.var 2 2) .nil))))))) (.cons (.ret (.own (.comp 6 1 [0,3,4] ["_law_row","_law_box_here","_law_loose","_law_wet"] (.nm 0 6) (.list (.var 5 5)) .yes b_law_bolt_1))) .nil)))
noncomputable def b_law_shades_1:IE:=(.call (.call "_law_whole" 1 (.cons (.var 0 2) .nil)))
noncomputable def jx:IB:=(.cons (.ret (.dat (.and (.isi "tuple" (.var 0 0)) (.and (.cmp .Eq (.len (.var 0 0)) (.var 1 1)) (.all (.new (.comp 2 1 [] ["_law_one"] (.nm 0 2) (.tup (.var 0 0)) .yes b_law_shades_1))))))) .nil)
noncomputable def b_law_cells_kind_1:IB:=(.cons (.ite (.or (.not (.isi "tuple" (.var 2 2))) (.or (.cmp .NotEq (.len (.var 2 2)) (.cint 3)) (.not (.isi "bool" (.ix (.var 2 2) (.cint 1)))))) (.cons (.ret (.dat (.cbool false))) .nil) .nil) (.cons (.ite (.or (.not (.call (.call "_law_shades" 2 (.cons (.ix (.var 2 2) (.cint 0)) (.cons (.var 1 1) .nil))))) (.not (.call (.call "_law_shades" 2 (.cons (.ix (.var 2 2) (.cint 2)) (.cons (.var 1 1) .nil)))))) (.cons (.ret (.dat (.cbool false))) .nil) .nil) .nil))
noncomputable def qq:IB:=(.cons (.ite (.not (.isi "list" (.var 0 0))) (.cons (.ret (.dat (.cbool false))) .nil) .nil) (.cons (.loop (.nm 2 2) (.list (.var 0 0)) b_law_cells_kind_1) (.cons (.ret (.dat (.cbool true))) .nil)))
noncomputable def jL:IB:=(.cons (.ret (.dat (.and (.call (.call "_law_cells_kind" 2 (.cons (.var 0 0) (.cons (.var 2 2) .nil)))) (.cmp .Eq (.var 0 0) (.var 1 1))))) .nil)
end Wx
namespace Wx
open PySem L2 L3
noncomputable def qH:IE:=(.str (.var 0 1))
noncomputable def jg:IB:=(.cons (.ite (.cmp .Eq (.len (.var 0 0)) (.cint 0)) (.cons (.ret (.dat (.cstr "-"))) .nil) .nil) (.cons (.ret (.dat (.join "" (.new (.comp 1 1 [] ["_law_shade"] (.nm 0 1) (.tup (.var 0 0)) .yes qH))))) .nil))
end Wx
set_option maxHeartbeats 4000000
namespace Wx
open PySem L2 L3
noncomputable def runI(n:Nat)(mask:List Bool)(io:List Nat)(body:IB)(cf:CF)(args:List OV):RF:=if args.length=mask.length then fin mask (body.ex cf io (args.map some++List.replicate (n-mask.length) none)) else .bad
end Wx
local macro_rules
  | `(tactic| simp![$xs,*])=>`(tactic| simp[$xs,*,Wx.runI,L3.fin,L3.outs,L3.IB.ex,L3.IS.ex,L3.IE.ev,L3.IL.ev,L3.IA.ev,L3.IN.ev,L3.IP.ev,L3.II.ev,L3.IC.ev,L3.IO.ev,L3.sSeq,L3.sNext,L3.sAsg,L3.sIf,L3.sRet,L3.sRetN,L3.sSet,L3.sApp,L3.sFor,L3.sAsgT,L3.sExpr,L3.fVar,L3.fFrz,L3.fC,L3.fBin,L3.fCmp,L3.fB,L3.fTru,L3.fNotT,L3.fAndT,L3.fOrT,L3.fAndV,L3.fOrV,L3.fIf,L3.fIx,L3.f1,L3.f2,L3.fChain,L3.fTup,L3.fLst,L3.fCons,L3.fNil,L3.fNew,L3.fOwn,L3.fOD,L3.fD,L3.fMove,L3.fCall,L3.fCallW,L3.aNil,L3.aCons,L3.aIo,L3.toArg,L3.toArgs,L3.ios,L3.putBack,L3.derf,L3.derS,L3.derSs,L3.derL,L3.leaves,L3.derfs,L3.itemF,L3.binD,L3.cmpD,L3.truD,L3.R.bind,L3.isOwn,L3.fSeqL,L3.fSeqT,L3.fRange,L3.fEnum,L3.fYes,L3.fComp,L3.fListC,L3.fTupC,L3.gLen,L3.lenD,L3.gInt,L3.gAll,L3.gAny,L3.gMin,L3.gMax,L3.gNeg,L3.fIsi,L3.isiB,L2.tyD,L3.tgF,L3.tgFs,L2.noL])
namespace Wx
open PySem L2 L3
theorem zac(cf:CF)(a b:Int):∃ r,runI 4 [false,false] [] jN cf [.d (.int a),.d (.int b)]=.ok (.d (.int r)) [none,none]:=by
 simp![jN,OV.view,OV.views,qk,ixN,atI]
 rw[if_pos]
 ·simp[outs]
 ·omega
noncomputable def Ya (cf:CF):Prop:=∀ a b:Int,∃ r,cf "_law_mixed" [.d (.int a),.d (.int b)]=.ok (.d (.int r)) [none,none]
noncomputable def zr(b:OV):Prop:=∃ cells i l t s,0<=i/\b=ZH cells i l t s
noncomputable def Kr(b:OV)(n:Int)(x:RF):Prop:=∃ (r:Int) (b':OV),0<=r/\r<n/\zr b'/\x=.ok (.d (.int r)) [some b',none]
theorem zde(cf:CF)(hm:Ya cf){b:OV}(hb:zr b){n:Int}(h1:1<=n)(h2:n<1073741824):Kr b n (runI 4 [true,false] [0] qw cf [b,.d (.int n)]):=by
 obtain⟨cells,i,l,t,s,hi,rfl⟩:=hb
 have h0:0<n:=by omega
 have hp:((10:Int) ^ 18)=1000000000000000000:=by decide
 by_cases hl:0<l
 ·refine⟨l % n,ZH cells i (l / n) (t+1) s,uA _ (by omega),ur _ h0,⟨_,_,_,_,_,hi,rfl⟩,?_⟩
  simp![qw,ZH,hl,h0,h2,OV.view,OV.views,qk,ixN,atI]
 ·by_cases hc:(cells.length:Int)<=i
  ·obtain⟨r,er⟩:=hm s (t+1)
   refine⟨r % n,ZH cells i l (t+1) s,uA _ (by omega),ur _ h0,⟨_,_,_,_,_,hi,rfl⟩,?_⟩
   simp![qw,ZH,hl,hc,h0,h2,er,OV.view,OV.views,qk,ixN,atI]
  ·have hix:i.toNat<cells.length:=by omega
   have hlt:i<(cells.length:Int):=by omega
   have hg:cells[i.toNat]?=some cells[i.toNat]:=xC hix
   by_cases hs:cells[i.toNat]<1000000000000000000
   ·obtain⟨r,er⟩:=hm cells[i.toNat] (t+1)
    refine⟨r % n,ZH cells (i+1) l (t+1) s,uA _ (by omega),ur _ h0,⟨_,_,_,_,_,by omega,rfl⟩,?_⟩
    simp![qw,ZH,hl,hc,h0,h2,hi,hlt,hg,hs,hp,er,OV.view,OV.views,qk,ixN,atI]
   ·refine⟨cells[i.toNat] % n,ZH cells (i+1) (cells[i.toNat] / n) (t+1) s,uA _ (by omega),ur _ h0,⟨_,_,_,_,_,by omega,rfl⟩,?_⟩
    simp![qw,ZH,hl,hc,h0,h2,hi,hlt,hg,hs,hp,OV.view,OV.views,qk,ixN,atI]
theorem jr{t:IT}{body:SM}(I:List PyData->Gv->Prop){ds:List PyData}{Γ:Gv}(h0:I [] Γ)
  (hs:∀ pre d post,ds=pre++d::post->∀ Γ,I pre Γ->∃ Γ1 Γ2,tgF t d Γ=some Γ1/\body Γ1=.ok (.next,Γ2)/\I (pre++ [d]) Γ2):∃ Γ',jI t body ds Γ=.ok (.next,Γ')/\I ds Γ':=by
 suffices H:∀ post pre Γ,ds=pre++post->I pre Γ->∃ Γ',jI t body post Γ=.ok (.next,Γ')/\I ds Γ' from H ds [] Γ rfl h0
 intro post
 induction post with
 |nil=>intro pre Γ e h;rw[xG]at e;subst e;exact⟨Γ,rfl,h⟩
 |cons d post ih=>
  intro pre Γ e h
  obtain⟨Γ1,Γ2,e1,e2,h2⟩:=hs pre d post e Γ h
  obtain⟨Γ',e3,h3⟩:=ih (pre++ [d]) Γ2 (by rw[e];simp) h2
  exact⟨Γ',by rw[jI,e1];simp only[e2];exact e3,h3⟩
theorem Qa{k:Nat}{t:IT}{cond:EM Bool}{elt:EM FV}(I:List PyData->List PyData->Gv->Prop){ds:List PyData}{Γ:Gv}(h0:I [] [] Γ)
  (hs:∀ pre d post,ds=pre++d::post->∀ ys Γ,I pre ys Γ->∃ Γ2 c Γ3,tgF t d (Γ++List.replicate k none)=some Γ2/\cond Γ2=.ok (c,Γ3)/\(c=true->∃ u Γ4 y,elt Γ3=.ok (u,Γ4)/\derS Γ4 u=some y/\I (pre++ [d]) (ys++ [y]) (Γ4.take Γ.length))/\(c=false->I (pre++ [d]) ys (Γ3.take Γ.length))) :
  ∃ ys Γ',zW k t cond elt ds [] Γ=.ok (ys,Γ')/\I ds ys Γ':=by
 suffices H:∀ post pre ys Γ,ds=pre++post->I pre ys Γ->∃ ys' Γ',zW k t cond elt post ys Γ=.ok (ys',Γ')/\I ds ys' Γ' from H ds [] [] Γ rfl h0
 intro post
 induction post with
 |nil=>intro pre ys Γ e h;rw[xG]at e;subst e;exact⟨ys,Γ,rfl,h⟩
 |cons d post ih=>
  intro pre ys Γ e h
  obtain⟨Γ2,c,Γ3,e1,e2,ht,hf⟩:=hs pre d post e ys Γ h
  cases c with
  |true=>
   obtain⟨u,Γ4,y,e3,e4,h5⟩:=ht rfl
   obtain⟨ys',Γ',e6,h6⟩:=ih (pre++ [d]) _ _ (by rw[e];simp) h5
   have hit:itL elt Γ3=.ok (y,Γ4):=by simp only[itL,e3,R.bind,e4]
   exact⟨ys',Γ',by unfold zW;rw[qp,e1];simp only[e2,hit];exact e6,h6⟩
  |false=>
   obtain⟨ys',Γ',e6,h6⟩:=ih (pre++ [d]) _ _ (by rw[e];simp) (hf rfl)
   exact⟨ys',Γ',by unfold zW;rw[qp,e1];simp only[e2];exact e6,h6⟩
theorem WD{k:Nat}{t:IT}{cond:EM Bool}{elt:EM FV}(p:PyData->Bool)(f:PyData->PyData){ds:List PyData}{Γ:Gv}
  (hs:∀ d∈ds,∃ Γ2 Γ3,tgF t d (Γ++List.replicate k none)=some Γ2/\cond Γ2=.ok (p d,Γ3)/\Γ3.take Γ.length=Γ/\(p d=true->∃ u Γ4,elt Γ3=.ok (u,Γ4)/\derS Γ4 u=some (f d)/\Γ4.take Γ.length=Γ)) :
  zW k t cond elt ds [] Γ=.ok ((ds.filter p).map f,Γ):=by
 obtain⟨ys,Γ',e,hy,rfl⟩:=Qa (k:=k) (t:=t) (cond:=cond) (elt:=elt) (fun pre ys Γ'=>ys=(pre.filter p).map f/\Γ'=Γ) (ds:=ds) (Γ:=Γ) ⟨rfl,rfl⟩ (by
  rintro pre d post e ys Γ' ⟨rfl,rfl⟩
  obtain⟨Γ2,Γ3,e1,e2,e3,h⟩:=hs d (by rw[e];simp)
  refine⟨Γ2,p d,Γ3,e1,e2,fun hp=>?_,fun hp=>⟨by simp[List.filter_append,hp],e3⟩⟩
  obtain⟨u,Γ4,e4,e5,e6⟩:=h hp
  exact⟨u,Γ4,_,e4,e5,by simp[List.filter_append,hp],e6⟩)
 rw[e,hy]
noncomputable def qG (cf:CF):Prop:=∀ b,zr b->∀ n:Int,1<=n->n<1073741824->Kr b n (cf "_law_take" [b,.d (.int n)])
end Wx
set_option maxHeartbeats 4000000
namespace Wx
open PySem L2 L3
theorem ZD{ds pre post:List PyData}{d:PyData}(e:ds=pre++d::post):pre.length<ds.length:=by rw[e];simp
theorem zaF{n:Nat}{pre post:List PyData}{d:PyData}(e:zL n=pre++d::post):d=.int pre.length/\pre.length<n:=by
 have h:(zL n)[pre.length]?=some d:=by rw[e];simp
 exact⟨(ZX h).2,(ZX h).1⟩
theorem yA(cf:CF)(ht:qG cf){b:OV}(hb:zr b){pots way:Int}{size n:Nat}(hs:size<=1000){o4 o5 o6 o7 o8 o9:Option OV} :
  ∃ (ps:List (Int×Int)) (b':OV),ps.length=n/\zr b'/\zW 1 (.nm 0 10) fYes (b_law_lacks_1.ev cf).1 (zL n) [] [some b,some (.d (.int pots)),some (.d (.int size)),some (.d (.int way)),o4,o5,o6,o7,o8,o9]=.ok (ps.map fun p=>.tuple [.int p.1,.int p.2],[some b',some (.d (.int pots)),some (.d (.int size)),some (.d (.int way)),o4,o5,o6,o7,o8,o9]):=by
 obtain⟨ys,Γ',e,⟨ps,b',hp,hb',rfl,rfl⟩⟩:=Qa (k:=1) (t:=.nm 0 10) (cond:=fYes) (elt:=(b_law_lacks_1.ev cf).1) (ds:=zL n) (Γ:= [some b,some (.d (.int pots)),some (.d (.int size)),some (.d (.int way)),o4,o5,o6,o7,o8,o9])
  (fun pre ys Γ=>∃ (ps:List (Int×Int)) (b':OV),ps.length=pre.length/\zr b'/\ys=ps.map (fun p=>PyData.tuple [.int p.1,.int p.2])/\Γ= [some b',some (.d (.int pots)),some (.d (.int size)),some (.d (.int way)),o4,o5,o6,o7,o8,o9]) ⟨[],b,rfl,hb,rfl,rfl⟩ (by
   rintro pre d post e ys Γ ⟨ps,b1,hp,hb1,rfl,rfl⟩
   obtain⟨r2,b2,h2,h2',hb2,e2⟩:=ht b1 hb1 (size+1) (by omega) (by omega)
   obtain⟨r3,b3,h3,h3',hb3,e3⟩:=ht b2 hb2 (size+1) (by omega) (by omega)
   refine⟨_,true,_,by simp[tgF];rfl,rfl,fun _=>?_,fun z=>nomatch z⟩
   refine⟨.dat (.tuple [.int r2,.int r3]),[some b3,some (.d (.int pots)),some (.d (.int size)),some (.d (.int way)),o4,o5,o6,o7,o8,o9,some (.d d)],_,?_,rfl,ps++ [(r2,r3)],b3,by simp[hp],hb3,by simp,by simp⟩
   simp![b_law_lacks_1,e2,e3,OV.view,OV.views,qk,ixN,atI])
 rw[zG]at hp
 exact⟨ps,b',hp,hb',e⟩
theorem ko(cf:CF)(ht:qG cf){b:OV}(hb:zr b){pots way:Int}{size:Nat}{at_:Nat}(ps:List (Int×Int))(hps:ps.length<=1000){o4 o5 o8 o9:Option OV} :
  ∃ (bs:List Bool) (b':OV) (o8' o9':Option OV),bs.length=ps.length/\zr b'/\jI (.tp (.cons (.nm 8 8) (.cons (.nm 9 9) .nil))) (b_law_lacks_2.ex cf [0]) (ps.map fun p=>PyData.tuple [.int p.1,.int p.2]) [some b,some (.d (.int pots)),some (.d (.int size)),some (.d (.int way)),o4,o5,some (.d (.int at_)),some (.l []),o8,o9]
   = .ok (.next,[some b',some (.d (.int pots)),some (.d (.int size)),some (.d (.int way)),o4,o5,some (.d (.int at_)),some (.l (bs.map fun x=>.d (.bool x))),o8',o9']):=by
 obtain⟨Γ',e,⟨bs,b',o8',o9',hl,hb',rfl⟩⟩:=jr (t:=.tp (.cons (.nm 8 8) (.cons (.nm 9 9) .nil))) (body:=b_law_lacks_2.ex cf [0]) (ds:=ps.map fun p=>PyData.tuple [.int p.1,.int p.2]) (Γ:= [some b,some (.d (.int pots)),some (.d (.int size)),some (.d (.int way)),o4,o5,some (.d (.int at_)),some (.l []),o8,o9])
  (fun pre Γ=>∃ (bs:List Bool) (b':OV) (o8' o9':Option OV),bs.length=pre.length/\zr b'/\Γ= [some b',some (.d (.int pots)),some (.d (.int size)),some (.d (.int way)),o4,o5,some (.d (.int at_)),some (.l (bs.map fun x=>.d (.bool x))),o8',o9']) ⟨[],b,o8,o9,rfl,hb,rfl⟩ (by
   rintro pre d post e Γ ⟨bs,b1,o8',o9',hl,hb1,rfl⟩
   have hlt:=ZD e
   rw[xn]at hlt
   obtain⟨p,-,rfl⟩:∃ p∈ps,PyData.tuple [.int p.1,.int p.2]=d:=by
    have:d∈ps.map fun p=>PyData.tuple [.int p.1,.int p.2]:=by rw[e];simp
    exact xK.mp this
   have hsz:bs.length<1000000:=by omega
   have key:∃ (x:Bool) (b2:OV),zr b2/\b_law_lacks_2.ex cf [0] [some b1,some (.d (.int pots)),some (.d (.int size)),some (.d (.int way)),o4,o5,some (.d (.int at_)),some (.l (bs.map fun x=>.d (.bool x))),some (.d (.int p.1)),some (.d (.int p.2))]
     = .ok (.next,[some b2,some (.d (.int pots)),some (.d (.int size)),some (.d (.int way)),o4,o5,some (.d (.int at_)),some (.l ((bs++ [x]).map fun x=>.d (.bool x))),some (.d (.int p.1)),some (.d (.int p.2))]):=by
    by_cases h0:way=0
    ·obtain⟨r2,b2,h2,h2',hb2,e2⟩:=ht b1 hb1 2 (by decide) (by decide)
     refine⟨r2==1,b2,hb2,?_⟩
     simp![b_law_lacks_2,h0,e2,hsz,lay,PyData.eqv,OV.view,OV.views,qk,ixN,atI]
    ·by_cases h1:way=1
     ·refine⟨decide ((if p.2<p.1 then p.2 else p.1)<=(at_:Int))&&decide ((at_:Int)<(if p.2>p.1 then p.2 else p.1)),b1,hb1,?_⟩
      by_cases h3:(if p.2<p.1 then p.2 else p.1)<=(at_:Int)
      ·simp![b_law_lacks_2,h0,h1,h3,hsz,lay,PyData.eqv,OV.view,OV.views,qk,ixN,atI]
      ·simp![b_law_lacks_2,h0,h1,h3,hsz,lay,PyData.eqv,OV.view,OV.views,qk,ixN,atI]
     ·by_cases h2:way=2
      ·refine⟨decide ((at_:Int)<p.1),b1,hb1,?_⟩
       simp![b_law_lacks_2,h0,h1,h2,hsz,lay,PyData.eqv,OV.view,OV.views,qk,ixN,atI]
      ·refine⟨!(decide ((at_:Int)<p.1)==((at_:Int)==p.2)),b1,hb1,?_⟩
       simp![b_law_lacks_2,h0,h1,h2,hsz,lay,PyData.eqv,OV.view,OV.views,qk,ixN,atI]
   obtain⟨x,b2,hb2,ek⟩:=key
   exact⟨_,_,by simp[tgF,tgFs],ek,bs++ [x],b2,_,_,by simp[hl],hb2,rfl⟩)
 refine⟨bs,b',o8',o9',by rw[hl,xn],hb',e⟩
noncomputable def zv(bs:List Bool):PyData:=.list (bs.map .bool)
theorem ya(bs:List Bool):OV.views (bs.map fun x=>.d (.bool x))=bs.map .bool:=by
 rw[OV.views_map,xN];rfl
noncomputable def y8(pots size:Nat)(x:RF):Prop:=∃ (rows:List (List Bool)) (b':OV),rows.length=size/\(∀ r∈rows,r.length=pots)/\zr b'/\x=.ok (.l (rows.map fun r=>.d (zv r))) [some b',none,none]
theorem K3(cf:CF)(ht:qG cf){b:OV}(hb:zr b){pots size:Nat}(hp:pots<=1000)(hs:size<=1000):y8 pots size (runI 10 [true,false,false] [0] jM cf [b,.d (.int pots),.d (.int size)]):=by
 obtain⟨way,b1,h1,h1',hb1,e1⟩:=ht b hb 4 (by decide) (by decide)
 obtain⟨ps,b2,hpl,hb2,e2⟩:=yA cf ht hb1 (pots:=pots) (way:=way) (size:=size) (n:=pots) hs (o4:=none) (o5:=none) (o6:=none) (o7:=none) (o8:=none) (o9:=none)
 obtain⟨Γ',e3,⟨rows,b3,o6,o7,o8,o9,hl,hr,hb3,rfl⟩⟩:=jr (t:=.nm 6 6) (body:=b_law_lacks_3.ex cf [0]) (ds:=zL size) (Γ:= [some b2,some (.d (.int pots)),some (.d (.int size)),some (.d (.int way)),some (.d (.list (ps.map fun p=>.tuple [.int p.1,.int p.2]))),some (.l []),none,none,none,none])
  (fun pre Γ=>∃ (rows:List (List Bool)) (b':OV) (o6 o7 o8 o9:Option OV),rows.length=pre.length/\(∀ r∈rows,r.length=pots)/\zr b'/\Γ= [some b',some (.d (.int pots)),some (.d (.int size)),some (.d (.int way)),some (.d (.list (ps.map fun p=>.tuple [.int p.1,.int p.2]))),some (.l (rows.map fun r=>.d (zv r))),o6,o7,o8,o9]) ⟨[],b2,_,_,_,_,rfl,(fun _ h=>nomatch h),hb2,rfl⟩ (by
   rintro pre d post e Γ ⟨rows,b3,o6,o7,o8,o9,hl,hr,hb3,rfl⟩
   obtain⟨rfl,hlt⟩:=zaF e
   obtain⟨bs,b4,o8',o9',hbl,hb4,e4⟩:=ko cf ht hb3 (pots:=pots) (way:=way) (size:=size) (at_:=pre.length) ps (by omega) (o4:=some (.d (.list (ps.map fun p=>.tuple [.int p.1,.int p.2])))) (o5:=some (.l (rows.map fun r=>.d (zv r)))) (o8:=o8) (o9:=o9)
   refine⟨_,[some b4,some (.d (.int pots)),some (.d (.int size)),some (.d (.int way)),some (.d (.list (ps.map fun p=>.tuple [.int p.1,.int p.2]))),some (.l ((rows++ [bs]).map fun r=>.d (zv r))),some (.d (.int pre.length)),some (.d (zv bs)),o8',o9'],by simp[tgF];rfl,?_,rows++ [bs],b4,_,_,_,_,by simp[hl],?_,hb4,rfl⟩
   ·have hz:rows.length<1000000:=by omega
    simp![b_law_lacks_3,OV.view,OV.views,qk,ixN,atI]
    rw[e4]
    simp![hz,ya,zv,OV.view,OV.views,qk,ixN,atI]
   ·intro r h
    rcases xF.mp h with h | h
    ·exact hr r h
    ·have:r=bs:=by simpa using h
     subst this;rw[hbl,hpl])
 rw[zG]at hl
 refine⟨rows,b3,hl,hr,hb3,?_⟩
 have hp1: -1000000<=(pots:Int)/\(pots:Int)<=1000000:=by omega
 have hs1: -1000000<=(size:Int)/\(size:Int)<=1000000:=by omega
 have hp2:pots<=1000000:=by omega
 simp![jM,e1,e2,e3,hp1,hs1,hp2,zG,OV.view,OV.views,qk,ixN,atI]
theorem KW{α:Type}(f:Int->α)(xs:List Int)(a:α):(xs.map f++ [a])[xs.length]?=some a:=by
 rw[xf (by simp)];simp
theorem zaW{α:Type}(f:Int->α)(xs:List Int)(a b:α):(xs.map f++ [a]).set xs.length b=xs.map f++ [b]:=by
 rw[uj _ _ (by simp)];simp
noncomputable def zI(xs:List Int):PyData:=.tuple (xs.map .int)
noncomputable def wc(st:List Int)(w:Bool)(wi:List Int):PyData:=.tuple [zI st,.bool w,zI wi]
noncomputable def In9(xs:List Int):Prop:=∀ x∈xs,0<=x/\x<=9
structure Qu(pots:Nat)(st wi:List Int):Prop where
 sl:st.length=pots
 wl:wi.length=pots
 sn:In9 st
 wn:In9 wi
theorem In9.snoc{xs:List Int}{x:Int}(h:In9 xs)(h1:0<=x)(h2:x<=9):In9 (xs++ [x]):=by
 intro y hy
 rcases xF.mp hy with hy | hy
 ·exact h y hy
 ·have:y=x:=by simpa using hy
  subst this;exact⟨h1,h2⟩
theorem JT(xs:List Int):leaves (xs.map fun x=>.d (.int x))=some (xs.map .int):=by
 induction xs with
 |nil=>rfl
 |cons x xs ih=>simp[leaves,ih]
noncomputable def Kj(pots:Nat)(x:RF):Prop:=∃ (st wi:List Int) (w:Bool) (b':OV),Qu pots st wi/\zr b'/\x=.ok (.d (wc st w wi)) [some b',none,none,none]
theorem Y6(cf:CF)(ht:qG cf){b:OV}(hb:zr b)(bs:List Bool)(hl:bs.length<=1000){loose wet:Int}(h0:0<=loose)(h1:loose<=1000) :
  ∃ (st wi:List Int) (b':OV) (o6 o7:Option OV),Qu bs.length st wi/\zr b'/\jI (.nm 6 6) (b_law_cell_1.ex cf [0]) (bs.map .bool) [some b,some (.d (zv bs)),some (.d (.int loose)),some (.d (.int wet)),some (.l []),some (.l []),none,none]
   = .ok (.next,[some b',some (.d (zv bs)),some (.d (.int loose)),some (.d (.int wet)),some (.l (st.map fun x=>.d (.int x))),some (.l (wi.map fun x=>.d (.int x))),o6,o7]):=by
 obtain⟨Γ',e,⟨st,wi,b',o6,o7,hc,hb',rfl⟩⟩:=jr (t:=.nm 6 6) (body:=b_law_cell_1.ex cf [0]) (ds:=bs.map .bool) (Γ:= [some b,some (.d (zv bs)),some (.d (.int loose)),some (.d (.int wet)),some (.l []),some (.l []),none,none])
  (fun pre Γ=>∃ (st wi:List Int) (b':OV) (o6 o7:Option OV),Qu pre.length st wi/\zr b'/\Γ= [some b',some (.d (zv bs)),some (.d (.int loose)),some (.d (.int wet)),some (.l (st.map fun x=>.d (.int x))),some (.l (wi.map fun x=>.d (.int x))),o6,o7]) ⟨[],[],b,_,_,⟨rfl,rfl,(fun _ h=>nomatch h),(fun _ h=>nomatch h)⟩,hb,rfl⟩ (by
   rintro pre d post e Γ ⟨st,wi,b1,o6,o7,hc,hb1,rfl⟩
   have hlt:=ZD e
   rw[xn]at hlt
   obtain⟨x,-,rfl⟩:∃ x∈bs,PyData.bool x=d:=by
    have:d∈bs.map PyData.bool:=by rw[e];simp
    exact xK.mp this
   have hz1:st.length<1000000:=by have:=hc.sl;omega
   have hz2:wi.length<1000000:=by have:=hc.wl;omega
   have hn1:¬ ((st.length:Int)+1<=0):=by omega
   have key:∃ (s1 w1:Int) (b2:OV) (o7':Option OV),0<=s1/\s1<=9/\0<=w1/\w1<=9/\zr b2/\b_law_cell_1.ex cf [0] [some b1,some (.d (zv bs)),some (.d (.int loose)),some (.d (.int wet)),some (.l (st.map fun x=>.d (.int x))),some (.l (wi.map fun x=>.d (.int x))),some (.d (.bool x)),o7]
     = .ok (.next,[some b2,some (.d (zv bs)),some (.d (.int loose)),some (.d (.int wet)),some (.l ((st++ [s1]).map fun x=>.d (.int x))),some (.l ((wi++ [w1]).map fun x=>.d (.int x))),some (.d (.bool x)),o7']):=by
    obtain⟨r2,b2,h2,h2',hb2,e2⟩:=ht b1 hb1 9 (by decide) (by decide)
    have hw:0<=r2+(if x then 1 else 0)/\r2+(if x then 1 else 0)<=9:=by split<;>omega
    by_cases hlo:0<loose
    ·obtain⟨r3,b3,h3,h3',hb3,e3⟩:=ht b2 hb2 loose (by omega) (by omega)
     by_cases hr:r3=0
     ·obtain⟨r4,b4,h4,h4',hb4,e4⟩:=ht b3 hb3 10 (by decide) (by decide)
      obtain⟨r5,b5,h5,h5',hb5,e5⟩:=ht b4 hb4 10 (by decide) (by decide)
      refine⟨r4,r5,b5,some (.d (.int r2)),h4,by omega,h5,by omega,hb5,?_⟩
      have a1:(1:Int)<=st.length+1:=by omega
      have a2:(1:Int)<=wi.length+1:=by omega
      have t1:(-1+((st.length:Int)+1)).toNat=st.length:=by omega
      have t2:(-1+((wi.length:Int)+1)).toNat=wi.length:=by omega
      simp![b_law_cell_1,e2,e3,e4,e5,hr,hlo,hz1,hz2,a1,a2,t1,t2,KW,zaW,lay,PyData.eqv,OV.view,OV.views,qk,ixN,atI]
     ·refine⟨r2,r2+(if x then 1 else 0),b3,some (.d (.int r2)),h2,by omega,hw.1,hw.2,hb3,?_⟩
      simp![b_law_cell_1,e2,e3,hr,hlo,hz1,hz2,lay,PyData.eqv,OV.view,OV.views,qk,ixN,atI]
    ·refine⟨r2,r2+(if x then 1 else 0),b2,some (.d (.int r2)),h2,by omega,hw.1,hw.2,hb2,?_⟩
     simp![b_law_cell_1,e2,hlo,hz1,hz2,lay,PyData.eqv,OV.view,OV.views,qk,ixN,atI]
   obtain⟨s1,w1,b2,o7',q1,q2,q3,q4,hb2,ek⟩:=key
   exact⟨_,_,by simp[tgF],ek,st++ [s1],wi++ [w1],b2,_,_,⟨by simp[hc.sl],by simp[hc.wl],hc.sn.snoc q1 q2,hc.wn.snoc q3 q4⟩,hb2,rfl⟩)
 rw[xn]at hc
 exact⟨st,wi,b',o6,o7,hc,hb',e⟩
theorem zb0(cf:CF)(ht:qG cf){b:OV}(hb:zr b)(bs:List Bool)(hl:bs.length<=1000){loose wet:Int}(h0:0<=loose)(h1:loose<=1000):Kj bs.length (runI 8 [true,false,false,false] [0] jw cf [b,.d (zv bs),.d (.int loose),.d (.int wet)]):=by
 obtain⟨st,wi,b1,o6,o7,hc,hb1,e1⟩:=Y6 cf ht hb bs hl (wet:=wet) h0 h1
 have hz1:st.length<=1000000:=by have:=hc.sl;omega
 have hz2:wi.length<=1000000:=by have:=hc.wl;omega
 by_cases hw:0<wet
 ·obtain⟨r2,b2,h2,h2',hb2,e2⟩:=ht b1 hb1 5 (by decide) (by decide)
  refine⟨st,wi,decide (r2<wet),b2,hc,hb2,?_⟩
  simp![jw,zv,OV.view,OV.views,qk,ixN,atI]
  simp only[zv]at e1
  simp![e1,e2,hw,hz1,hz2,JT,wc,zI,OV.view,OV.views,qk,ixN,atI]
 ·refine⟨st,wi,false,b1,hc,hb1,?_⟩
  simp![jw,zv,OV.view,OV.views,qk,ixN,atI]
  simp only[zv]at e1
  simp![e1,hw,hz1,hz2,JT,wc,zI,OV.view,OV.views,qk,ixN,atI]
noncomputable def y4 (cf:CF):Prop:=∀ b,zr b->∀ (bs:List Bool) (loose wet:Int),bs.length<=1000->0<=loose->loose<=1000->Kj bs.length (cf "_law_cell" [b,.d (zv bs),.d (.int loose),.d (.int wet)])
noncomputable def y9 (cf:CF):Prop:=∀ b,zr b->∀ (pots size:Nat),pots<=1000->size<=1000->y8 pots size (cf "_law_lacks" [b,.d (.int pots),.d (.int size)])
structure Cl where
 st:List Int
 w:Bool
 wi:List Int
noncomputable def Cl.D(c:Cl):PyData:=wc c.st c.w c.wi
noncomputable def Ki(pots size:Nat)(x:RF):Prop:=∃ (cs:List Cl) (b':OV),cs.length=size/\(∀ c∈cs,Qu pots c.st c.wi)/\zr b'/\x=.ok (.l (cs.map fun c=>.d c.D)) [some b',none,none,none]
theorem zbP(cf:CF)(ht:qG cf)(hlk:y9 cf)(hce:y4 cf){b:OV}(hb:zr b){pots size:Nat}(hp:pots<=1000)(hs:size<=1000){loose:Int}(h0:0<=loose)(h1:loose<=1000) :
  Ki pots size (runI 6 [true,false,false,false] [0] ZM cf [b,.d (.int pots),.d (.int size),.d (.int loose)]):=by
 obtain⟨wet,b1,g1,g1',hb1,e1⟩:=ht b hb 4 (by decide) (by decide)
 obtain⟨rows,b2,hl,hr,hb2,e2⟩:=hlk b1 hb1 pots size hp hs
 obtain⟨ys,Γ',e3,⟨cs,b3,hcl,hck,hb3,rfl,rfl⟩⟩:=Qa (k:=1) (t:=.nm 0 6) (cond:=fYes) (elt:=(b_law_bolt_1.ev cf).1) (ds:=rows.map zv) (Γ:= [some b2,some (.d (.int pots)),some (.d (.int size)),some (.d (.int loose)),some (.d (.int wet)),some (.d (.list (rows.map zv)))])
  (fun pre ys Γ=>∃ (cs:List Cl) (b':OV),cs.length=pre.length/\(∀ c∈cs,Qu pots c.st c.wi)/\zr b'/\ys=cs.map Cl.D/\Γ= [some b',some (.d (.int pots)),some (.d (.int size)),some (.d (.int loose)),some (.d (.int wet)),some (.d (.list (rows.map zv)))]) ⟨[],b2,rfl,(fun _ h=>nomatch h),hb2,rfl,rfl⟩ (by
   rintro pre d post e ys Γ ⟨cs,b3,hcl,hck,hb3,rfl,rfl⟩
   obtain⟨r,hrm,rfl⟩:∃ r∈rows,zv r=d:=by
    have:d∈rows.map zv:=by rw[e];simp
    exact xK.mp this
   have hrl:=hr r hrm
   obtain⟨st,wi,w,b4,hc,hb4,e4⟩:=hce b3 hb3 r loose wet (by omega) h0 h1
   rw[hrl]at hc
   refine⟨_,true,_,by simp[tgF];rfl,rfl,fun _=>?_,fun z=>nomatch z⟩
   refine⟨.dat (wc st w wi),[some b4,some (.d (.int pots)),some (.d (.int size)),some (.d (.int loose)),some (.d (.int wet)),some (.d (.list (rows.map zv))),some (.d (zv r))],wc st w wi,?_,rfl,cs++ [⟨st,w,wi⟩],b4,by simp[hcl],?_,hb4,by simp[Cl.D],by simp⟩
   ·simp![b_law_bolt_1,e4,OV.view,OV.views,qk,ixN,atI]
   ·intro c h
    rcases xF.mp h with h | h
    ·exact hck c h
    ·have:c=⟨st,w,wi⟩:=by simpa using h
     subst this;exact hc)
 rw[xn]at hcl
 refine⟨cs,b3,by omega,hck,hb3,?_⟩
 have hz:rows.length<=1000000:=by omega
 have hv:OV.views (rows.map fun r=>.d (zv r))=rows.map zv:=by rw[OV.views_map,xN];rfl
 simp![ZM,e1,e2,hv,hz,OV.view,OV.views,qk,ixN,atI]
 rw[e3]
 simp[outs]
end Wx
set_option maxHeartbeats 4000000
namespace Wx
open PySem L2 L3
theorem zc(n:Nat)(i:Int):lay n (.int i)=true:=by cases n<;>rfl
theorem wu(n:Nat)(i:Bool):lay n (.bool i)=true:=by cases n<;>rfl
theorem K7{n:Nat}{xs:List PyData}(h:∀ x∈xs,lay n x=true):lay (n+1) (.list xs)=true:=by rw[lay];exact xz.mpr h
theorem J5{n:Nat}{xs:List PyData}(h:∀ x∈xs,lay n x=true):lay (n+1) (.tuple xs)=true:=by rw[lay];exact xz.mpr h
theorem K6(n:Nat)(c:Cl):lay (n+2) c.D=true:=J5 fun x h=>by
 have:x=zI c.st∨x=.bool c.w∨x=zI c.wi:=by simpa using h
 rcases this with rfl | rfl | rfl
 ·exact J5 fun x h=>by obtain⟨i,_,rfl⟩:=xK.mp h;exact zc _ _
 ·exact wu _ _
 ·exact J5 fun x h=>by obtain⟨i,_,rfl⟩:=xK.mp h;exact zc _ _
theorem K5(n:Nat)(cs:List Cl):lay (n+3) (.list (cs.map Cl.D))=true:=K7 fun x h=>by
 obtain⟨c,_,rfl⟩:=xK.mp h
 exact K6 _ _
theorem zb7{n:Nat}{d:PyData}(h:lay n d=true):PyData.eqv d d=true:=PySem.SeqAt.eqv_refl d (zP n d h).1
theorem ze(i j:Int):PyData.eqv (.int i) (.int j)=(i==j):=rfl
noncomputable def lk(cs:List Cl)(d i:Nat):Bool:=match cs[i]? with
 |some c=>decide (c.st.getD d 0<c.wi.getD d 0)
 |none=>false
noncomputable def zm(cs:List Cl):PyData:=.list (cs.map Cl.D)
noncomputable def Bolt(pots:Nat)(cs:List Cl):Prop:=cs.length<=1000/\∀ c∈cs,Qu pots c.st c.wi
theorem WE{α:Type}(l:List α):l.filter (fun _=>true)=l:=List.filter_eq_self.mpr fun _ _=>rfl
theorem zbB(cf:CF)(i:Int):runI 1 [false] [] jP cf [.d (.int i)]=.ok (.d (.bool true)) [none]:=by
 simp![jP,OV.view,OV.views,qk,ixN,atI]
noncomputable def W8 (cf:CF):Prop:=∀ i:Int,cf "_law_whole" [.d (.int i)]=.ok (.d (.bool true)) [none]
noncomputable def y3 (cf:CF):Prop:=∀ b,zr b->∀ (pots size:Nat) (loose:Int),pots<=1000->size<=1000->0<=loose->loose<=1000->Ki pots size (cf "_law_bolt" [b,.d (.int pots),.d (.int size),.d (.int loose)])
end Wx
set_option maxHeartbeats 4000000
namespace Wx
open PySem L2 L3
end Wx
set_option maxHeartbeats 4000000
namespace Wx
open PySem L2 L3
noncomputable def tS(i:Int):Str:=Str.ofString (toString i)
theorem zaa{i:Int}(h:i.natAbs<1000000000):i.natAbs.log2<1920:=by
 by_cases h0:i.natAbs=0
 ·rw[h0];decide
 ·rw[Nat.log2_lt h0]
  exact Nat.lt_trans h (by decide)
theorem zfB{i:Int}(h:i.natAbs<1000000000):(tS i).length<=1921:=PyProof.Rows.int_text_len_1921 (zaa h)
theorem VR(s:String):PyData.strOk (Str.ofString s)=true:=by
 rw[Str.ofString_eq_toList]
 unfold PyData.strOk
 rw[uv]
 intro i hi
 have key:∀ c:Char,c.toNat<0x110000:=fun c=>by
  have:=c.valid
  rcases this with h | h
  ·have h1:c.toNat<0xd800:=h
   omega
  ·exact h.2
 simp only[decide_eq_true_eq]
 have:∀ x∈(s.toList.map Char.toNat),x<0x110000:=fun x hx=>by
  obtain⟨c,_,rfl⟩:=xK.mp hx
  exact key c
 have hi':i<(s.toList.map Char.toNat).length:=by simpa using hi
 have:=this _ (ul hi')
 simpa using this
theorem Yo(sep:Str)(ys:List Str):Txt.join sep ys=Str.join sep ys:=StrLaws.glued_eq_join sep ys
inductive Deed where
 |hang (n:Str) (k:Int)
 |fold (n:Str)
 |twin (n m:Str)
 |wish (n:Str) (k:Int) (sh:List Int)
 |wax (n:Str) (cs:List Int)
 |dip (ns:List Str) (k:Int)
 |boil (ns:List Str)
 |brew (k:Int)
noncomputable def zdJ(ns:List Str):PyData:=.tuple (ns.map .str)
noncomputable def Deed.D:Deed->PyData
 |.hang n k=>.tuple [.str "hang",.str n,.int k]
 |.fold n=>.tuple [.str "fold",.str n]
 |.twin n m=>.tuple [.str "twin",.str n,.str m]
 |.wish n k sh=>.tuple [.str "wish",.str n,.int k,zI sh]
 |.wax n cs=>.tuple [.str "wax",.str n,zI cs]
 |.dip ns k=>.tuple [.str "dip",zdJ ns,.int k]
 |.boil ns=>.tuple [.str "boil",zdJ ns]
 |.brew k=>.tuple [.str "brew",.int k]
noncomputable def Nm(x:Str):Prop:=1<=x.length/\x.length<=8/\∀ c∈x.cps.toList,97<=c/\c<=122
noncomputable def Nb(i:Int):Prop:=0<=i/\i<1000000
noncomputable def Deed.Ok:Deed->Prop
 |.hang n k=>Nm n/\Nb k
 |.fold n=>Nm n
 |.twin n m=>Nm n/\Nm m
 |.wish n k sh=>Nm n/\Nb k/\sh.length<=12/\∀ x∈sh,0<=x/\x<=9
 |.wax n cs=>Nm n/\cs.length<=8/\∀ x∈cs,Nb x
 |.dip ns k=>ns.length<=4/\(∀ n∈ns,Nm n)/\Nb k
 |.boil ns=>ns.length<=4/\∀ n∈ns,Nm n
 |.brew k=>Nb k
theorem Nm.ok{x:Str}(h:Nm x):PyData.strOk x=true:=by
 unfold PyData.strOk
 rw[uv]
 intro i hi
 have:=(h.2.2 x.cps[i] (by simp)).2
 simp only[decide_eq_true_eq];omega
theorem Nb.abs{i:Int}(h:Nb i):i.natAbs<1000000000:=by have:=h.1;have:=h.2;omega
noncomputable def shS (sh:List Int):Str:=if sh.isEmpty then "-" else Str.join "" (sh.map tS)
noncomputable def Deed.words:Deed->List Str
 |.hang n k=> ["hang",n,tS k]
 |.fold n=> ["fold",n]
 |.twin n m=> ["twin",n,m]
 |.wish n k sh=> ["wish",n,tS k,shS sh]
 |.wax n cs=> "wax" ::n::cs.map tS
 |.dip ns k=> "dip" ::tS k::ns
 |.boil ns=> "boil" ::ns
 |.brew k=> ["brew",tS k]
noncomputable def Deed.row (d:Deed):Str:=Str.join " " d.words
theorem zb(x:PyData):(OV.d x).view=x:=rfl
theorem qK(s:String)(n:Nat):lay n (.str (Str.ofString s))=true:=by
 have:=VR s
 cases n<;>exact this
end Wx
set_option maxHeartbeats 4000000
namespace Wx
open PySem L2 L3
theorem zfx{ys:List Str}{m:Nat}(h:∀ y∈ys,y.length<=m):(ys.map (·.length)).sum<=m*ys.length:=by
 induction ys with
 |nil=>simp
 |cons y r ih=>
  have h1:=h y (by simp)
  have h2:=ih fun z hz=>h z (xj _ hz)
  simp only[xq,List.sum_cons,xo]
  rw[Nat.mul_succ];omega
theorem zcd{sep:Str}{ys:List Str}(hs:sep.length<=16)(h:∀ y∈ys,y.length<=2000)(hl:ys.length<=400):Qf sep (.list (ys.map .str))=some (.str (Str.join sep ys)):=by
 have h1:=wN ys
 have h2:=zfx h
 have h3:2000*ys.length<=2000*400:=Nat.mul_le_mul_left _ hl
 unfold Qf
 simp only[h1]
 rw[if_pos ⟨by omega,hs⟩,Yo]
noncomputable def tD:PyData->PyData
 |.int i=>.str (tS i)
 |.str x=>.str x
 |_=>.none
theorem zdb(xs:List Int):(xs.map PyData.int).map tD=(xs.map tS).map .str:=by rw[xN,xN];rfl
theorem KU{i:Int}(h:i.natAbs<1000000000):yx (.int i)=some (.str (tS i)):=by
 unfold yx
 simp only[zaa h,if_true]
 rfl
theorem kM(cf:CF){body:IE}{k:Nat}(hb:body=.str (.var 0 k)){xs:List PyData}{Γ:Gv}(hk:Γ.length=k)(hx:∀ x∈xs,(∃ i:Int,x=.int i/\i.natAbs<1000000000)∨∃ z,x=.str z) :
  zW 1 (.nm 0 k) fYes (body.ev cf).1 xs [] Γ=.ok (xs.map tD,Γ):=by
 have e:=WD (k:=1) (t:=.nm 0 k) (cond:=fYes) (elt:=(body.ev cf).1) (ds:=xs) (Γ:=Γ) (fun _=>true) tD (by
  intro x hxm
  have hg:yx x=some (tD x):=by
   rcases hx x hxm with ⟨i,rfl,hi⟩ | ⟨z,rfl⟩
   ·exact KU hi
   ·rfl
  have hset:(Γ++List.replicate 1 none).set k (some (.d x))=Γ++ [some (.d x)]:=by rw[<- hk];exact j6 Γ (OV.d x)
  have hget:(Γ++ [some (OV.d x)])[k]?=some (some (.d x)):=by rw[<- hk,xf (xi _)];simp
  have hlt:k<(Γ++List.replicate 1 (none:Option OV)).length:=by simp;omega
  refine⟨Γ++ [some (.d x)],_,?_,rfl,by simp,fun _=>⟨.dat (tD x),Γ++ [some (.d x)],?_,rfl,by simp⟩⟩
  ·unfold tgF
   first
    | (rw[if_pos hlt,hset])
    | (rw[hset])
    | (simp only[hset])
  ·subst hb
   simp![hget,hg])
 rw[WE]at e
 exact e
theorem kO{sh:List Int}(h:∀ x∈sh,0<=x/\x<=9):∀ y∈sh.map tS,y.length<=2000:=fun y hy=>by
 obtain⟨i,hi,rfl⟩:=xK.mp hy
 have:=h i hi
 have:=zfB (i:=i) (by omega)
 omega
theorem yv(cf:CF){sh:List Int}(hl:sh.length<=12)(h:∀ x∈sh,0<=x/\x<=9):runI 1 [false] [] jg cf [.d (zI sh)]=.ok (.d (.str (shS sh))) [none]:=by
 have e:=kM cf (body:=qH) (k:=1) rfl (xs:=sh.map .int) (Γ:= [some (.d (zI sh))]) rfl (fun x hx=>by
  obtain⟨i,hi,rfl⟩:=xK.mp hx
  have:=h i hi
  exact .inl ⟨i,rfl,by omega⟩)
 rw[zdb]at e
 have hj:=zcd (sep:= "") (by decide) (kO h) (by simp;omega)
 have hz:(sh.map PyData.int).length<=1000000:=by simp;omega
 unfold jg shS
 generalize qH=B at *
 simp only[zI]at *
 cases sh with
 |nil=>simp![ze,zc]
 |cons a r=>
  have hne:((((a::r).map PyData.int).length:Int)==0)=false:=by rw[beq_eq_false_iff_ne];simp;omega
  have hne2:((a::r).map PyData.int).length≠0:=by simp
  have hze:((a::r).isEmpty)=false:=rfl
  generalize ((a::r).map tS).map PyData.str=TT at *
  generalize (a::r).map PyData.int=NN at *
  simp![hne,hne2,hze,hz,e,hj,ze,zc]
noncomputable def Wg (cf:CF):Prop:=∀ sh:List Int,sh.length<=12->(∀ x∈sh,0<=x/\x<=9)->cf "_law_figures" [.d (zI sh)]=.ok (.d (.str (shS sh))) [none]
theorem zdd{i:Int}(h:i.natAbs<1000000000):(tS i).length<=11:=by
 have:=int_text_length_le10 (a:=i) (k:=9) (by decide) (by omega)
 unfold tS
 rw[Str.ofString_eq_toList]
 show (List.toArray _).size<=_
 simp
 exact xA this (by decide)
theorem Nm.len{n:Str}(h:Nm n):n.length<=2000:=by have:=h.2.1;omega
theorem Nb.len{i:Int}(h:Nb i):(tS i).length<=2000:=by have:=zdd h.abs;omega
theorem JD(sep a:Str):∀ {l:List Str},l≠ []->Str.join sep (l++ [a])=Str.join sep l++sep++a
 |[],h=>absurd rfl h
 |[x],_=>rfl
 |x::y::r,_=>by
  have e:Str.join sep (x::y::r++ [a])=x++sep++Str.join sep (y::r++ [a]):=rfl
  have e2:Str.join sep (x::y::r)=x++sep++Str.join sep (y::r):=rfl
  rw[e,e2,JD sep a (l:=y::r) (by simp)]
  simp only[ZY]
theorem Nb.tok(i:Int):PyData.strOk (tS i)=true:=VR _
end Wx
namespace Wx
open PySem L2 L3
noncomputable def qg:IB:=(.cons (.ite (.not (.call (.call "is_plain" 1 (.cons (.var 0 0) .nil)))) (.cons (.ret (.dat .cnone)) .nil) .nil) (.cons (.ret (.dat (.sint (.var 0 0)))) .nil))
noncomputable def qy:IB:=(.cons (.ite (.not (.chain .LtE .LtE (.cint 1) (.slen (.var 0 0)) (.gint "MOST_FIGURES" (6)))) (.cons (.ret (.dat (.cbool false))) .nil) .nil) (.cons (.ite (.cmp .Eq (.six (.var 0 0) (.cint 0)) (.cstr "0")) (.cons (.ret (.dat (.cmp .Eq (.var 0 0) (.cstr "0")))) .nil) .nil) (.cons (.ret (.call "are_figures" 1 (.cons (.var 0 0) .nil))) .nil)))
noncomputable def zw:IE:=(.sint (.var 0 1))
noncomputable def zC:IB:=(.cons (.ite (.cmp .Eq (.var 0 0) (.gstr "NO_SHADES" "-")) (.cons (.ret (.dat (.tup .nil))) .nil) .nil) (.cons (.ite (.or (.not (.chain .LtE .LtE (.cint 1) (.slen (.var 0 0)) (.gint "MOST_POTS" (12)))) (.not (.call (.call "are_figures" 1 (.cons (.var 0 0) .nil))))) (.cons (.ret (.dat .cnone)) .nil) .nil) (.cons (.ret (.dat (.tuple (.new (.comp 1 1 [] ["sign"] (.nm 0 1) (.chars (.var 0 0)) .yes zw))))) .nil)))
noncomputable def z9:IE:=(.sin (.var 0 1) (.gstr "FIGURES" "0123456789"))
noncomputable def ji:IB:=(.cons (.ret (.dat (.all (.new (.comp 1 1 [] ["sign"] (.nm 0 1) (.chars (.var 0 0)) .yes z9))))) .nil)
end Wx
set_option maxHeartbeats 4000000
namespace Wx
open PySem L2 L3
noncomputable abbrev ch(c:Nat):Str:=⟨#[c]⟩
theorem jK{x:Str}(h:∀ c∈x.cps.toList,c<=127):x.cps.all (·<128)=true:=by
 rw[uv]
 intro i hi
 have:=h x.cps[i] (by simp)
 simp only[decide_eq_true_eq];omega
end Wx
namespace Wx
open PySem PySem.Builtin PySem.Builtin.Str L2 L3
theorem zV(a y:Str):(a++y).cps.toList=a.cps.toList++y.cps.toList:=PySem.W.KT.app_list a y
theorem je{a b:Str}(h:a.cps.toList=b.cps.toList):a=b:=by
 cases a;cases b
 rw[Str.mk.injEq]
 exact Array.toList_inj.mp h
theorem Yx{c:Nat}:∀ {x y A B:List Nat},c∉x->c∉y->x++c::A=y++c::B->x=y/\A=B
 |[],[],A,B,_,_,e=>by simpa using e
 |[],b::y,A,B,_,h2,e=>by
  rw[xP,xX,List.cons.injEq]at e
  exact absurd (by rw[e.1];exact xp) h2
 |a::x,[],A,B,h1,_,e=>by
  rw[xP,xX,List.cons.injEq]at e
  exact absurd (by rw[<- e.1];exact xp) h1
 |a::x,b::y,A,B,h1,h2,e=>by
  rw[xX,xX,List.cons.injEq]at e
  obtain⟨e1,e2⟩:=Yx (fun z=>h1 (xj _ z)) (fun z=>h2 (xj _ z)) e.2
  exact⟨by rw[e.1,e1],e2⟩
theorem jU(c:Nat)(x y:Str)(r:List Str):(Str.join (ch c) (x::y::r)).cps.toList=x.cps.toList++c::(Str.join (ch c) (y::r)).cps.toList:=by
 have e:Str.join (ch c) (x::y::r)=x++ch c++Str.join (ch c) (y::r):=rfl
 rw[e,zV,zV]
 simp
theorem Vv{c:Nat}:∀ {l l':List Str},l≠ []->l'≠ []->(∀ p∈l,c∉p.cps.toList)->(∀ p∈l',c∉p.cps.toList)->Str.join (ch c) l=Str.join (ch c) l'->l=l'
 |[],_,h,_,_,_,_=>absurd rfl h
 |_,[],_,h,_,_,_=>absurd rfl h
 |[x],[y],_,_,_,_,e=>by
  have e:x=y:=e
  rw[e]
 |[x],y::z::r,_,_,h1,_,e=>by
  have e':=congrArg (fun s:Str=>s.cps.toList) e
  rw[jU]at e'
  have e'':x.cps.toList=y.cps.toList++c::(Str.join (ch c) (z::r)).cps.toList:=e'
  exact absurd (by rw[e''];simp) (h1 x (by simp))
 |x::w::r,[y],_,_,_,h2,e=>by
  have e':=congrArg (fun s:Str=>s.cps.toList) e
  rw[jU]at e'
  have e'':x.cps.toList++c::(Str.join (ch c) (w::r)).cps.toList=y.cps.toList:=e'
  exact absurd (by rw[<- e''];simp) (h2 y (by simp))
 |x::w::r,y::z::t,_,_,h1,h2,e=>by
  have e':=congrArg (fun s:Str=>s.cps.toList) e
  rw[jU,jU]at e'
  obtain⟨e1,e2⟩:=Yx (h1 x (by simp)) (h2 y (by simp)) e'
  rw[je e1,Vv (l:=w::r) (l':=z::t) (by simp) (by simp) (fun p hp=>h1 p (xj _ hp)) (fun p hp=>h2 p (xj _ hp)) (je e2)]
theorem za4{c:Nat}{ws:List Str}(h:ws≠ [])(hf:∀ p∈ws,c∉p.cps.toList):Txt.split (Str.join (ch c) ws) (ch c)=ws:=by
 refine Vv (c:=c) ?_ h (StrLaws.split_free _ c) hf (StrLaws.join_split _ _)
 intro e
 have:=PyProof.Rows.split_pos (Str.join (ch c) ws) (ch c)
 rw[e]at this
 exact absurd this (by decide)
theorem zb6(y:Str)(c:Nat):Txt.endswith (y++ch c) (ch c)=true:=PySem.W.KT.ends_app y (ch c)
theorem zee(y:Str)(c:Nat):Txt.slice (y++ch c) none (some (-1))=y:=by
 have hl:(y++ch c).length=y.length+1:=j7 y (ch c)
 rw[PyProof.Rows.slice_to_neg (by decide)]
 have e:max 0 (((y++ch c).length:Int)+ -1)=(y.length:Int):=by rw[hl];omega
 rw[e]
 have:=beq_iff_eq.mp (PyProof.Rows.slice_closes_toL (x:=y++ch c) (j:=(y.length:Int)) (by omega) (by rw[hl];omega))
 rw[this]
 apply je
 rw[zV]
 simp[Str.length]
theorem zgN{m:Nat}:(tS (m:Int)).cps.toList=(Nat.toDigits 10 m).map Char.toNat:=PySem.W.KIN.signs_num m
theorem KI{m:Nat}:∀ c∈(Nat.toDigits 10 m).map Char.toNat,48<=c/\c<=57:=by
 intro c hc
 obtain⟨k,hk,rfl⟩:=xK.mp hc
 exact PyProof.Rows.digit_range (Nat.isDigit_of_mem_toDigits (by decide) (by decide) hk)
theorem zf1(m:Nat):Nat.toDigits 10 m≠ []:=by
 by_cases h:m<10
 ·rw[Nat.toDigits_of_lt_base h];simp
 ·have hm:m % 10<10:=Nat.mod_lt m (by decide)
  have t:Nat.toDigits 10 (m / 10)++Nat.toDigits 10 (m % 10)=Nat.toDigits 10 (10*(m / 10)+m % 10):=Nat.toDigits_append_toDigits (by decide) (by omega) hm
  rw[Nat.div_add_mod]at t
  rw[<- t,Nat.toDigits_of_lt_base hm];simp
theorem zag{i:Int}(h:Nb i):∃ m:Nat,i=m/\m<1000000:=⟨i.toNat,by have:=h.1;omega,by have:=h.1;have:=h.2;omega⟩
theorem zbc{i:Int}(h:Nb i):1<=(tS i).length/\(tS i).length<=6:=by
 refine⟨?_,PyProof.Rows.toString_length_le h.1 (k:=6) (by decide) h.2⟩
 obtain⟨m,rfl,hm⟩:=zag h
 have:=zgN (m:=m)
 have hl:(tS (m:Int)).cps.toList.length=(tS (m:Int)).length:=xS
 rw[this,xn]at hl
 have hne:=zf1 m
 have:0<(Nat.toDigits 10 m).length:=List.length_pos_iff.mpr hne
 omega
theorem zfA{i:Int}(h:Nb i):∀ c∈(tS i).cps.toList,48<=c/\c<=57:=by
 obtain⟨m,rfl,hm⟩:=zag h
 rw[zgN];exact KI
theorem zfC{i:Int}(h0:0<=i)(h9:i<=9):∃ c:Nat,tS i=ch c/\48<=c/\c<=57:=by
 have:∀ k:Fin 10,(tS ((k:Nat):Int)).cps.toList= [48+(k:Nat)]:=by decide +kernel
 have e:=this ⟨i.toNat,by omega⟩
 have ei:((i.toNat:Nat):Int)=i:=by omega
 rw[ei]at e
 exact⟨48+i.toNat,je (by rw[e]),by omega,by omega⟩
theorem zff{sh:List Int}(h:∀ x∈sh,0<=x/\x<=9)(hne:sh≠ []):∃ cs:List Nat,shS sh=⟨cs.toArray⟩/\cs.length=sh.length/\(∀ c∈cs,48<=c/\c<=57)/\cs.map (fun c=>ch c)=sh.map tS:=by
 have key:∀ sh:List Int,(∀ x∈sh,0<=x/\x<=9)->∃ cs:List Nat,cs.length=sh.length/\(∀ c∈cs,48<=c/\c<=57)/\cs.map (fun c=>ch c)=sh.map tS:=by
  intro sh
  induction sh with
  |nil=>exact fun _=>⟨[],rfl,(fun _ z=>nomatch z),rfl⟩
  |cons a r ih=>
   intro h
   obtain⟨cs,h1,h2,h3⟩:=ih fun x hx=>h x (xj _ hx)
   obtain⟨c,e,hc⟩:=zfC (h a (by simp)).1 (h a (by simp)).2
   refine⟨c::cs,by simp[h1],fun x hx=>?_,by rw[xq,xq,h3,e]⟩
   rcases xy.mp hx with rfl | hx
   ·exact hc
   ·exact h2 x hx
 obtain⟨cs,h1,h2,h3⟩:=key sh h
 refine⟨cs,?_,h1,h2,h3⟩
 unfold shS
 have:sh.isEmpty=false:=by cases sh with
  |nil=>exact absurd rfl hne
  |cons _ _=>rfl
 rw[this]
 simp only[xQ,if_false]
 rw[<- h3]
 exact PyProof.Rows.join_ones cs
theorem YB:(Str.ofString " ")=ch 32:=by decide +kernel
theorem Vz:(Str.ofString "\n")=ch 10:=by decide +kernel
end Wx
set_option maxHeartbeats 4000000
namespace Wx
open PySem L2 L3
theorem wM{x:Str}(h:∀ c∈x.cps.toList,c<=127):PyData.strOk x=true:=by
 unfold PyData.strOk
 rw[uv]
 intro i hi
 have:=h x.cps[i] (by simp)
 simp only[decide_eq_true_eq];omega
end Wx
set_option maxHeartbeats 4000000
namespace Wx
open PySem L2 L3
theorem qQ{α:Type}{k:Nat}{t:IT}{elt:EM FV}(g f:α->PyData){xs:List α}{Γ:Gv}
  (hs:∀ a∈xs,∃ Γ2 u Γ4,tgF t (g a) (Γ++List.replicate k none)=some Γ2/\elt Γ2=.ok (u,Γ4)/\derS Γ4 u=some (f a)/\Γ4.take Γ.length=Γ) :
  zW k t fYes elt (xs.map g) [] Γ=.ok (xs.map f,Γ):=by
 obtain⟨ys,Γ',e,hy,rfl⟩:=Qa (k:=k) (t:=t) (cond:=fYes) (elt:=elt) (fun pre ys Γ'=>ys=(xs.take pre.length).map f/\Γ'=Γ) (ds:=xs.map g) (Γ:=Γ) ⟨rfl,rfl⟩ (by
  rintro pre d post e ys Γ' ⟨rfl,rfl⟩
  have hlen:pre.length<xs.length:=by
   have:=congrArg List.length e
   simp at this;omega
  have hd:d=g xs[pre.length]:=by
   have h1:(xs.map g)[pre.length]?=some d:=by rw[e];simp
   rw[xB,xC hlen]at h1
   exact (Option.some.inj h1).symm
  obtain⟨Γ2,u,Γ4,e1,e2,e3,e4⟩:=hs xs[pre.length] (ul hlen)
  rw[<- hd]at e1
  refine⟨Γ2,true,Γ2,e1,rfl,fun _=>⟨u,Γ4,f xs[pre.length],e2,e3,?_,e4⟩,fun z=>nomatch z⟩
  rw[xw,ui,List.take_add_one,ug,xC hlen]
  rfl)
 rw[e]
 rw[hy]
 simp
theorem cut1{α:Type}(x:α)(r:List α):Qb (x::r) (some 1) none=r:=by
 unfold Qb
 have h1:HT.sIx (x::r).length 0 (some 1)=1:=by simp[HT.sIx]
 have h2:HT.sIx (x::r).length (x::r).length none=(x::r).length:=by simp[HT.sIx]
 rw[h1,h2]
 simp
section
variable (cf:CF)
theorem a0{x:PyData}{r:List PyData}:atI (x::r) 0=some x:=jv (j:=0) rfl
theorem a1{x y:PyData}{r:List PyData}:atI (x::y::r) 1=some y:=jv (j:=1) rfl
theorem a2{x y z:PyData}{r:List PyData}:atI (x::y::z::r) 2=some z:=jv (j:=2) rfl
end
end Wx
set_option maxHeartbeats 4000000
namespace Wx
open PySem L2 L3
noncomputable def Leaf:PyData->Prop
 |.str _=>True
 |.int _=>True
 |_=>False
noncomputable def Part:PyData->Prop
 |.str _=>True
 |.int _=>True
 |.tuple ys=>(∀ y∈ys,Leaf y)/\ys.length<=500000
 |_=>False
theorem vA{n:Nat}{x:Str}(h:PyData.strOk x=true):lay n (.str x)=true:=by cases n<;>exact h
end Wx
namespace Wx
open PySem L2 L3
noncomputable def ZN:IB:=(.cons (.asg 1 1 (.dat (.cstr " !\"#$&'()*+,-./0123456789:;<=>?@ABCDEFGHIJKLMNOPQRSTUVWXYZ[\\]^_`abcdefghijklmnopqrstuvwxyz{|}~\n"))) (.cons (.ite (.cmp .Eq (.call (.call "_law_take" 2 (.io 0 0 (.cons (.cint 2) .nil)))) (.cint 0)) (.cons (.ret (.dat (.six (.var 1 1) (.call (.call "_law_take" 2 (.io 0 0 (.cons (.slen (.var 1 1)) .nil))))))) .nil) .nil) (.cons (.ret (.dat (.six (.cstr " 0123456789-*.abz\n") (.call (.call "_law_take" 2 (.io 0 0 (.cons (.cint 18) .nil))))))) .nil)))
noncomputable def zM:IE:=(.sin (.var 0 1) (.cstr "0123456789"))
noncomputable def qI:IB:=(.cons (.ite (.or (.cmp .Eq (.slen (.var 0 0)) (.cint 0)) (.or (.cmp .Gt (.slen (.var 0 0)) (.cint 6)) (.not (.all (.new (.comp 1 1 [] ["_law_sign_here"] (.nm 0 1) (.chars (.var 0 0)) .yes zM)))))) (.cons (.ret (.dat (.cbool false))) .nil) .nil) (.cons (.ret (.dat (.or (.cmp .Eq (.slen (.var 0 0)) (.cint 1)) (.cmp .NotEq (.six (.var 0 0) (.cint 0)) (.cstr "0"))))) .nil))
noncomputable def zJ:IE:=(.sin (.var 0 1) (.cstr "0123456789"))
noncomputable def qr:IB:=(.cons (.ret (.dat (.or (.cmp .Eq (.var 0 0) (.cstr "-")) (.and (.chain .Lt .Lt (.cint 0) (.slen (.var 0 0)) (.cint 13)) (.all (.new (.comp 1 1 [] ["_law_sign_here"] (.nm 0 1) (.chars (.var 0 0)) .yes zJ))))))) .nil)
noncomputable def zY:IE:=(.sint (.var 0 1))
noncomputable def qA:IB:=(.cons (.ite (.cmp .Eq (.var 0 0) (.cstr "-")) (.cons (.ret (.dat (.tup .nil))) .nil) .nil) (.cons (.ret (.dat (.tuple (.new (.comp 1 1 [] ["_law_sign_here"] (.nm 0 1) (.chars (.var 0 0)) .yes zY))))) .nil))
noncomputable def b_law_spoilt_1:IB:=(.cons (.asg 3 3 (.dat (.call (.call "_law_take" 2 (.io 0 0 (.cons (.bin .Add (.slen (.var 1 1)) (.cint 1)) .nil)))))) (.cons (.asg 4 4 (.dat (.call (.call "_law_take" 2 (.io 0 0 (.cons (.cint 4) .nil)))))) (.cons (.ite (.cmp .Eq (.var 4 4) (.cint 0)) (.cons (.asg 1 1 (.dat (.sadd (.sadd (.cutS (.var 1 1) .non (.one (.var 3 3))) (.call (.call "_law_sign" 1 (.io 0 0 .nil)))) (.cutS (.var 1 1) (.one (.var 3 3)) .non)))) .nil) (.cons (.ite (.cmp .Eq (.var 4 4) (.cint 1)) (.cons (.asg 1 1 (.dat (.sadd (.cutS (.var 1 1) .non (.one (.var 3 3))) (.cutS (.var 1 1) (.one (.bin .Add (.var 3 3) (.cint 1))) .non)))) .nil) (.cons (.ite (.cmp .Eq (.var 4 4) (.cint 2)) (.cons (.asg 1 1 (.dat (.sadd (.sadd (.cutS (.var 1 1) .non (.one (.var 3 3))) (.call (.call "_law_sign" 1 (.io 0 0 .nil)))) (.cutS (.var 1 1) (.one (.bin .Add (.var 3 3) (.cint 1))) .non)))) .nil) (.cons (.asg 1 1 (.dat (.sadd (.cutS (.var 1 1) .non (.one (.var 3 3))) (.cutS (.var 1 1) (.one (.max (.cint 0) (.bin .Sub (.var 3 3) (.cint 2)))) .non)))) .nil)) .nil)) .nil)) .nil)))
noncomputable def jy:IB:=(.cons (.loop (.nm 2 2) (.range (.bin .Add (.cint 1) (.call (.call "_law_take" 2 (.io 0 0 (.cons (.cint 2) .nil)))))) b_law_spoilt_1) (.cons (.ret (.dat (.var 1 1))) .nil))
end Wx
set_option maxHeartbeats 4000000
namespace Wx
open PySem L2 L3
noncomputable def Tx(x:Str):Prop:=(∀ c∈x.cps.toList,c<=127)/\x.length<=450000
noncomputable def isL(c:Nat):Bool:=decide (97<=c)&&decide (c<=122)
noncomputable def isF(c:Nat):Bool:=decide (48<=c)&&decide (c<=57)
theorem yu (c:Nat) (h:c<=127):Txt.contains (Str.ofString "0123456789") (ch c)=isF c:=by
 have:∀ k:Fin 128,Txt.contains (Str.ofString "0123456789") (ch k)=isF k:=by decide +kernel
 exact this ⟨c,by omega⟩
theorem yf(cf:CF){body:IE}{p:Nat->Bool}{x:Str}{D:OV}(h:∀ c∈x.cps.toList,(body.ev cf).1 [some D,some (.d (.str (ch c)))]=.ok (.dat (.bool (p c)),[some D,some (.d (.str (ch c)))])) :
  zW 1 (.nm 0 1) fYes (body.ev cf).1 (qD x) [] [some D]=.ok ((x.cps.toList.map p).map .bool,[some D]):=by
 have:=qQ (k:=1) (t:=.nm 0 1) (elt:=(body.ev cf).1) (fun c=>PyData.str (ch c)) (fun c=>PyData.bool (p c)) (xs:=x.cps.toList) (Γ:= [some D]) fun c hc=>⟨[some D,some (.d (.str (ch c)))],.dat (.bool (p c)),_,rfl,h c hc,rfl,rfl⟩
 rw[xN];exact this
theorem js{x:Str}(h:Tx x):(qD x).length<=1000000:=by
 have e:(qD x).length=x.length:=by unfold qD;simp[Str.length]
 have:=h.2;omega
noncomputable def nmB(x:Str):Bool:=decide (1<=x.length)&&decide (x.length<=8)&&(x.cps.toList.map isL).all id
noncomputable def ZT(x:Str):Bool:=(x.cps.toList.map isF).all id
noncomputable def nbB(x:Str):Bool:=decide (1<=x.length)&&decide (x.length<=6)&&ZT x&&(decide (x.length=1)||x.cps.toList.head? !=some 48)
noncomputable def shB (x:Str):Bool:=decide (x=Str.ofString "-")||(decide (1<=x.length)&&decide (x.length<=12)&&ZT x)
noncomputable def VG(x:Str):PyData:=.int ((NumText.digitsVal x.cps.toList:Nat):Int)
noncomputable def shD (x:Str):List PyData:=if x=Str.ofString "-" then [] else x.cps.toList.map fun c=>.int ((NumText.digitsVal [c]:Nat):Int)
theorem W9(cf:CF){x:Str}(h:Tx x):runI 1 [false] [] ji cf [.d (.str x)]=.ok (.d (.bool (ZT x))) [none]:=by
 have ha:=jK (x:=x) h.1
 have e:=yf cf (body:=z9) (p:=isF) (x:=x) (D:=.d (.str x)) fun c hc=>by
  have:=yu c (h.1 c hc)
  unfold z9
  generalize ch c=cc at *
  simp![yw,this]
 have hcl:=js h
 unfold ji ZT
 generalize z9=B at *
 generalize (x.cps.toList.map isF)=bs at *
 simp![qR,ha,hcl,e,zy]
noncomputable def yb (cf:CF):Prop:=∀ x,Tx x->cf "are_figures" [.d (.str x)]=.ok (.d (.bool (ZT x))) [none]
theorem Tx.ok{x:Str}(h:Tx x)(n:Nat):lay n (.str x)=true:=vA (wM h.1)
theorem Tx.len{x:Str}(h:Tx x):x.length<=1000000:=by have:=h.2;omega
theorem z8(x y:Str):PyData.eqv (.str x) (.str y)=decide (x=y):=rfl
theorem zbF:(Str.ofString "0").cps.toList= [48]:=by decide +kernel
theorem zeB{x:Str}{c:Nat}(h:x.cps.toList= [c]):x=ch c:=je (by rw[h])
theorem kg(cf:CF)(hf:yb cf){x:Str}(h:Tx x):runI 1 [false] [] qy cf [.d (.str x)]=.ok (.d (.bool (nbB x))) [none]:=by
 have e:=hf x h
 have hz:=h.len
 have hl:=h.ok 20
 have l0:lay 20 (.str (Str.ofString "0"))=true:=qK "0" 20
 have hcl:x.cps.toList.length=x.length:=xS
 unfold nbB
 by_cases h1:1<=x.length
 ·have i1:(1:Int)<=(x.length:Int):=by omega
  by_cases h2:x.length<=6
  ·have i2:(x.length:Int)<=6:=by omega
   obtain⟨c,r,hc⟩:∃ c r,x.cps.toList=c::r:=by
    cases q:x.cps.toList with
    |nil=>rw[q]at hcl;simp at hcl;omega
    |cons a r=>exact⟨a,r,rfl⟩
   have hat:atI x.cps.toList 0=some c:=by rw[hc];exact jv (j:=0) rfl
   have lc:lay 20 (.str (ch c))=true:=vA (wM fun d hd=>by
    have:d=c:=by simpa using hd
    rw[this];exact h.1 c (by rw[hc];simp))
   have q1:PyData.eqv (.str (ch c)) (.str (Str.ofString "0"))=decide (c=48):=by
    rw[z8]
    congr 1
    apply propext
    constructor
    ·intro z
     have:=congrArg (fun s:Str=>s.cps.toList) z
     rw[zbF]at this
     simpa using this
    ·rintro rfl;decide +kernel
   have q2:c=48->PyData.eqv (.str x) (.str (Str.ofString "0"))=(ZT x&&decide (x.length=1)):=fun hc0=>by
    rw[z8,uB]
    simp only[decide_eq_true_eq,xa]
    constructor
    ·rintro rfl;decide +kernel
    ·rintro⟨_,z⟩
     rw[<- hcl,hc]at z
     have hr:r= []:=by simpa using z
     subst hr
     rw[zeB hc,hc0];decide +kernel
   have hh:x.cps.toList.head?=some c:=by rw[hc];rfl
   by_cases hc0:c=48
   ·have q2':=q2 hc0
    have q1':PyData.eqv (.str (ch c)) (.str (Str.ofString "0"))=true:=by rw[q1];simp[hc0]
    have hh2:(x.cps.toList.head? !=some 48)=false:=by rw[hh,hc0];rfl
    simp![qy,zN,Vo,hz,i1,i2,h1,h2,hat,hl,lc,l0,q1',q2',hh2]
   ·have q1':PyData.eqv (.str (ch c)) (.str (Str.ofString "0"))=false:=by rw[q1];simp[hc0]
    have hh2:(x.cps.toList.head? !=some 48)=true:=by rw[hh];simp[hc0]
    simp![qy,zN,Vo,hz,i1,i2,h1,h2,hat,hl,lc,l0,q1',hh2,e]
  ·have i2:¬ (x.length:Int)<=6:=by omega
   simp![qy,zN,hz,i1,i2,h1,h2]
 ·have i1:¬ (1:Int)<=(x.length:Int):=by omega
  simp![qy,zN,hz,i1,h1]
noncomputable def vV (cf:CF):Prop:=∀ x,Tx x->cf "is_plain" [.d (.str x)]=.ok (.d (.bool (nbB x))) [none]
theorem Vp{x:Str}(h:ZT x=true):NumText.AllDigits x.cps.toList:=fun c hc=>by
 unfold ZT at h
 rw[xz]at h
 have:=h (isF c) (List.mem_map_of_mem hc)
 unfold isF at this
 simp at this
 exact this
theorem zca{x:Str}(h:ZT x=true)(h1:1<=x.length)(h2:x.length<=640):Qg (.str x)=some (VG x):=by
 have hne:x.cps.toList≠ []:=fun z=>by
  have hcl:x.cps.toList.length=x.length:=xS
  rw[z]at hcl;simp at hcl;omega
 have e:=PySem.intText_digits (Vp h) hne (by omega)
 simp[Qg,VG,h2,e]
theorem ku{x:Str}(h:nbB x=true):ZT x=true/\1<=x.length/\x.length<=6:=by
 unfold nbB at h
 simp only[xa,decide_eq_true_eq]at h
 exact⟨h.1.2,h.1.1.1,h.1.1.2⟩
theorem yE{x:Str}(h:nbB x=true):Qg (.str x)=some (VG x):=by
 obtain⟨a,b,c⟩:=ku h
 exact zca a b (by omega)
theorem w9(cf:CF)(hp:vV cf){x:Str}(h:Tx x):runI 1 [false] [] qg cf [.d (.str x)]=.ok (.d (if nbB x then VG x else .none)) [none]:=by
 have e:=hp x h
 cases hb:nbB x with
 |true=>
  have hi:=yE hb
  rw[hb]at e
  simp![qg,hi,e,zb]
 |false=>
  rw[hb]at e
  simp![qg,e,zb]
noncomputable def JQ (cf:CF):Prop:=∀ x,Tx x->cf "plain_number" [.d (.str x)]=.ok (.d (if nbB x then VG x else .none)) [none]
noncomputable def nod:Exc:=⟨"NoDeed",.none⟩
noncomputable def vW (cf:CF):Prop:=∀ x,Tx x->cf "read_name" [.d (.str x)]=if nmB x then .ok (.d (.str x)) [none] else .exc nod [none]
noncomputable def yd (cf:CF):Prop:=∀ x,Tx x->cf "read_number" [.d (.str x)]=if nbB x then .ok (.d (VG x)) [none] else .exc nod [none]
theorem zdF(cf:CF){body:IE}(hb:body=.sint (.var 0 1)){x:Str}{D:OV}(h:ZT x=true):zW 1 (.nm 0 1) fYes (body.ev cf).1 (qD x) [] [some D]=.ok (x.cps.toList.map fun c=>PyData.int ((NumText.digitsVal [c]:Nat):Int),[some D]) :=
 qQ (fun c=>PyData.str (ch c)) _ fun c hc=>by
  have hd:=Vp h c hc
  have hi:Qg (.str (ch c))=some (.int ((NumText.digitsVal [c]:Nat):Int)):=by
   have e:=PySem.intText_digits (x:=ch c) (fun d hd'=>(show d=c by simpa using hd') ▸ hd) (by simp) (by simp[Str.length])
   have e1:(ch c).cps.toList= [c]:=rfl
   rw[e1]at e
   have e2:(ch c).length<=640:=by simp[Str.length]
   generalize ch c=cc at *
   simp[Qg,e,e2]
  refine⟨[some D,some (.d (.str (ch c)))],.dat (.int ((NumText.digitsVal [c]:Nat):Int)),[some D,some (.d (.str (ch c)))],rfl,?_,rfl,rfl⟩
  subst hb
  generalize ch c=cc at *
  simp![hi]
theorem Wa(cf:CF)(hf:yb cf){x:Str}(h:Tx x):runI 1 [false] [] zC cf [.d (.str x)]=.ok (.d (if shB x then .tuple (shD x) else .none)) [none]:=by
 have e:=hf x h
 have lm:lay 20 (.str (Str.ofString "-"))=true:=qK "-" 20
 have hl:=h.ok 20
 have hz:=h.len
 have ha:=jK (x:=x) h.1
 have hcl:=js h
 have q:=z8 x (Str.ofString "-")
 unfold shB shD
 by_cases h0:x=Str.ofString "-"
 ·rw[decide_eq_true h0]at q
  simp only[if_pos h0,decide_eq_true h0,Bool.true_or,if_true]
  unfold zC
  generalize zw=B at *
  simp![q,hl,lm]
 ·simp only[h0,decide_false,Bool.false_or,if_false]at q |-
  by_cases h1:1<=x.length
  ·have i1:(1:Int)<=(x.length:Int):=by omega
   by_cases h2:x.length<=12
   ·have i2:(x.length:Int)<=12:=by omega
    cases hb:ZT x with
    |true=>
     rw[hb]at e
     have lp:=zdF cf (body:=zw) rfl (D:=.d (.str x)) hb
     have hz2:(x.cps.toList.map fun c=>PyData.int ((NumText.digitsVal [c]:Nat):Int)).length<=1000000:=by simpa [Str.length] using hz
     unfold zC
     generalize zw=B at *
     generalize (x.cps.toList.map fun c=>PyData.int ((NumText.digitsVal [c]:Nat):Int))=NN at *
     have hq:∀ Γ,qk Γ (.dat (.list NN))=some NN:=fun _=>rfl
     simp![q,hl,lm,zN,qR,ha,hcl,hz,i1,i2,h1,h2,e,lp,hz2,hq,zb]
    |false=>
     rw[hb]at e
     unfold zC
     generalize zw=B at *
     simp![q,hl,lm,zN,hz,i1,i2,h1,h2,e,zb]
   ·have i2:¬ (x.length:Int)<=12:=by omega
    unfold zC
    generalize zw=B at *
    simp![q,hl,lm,zN,hz,i1,i2,h1,h2,zb]
  ·have i1:¬ (1:Int)<=(x.length:Int):=by omega
   unfold zC
   generalize zw=B at *
   simp![q,hl,lm,zN,hz,i1,h1,zb]
noncomputable def wa (cf:CF):Prop:=∀ x,Tx x->cf "plain_shades" [.d (.str x)]=.ok (.d (if shB x then .tuple (shD x) else .none)) [none]
noncomputable def YR (cf:CF):Prop:=∀ x,Tx x->cf "read_shades" [.d (.str x)]=if shB x then .ok (.d (.tuple (shD x))) [none] else .exc nod [none]
theorem yB(cf:CF){x:Str}(h:Tx x):runI 1 [false] [] qI cf [.d (.str x)]=.ok (.d (.bool (nbB x))) [none]:=by
 have ha:=jK (x:=x) h.1
 have e:=yf cf (body:=zM) (p:=isF) (x:=x) (D:=.d (.str x)) fun c hc=>by
  have:=yu c (h.1 c hc)
  unfold zM
  generalize Str.ofString "0123456789" =LT at *
  generalize ch c=cc at *
  simp![yw,this,zb]
 have hcl:=js h
 have hz:=h.len
 have l0:lay 20 (.str (Str.ofString "0"))=true:=qK "0" 20
 have hc1:x.cps.toList.length=x.length:=xS
 have hat:1<=x.length->∃ c,atI x.cps.toList 0=some c/\lay 20 (.str (ch c))=true/\PyData.eqv (.str (ch c)) (.str (Str.ofString "0"))= !(x.cps.toList.head? !=some 48):=fun h1=>by
  obtain⟨c,r,hc⟩:∃ c r,x.cps.toList=c::r:=by
   cases q:x.cps.toList with
   |nil=>rw[q]at hc1;simp at hc1;omega
   |cons a r=>exact⟨a,r,rfl⟩
  refine⟨c,by rw[hc];exact jv (j:=0) rfl,vA (wM fun d hd=>(show d=c by simpa using hd) ▸ h.1 c (by rw[hc];simp)),?_⟩
  rw[z8,hc]
  simp only[List.head?_cons,bne,Bool.not_not]
  rw[uB]
  simp only[decide_eq_true_eq,beq_iff_eq,Option.some.injEq]
  constructor
  ·intro z
   have:=congrArg (fun s:Str=>s.cps.toList) z
   rw[zbF]at this
   simpa using this
  ·rintro rfl;decide +kernel
 unfold qI nbB ZT
 generalize zM=B at *
 generalize (x.cps.toList.map isF)=bs at *
 by_cases h1:1<=x.length
 ·have i1:¬ (x.length:Int)=0:=by omega
  have n1:¬ x.length=0:=by omega
  obtain⟨c,c1,c2,c3⟩:=hat h1
  have le:PyData.eqv (.int (x.length:Int)) (.int 0)=false:=by rw[ze];simpa using i1
  have le1:PyData.eqv (.int (x.length:Int)) (.int 1)=decide (x.length=1):=by
   rw[ze,uB]
   simp only[beq_iff_eq,decide_eq_true_eq]
   omega
  by_cases h2:x.length<=6
  ·have i2:¬ (6:Int)<(x.length:Int):=by omega
   have n2:¬ 6<x.length:=by omega
   generalize (x.cps.toList.head? !=some 48)=hd at *
   generalize decide (x.length=1)=one at *
   cases hb:bs.all id<;>cases one<;>simp![zN,qR,Vo,ha,hz,hcl,i2,n2,h1,h2,e,hb,zy,le,le1,c1,c2,c3,l0,zc]
  ·have i2:(6:Int)<(x.length:Int):=by omega
   have n2:6<x.length:=by omega
   simp![zN,qR,ha,hz,hcl,i2,n2,h1,h2,e,zy,le,zc]
 ·have le:PyData.eqv (.int (x.length:Int)) (.int 0)=true:=by
   rw[ze]
   have:(x.length:Int)=0:=by omega
   simpa using this
  simp![zN,qR,ha,hz,hcl,h1,e,zy,le,zc]
theorem VA(cf:CF){x:Str}(h:Tx x):runI 1 [false] [] qr cf [.d (.str x)]=.ok (.d (.bool (shB x))) [none]:=by
 have ha:=jK (x:=x) h.1
 have e:=yf cf (body:=zJ) (p:=isF) (x:=x) (D:=.d (.str x)) fun c hc=>by
  have:=yu c (h.1 c hc)
  unfold zJ
  generalize Str.ofString "0123456789" =LT at *
  generalize ch c=cc at *
  simp![yw,this,zb]
 have hcl:=js h
 have hz:=h.len
 have lm:lay 20 (.str (Str.ofString "-"))=true:=qK "-" 20
 have hl:=h.ok 20
 have q:=z8 x (Str.ofString "-")
 unfold qr shB ZT
 generalize zJ=B at *
 generalize (x.cps.toList.map isF)=bs at *
 by_cases h0:x=Str.ofString "-"
 ·rw[decide_eq_true h0]at q |-
  simp![q,hl,lm]
 ·rw[decide_eq_false h0]at q |-
  by_cases h1:1<=x.length
  ·have i1:(0:Int)<(x.length:Int):=by omega
   have n1:0<x.length:=by omega
   by_cases h2:x.length<=12
   ·have i2:(x.length:Int)<13:=by omega
    have n2:x.length<13:=by omega
    simp![zN,qR,ha,hz,hcl,i1,i2,n1,n2,h1,h2,e,zy,q,hl,lm]
   ·have i2:¬ (x.length:Int)<13:=by omega
    have n2:¬ x.length<13:=by omega
    simp![zN,qR,ha,hz,hcl,i1,i2,n1,n2,h1,h2,e,zy,q,hl,lm]
  ·have i1:¬ (0:Int)<(x.length:Int):=by omega
   have n1:¬ 0<x.length:=by omega
   simp![zN,qR,ha,hz,hcl,i1,n1,h1,e,zy,q,hl,lm]
theorem zab(cf:CF){x:Str}(h:Tx x)(hb:shB x=true):runI 1 [false] [] qA cf [.d (.str x)]=.ok (.d (.tuple (shD x))) [none]:=by
 have lm:lay 20 (.str (Str.ofString "-"))=true:=qK "-" 20
 have hl:=h.ok 20
 have hz:=h.len
 have ha:=jK (x:=x) h.1
 have hcl:=js h
 have q:=z8 x (Str.ofString "-")
 unfold shD
 by_cases h0:x=Str.ofString "-"
 ·rw[decide_eq_true h0]at q
  rw[if_pos h0]
  unfold qA
  generalize zY=B at *
  simp![q,hl,lm]
 ·rw[decide_eq_false h0]at q
  rw[if_neg h0]
  have hf:ZT x=true:=by
   unfold shB at hb
   rw[decide_eq_false h0,Bool.false_or]at hb
   simp only[xa]at hb
   exact hb.2
  have lp:=zdF cf (body:=zY) rfl (D:=.d (.str x)) hf
  have hz2:(x.cps.toList.map fun c=>PyData.int ((NumText.digitsVal [c]:Nat):Int)).length<=1000000:=by simpa [Str.length] using hz
  unfold qA
  generalize zY=B at *
  generalize (x.cps.toList.map fun c=>PyData.int ((NumText.digitsVal [c]:Nat):Int))=NN at *
  have hq:∀ Γ,qk Γ (.dat (.list NN))=some NN:=fun _=>rfl
  simp![q,hl,lm,qR,ha,hcl,hz,lp,hz2,hq,zb]
noncomputable def Kp (cf:CF):Prop:=∀ x,Tx x->cf "_law_is_number" [.d (.str x)]=.ok (.d (.bool (nbB x))) [none]
noncomputable def Km (cf:CF):Prop:=∀ x,Tx x->cf "_law_is_figures" [.d (.str x)]=.ok (.d (.bool (shB x))) [none]
noncomputable def Ko (cf:CF):Prop:=∀ x,Tx x->shB x=true->cf "_law_picture" [.d (.str x)]=.ok (.d (.tuple (shD x))) [none]
end Wx
set_option maxHeartbeats 8000000
namespace Wx
open PySem L2 L3
theorem KE{α:Type}{k:Nat}{t:IT}{elt:EM FV}(g h:α->PyData)(p:α->Bool)(x:Exc){xs:List α}{Γ:Gv}
  (hs:∀ a∈xs,∃ Γ2,tgF t (g a) (Γ++List.replicate k none)=some Γ2/\(p a=true->∃ u Γ4,elt Γ2=.ok (u,Γ4)/\derS Γ4 u=some (h a)/\Γ4.take Γ.length=Γ)/\(p a=false->∃ Γ4,elt Γ2=.exc x Γ4/\Γ4.take Γ.length=Γ)) :
  zW k t fYes elt (xs.map g) [] Γ=if xs.all p then .ok (xs.map h,Γ) else .exc x Γ:=by
 suffices H:∀ ys,zW k t fYes elt (xs.map g) ys Γ=if xs.all p then .ok (ys++xs.map h,Γ) else .exc x Γ from by simpa using H []
 induction xs with
 |nil=>intro ys;simp[zW,qp]
 |cons a r ih=>
  intro ys
  obtain⟨Γ2,e1,h1,h2⟩:=hs a (.head _)
  unfold zW
  rw[xq,qp,e1]
  cases hp:p a with
  |true=>
   obtain⟨u,Γ4,e2,e3,e4⟩:=h1 hp
   have hit:itL elt Γ2=.ok (h a,Γ4):=by simp only[itL,e2,R.bind,e3]
   simp only[fYes,hit,e4]
   have:=ih (fun b hb=>hs b (.tail _ hb)) (ys++ [h a])
   unfold zW at this
   refine this.trans ?_
   simp[hp]
  |false=>
   obtain⟨Γ4,e2,e4⟩:=h2 hp
   have hit:itL elt Γ2=.exc x Γ4:=by simp only[itL,e2,R.bind]
   simp[fYes,hit,e4,hp]
noncomputable def out(o:Option (List PyData)):RF:=match o with
 |some xs=>.ok (.d (.tuple xs)) [none]
 |none=>.exc nod [none]
noncomputable def W2 (cf:CF):Prop:=∀ (xs:List PyData) (n:Nat),cf "check_many" [.d (.list xs),.d (.int n)]=if xs.length=n then .ok (.d .none) [none,none] else .exc nod [none,none]
noncomputable def W3 (cf:CF):Prop:=∀ xs:List PyData,cf "check_some" [.d (.list xs)]=if xs.isEmpty then .exc nod [none] else .ok (.d .none) [none]
structure RdOk(cf:CF):Prop where
 many:W2 cf
 some:W3 cf
 name:vW cf
 num:yd cf
 sh:YR cf
section
variable {cf:CF} {r:List Str} {x:Str} {xs:List PyData}
theorem RdOk.m1 (K:RdOk cf) (n:Nat) (h:xs.length=n):cf "check_many" [.d (.list xs),.d (.int n)]=.ok (.d .none) [none,none]:=(K.many xs n).trans (if_pos h)
theorem RdOk.m0 (K:RdOk cf) (n:Nat) (h:xs.length≠n):cf "check_many" [.d (.list xs),.d (.int n)]=.exc nod [none,none]:=(K.many xs n).trans (if_neg h)
theorem RdOk.n1 (K:RdOk cf) (t:Tx x) (h:nmB x=true):cf "read_name" [.d (.str x)]=.ok (.d (.str x)) [none]:=(K.name x t).trans (if_pos h)
theorem RdOk.n0 (K:RdOk cf) (t:Tx x) (h:nmB x=false):cf "read_name" [.d (.str x)]=.exc nod [none]:=(K.name x t).trans (if_neg (by rw[h];exact fun z=>nomatch z))
theorem RdOk.k1 (K:RdOk cf) (t:Tx x) (h:nbB x=true):cf "read_number" [.d (.str x)]=.ok (.d (VG x)) [none]:=(K.num x t).trans (if_pos h)
theorem RdOk.k0 (K:RdOk cf) (t:Tx x) (h:nbB x=false):cf "read_number" [.d (.str x)]=.exc nod [none]:=(K.num x t).trans (if_neg (by rw[h];exact fun z=>nomatch z))
theorem RdOk.s1 (K:RdOk cf) (t:Tx x) (h:shB x=true):cf "read_shades" [.d (.str x)]=.ok (.d (.tuple (shD x))) [none]:=(K.sh x t).trans (if_pos h)
theorem RdOk.s0 (K:RdOk cf) (t:Tx x) (h:shB x=false):cf "read_shades" [.d (.str x)]=.exc nod [none]:=(K.sh x t).trans (if_neg (by rw[h];exact fun z=>nomatch z))
theorem RdOk.c1 (K:RdOk cf) (h:xs.isEmpty=false):cf "check_some" [.d (.list xs)]=.ok (.d .none) [none]:=(K.some xs).trans (if_neg (by rw[h];exact fun z=>nomatch z))
end
theorem jV(c:Nat)(x:Str):Str.join (ch c) [x]=x:=rfl
theorem qU(x:Str):x.cps.toList.length=x.length:=xS
theorem Vw{c:Nat}:∀ {l:List Str}{p:Str},p∈l->(∀ d∈p.cps.toList,d∈(Str.join (ch c) l).cps.toList)/\p.length<=(Str.join (ch c) l).length
 |[],_,h=>nomatch h
 |[x],p,h=>by
  have:p=x:=by simpa using h
  subst this
  rw[jV];exact⟨fun _ h=>h,xi _⟩
 |x::y::r,p,h=>by
  have hl:=congrArg List.length (jU c x y r)
  rw[qU,xw,xo,qU,qU]at hl
  rw[jU]
  rcases xy.mp h with h | h
  ·subst h
   exact⟨fun d hd=>xV _ hd,by omega⟩
  ·obtain⟨h1,h2⟩:=Vw (c:=c) h
   exact⟨fun d hd=>xt _ (.tail _ (h1 d hd)),by omega⟩
theorem WJ(c:Nat):∀ l:List Str,l.length<=(Str.join (ch c) l).length+1
 |[]=>by simp
 |[x]=>by simp
 |x::y::r=>by
  have hl:=congrArg List.length (jU c x y r)
  rw[qU,xw,xo,qU,qU]at hl
  have:=WJ c (y::r)
  simp only[xo]at this |-
  omega
theorem j8{row:Str}(h:Tx row)(c:Nat):∃ w r,Txt.split row (ch c)=w::r/\(∀ y∈w::r,Tx y)/\r.length<=450000:=by
 have hj:=StrLaws.join_split row (ch c)
 have hp:=PyProof.Rows.split_pos row (ch c)
 cases hs:Txt.split row (ch c) with
 |nil=>rw[hs]at hp;exact absurd hp (by decide)
 |cons w r=>
  rw[hs]at hj
  refine⟨w,r,rfl,fun y hy=>?_,?_⟩
  ·obtain⟨h1,h2⟩:=Vw (c:=c) hy
   rw[hj]at h1 h2
   exact⟨fun d hd=>h.1 d (h1 d hd),xA h2 h.2⟩
  ·have:=WJ c (w::r)
   rw[hj]at this
   have:=h.2
   simp only[xo]at *
   omega
end Wx
set_option maxHeartbeats 8000000
namespace Wx
open PySem L2 L3
theorem all_map{α:Type}(xs:List α)(p:α->Bool):(xs.map p).all id=xs.all p:=by
 induction xs with
 |nil=>rfl
 |cons x r ih=>simp[ih]
end Wx
set_option maxHeartbeats 8000000
namespace Wx
open PySem L2 L3
noncomputable def Txn(n:Nat)(x:Str):Prop:=(∀ c∈x.cps.toList,c<=127)/\x.length<=n
theorem Txn.tx{n:Nat}{x:Str}(h:Txn n x)(hn:n<=450000):Tx x:=⟨h.1,xA h.2 hn⟩
theorem Txn.mono{n m:Nat}{x:Str}(h:Txn n x)(hn:n<=m):Txn m x:=⟨h.1,xA h.2 hn⟩
theorem qB(x y:Str):(x++y).length=x.length+y.length:=by
 rw[<- qU,zV,xw,qU,qU]
theorem Txn.app{n m:Nat}{x y:Str}(h:Txn n x)(k:Txn m y):Txn (n+m) (x++y):=by
 refine⟨fun c hc=>?_,by rw[qB];exact Nat.add_le_add h.2 k.2⟩
 rw[zV]at hc
 rcases xF.mp hc with z | z
 ·exact h.1 c z
 ·exact k.1 c z
theorem kP(x:Str)(l u:Option Int):∀ c∈(Txt.slice x l u).cps.toList,c∈x.cps.toList:=by
 intro c hc
 unfold Txt.slice at hc
 split at hc
 ·exact hc
 ·simp only[uq]at hc
  obtain⟨i,_,hi⟩:=hc
  have:=Array.mem_of_getElem? hi
  simpa using this
theorem Txn.cut{n:Nat}{x:Str}(h:Txn n x)(l u:Option Int):Txn n (Txt.slice x l u):=⟨fun c hc=>h.1 c (kP x l u c hc),xA (Txt.slice_le x l u) h.2⟩
theorem Txn.one{c:Nat}(h:c<=127):Txn 1 (ch c):=⟨fun d hd=>by
 have:d=c:=by simpa using hd
 omega,by simp[Str.length]⟩
noncomputable def ye (cf:CF):Prop:=∀ b,zr b->∃ (c:Nat) (b':OV),c<=127/\zr b'/\cf "_law_sign" [b]=.ok (.d (.str (ch c))) [some b']
theorem Yz{S:Str}{n:Nat}(hn:S.length=n)(ha:∀ c∈S.cps.toList,c<=127){i:Int}(h0:0<=i)(h1:i<n):∃ c:Nat,atI S.cps.toList i=some c/\c<=127:=by
 have hl:i.toNat<S.cps.toList.length:=by rw[qU,hn];omega
 have e:i=((i.toNat:Nat):Int):=by omega
 refine⟨S.cps.toList[i.toNat],?_,ha _ (ul hl)⟩
 generalize hx:S.cps.toList[i.toNat]=x
 have hx':S.cps.toList[i.toNat]?=some x:=by rw[xC hl,hx]
 have:=jv hx'
 rw[<- e]at this
 exact this
theorem zcV(cf:CF)(ht:qG cf){b:OV}(hb:zr b):∃ (c:Nat) (b':OV),c<=127/\zr b'/\runI 2 [true] [0] ZN cf [b]=.ok (.d (.str (ch c))) [some b']:=by
 obtain⟨r1,b1,h1,h1',hb1,e1⟩:=ht b hb 2 (by decide) (by decide)
 have L97:1<=(Str.ofString " !\"#$&'()*+,-./0123456789:;<=>?@ABCDEFGHIJKLMNOPQRSTUVWXYZ[\\]^_`abcdefghijklmnopqrstuvwxyz{|}~\n").length/\(Str.ofString " !\"#$&'()*+,-./0123456789:;<=>?@ABCDEFGHIJKLMNOPQRSTUVWXYZ[\\]^_`abcdefghijklmnopqrstuvwxyz{|}~\n").length<=200:=by decide +kernel
 have L18:(Str.ofString " 0123456789-*.abz\n").length=18:=by decide +kernel
 have A97:∀ c∈(Str.ofString " !\"#$&'()*+,-./0123456789:;<=>?@ABCDEFGHIJKLMNOPQRSTUVWXYZ[\\]^_`abcdefghijklmnopqrstuvwxyz{|}~\n").cps.toList,c<=127:=by decide +kernel
 have A18:∀ c∈(Str.ofString " 0123456789-*.abz\n").cps.toList,c<=127:=by decide +kernel
 unfold ZN
 generalize Str.ofString " !\"#$&'()*+,-./0123456789:;<=>?@ABCDEFGHIJKLMNOPQRSTUVWXYZ[\\]^_`abcdefghijklmnopqrstuvwxyz{|}~\n" =S at *
 generalize Str.ofString " 0123456789-*.abz\n" =S' at *
 have hz97:S.length<=1000000:=by omega
 have hz18:S'.length<=1000000:=by omega
 by_cases hr:r1=0
 ·obtain⟨r2,b2,h2,h2',hb2,e2⟩:=ht b1 hb1 S.length (by omega) (by omega)
  obtain⟨c,hc,hc'⟩:=Yz (n:=S.length) rfl A97 h2 h2'
  refine⟨c,b2,hc',hb2,?_⟩
  simp![e1,hr,zN,Vo,hz97,e2,hc,zc,ze,zb]
 ·obtain⟨r2,b2,h2,h2',hb2,e2⟩:=ht b1 hb1 18 (by decide) (by decide)
  obtain⟨c,hc,hc'⟩:=Yz L18 A18 h2 h2'
  refine⟨c,b2,hc',hb2,?_⟩
  simp![e1,hr,zN,Vo,hz18,e2,hc,zc,ze,zb]
noncomputable def vZ (cf:CF):Prop:=∀ b x n,zr b->n<=100000->Txn n x->∃ (y:Str) (b':OV),Txn (4*n+3) y/\zr b'/\cf "_law_spoilt" [b,.d (.str x)]=.ok (.d (.str y)) [some b',none]
theorem VP(cf:CF)(ht:qG cf)(hg:ye cf){b:OV}(hb:zr b){n:Nat}(hn:n<=300000){x:Str}(h:Txn n x){o2 o3 o4:Option OV}:∃ (y:Str) (b':OV) (o3' o4':Option OV),Txn (2*n+1) y/\zr b'/\b_law_spoilt_1.ex cf [0] [some b,some (.d (.str x)),o2,o3,o4]=.ok (.next,[some b',some (.d (.str y)),o2,o3',o4']):=by
 obtain⟨r1,b1,h1,h1',hb1,e1⟩:=ht b hb (x.length+1) (by omega) (by have:=h.2;omega)
 obtain⟨r2,b2,h2,h2',hb2,e2⟩:=ht b1 hb1 4 (by decide) (by decide)
 obtain⟨c,b3,hc,hb3,e3⟩:=hg b2 hb2
 have hz:x.length<=1000000:=by have:=h.2;omega
 have t0:=Txn.one hc
 have t1:=h.cut none (some r1)
 have t2:=h.cut (some r1) none
 have t3:=h.cut (some (r1+1)) none
 have t4:=h.cut (some (if 2<r1 then r1-2 else 0)) none
 have t5:=t1.app t0
 have u2:=t5.app t2
 have u3:=t5.app t3
 have u1:=t1.app t3
 have u4:=t1.app t4
 have l5:(Txt.slice x none (some r1)).length+(ch c).length<=1000000:=by have:=t1.2;have:=t0.2;omega
 have l2:(Txt.slice x none (some r1)++ch c).length+(Txt.slice x (some r1) none).length<=1000000:=by have:=t5.2;have:=t2.2;omega
 have l3:(Txt.slice x none (some r1)++ch c).length+(Txt.slice x (some (r1+1)) none).length<=1000000:=by have:=t5.2;have:=t3.2;omega
 have l1:(Txt.slice x none (some r1)).length+(Txt.slice x (some (r1+1)) none).length<=1000000:=by have:=t1.2;have:=t3.2;omega
 have l4:(Txt.slice x none (some r1)).length+(Txt.slice x (some (if 2<r1 then r1-2 else 0)) none).length<=1000000:=by have:=t1.2;have:=t4.2;omega
 generalize ch c=cc at *
 unfold b_law_spoilt_1
 by_cases q0:r2=0
 ·refine⟨_,b3,some (.d (.int r1)),some (.d (.int r2)),u2.mono (by omega),hb3,?_⟩
  simp![e1,e2,e3,q0,zN,jS,jG,qS,jh,hz,l5,l2,zc,ze,zb]
 ·by_cases q1:r2=1
  ·refine⟨_,b2,some (.d (.int r1)),some (.d (.int r2)),u1.mono (by omega),hb2,?_⟩
   simp![e1,e2,e3,q0,q1,zN,jS,jG,qS,jh,hz,l1,zc,ze,zb]
  ·by_cases q2:r2=2
   ·refine⟨_,b3,some (.d (.int r1)),some (.d (.int r2)),u3.mono (by omega),hb3,?_⟩
    simp![e1,e2,e3,q0,q1,q2,zN,jS,jG,qS,jh,hz,l5,l3,zc,ze,zb]
   ·refine⟨_,b2,some (.d (.int r1)),some (.d (.int r2)),u4.mono (by omega),hb2,?_⟩
    simp![e1,e2,e3,q0,q1,q2,zN,jS,jG,qS,jh,hz,l4,zc,ze,zb]
theorem kQ(cf:CF)(ht:qG cf)(hg:ye cf){b:OV}(hb:zr b){n:Nat}(hn:n<=100000){x:Str}(h:Txn n x):∃ (y:Str) (b':OV),Txn (4*n+3) y/\zr b'/\runI 5 [true,false] [0] jy cf [b,.d (.str x)]=.ok (.d (.str y)) [some b',none]:=by
 obtain⟨r1,b1,h1,h1',hb1,e1⟩:=ht b hb 2 (by decide) (by decide)
 obtain⟨Γ',e,⟨m,y,b',o2,o3,o4,hm0,hm1,hm2,hy,hb',rfl⟩⟩:=jr (t:=.nm 2 2) (body:=b_law_spoilt_1.ex cf [0]) (ds:=zL (1+r1).toNat) (Γ:= [some b1,some (.d (.str x)),none,none,none])
  (fun pre Γ=>∃ (m:Nat) (y:Str) (b':OV) (o2 o3 o4:Option OV),(pre.length=0->m<=n)/\(pre.length=1->m<=2*n+1)/\(pre.length=2->m<=4*n+3)/\Txn m y/\zr b'/\Γ= [some b',some (.d (.str y)),o2,o3,o4]) ⟨n,x,b1,none,none,none,fun _=>xi _,by simp,by simp,h,hb1,rfl⟩ (by
   rintro pre d post e Γ ⟨m,y,b',o2,o3,o4,hm0,hm1,hm2,hy,hb',rfl⟩
   have hp:pre.length=0∨pre.length=1:=by
    have:=congrArg List.length e
    rw[zG,xw,xo]at this
    omega
   obtain⟨z,b2,o3',o4',hz,hb2,e2⟩:=VP cf ht hg hb' (n:=m) (by omega) hy (o2:=some (.d d)) (o3:=o3) (o4:=o4)
   refine⟨_,_,rfl,e2,2*m+1,z,b2,_,_,_,?_,?_,?_,hz,hb2,rfl⟩<;>rw[xw,ui]<;>intro q<;>omega)
 rw[zG]at hm0 hm1 hm2
 refine⟨y,b',hy.mono (by omega),hb',?_⟩
 have hz1: -1000000<=1+r1/\1+r1<=1000000:=by omega
 unfold jy
 generalize b_law_spoilt_1=B at *
 simp![e1,e,hz1,zb]
noncomputable def yC:IL->List Str
 |.nil=> []
 |.cons (.cstr s) r=>s::yC r
 |.cons _ r=>yC r
noncomputable def zew:IL->Bool
 |.nil=>true
 |.cons (.cstr _) r=>zew r
 |.cons _ _=>false
theorem K8(cf:CF)(Γ:Gv):∀ (l:IL),zew l=true->l.ev cf Γ=.ok ((yC l).map fun s=>.dat (.str s),Γ)
 |.nil,_=>rfl
 |.cons (.cstr s) r,h=>by
  have ih:=K8 cf Γ r h
  simp only[IL.ev,IE.ev,fCons,fC,R.bind,ih]
  rfl
theorem Yf(Γ:Gv):∀ ss:List Str,derSs Γ (ss.map fun s=>.dat (.str s))=some (ss.map .str)
 |[]=>rfl
 |s::r=>by
  have ih:=Yf Γ r
  simp[derSs,derS,ih]
noncomputable def Good(xs:List PyData):Prop:=(∀ x∈xs,Part x)/\(∀ x∈xs,lay 19 x=true)/\xs.length<=1000
theorem Good.lay{xs:List PyData}(h:Good xs):lay 20 (.tuple xs)=true:=J5 h.2.1
end Wx
set_option maxHeartbeats 8000000
namespace Wx
open PySem L2 L3
theorem Yh{A l:Str}(hl:l.cps.toList≠ [])(hn:10∉l.cps.toList):Txt.endswith (A++l) (ch 10)=false:=by
 cases q:Txt.endswith (A++l) (ch 10) with
 |false=>rfl
 |true=>
  exfalso
  unfold Txt.endswith at q
  rw[xa,StrLaws.subAt_eq]at q
  have q2:=q.2
  have h1:(ch 10).cps.toList= [10]:=rfl
  have h2:(ch 10).length=1:=rfl
  have hlen:(A++l).length=A.cps.toList.length+l.cps.toList.length:=by rw[qB,qU,qU]
  rw[h2,zV,hlen]at q2
  generalize A.cps.toList=a at *
  generalize l.cps.toList=m at *
  have hp:0<m.length:=List.length_pos_iff.mpr hl
  have e:a.length+m.length-1=a.length+(m.length-1):=by omega
  rw[e,List.drop_append]at q2
  have e1:a.drop (a.length+(m.length-1))= []:=uw (by omega)
  have e2:a.length+(m.length-1)-a.length=m.length-1:=by omega
  rw[e1,e2,xP]at q2
  have hi:m.length-1<m.length:=by omega
  rw[um hi]at q2
  have q3:=eq_of_beq q2
  rw[List.take_succ_cons,List.take_zero,h1,List.cons.injEq]at q3
  have:=ul hi
  rw[q3.1]at this
  exact hn this
theorem wb{T:Str}(h:Tx T):∃ (qs:List Str) (l:Str),Txt.split T (ch 10)=qs++ [l]/\(∀ y∈qs,Tx y)/\Tx l/\qs.length<=450000 /\
  ((l=Str.ofString "" /\qs= []/\T=Str.ofString "")∨(l=Str.ofString "" /\qs≠ []/\T≠Str.ofString "" /\Txt.endswith T (ch 10)=true/\Txt.split (Txt.slice T none (some (-1))) (ch 10)=qs)∨(l≠Str.ofString "" /\T≠Str.ofString "" /\Txt.endswith T (ch 10)=false)):=by
 obtain⟨w,r,e,hw,hl⟩:=j8 h 10
 have hj:=StrLaws.join_split T (ch 10)
 have hf:=StrLaws.split_free T 10
 have emp:(Str.ofString "").cps.toList= []:=by decide +kernel
 rw[e]at hj hf
 have hne:w::r≠ []:=by simp
 refine⟨(w::r).dropLast,(w::r).getLast hne,by rw[e,List.dropLast_concat_getLast],fun y hy=>hw y (List.dropLast_subset _ hy),hw _ (List.getLast_mem hne),by simp;omega,?_⟩
 have hx:=List.dropLast_concat_getLast hne
 have hf1:∀ y∈(w::r).dropLast,10∉y.cps.toList:=fun y hy=>hf y (List.dropLast_subset _ hy)
 have hf2:10∉((w::r).getLast hne).cps.toList:=hf _ (List.getLast_mem hne)
 generalize (w::r).getLast hne=l at *
 generalize (w::r).dropLast=qs at *
 rw[<- hx]at hj
 by_cases q:l=Str.ofString ""
 ·by_cases q2:qs= []
  ·refine .inl ⟨q,q2,?_⟩
   rw[q2,xP,jV]at hj
   rw[<- hj,q]
  ·refine .inr (.inl ⟨q,q2,?_⟩)
   rw[JD (ch 10) l q2]at hj
   have hj2:Str.join (ch 10) qs++ch 10=T:=by
    rw[<- hj]
    apply je
    rw[zV (Str.join (ch 10) qs++ch 10),q,emp,xG]
   rw[<- hj2]
   refine⟨fun z=>?_,zb6 _ _,?_⟩
   ·have:=congrArg (fun s:Str=>s.cps.toList) z
    rw[zV,emp]at this
    simp at this
   ·rw[zee]
    exact za4 q2 hf1
 ·have hl0:l.cps.toList≠ []:=fun z=>q (je (by rw[z,emp]))
  refine .inr (.inr ⟨q,?_⟩)
  by_cases q2:qs= []
  ·rw[q2,xP,jV]at hj
   subst hj
   refine⟨q,?_⟩
   have:=Yh (A:=Str.ofString "") hl0 hf2
   have e0:Str.ofString "" ++l=l:=je (by rw[zV,emp,xP])
   rw[e0]at this
   exact this
  ·rw[JD (ch 10) l q2]at hj
   rw[<- hj]
   refine⟨fun z=>?_,Yh hl0 hf2⟩
   have:=congrArg (fun s:Str=>s.cps.toList) z
   rw[zV,emp]at this
   exact hl0 (List.append_eq_nil_iff.mp this).2
theorem KH{α:Type}(xs:List α)(x:α):Qb (xs++ [x]) none (some (-1))=xs:=by
 unfold Qb
 have h1:HT.sIx (xs++ [x]).length 0 none=0:=rfl
 have h2:HT.sIx (xs++ [x]).length (xs++ [x]).length (some (-1))=xs.length:=by
  unfold HT.sIx
  simp
  omega
 rw[h1,h2]
 simp
end Wx
namespace Wx
open PySem L2 L3
noncomputable def p_read_chart_1:IE:=(.call (.call "read_cell" 2 (.cons (.var 0 5) (.cons (.var 1 3) .nil))))
noncomputable def qh:IB:=(.cons (.ite (.not (.ends (.var 0 0) (.cstr "\n"))) (.cons (.raise "NoChart") .nil) .nil) (.cons (.star 1 1 2 2 (.new (.split (.cutS (.var 0 0) .non (.one (.neg (.cint 1)))) (.cstr "\n")))) (.cons (.asgT (.tp (.cons (.nm 3 3) (.cons (.nm 4 4) .nil))) (.call (.call "read_head" 1 (.cons (.var 1 1) .nil)))) (.cons (.ite (.cmp .NotEq (.len (.var 2 2)) (.var 4 4)) (.cons (.raise "NoChart") .nil) .nil) (.cons (.ret (.pair (.var 3 3) (.own (.comp 5 1 [3] ["row","pots"] (.nm 0 5) (.list (.var 2 2)) .yes p_read_chart_1)))) .nil)))))
noncomputable def jY:IB:=(.cons (.asg 1 1 (.dat (.new (.split (.var 0 0) (.cstr " "))))) (.cons (.ite (.or (.cmp .NotEq (.len (.var 1 1)) (.cint 3)) (.cmp .NotEq (.ix (.var 1 1) (.cint 0)) (.cstr "bolt"))) (.cons (.raise "NoChart") .nil) .nil) (.cons (.ret (.dat (.tup (.cons (.call (.call "read_bounded" 2 (.cons (.ix (.var 1 1) (.cint 1)) (.cons (.gint "MOST_POTS" (12)) .nil)))) (.cons (.call (.call "read_bounded" 2 (.cons (.ix (.var 1 1) (.cint 2)) (.cons (.gint "MOST_ROWS" (999)) .nil)))) .nil))))) .nil)))
noncomputable def zR:IB:=(.cons (.asg 2 2 (.dat (.call (.call "plain_number" 1 (.cons (.var 0 0) .nil))))) (.cons (.ite (.or (.cmp .Is (.var 2 2) .cnone) (.cmp .Gt (.var 2 2) (.var 1 1))) (.cons (.raise "NoChart") .nil) .nil) (.cons (.ret (.dat (.var 2 2))) .nil)))
noncomputable def jX:IB:=(.cons (.asg 2 2 (.dat (.new (.split (.var 0 0) (.cstr " "))))) (.cons (.ite (.or (.cmp .NotEq (.len (.var 2 2)) (.cint 3)) (.cmp .NotIn (.ix (.var 2 2) (.cint 1)) (.tup (.cons (.gstr "WAX" "*") (.cons (.gstr "NO_WAX" ".") .nil))))) (.cons (.raise "NoChart") .nil) .nil) (.cons (.ret (.dat (.tup (.cons (.call (.call "read_picture" 2 (.cons (.ix (.var 2 2) (.cint 0)) (.cons (.var 1 1) .nil)))) (.cons (.cmp .Eq (.ix (.var 2 2) (.cint 1)) (.gstr "WAX" "*")) (.cons (.call (.call "read_picture" 2 (.cons (.ix (.var 2 2) (.cint 2)) (.cons (.var 1 1) .nil)))) .nil)))))) .nil)))
noncomputable def zS:IB:=(.cons (.asg 2 2 (.dat (.call (.call "plain_shades" 1 (.cons (.var 0 0) .nil))))) (.cons (.ite (.or (.cmp .Is (.var 2 2) .cnone) (.cmp .NotEq (.len (.var 2 2)) (.var 1 1))) (.cons (.raise "NoChart") .nil) .nil) (.cons (.ret (.dat (.var 2 2))) .nil)))
noncomputable def b_law_sheet_1:IB:=(.cons (.asg 2 2 (.dat (.sadd (.sadd (.sadd (.sadd (.var 2 2) (.call (.call "_law_figures" 1 (.cons (.var 3 3) .nil)))) (.ix (.new (.lst (.cons (.cstr " . ") (.cons (.cstr " * ") .nil)))) (.int (.var 4 4)))) (.call (.call "_law_figures" 1 (.cons (.var 5 5) .nil)))) (.cstr "\n")))) .nil)
noncomputable def jO:IB:=(.cons (.asg 2 2 (.dat (.fstr (.con "bolt " (.val (.var 1 1) (.con " " (.val (.len (.var 0 0)) (.con "\n" .nil)))))))) (.cons (.loop (.tp (.cons (.nm 3 3) (.cons (.nm 4 4) (.cons (.nm 5 5) .nil)))) (.list (.var 0 0)) b_law_sheet_1) (.cons (.ret (.dat (.var 2 2))) .nil)))
noncomputable def qt:IB:=(.cons (.ite (.or (.not (.isi "tuple" (.var 0 0))) (.or (.cmp .NotEq (.len (.var 0 0)) (.cint 2)) (.or (.not (.call (.call "_law_whole" 1 (.cons (.ix (.var 0 0) (.cint 0)) .nil)))) (.cmp .NotEq (.ix (.var 0 0) (.cint 0)) (.ix (.var 1 1) (.cint 0)))))) (.cons (.ret (.dat (.cbool false))) .nil) .nil) (.cons (.ret (.call "_law_alike" 3 (.cons (.ix (.var 0 0) (.cint 1)) (.cons (.ix (.var 1 1) (.cint 1)) (.cons (.ix (.var 1 1) (.cint 0)) .nil))))) .nil))
end Wx
namespace Wx
open PySem L2 L3
noncomputable def b_law_sheet_head_1:IE:=(.call (.call "_law_is_number" 1 (.cons (.var 0 2) .nil)))
noncomputable def qv:IB:=(.cons (.asg 1 1 (.dat (.new (.split (.var 0 0) (.cstr " "))))) (.cons (.ite (.or (.cmp .NotEq (.len (.var 1 1)) (.cint 3)) (.or (.cmp .NotEq (.ix (.var 1 1) (.cint 0)) (.cstr "bolt")) (.not (.all (.new (.comp 2 1 [] ["_law_word"] (.nm 0 2) (.list (.new (.cut (.var 1 1) (.one (.cint 1)) .non))) .yes b_law_sheet_head_1)))))) (.cons (.ret (.dat .cnone)) .nil) .nil) (.cons (.ite (.or (.cmp .Gt (.sint (.ix (.var 1 1) (.cint 1))) (.cint 12)) (.cmp .Gt (.sint (.ix (.var 1 1) (.cint 2))) (.cint 999))) (.cons (.ret (.dat .cnone)) .nil) .nil) (.cons (.ret (.dat (.tup (.cons (.sint (.ix (.var 1 1) (.cint 1))) (.cons (.sint (.ix (.var 1 1) (.cint 2))) .nil))))) .nil))))
noncomputable def qu:IB:=(.cons (.asg 2 2 (.dat (.new (.split (.var 0 0) (.cstr " "))))) (.cons (.ite (.or (.cmp .NotEq (.len (.var 2 2)) (.cint 3)) (.or (.not (.call (.call "_law_is_figures" 1 (.cons (.ix (.var 2 2) (.cint 0)) .nil)))) (.not (.call (.call "_law_is_figures" 1 (.cons (.ix (.var 2 2) (.cint 2)) .nil)))))) (.cons (.ret (.dat .cnone)) .nil) .nil) (.cons (.asg 3 3 (.dat (.call (.call "_law_picture" 1 (.cons (.ix (.var 2 2) (.cint 0)) .nil))))) (.cons (.asg 4 4 (.dat (.call (.call "_law_picture" 1 (.cons (.ix (.var 2 2) (.cint 2)) .nil))))) (.cons (.ite (.or (.cmp .NotIn (.ix (.var 2 2) (.cint 1)) (.new (.lst (.cons (.cstr "*") (.cons (.cstr ".") .nil))))) (.or (.cmp .NotEq (.len (.var 3 3)) (.var 1 1)) (.cmp .NotEq (.len (.var 4 4)) (.var 1 1)))) (.cons (.ret (.dat .cnone)) .nil) .nil) (.cons (.ret (.dat (.tup (.cons (.var 3 3) (.cons (.cmp .Eq (.ix (.var 2 2) (.cint 1)) (.cstr "*")) (.cons (.var 4 4) .nil)))))) .nil))))))
noncomputable def b_law_sheet_meant_1:IE:=(.call (.call "_law_sheet_cell" 2 (.cons (.var 0 4) (.cons (.ix (.var 1 2) (.cint 0)) .nil))))
noncomputable def b_law_sheet_meant_2:IE:=(.cmp .Is (.var 0 4) .cnone)
noncomputable def qd:IB:=(.cons (.asg 1 1 (.dat (.new (.split (.var 0 0) (.cstr "\n"))))) (.cons (.asg 2 2 (.dat (.call (.call "_law_sheet_head" 1 (.cons (.ix (.var 1 1) (.cint 0)) .nil))))) (.cons (.ite (.or (.cmp .Is (.var 2 2) .cnone) (.or (.cmp .NotEq (.ix (.var 1 1) (.neg (.cint 1))) (.cstr "")) (.cmp .NotEq (.bin .Sub (.len (.var 1 1)) (.cint 2)) (.ix (.var 2 2) (.cint 1))))) (.cons (.ret (.dat .cnone)) .nil) .nil) (.cons (.asg 3 3 (.dat (.new (.comp 4 1 [2] ["_law_row","_law_head"] (.nm 0 4) (.list (.new (.cut (.var 1 1) (.one (.cint 1)) (.one (.neg (.cint 1)))))) .yes b_law_sheet_meant_1)))) (.cons (.ite (.any (.new (.comp 4 1 [] ["_law_cell_here"] (.nm 0 4) (.list (.var 3 3)) .yes b_law_sheet_meant_2))) (.cons (.ret (.dat .cnone)) .nil) .nil) (.cons (.ret (.dat (.tup (.cons (.ix (.var 2 2) (.cint 0)) (.cons (.var 3 3) .nil))))) .nil))))))
noncomputable def qN:IB:=(.cons (.asg 3 3 (.dat (.call (.call "_law_take" 2 (.io 0 0 (.cons (.len (.var 1 1)) .nil)))))) (.cons (.ite (.cmp .Eq (.var 2 2) (.cint 0)) (.cons (.ret (.own (.cat (.new (.cut (.var 1 1) .non (.one (.var 3 3)))) (.new (.cut (.var 1 1) (.one (.bin .Add (.var 3 3) (.cint 1))) .non))))) .nil) .nil) (.cons (.ite (.cmp .Eq (.var 2 2) (.cint 1)) (.cons (.ret (.own (.cat (.new (.cut (.var 1 1) .non (.one (.bin .Add (.var 3 3) (.cint 1))))) (.new (.cut (.var 1 1) (.one (.var 3 3)) .non))))) .nil) .nil) (.cons (.ite (.cmp .Eq (.var 2 2) (.cint 2)) (.cons (.ret (.own (.cat (.new (.cut (.var 1 1) (.one (.cint 1)) .non)) (.new (.cut (.var 1 1) .non (.one (.cint 1))))))) .nil) .nil) (.cons (.asg 4 4 (.dat (.new (.lst (.cons (.cstr "bolt") (.cons (.cstr "bolt 0 0") (.cons (.cstr "bolt 13 0") (.cons (.cstr "bolt 1 01") (.cons (.cstr "bolt 00 0") (.cons (.cstr "Bolt 0 0") (.cons (.cstr "bolt 0 0 ") (.cons (.cstr "bolt 2 1") (.cons (.cstr "bolt 1000000 1") (.cons (.cstr "bolt 1 1000") .nil)))))))))))))) (.cons (.ret (.own (.cat (.new (.lst (.cons (.ix (.var 4 4) (.call (.call "_law_take" 2 (.io 0 0 (.cons (.cint 10) .nil))))) .nil))) (.new (.cut (.var 1 1) (.one (.cint 1)) .non))))) .nil))))))
end Wx
set_option maxHeartbeats 4000000
namespace Wx
open PySem L2 L3
theorem zdS{ds:List PyData}:Option.map (fun bs=>PyData.bool (bs.all id)) (zH (ds.map fun _=>PyData.bool true))=some (.bool true):=by
 have:(ds.map fun _=>PyData.bool true)=(ds.map fun _=>true).map .bool:=by rw[xN];rfl
 rw[this,zy]
 simp
theorem zby(x:PyData):(OV.d x).view=x:=rfl
theorem kN(cf:CF)(hw:W8 cf){xs:List Int}{pots:Nat}(h:xs.length=pots)(hl:pots<=1000):runI 2 [false,false] [] jx cf [.d (zI xs),.d (.int pots)]=.ok (.d (.bool true)) [none,none]:=by
 have e:=WD (k:=1) (t:=.nm 0 2) (cond:=fYes) (elt:=(b_law_shades_1.ev cf).1) (ds:=xs.map .int) (Γ:= [some (.d (zI xs)),some (.d (.int pots))]) (fun _=>true) (fun _=>.bool true) (by
  intro x hx
  obtain⟨i,_,rfl⟩:=xK.mp hx
  refine⟨[some (.d (zI xs)),some (.d (.int pots)),some (.d (.int i))],_,rfl,rfl,by simp,fun _=>⟨.dat (.bool true),[some (.d (zI xs)),some (.d (.int pots)),some (.d (.int i))],?_,rfl,by simp⟩⟩
  simp![b_law_shades_1,hw i,zby])
 rw[WE]at e
 have a1:=zdS (ds:=xs.map .int)
 have hml:(xs.map PyData.int).length=pots:=by simpa using h
 unfold zI at e |-
 generalize xs.map PyData.int=X at *
 have hz:X.length<=1000000:=by omega
 have hq:((pots:Int)==(pots:Int))=true:=by simp
 have hz2:pots<=1000000:=by omega
 simp![jx,hml,zc,ze,hq,hz,hz2,e,a1]
noncomputable def vX (cf:CF):Prop:=∀ (xs:List Int) (pots:Nat),xs.length=pots->pots<=1000->cf "_law_shades" [.d (zI xs),.d (.int pots)]=.ok (.d (.bool true)) [none,none]
noncomputable def W5(pots:Nat)(cs:List Cl):Prop:=∀ c∈cs,c.st.length=pots/\c.wi.length=pots
theorem Bolt.kind{pots:Nat}{cs:List Cl}(h:Bolt pots cs):W5 pots cs:=fun c hc=>⟨(h.2 c hc).sl,(h.2 c hc).wl⟩
theorem zce(cf:CF)(hs:vX cf){pots:Nat}(hp:pots<=1000){cs:List Cl}(hk:W5 pots cs):runI 3 [false,false] [] qq cf [.d (zm cs),.d (.int pots)]=.ok (.d (.bool true)) [none,none]:=by
 obtain⟨Γ',e,⟨o2,rfl⟩⟩:=jr (t:=.nm 2 2) (body:=b_law_cells_kind_1.ex cf []) (ds:=cs.map Cl.D) (Γ:= [some (.d (zm cs)),some (.d (.int pots)),none])
  (fun pre Γ=>∃ o2:Option OV,Γ= [some (.d (zm cs)),some (.d (.int pots)),o2]) ⟨_,rfl⟩ (by
   rintro pre x post e Γ ⟨o2,rfl⟩
   have hx:x∈cs.map Cl.D:=by rw[e];simp
   obtain⟨c,hc,rfl⟩:=xK.mp hx
   obtain⟨h1,h2⟩:=hk c hc
   have e1:=hs c.st pots h1 hp
   have e2:=hs c.wi pots h2 hp
   refine⟨[some (.d (zm cs)),some (.d (.int pots)),some (.d c.D)],[some (.d (zm cs)),some (.d (.int pots)),some (.d c.D)],rfl,?_,_,rfl⟩
   unfold Cl.D wc
   generalize zI c.st=A at *
   generalize zI c.wi=B at *
   have a0:atI [A,PyData.bool c.w,B] 0=some A:=rfl
   have a1:atI [A,PyData.bool c.w,B] 1=some (.bool c.w):=rfl
   have a2:atI [A,PyData.bool c.w,B] 2=some B:=rfl
   generalize c.w=cw at *
   simp![b_law_cells_kind_1,e1,e2,a0,a1,a2,zc,ze,zby])
 unfold zm at *
 generalize cs.map Cl.D=X at *
 simp![qq,e]
noncomputable def Kl (cf:CF):Prop:=∀ (pots:Nat) (cs:List Cl),pots<=1000->W5 pots cs->cf "_law_cells_kind" [.d (zm cs),.d (.int pots)]=.ok (.d (.bool true)) [none,none]
theorem Ks(cf:CF)(hk:Kl cf){pots:Nat}(hp:pots<=1000){cs:List Cl}(h:W5 pots cs):runI 3 [false,false,false] [] jL cf [.d (zm cs),.d (zm cs),.d (.int pots)]=.ok (.d (.bool true)) [none,none,none]:=by
 have e:=hk pots cs hp h
 have hy:lay 20 (zm cs)=true:=K5 17 _
 have hq:=zb7 hy
 generalize zm cs=X at *
 simp![jL,e,hy,hq,zby]
noncomputable def yZ (cf:CF):Prop:=∀ (pots:Nat) (cs:List Cl),pots<=1000->W5 pots cs->cf "_law_alike" [.d (zm cs),.d (zm cs),.d (.int pots)]=.ok (.d (.bool true)) [none,none,none]
end Wx
set_option maxHeartbeats 8000000
namespace Wx
open PySem L2 L3
noncomputable def noc:Exc:=⟨"NoChart",.none⟩
noncomputable def ZW(x:Str):Int:=((NumText.digitsVal x.cps.toList:Nat):Int)
theorem zai(x:Str):VG x=.int (ZW x):=rfl
noncomputable def bdB(x:Str)(m:Int):Bool:=nbB x&&decide (ZW x<=m)
noncomputable def vR (cf:CF):Prop:=∀ x m,Tx x->cf "read_bounded" [.d (.str x),.d (.int m)]=if bdB x m then .ok (.d (.int (ZW x))) [none,none] else .exc noc [none,none]
theorem Ky(cf:CF)(hn:JQ cf){x:Str}(h:Tx x)(m:Int):runI 3 [false,false] [] zR cf [.d (.str x),.d (.int m)]=if bdB x m then .ok (.d (.int (ZW x))) [none,none] else .exc noc [none,none]:=by
 have e:=hn x h
 unfold bdB
 cases hb:nbB x with
 |false=>
  rw[hb,if_neg (by decide)]at e
  simp![zR,e,noc,zU,isN,zb]
 |true=>
  rw[hb,if_pos rfl,zai]at e
  by_cases q:ZW x<=m
  ·have q':¬ m<ZW x:=by omega
   simp![zR,e,q,q',isN,zb]
  ·have q':m<ZW x:=by omega
   simp![zR,e,q,q',noc,zU,isN,zb]
noncomputable def jH (row:Str):Option (Int×Int):=match Txt.split row (Str.ofString " ") with
 |[w,a,b]=>if decide (w=Str.ofString "bolt")&&(bdB a 12&&bdB b 999) then some (ZW a,ZW b) else none
 |_=>none
noncomputable def qM(o:Option (Int×Int)):PyData:=match o with
 |some (p,n)=>.tuple [.int p,.int n]
 |none=>.none
noncomputable def jT(o:Option (Int×Int)):RF:=match o with
 |some (p,n)=>.ok (.d (.tuple [.int p,.int n])) [none]
 |none=>.exc noc [none]
theorem yK(cf:CF)(hb:vR cf){row:Str}(h:Tx row):runI 2 [false] [] jY cf [.d (.str row)]=jT (jH row):=by
 obtain⟨w,r,e,hw,hl⟩:=j8 h 32
 rw[<- YB]at e
 have hz:row.length<=900000:=by have:=h.2;omega
 have hlf:((Str.ofString " ").length==0)=false:=by decide
 have lb:lay 20 (.str (Str.ofString "bolt"))=true:=qK "bolt" 20
 have lw:=(hw w (by simp)).ok 20
 have q:=z8 w (Str.ofString "bolt")
 unfold jH jY
 rw[e]
 match r,hw,e with
 |[a,b],hw,e=>
  have ea:=hb a 12 (hw a (by simp))
  have eb:=hb b 999 (hw b (by simp))
  dsimp only
  cases hd:decide (w=Str.ofString "bolt") with
  |false=>
   rw[hd]at q
   generalize Str.ofString " " =SP at *
   simp![zk,e,hz,hlf,a0,a1,a2,ze,lw,lb,q,jT,noc,zU,zc,zb]
  |true=>
   rw[hd]at q
   generalize Str.ofString " " =SP at *
   cases h1:bdB a 12 with
   |false=>
    rw[h1,if_neg (by decide)]at ea
    simp![zk,e,hz,hlf,a0,a1,a2,ze,lw,lb,q,ea,jT,zc,zb]
   |true=>
    rw[h1,if_pos rfl]at ea
    cases h2:bdB b 999 with
    |false=>
     rw[h2,if_neg (by decide)]at eb
     simp![zk,e,hz,hlf,a0,a1,a2,ze,lw,lb,q,ea,eb,jT,zc,zb]
    |true=>
     rw[h2,if_pos rfl]at eb
     simp![zk,e,hz,hlf,a0,a1,a2,ze,lw,lb,q,ea,eb,jT,zc,zb]
 |[],hw,e=>
  generalize Str.ofString " " =SP at *
  simp![zk,e,hz,hlf,jT,noc,zU,zc,ze,zb]
 |[x],hw,e=>
  generalize Str.ofString " " =SP at *
  simp![zk,e,hz,hlf,jT,noc,zU,zc,ze,zb]
 |x::y::z::u,hw,e=>
  generalize Str.ofString " " =SP at *
  have n3:¬ ((u.length:Int)+1+1+1+1=3):=by omega
  simp![zk,e,hz,hlf,n3,jT,noc,zU,zc,ze,zb]
noncomputable def y6 (cf:CF):Prop:=∀ row,Tx row->cf "read_head" [.d (.str row)]=jT (jH row)
theorem zgc(cf:CF)(hk:Kp cf){row:Str}(h:Tx row):runI 2 [false] [] qv cf [.d (.str row)]=.ok (.d (qM (jH row))) [none]:=by
 obtain⟨w,r,e,hw,hl⟩:=j8 h 32
 rw[<- YB]at e
 have hz:row.length<=900000:=by have:=h.2;omega
 have hlf:((Str.ofString " ").length==0)=false:=by decide
 have lb:lay 20 (.str (Str.ofString "bolt"))=true:=qK "bolt" 20
 have lw:=(hw w (by simp)).ok 20
 have q:=z8 w (Str.ofString "bolt")
 unfold jH qv
 rw[e]
 match r,hw,e with
 |[a,b],hw,e=>
  have ta:=hw a (by simp)
  have tb:=hw b (by simp)
  have lp:zW 1 (.nm 0 2) fYes (b_law_sheet_head_1.ev cf).1 [.str a,.str b] [] [some (.d (.str row)),some (.d (.list [.str w,.str a,.str b]))]=.ok ([.bool (nbB a),.bool (nbB b)],[some (.d (.str row)),some (.d (.list [.str w,.str a,.str b]))]) :=
   qQ (xs:= [a,b]) .str (fun x=>.bool (nbB x)) fun x hx=>⟨[some (.d (.str row)),some (.d (.list [.str w,.str a,.str b])),some (.d (.str x))],.dat (.bool (nbB x)),[some (.d (.str row)),some (.d (.list [.str w,.str a,.str b])),some (.d (.str x))],rfl,by
    have e:=hk x (hw x (.tail _ hx))
    unfold b_law_sheet_head_1
    simp![e,zb],rfl,rfl⟩
  have cut0:Qb [PyData.str w,.str a,.str b] (some 1) none= [.str a,.str b]:=cut1 _ _
  dsimp only
  unfold bdB
  generalize b_law_sheet_head_1=B at *
  cases hd:decide (w=Str.ofString "bolt") with
  |false=>
   rw[hd]at q
   generalize Str.ofString " " =SP at *
   simp![zk,e,hz,hlf,a0,ze,lw,lb,q,qM,zc,zb]
  |true=>
   rw[hd]at q
   generalize Str.ofString " " =SP at *
   cases h1:nbB a with
   |false=>
    rw[h1]at lp
    simp![zk,e,hz,hlf,a0,ze,lw,lb,q,Qd,qS,jh,cut0,lp,zH,qM,zc,zb]
   |true=>
    rw[h1]at lp
    cases h2:nbB b with
    |false=>
     rw[h2]at lp
     simp![zk,e,hz,hlf,a0,ze,lw,lb,q,Qd,qS,jh,cut0,lp,zH,qM,zc,zb]
    |true=>
     rw[h2]at lp
     have ga:=yE h1
     have gb:=yE h2
     rw[zai]at ga gb
     by_cases k1:ZW a<=12
     ·have k1':¬ 12<ZW a:=by omega
      by_cases k2:ZW b<=999
      ·have k2':¬ 999<ZW b:=by omega
       simp![zk,e,hz,hlf,a0,a1,a2,ze,lw,lb,q,Qd,qS,jh,cut0,lp,zH,ga,gb,k1,k2,k1',k2',qM,zc,zb]
      ·have k2':999<ZW b:=by omega
       simp![zk,e,hz,hlf,a0,a1,a2,ze,lw,lb,q,Qd,qS,jh,cut0,lp,zH,ga,gb,k1,k2,k1',k2',qM,zc,zb]
     ·have k1':12<ZW a:=by omega
      simp![zk,e,hz,hlf,a0,a1,a2,ze,lw,lb,q,Qd,qS,jh,cut0,lp,zH,ga,gb,k1,k1',qM,zc,zb]
 |[],hw,e=>
  generalize b_law_sheet_head_1=B at *
  generalize Str.ofString " " =SP at *
  simp![zk,e,hz,hlf,qM,zc,ze,zb]
 |[x],hw,e=>
  generalize b_law_sheet_head_1=B at *
  generalize Str.ofString " " =SP at *
  simp![zk,e,hz,hlf,qM,zc,ze,zb]
 |x::y::z::u,hw,e=>
  generalize b_law_sheet_head_1=B at *
  generalize Str.ofString " " =SP at *
  have n3:¬ ((u.length:Int)+1+1+1+1=3):=by omega
  simp![zk,e,hz,hlf,n3,qM,zc,ze,zb]
noncomputable def y7 (cf:CF):Prop:=∀ row,Tx row->cf "_law_sheet_head" [.d (.str row)]=.ok (.d (qM (jH row))) [none]
noncomputable def vF(x:Str)(p:Int):Bool:=shB x&&decide (((shD x).length:Int)=p)
noncomputable def Kq (cf:CF):Prop:=∀ x p,Tx x->cf "read_picture" [.d (.str x),.d (.int p)]=if vF x p then .ok (.d (.tuple (shD x))) [none,none] else .exc noc [none,none]
theorem zay(cf:CF)(hs:wa cf){x:Str}(h:Tx x)(p:Int):runI 3 [false,false] [] zS cf [.d (.str x),.d (.int p)]=if vF x p then .ok (.d (.tuple (shD x))) [none,none] else .exc noc [none,none]:=by
 have e:=hs x h
 unfold vF
 cases hb:shB x with
 |false=>
  rw[hb,if_neg (by decide)]at e
  simp![zS,e,noc,zU,isN,zb]
 |true=>
  rw[hb,if_pos rfl]at e
  by_cases q:((shD x).length:Int)=p
  ·simp![zS,e,q,isN,zc,ze,zb]
  ·simp![zS,e,q,noc,zU,isN,zc,ze,zb]
noncomputable def zbA (x:Str):Bool:=decide (x=Str.ofString "*")||decide (x=Str.ofString ".")
noncomputable def jb (row:Str) (p:Int):Option PyData:=match Txt.split row (Str.ofString " ") with
 |[s,x,t]=>if zbA x&&(vF s p&&vF t p) then some (.tuple [.tuple (shD s),.bool (decide (x=Str.ofString "*")),.tuple (shD t)]) else none
 |_=>none
theorem KZ (x:Str):inD (.str x) [.str (Str.ofString "*"),.str (Str.ofString ".")]=zbA x:=by
 unfold inD zbA
 simp only[xM,List.any_nil,Bool.or_false,z8]
 congr 1<;>(rw[uB];simp only[decide_eq_true_eq];exact eq_comm)
noncomputable def WZ (cf:CF):Prop:=∀ row p,Tx row->cf "read_cell" [.d (.str row),.d (.int p)]=match jb row p with
 |some d=>.ok (.d d) [none,none]
 |none=>.exc noc [none,none]
theorem yJ(cf:CF)(hp:Kq cf){row:Str}(h:Tx row)(p:Int):runI 3 [false,false] [] jX cf [.d (.str row),.d (.int p)]=match jb row p with
 |some d=>.ok (.d d) [none,none]
 |none=>.exc noc [none,none]:=by
 obtain⟨w,r,e,hw,hl⟩:=j8 h 32
 rw[<- YB]at e
 have hz:row.length<=900000:=by have:=h.2;omega
 have hlf:((Str.ofString " ").length==0)=false:=by decide
 have l1:lay 20 (.str (Str.ofString "*"))=true:=qK "*" 20
 have l2:lay 20 (.str (Str.ofString "."))=true:=qK "." 20
 unfold jb jX
 rw[e]
 match r,hw,e with
 |[x,t],hw,e=>
  have lx:=(hw x (by simp)).ok 20
  have es:=hp w p (hw w (by simp))
  have et:=hp t p (hw t (by simp))
  have iw:=KZ x
  have qx:=z8 x (Str.ofString "*")
  dsimp only
  generalize decide (x=Str.ofString "*")=dx at *
  generalize zbA x=wx at *
  generalize Str.ofString " " =SP at *
  generalize Str.ofString "*" =ST at *
  generalize Str.ofString "." =DT at *
  cases wx with
  |false=>simp![zk,e,hz,hlf,a0,a1,a2,ze,lx,l1,l2,iw,noc,zU,zc,zb]
  |true=>
   cases h1:vF w p with
   |false=>
    rw[h1,if_neg (by decide)]at es
    simp![zk,e,hz,hlf,a0,a1,a2,ze,lx,l1,l2,iw,es,zc,zb]
   |true=>
    rw[h1,if_pos rfl]at es
    cases h2:vF t p with
    |false=>
     rw[h2,if_neg (by decide)]at et
     simp![zk,e,hz,hlf,a0,a1,a2,ze,lx,l1,l2,iw,qx,es,et,zc,zb]
    |true=>
     rw[h2,if_pos rfl]at et
     simp![zk,e,hz,hlf,a0,a1,a2,ze,lx,l1,l2,iw,qx,es,et,zc,zb]
 |[],hw,e=>
  generalize Str.ofString " " =SP at *
  simp![zk,e,hz,hlf,noc,zU,zc,ze,zb]
 |[x],hw,e=>
  generalize Str.ofString " " =SP at *
  simp![zk,e,hz,hlf,noc,zU,zc,ze,zb]
 |x::y::z::u,hw,e=>
  generalize Str.ofString " " =SP at *
  have n3:¬ ((u.length:Int)+1+1+1+1=3):=by omega
  simp![zk,e,hz,hlf,n3,noc,zU,zc,ze,zb]
theorem zgb(cf:CF)(hf:Km cf)(hc:Ko cf){row:Str}(h:Tx row)(p:Int):runI 5 [false,false] [] qu cf [.d (.str row),.d (.int p)]=.ok (.d ((jb row p).getD .none)) [none,none]:=by
 obtain⟨w,r,e,hw,hl⟩:=j8 h 32
 rw[<- YB]at e
 have hz:row.length<=900000:=by have:=h.2;omega
 have hlf:((Str.ofString " ").length==0)=false:=by decide
 have l1:lay 20 (.str (Str.ofString "*"))=true:=qK "*" 20
 have l2:lay 20 (.str (Str.ofString "."))=true:=qK "." 20
 unfold jb qu vF
 rw[e]
 match r,hw,e with
 |[x,t],hw,e=>
  have tx:=hw x (by simp)
  have tw:=hw w (by simp)
  have tt:=hw t (by simp)
  have lx:=tx.ok 20
  have es:=hf w tw
  have et:=hf t tt
  have ps:=hc w tw
  have pt:=hc t tt
  have iw:=KZ x
  have qx:=z8 x (Str.ofString "*")
  dsimp only
  generalize decide (x=Str.ofString "*")=dx at *
  generalize zbA x=wx at *
  generalize Str.ofString " " =SP at *
  generalize Str.ofString "*" =ST at *
  generalize Str.ofString "." =DT at *
  cases h1:shB w with
  |false=>
   rw[h1]at es
   simp![zk,e,hz,hlf,a0,a1,a2,ze,es,zc,zb]
  |true=>
   rw[h1]at es
   have ps':=ps h1
   cases h2:shB t with
   |false=>
    rw[h2]at et
    simp![zk,e,hz,hlf,a0,a1,a2,ze,es,et,zc,zb]
   |true=>
    rw[h2]at et
    have pt':=pt h2
    cases wx with
    |false=>simp![zk,e,hz,hlf,a0,a1,a2,ze,es,et,ps',pt',lx,l1,l2,iw,zc,zb]
    |true=>
     by_cases q1:((shD w).length:Int)=p
     ·by_cases q2:((shD t).length:Int)=p
      ·simp![zk,e,hz,hlf,a0,a1,a2,ze,es,et,ps',pt',lx,l1,l2,iw,qx,q1,q2,zc,zb]
      ·simp![zk,e,hz,hlf,a0,a1,a2,ze,es,et,ps',pt',lx,l1,l2,iw,qx,q1,q2,zc,zb]
     ·simp![zk,e,hz,hlf,a0,a1,a2,ze,es,et,ps',pt',lx,l1,l2,iw,qx,q1,zc,zb]
 |[],hw,e=>
  generalize Str.ofString " " =SP at *
  simp![zk,e,hz,hlf,zc,ze,zb]
 |[x],hw,e=>
  generalize Str.ofString " " =SP at *
  simp![zk,e,hz,hlf,zc,ze,zb]
 |x::y::z::u,hw,e=>
  generalize Str.ofString " " =SP at *
  have n3:¬ ((u.length:Int)+1+1+1+1=3):=by omega
  simp![zk,e,hz,hlf,n3,zc,ze,zb]
noncomputable def W6 (cf:CF):Prop:=∀ row p,Tx row->cf "_law_sheet_cell" [.d (.str row),.d (.int p)]=.ok (.d ((jb row p).getD .none)) [none,none]
noncomputable def cwB(p:Int)(y:Str):Bool:=(jb y p).isSome
noncomputable def cwD(p:Int)(y:Str):PyData:=(jb y p).getD .none
noncomputable def jA (qs:List Str) (l:Str):Option (Int×List Str):=if l=Str.ofString "" then match qs with
 |[]=>none
 |h::rs=>match jH h with
  |none=>none
  |some (p,n)=>if decide ((rs.length:Int)=n)&&rs.all (cwB p) then some (p,rs) else none
 else none
noncomputable def Yb(T:Str)(qs:List Str)(l:Str):Prop:=Txt.split T (ch 10)=qs++ [l]/\(∀ y∈qs,Tx y)/\Tx l/\qs.length<=450000 /\
  ((l=Str.ofString "" /\qs= []/\T=Str.ofString "")∨(l=Str.ofString "" /\qs≠ []/\T≠Str.ofString "" /\Txt.endswith T (ch 10)=true/\Txt.split (Txt.slice T none (some (-1))) (ch 10)=qs)∨(l≠Str.ofString "" /\T≠Str.ofString "" /\Txt.endswith T (ch 10)=false))
theorem kI(cf:CF)(hc:WZ cf){qs:List Str}(h:∀ y∈qs,Tx y)(p:Int){o0 o1 o2 o4:Option OV}:zW 1 (.nm 0 5) fYes (p_read_chart_1.ev cf).1 (qs.map .str) [] [o0,o1,o2,some (.d (.int p)),o4]=if qs.all (cwB p) then .ok (qs.map (cwD p),[o0,o1,o2,some (.d (.int p)),o4]) else .exc noc [o0,o1,o2,some (.d (.int p)),o4] :=
 KE .str (cwD p) (cwB p) noc fun y hy=>⟨[o0,o1,o2,some (.d (.int p)),o4,some (.d (.str y))],rfl,fun q=>by
   have e:=hc y p (h y hy)
   unfold cwB at q
   unfold cwD
   cases k:jb y p with
   |none=>rw[k]at q;cases q
   |some d=>
    rw[k]at e
    refine⟨.dat d,[o0,o1,o2,some (.d (.int p)),o4,some (.d (.str y))],?_,rfl,rfl⟩
    dsimp only at e
    unfold p_read_chart_1
    simp![e,zb],fun q=>by
   have e:=hc y p (h y hy)
   unfold cwB at q
   cases k:jb y p with
   |some d=>rw[k]at q;cases q
   |none=>
    rw[k]at e
    refine⟨[o0,o1,o2,some (.d (.int p)),o4,some (.d (.str y))],?_,rfl⟩
    dsimp only at e
    unfold p_read_chart_1
    simp![e,zb]⟩
noncomputable def qP(o:Option (Int×List Str)):RF:=match o with
 |some (p,rs)=>.ok (.t [.d (.int p),.l ((rs.map (cwD p)).map .d)]) [none]
 |none=>.exc noc [none]
theorem yr:Txt.endswith (Str.ofString "") (Str.ofString "\n")=false:=by decide +kernel
theorem VJ(cf:CF)(hh:y6 cf)(hc:WZ cf){T:Str}(h:Tx T){qs:List Str}{l:Str}(P:Yb T qs l):runI 5 [false] [] qh cf [.d (.str T)]=qP (jA qs l):=by
 obtain⟨_,hq,hl,hql,hcs⟩:=P
 have hz:=h.len
 have hz9:(Txt.slice T none (some (-1))).length<=900000:=by have:=Txt.slice_le T none (some (-1));have:=h.2;omega
 have hlf:((Str.ofString "\n").length==0)=false:=by decide
 unfold jA
 rcases hcs with ⟨e1,e2,e3⟩ | ⟨e1,e2,e3,e4,e5⟩ | ⟨e1,e3,e4⟩
 ·rw[if_pos e1,e2,e3]
  have e4:=yr
  unfold qh
  generalize p_read_chart_1=B at *
  generalize Str.ofString "" =EE at *
  generalize Str.ofString "\n" =LF at *
  simp![Qe,e4,qP,noc,zU]
 ·rw[if_pos e1]
  rw[<- Vz]at e4 e5
  cases qs with
  |nil=>exact absurd rfl e2
  |cons hd rs=>
   have ehd:=hh hd (hq hd (by simp))
   have hrs:∀ y∈rs,Tx y:=fun y hy=>hq y (.tail _ hy)
   have lp:=fun (p:Int) (o0 o1 o2 o4:Option OV)=>kI cf hc hrs p (o0:=o0) (o1:=o1) (o2:=o2) (o4:=o4)
   have hzr:(rs.map PyData.str).length<=1000000:=by simp at hql |-;omega
   have hrl:(rs.map PyData.str).length=rs.length:=xn ..
   have hzl:rs.length<=1000000:=by simp at hql;omega
   dsimp only
   unfold qh
   generalize p_read_chart_1=B at *
   generalize Str.ofString "\n" =LF at *
   cases k:jH hd with
   |none=>
    rw[k]at ehd
    simp only[jT]at ehd
    simp![Qe,e4,jG,qS,jh,zk,WR,hz,hz9,hlf,e5,ehd,qP,zb]
   |some z=>
    obtain⟨p,n⟩:=z
    rw[k]at ehd
    simp only[jT]at ehd
    dsimp only
    by_cases kn:(rs.length:Int)=n
    ·rw[decide_eq_true kn,Bool.true_and]
     cases ka:rs.all (cwB p) with
     |true=>
      have lp':=lp p
      rw[ka]at lp'
      simp only[if_true]at lp'
      simp only[if_true,qP]
      generalize rs.map (cwD p)=RD at *
      have e5':(Txt.split (Txt.slice T none (some (-1))) LF).map PyData.str=PyData.str hd::rs.map PyData.str:=by rw[e5];rfl
      generalize rs.map PyData.str=RS at *
      simp![Qe,e4,jG,qS,jh,zk,WR,hz,hz9,hlf,e5',ehd,hrl,kn,Yi,lp',hzl,zc,ze,qP,zb]
     |false=>
      have lp':=lp p
      rw[ka]at lp'
      simp only[xQ,if_false]at lp'
      have e5':(Txt.split (Txt.slice T none (some (-1))) LF).map PyData.str=PyData.str hd::rs.map PyData.str:=by rw[e5];rfl
      generalize rs.map PyData.str=RS at *
      simp![Qe,e4,jG,qS,jh,zk,WR,hz,hz9,hlf,e5',ehd,hrl,kn,Yi,lp',hzl,zc,ze,qP,zb]
    ·rw[decide_eq_false kn,Bool.false_and]
     have e5':(Txt.split (Txt.slice T none (some (-1))) LF).map PyData.str=PyData.str hd::rs.map PyData.str:=by rw[e5];rfl
     generalize rs.map PyData.str=RS at *
     simp![Qe,e4,jG,qS,jh,zk,WR,hz,hz9,hlf,e5',ehd,hrl,kn,noc,zU,zc,ze,qP,zb]
 ·rw[if_neg e1]
  rw[<- Vz]at e4
  unfold qh
  generalize p_read_chart_1=B at *
  generalize Str.ofString "\n" =LF at *
  simp![Qe,e4,qP,noc,zU]
noncomputable def vS (cf:CF):Prop:=∀ T qs l,Tx T->Yb T qs l->cf "read_chart" [.d (.str T)]=qP (jA qs l)
theorem kq(cf:CF)(hc:W6 cf){qs:List Str}(h:∀ y∈qs,Tx y)(p n:Int){o0 o1 o3:Option OV}:zW 1 (.nm 0 4) fYes (b_law_sheet_meant_1.ev cf).1 (qs.map .str) [] [o0,o1,some (.d (.tuple [.int p,.int n])),o3]=.ok (qs.map (cwD p),[o0,o1,some (.d (.tuple [.int p,.int n])),o3]) :=
 qQ .str (cwD p) fun y hy=>by
  have e:=hc y p (h y hy)
  refine⟨[o0,o1,some (.d (.tuple [.int p,.int n])),o3,some (.d (.str y))],.dat (cwD p y),[o0,o1,some (.d (.tuple [.int p,.int n])),o3,some (.d (.str y))],rfl,?_,rfl,rfl⟩
  unfold b_law_sheet_meant_1
  unfold cwD
  have ax:atI [PyData.int p,PyData.int n] 0=some (.int p):=a0
  simp![e,ax,zb]
theorem zem(p:Int)(y:Str):isN (cwD p y)= !cwB p y:=by
 unfold cwD cwB
 cases k:jb y p with
 |none=>rfl
 |some d=>
  unfold jb at k
  split at k
  ·split at k
   ·cases k;rfl
   ·cases k
  ·cases k
theorem K9(cf:CF){qs:List Str}(p:Int){o0 o1 o2 o3:Option OV}:zW 1 (.nm 0 4) fYes (b_law_sheet_meant_2.ev cf).1 (qs.map (cwD p)) [] [o0,o1,o2,o3]=.ok ((qs.map fun y=> !cwB p y).map .bool,[o0,o1,o2,o3]):=by
 rw[xN]
 exact qQ (cwD p) _ fun y hy=>by
  have e:=zem p y
  refine⟨[o0,o1,o2,o3,some (.d (cwD p y))],.dat (.bool (!cwB p y)),[o0,o1,o2,o3,some (.d (cwD p y))],rfl,?_,rfl,rfl⟩
  unfold b_law_sheet_meant_2
  generalize cwD p y=RD at *
  unfold isN at e
  simp![isN,e,zb]
theorem Ku{α:Type}(f:α->Bool)(qs:List α):(qs.map fun y=> !f y).any id= !qs.all f:=by
 induction qs with
 |nil=>rfl
 |cons y r ih=>simp[ih]
theorem zb4{α:Type}(a:α)(xs:List α)(x:α):Qb (a::(xs++ [x])) (some 1) (some (-1))=xs:=by
 unfold Qb
 have h1:HT.sIx (a::(xs++ [x])).length 0 (some 1)=1:=by simp[HT.sIx]
 have h2:HT.sIx (a::(xs++ [x])).length (a::(xs++ [x])).length (some (-1))=xs.length+1:=by
  unfold HT.sIx
  simp
  omega
 rw[h1,h2]
 simp
noncomputable def qJ(o:Option (Int×List Str)):PyData:=match o with
 |some (p,rs)=>.tuple [.int p,.list (rs.map (cwD p))]
 |none=>.none
theorem lsheet(cf:CF)(hh:y7 cf)(hc:W6 cf){T:Str}(h:Tx T){qs:List Str}{l:Str}(P:Yb T qs l):runI 4 [false] [] qd cf [.d (.str T)]=.ok (.d (qJ (jA qs l))) [none]:=by
 obtain⟨es,hq,hl,hql,hcs⟩:=P
 have hz:T.length<=900000:=by have:=h.2;omega
 have hlf:((Str.ofString "\n").length==0)=false:=by decide
 have le:lay 20 (.str (Str.ofString ""))=true:=qK "" 20
 have ll:=hl.ok 20
 have qe:=z8 l (Str.ofString "")
 rw[<- Vz]at es
 have es':(Txt.split T (Str.ofString "\n")).map PyData.str=qs.map PyData.str++ [PyData.str l]:=by rw[es];simp
 have hat:=Kx (qs.map PyData.str) (PyData.str l)
 unfold jA qd
 cases qs with
 |nil=>
  have el:=hh l hl
  have ax:atI [PyData.str l] 0=some (.str l):=a0
  have hat':atI [PyData.str l] (-1)=some (.str l):=hat
  simp only[List.map_nil,xP]at es'
  have hhead:l=Str.ofString "" ->jH l=none:=fun z=>by subst z;decide +kernel
  generalize b_law_sheet_meant_1=B1 at *
  generalize b_law_sheet_meant_2=B2 at *
  generalize Str.ofString "\n" =LF at *
  have goal:(if l=Str.ofString "" then (none:Option (Int×List Str)) else none)=none:=by split<;>rfl
  rw[goal]
  by_cases q0:l=Str.ofString ""
  ·have k:=hhead q0
   rw[k]at el
   simp only[qM]at el
   generalize Str.ofString "" =EE at *
   simp![zk,es',hz,hlf,ax,el,isN,qJ,zb]
  ·rw[decide_eq_false q0]at qe
   generalize Str.ofString "" =EE at *
   cases k:jH l with
   |none=>
    rw[k]at el
    simp only[qM]at el
    simp![zk,es',hz,hlf,ax,el,isN,qJ,zb]
   |some z=>
    obtain⟨p,n⟩:=z
    rw[k]at el
    simp only[qM]at el
    simp![zk,es',hz,hlf,ax,hat',el,isN,ll,le,qe,qJ,zb]
 |cons hd rs=>
  have ehd:=hh hd (hq hd (by simp))
  have hrs:∀ y∈rs,Tx y:=fun y hy=>hq y (.tail _ hy)
  have lp1:=fun (p n:Int) (o0 o1 o3:Option OV)=>kq cf hc hrs p n (o0:=o0) (o1:=o1) (o3:=o3)
  have lp2:=fun (p:Int) (o0 o1 o2 o3:Option OV)=>K9 cf (qs:=rs) p (o0:=o0) (o1:=o1) (o2:=o2) (o3:=o3)
  have ha:=fun p=>Ku (cwB p) rs
  have hzl:rs.length<=1000000:=by simp at hql;omega
  simp only[xq,xX]at es' hat
  have ax:atI (PyData.str hd::(rs.map PyData.str++ [PyData.str l])) 0=some (.str hd):=a0
  have hcut:=zb4 (PyData.str hd) (rs.map PyData.str) (PyData.str l)
  have hlen:((PyData.str hd::(rs.map PyData.str++ [PyData.str l])).length:Int)-2=rs.length:=by simp;omega
  have hzm:(rs.map PyData.str).length<=1000000:=by simpa using hzl
  generalize b_law_sheet_meant_1=B1 at *
  generalize b_law_sheet_meant_2=B2 at *
  generalize Str.ofString "\n" =LF at *
  generalize (PyData.str hd::(rs.map PyData.str++ [PyData.str l]))=WL at *
  dsimp only
  cases k:jH hd with
  |none=>
   have goal:(if l=Str.ofString "" then (none:Option (Int×List Str)) else none)=none:=by split<;>rfl
   dsimp only
   rw[goal]
   rw[k]at ehd
   simp only[qM]at ehd
   generalize Str.ofString "" =EE at *
   simp![zk,es',hz,hlf,ax,ehd,isN,qJ,zb]
  |some z=>
   obtain⟨p,n⟩:=z
   rw[k]at ehd
   simp only[qM]at ehd
   have hx1:atI [PyData.int p,PyData.int n] 1=some (.int n):=a1
   have hx0:atI [PyData.int p,PyData.int n] 0=some (.int p):=a0
   dsimp only
   by_cases q0:l=Str.ofString ""
   ·rw[if_pos q0]
    rw[decide_eq_true q0]at qe
    generalize Str.ofString "" =EE at *
    by_cases kn:(rs.length:Int)=n
    ·rw[decide_eq_true kn,Bool.true_and]
     have ha':=ha p
     have lp1':=lp1 p n
     have lp2':=lp2 p
     have hzc:(rs.map (cwD p)).length<=1000000:=by simpa using hzl
     cases ka:rs.all (cwB p) with
     |true=>
      rw[ka]at ha'
      simp only[if_true,qJ]
      generalize rs.map PyData.str=RS at *
      generalize (rs.map fun y=> !cwB p y)=bs at *
      generalize rs.map (cwD p)=RD at *
      simp![zk,es',hz,hlf,ax,hat,ehd,isN,ll,le,qe,hlen,kn,hx0,hx1,Qd,qS,hcut,hzm,lp1',lp2',hzc,zy,ha',zc,ze,zb]
     |false=>
      rw[ka]at ha'
      simp only[xQ,if_false,qJ]
      generalize rs.map PyData.str=RS at *
      generalize (rs.map fun y=> !cwB p y)=bs at *
      generalize rs.map (cwD p)=RD at *
      simp![zk,es',hz,hlf,ax,hat,ehd,isN,ll,le,qe,hlen,kn,hx0,hx1,Qd,qS,hcut,hzm,lp1',lp2',hzc,zy,ha',zc,ze,zb]
    ·rw[decide_eq_false kn,Bool.false_and]
     simp only[xQ,if_false,qJ]
     simp![zk,es',hz,hlf,ax,hat,ehd,isN,ll,le,qe,hlen,kn,hx1,zc,ze,zb]
   ·rw[if_neg q0]
    rw[decide_eq_false q0]at qe
    generalize Str.ofString "" =EE at *
    simp![zk,es',hz,hlf,ax,hat,ehd,isN,ll,le,qe,qJ,zb]
noncomputable def vU (cf:CF):Prop:=∀ T qs l,Tx T->Yb T qs l->cf "_law_sheet_meant" [.d (.str T)]=.ok (.d (qJ (jA qs l))) [none]
end Wx
set_option maxHeartbeats 8000000
namespace Wx
open PySem L2 L3
theorem Yy{sh:List Int}(hl:sh.length<=12)(h:∀ x∈sh,0<=x/\x<=9):Txn 12 (shS sh):=by
 by_cases hne:sh= []
 ·subst hne
  have:(shS []).cps.toList= [45]:=by decide +kernel
  refine⟨fun c hc=>?_,by decide +kernel⟩
  rw[this]at hc
  have:c=45:=by simpa using hc
  omega
 ·obtain⟨cs,e,hcl,h2,_⟩:=zff h hne
  rw[e]
  refine⟨fun c hc=>?_,?_⟩
  ·have:=(h2 c (by simpa using hc)).2
   omega
  ·show cs.toArray.size<=12
   simp;omega
theorem zbd{i:Int}(h:Nb i):Txn 6 (tS i):=⟨fun c hc=>by have:=(zfA h c hc).2;omega,(zbc h).2⟩
theorem jF{n:Nat}{x:Str}(h:(x.cps.toList.all fun c=>decide (c<=127))=true/\x.length<=n):Txn n x:=⟨fun c hc=>by
 have:=xz.mp h.1 c hc
 simpa using this,h.2⟩
noncomputable def vY (cf:CF):Prop:=∀ (pots:Nat) (cs:List Cl),pots<=12->Bolt pots cs->∃ x,Txn 30000 x/\10∈x.cps.toList/\cf "_law_sheet" [.d (zm cs),.d (.int pots)]=.ok (.d (.str x)) [none,none]
theorem sheet2(cf:CF)(hf:Wg cf){pots:Nat}{cs:List Cl}(hp:pots<=12)(hb:Bolt pots cs):∃ x,Txn 30000 x/\10∈x.cps.toList/\runI 6 [false,false] [] jO cf [.d (zm cs),.d (.int pots)]=.ok (.d (.str x)) [none,none]:=by
 obtain⟨hl,hk⟩:=hb
 have t1:=zbd (i:=(pots:Int)) ⟨by omega,by omega⟩
 have t2:=zbd (i:=(cs.length:Int)) ⟨by omega,by omega⟩
 have s1:Txn 5 (Str.ofString "bolt "):=jF (by decide +kernel)
 have s2:Txn 1 (Str.ofString " "):=jF (by decide +kernel)
 have s3:Txn 1 (Str.ofString "\n"):=jF (by decide +kernel)
 have s4:Txn 3 (Str.ofString " . "):=jF (by decide +kernel)
 have s5:Txn 3 (Str.ofString " * "):=jF (by decide +kernel)
 have se:Txn 0 Str.empty:=jF (by decide +kernel)
 have th:Txn 19 (JX [Str.ofString "bolt ",tS pots,Str.ofString " ",tS cs.length,Str.ofString "\n"]):=s1.app (t1.app (s2.app (t2.app (s3.app se))))
 have hlf0:10∈(JX [Str.ofString "bolt ",tS pots,Str.ofString " ",tS cs.length,Str.ofString "\n"]).cps.toList:=by
  have:(10:Nat)∈(Str.ofString "\n").cps.toList:=by decide +kernel
  simp only[JX]
  rw[zV,zV,zV,zV,zV]
  simp[this]
 have g1:∀ n:Nat,n<=1000->((n:Int).natAbs.log2<1920):=fun n h=>Nat.lt_of_le_of_lt (Nat.log2_le_self _) (by omega)
 obtain⟨Γ',e,⟨x,o3,o4,o5,hx,hlf,rfl⟩⟩:=jr (t:=.tp (.cons (.nm 3 3) (.cons (.nm 4 4) (.cons (.nm 5 5) .nil)))) (body:=b_law_sheet_1.ex cf []) (ds:=cs.map Cl.D) (Γ:= [some (.d (zm cs)),some (.d (.int pots)),some (.d (.str (JX [Str.ofString "bolt ",tS pots,Str.ofString " ",tS cs.length,Str.ofString "\n"]))),none,none,none])
  (fun pre Γ=>∃ x o3 o4 o5,Txn (19+28*pre.length) x/\10∈x.cps.toList/\Γ= [some (.d (zm cs)),some (.d (.int pots)),some (.d (.str x)),o3,o4,o5]) ⟨_,none,none,none,th,hlf0,rfl⟩ (by
   rintro pre d post ed Γ ⟨x,o3,o4,o5,hx,hlf,rfl⟩
   have hd:d∈cs.map Cl.D:=by rw[ed];simp
   obtain⟨c,hc,rfl⟩:=xK.mp hd
   have ck:=hk c hc
   have hpl:pre.length<1000:=by
    have:=congrArg List.length ed
    rw[xn,xw,xo]at this
    omega
   have ff1:=hf c.st (by rw[ck.sl];exact hp) ck.sn
   have ff2:=hf c.wi (by rw[ck.wl];exact hp) ck.wn
   have u1:=Yy (by rw[ck.sl];exact hp) ck.sn
   have u2:=Yy (by rw[ck.wl];exact hp) ck.wn
   have hxl:=hx.2
   have hu1:=u1.2
   have hu2:=u2.2
   have h3:=s3.2
   have y1:=hx.app u1
   refine⟨[some (.d (zm cs)),some (.d (.int pots)),some (.d (.str x)),some (.d (zI c.st)),some (.d (.bool c.w)),some (.d (zI c.wi))],[some (.d (zm cs)),some (.d (.int pots)),some (.d (.str (x++shS c.st++(if c.w then Str.ofString " * " else Str.ofString " . ")++shS c.wi++Str.ofString "\n"))),some (.d (zI c.st)),some (.d (.bool c.w)),some (.d (zI c.wi))],rfl,?_,_,_,_,_,?_,by rw[zV,zV,zV,zV];simp[hlf],rfl⟩
   ·have l1:=qB x (shS c.st)
    have l2:=qB (x++shS c.st) (Str.ofString " * ")
    have l3:=qB (x++shS c.st) (Str.ofString " . ")
    have l4:=qB (x++shS c.st++Str.ofString " * ") (shS c.wi)
    have l5:=qB (x++shS c.st++Str.ofString " . ") (shS c.wi)
    have k4:=s4.2
    have k5:=s5.2
    have b0:atI [PyData.str (Str.ofString " . "),PyData.str (Str.ofString " * ")] 0=some (.str (Str.ofString " . ")):=a0
    have b1:atI [PyData.str (Str.ofString " . "),PyData.str (Str.ofString " * ")] 1=some (.str (Str.ofString " * ")):=a1
    have z1:x.length+(shS c.st).length<=1000000:=by omega
    have z2:(x++shS c.st).length+(Str.ofString " * ").length<=1000000:=by omega
    have z3:(x++shS c.st).length+(Str.ofString " . ").length<=1000000:=by omega
    have z4:(x++shS c.st++Str.ofString " * ").length+(shS c.wi).length<=1000000:=by omega
    have z5:(x++shS c.st++Str.ofString " . ").length+(shS c.wi).length<=1000000:=by omega
    have z6:(x++shS c.st++Str.ofString " * " ++shS c.wi).length+(Str.ofString "\n").length<=1000000:=by rw[l4];omega
    have z7:(x++shS c.st++Str.ofString " . " ++shS c.wi).length+(Str.ofString "\n").length<=1000000:=by rw[l5];omega
    clear l1 l2 l3 l4 l5 s1 s2 s3 s4 s5 u1 u2 y1 th
    unfold b_law_sheet_1
    generalize Str.ofString " * " =W1 at *
    generalize Str.ofString " . " =W0 at *
    generalize Str.ofString "\n" =LF at *
    generalize shS c.st=S1 at *
    generalize shS c.wi=S2 at *
    generalize zI c.st=I1 at *
    generalize zI c.wi=I2 at *
    cases c.w<;>simp![ff1,ff2,jS,z1,z2,z3,z4,z5,z6,z7,b0,b1,zb]
   ·have hw:Txn 3 (if c.w then Str.ofString " * " else Str.ofString " . "):=by split<;>first | exact s5 | exact s4
    refine (((y1.app hw).app u2).app s3).mono ?_
    rw[xw,ui]
    omega)
 refine⟨x,hx.mono (by rw[xn];omega),hlf,?_⟩
 have hz:(cs.map Cl.D).length<=1000000:=by simp;omega
 have gp:=g1 pots (by omega)
 have gn:=g1 cs.length hl
 have ff1:jR (.int pots)=some (tS pots):=by
  have:(Str.ofString (toString (pots:Int))).length<=10000:=by have:=t1.2;unfold tS at this;omega
  simp only[jR,gp,this,and_self,if_true];rfl
 have ff2:jR (.int cs.length)=some (tS cs.length):=by
  have:(Str.ofString (toString (cs.length:Int))).length<=10000:=by have:=t2.2;unfold tS at this;omega
  simp only[jR,gn,this,and_self,if_true];rfl
 have ff3:jR (.str (Str.ofString "bolt "))=some (Str.ofString "bolt "):=by decide +kernel
 have ff4:jR (.str (Str.ofString " "))=some (Str.ofString " "):=by decide +kernel
 have ff5:jR (.str (Str.ofString "\n"))=some (Str.ofString "\n"):=by decide +kernel
 have hlen:((cs.map Cl.D).length:Int)=cs.length:=by simp
 clear t1 t2 s1 s2 s3 s4 s5 th
 unfold jO
 simp only[zm]at *
 generalize b_law_sheet_1=B at *
 generalize tS (pots:Int)=TP at *
 generalize tS (cs.length:Int)=TN at *
 generalize Str.ofString "bolt " =BO at *
 generalize Str.ofString " " =SP at *
 generalize Str.ofString "\n" =LF at *
 generalize cs.map Cl.D=DD at *
 simp![Vl,IJ.ev,wg,yt,ff1,ff2,ff3,ff4,ff5,hlen,e,hz,zb]
noncomputable def tot(ys:List Str):Nat:=(ys.map fun y=>y.length+1).sum
theorem jE(xs ys:List Str):tot (xs++ys)=tot xs+tot ys:=by unfold tot;rw[ug,List.sum_append]
theorem wS(k:Nat)(xs:List Str):tot (xs.take k)<=tot xs:=by
 have:=jE (xs.take k) (xs.drop k)
 rw[List.take_append_drop]at this;omega
theorem wR(k:Nat)(xs:List Str):tot (xs.drop k)<=tot xs:=by
 have:=jE (xs.take k) (xs.drop k)
 rw[List.take_append_drop]at this;omega
theorem YC(xs:List Str):xs.length<=tot xs:=by
 induction xs with
 |nil=>simp[tot]
 |cons x r ih=>simp only[tot,xq,List.sum_cons,xo]at *;omega
theorem Vx(c:Nat):∀ l:List Str,l≠ []->(Str.join (ch c) l).length+1=tot l
 |[],h=>absurd rfl h
 |[x],_=>by simp[tot,jV]
 |x::y::r,_=>by
  have ih:=Vx c (y::r) (by simp)
  have hl:=congrArg List.length (jU c x y r)
  rw[qU,xw,xo,qU,qU]at hl
  rw[hl]
  simp only[tot,xq,List.sum_cons]at *
  omega
theorem WI:∀ ys:List Str,(Str.join "" ys).length=(ys.map (·.length)).sum
 |[]=>by decide +kernel
 |[x]=>by simp[show Str.join "" [x]=x from rfl]
 |x::y::r=>by
  have ih:=WI (y::r)
  have hc:Str.join "" (x::y::r)=x++Str.ofString "" ++Str.join "" (y::r):=rfl
  have h0:(Str.ofString "").length=0:=by decide
  rw[hc,qB,qB,ih,h0]
  simp
theorem WH:∀ {ys:List Str},(∀ y∈ys,∀ c∈y.cps.toList,c<=127)->∀ c∈(Str.join "" ys).cps.toList,c<=127
 |[],_,c,hc=>by
  have:(Str.join "" []).cps.toList= []:=by decide +kernel
  rw[this]at hc;cases hc
 |[x],h,c,hc=>h x (by simp) c hc
 |x::y::r,h,c,hc=>by
  have e:Str.join "" (x::y::r)=x++Str.ofString "" ++Str.join "" (y::r):=rfl
  have h0:(Str.ofString "").cps.toList= []:=by decide +kernel
  rw[e,zV,zV,h0,xG]at hc
  rcases xF.mp hc with z | z
  ·exact h x (by simp) c z
  ·exact WH (ys:=y::r) (fun z hz=>h z (.tail _ hz)) c z
theorem kJ {ys:List Str}(h:∀ y∈ys,∀ c∈y.cps.toList,c<=127){n:Nat}(hn:tot ys<=n) (hn2:n<=400000):Txn n (Str.join "" (ys.map fun y=>y++Str.ofString "\n"))/\Qf "" (.list ((ys.map fun y=>y++Str.ofString "\n").map .str))=some (.str (Str.join "" (ys.map fun y=>y++Str.ofString "\n"))):=by
 have h1:(Str.ofString "\n").length=1:=by decide
 have e:((ys.map fun y=>y++Str.ofString "\n").map (·.length)).sum=tot ys:=by
  unfold tot
  rw[xN]
  congr 1
  apply List.map_congr_left
  intro y _
  show (y++Str.ofString "\n").length=_
  rw[qB,h1]
 have hl:(ys.map fun y=>y++Str.ofString "\n").length<=tot ys:=by rw[xn];exact YC ys
 refine⟨⟨WH fun y hy c hc=>?_,by rw[WI,e];exact hn⟩,?_⟩
 ·obtain⟨x,hx,rfl⟩:=xK.mp hy
  rw[zV,Vz]at hc
  rcases xF.mp hc with z | z
  ·exact h x hx c z
  ·have:c=10:=by simpa using z
   omega
 ·have hs:=wN (ys.map fun y=>y++Str.ofString "\n")
  generalize (ys.map fun y=>y++Str.ofString "\n")=zs at *
  unfold Qf
  simp only[hs]
  rw[if_pos ⟨by omega,by decide⟩,Yo]
noncomputable def v5 (cf:CF):Prop:=∀ b (rows:List Str) (way:Int),zr b->rows≠ []->rows.length<=500000->(∀ y∈rows,∀ c∈y.cps.toList,c<=127)->∃ (ts:List Str) (b':OV),(∀ y∈ts,∀ c∈y.cps.toList,c<=127)/\tot ts<=2*tot rows+20/\zr b'/\cf "_law_turned" [b,.d (.list (rows.map .str)),.d (.int way)]=.ok (.l ((ts.map .str).map .d)) [some b',none,none]
theorem ym{α:Type}(xs:List α){k:Int}(h0:0<=k):Qb xs none (some k)=xs.take k.toNat:=by
 unfold Qb
 have h1:HT.sIx xs.length 0 none=0:=rfl
 obtain⟨n,rfl⟩:∃ n:Nat,k=n:=⟨k.toNat,by omega⟩
 rw[h1,HT.sIx_nat]
 simp only[Int.toNat_natCast,List.drop_zero,Nat.sub_zero]
 by_cases q:n<=xs.length
 ·rw[Nat.min_eq_left q]
 ·rw[Nat.min_eq_right (by omega),List.take_length,List.take_of_length_le (by omega)]
theorem wd{α:Type}(xs:List α){k:Int}(h0:0<=k):Qb xs (some k) none=xs.drop k.toNat:=by
 unfold Qb
 have h1:HT.sIx xs.length xs.length none=xs.length:=rfl
 obtain⟨n,rfl⟩:∃ n:Nat,k=n:=⟨k.toNat,by omega⟩
 rw[h1,HT.sIx_nat]
 simp only[Int.toNat_natCast]
 by_cases q:n<=xs.length
 ·rw[Nat.min_eq_left q,List.take_of_length_le (by rw[List.length_drop];omega)]
 ·rw[Nat.min_eq_right (by omega),uw (by omega),uw (by omega)];simp
theorem kU:∃ L:IL,zew L=true/\(yC L).length=10/\(∀ y∈yC L,(∀ c∈y.cps.toList,c<=127)/\y.length<=14)/\qN=(.cons (.asg 3 3 (.dat (.call (.call "_law_take" 2 (.io 0 0 (.cons (.len (.var 1 1)) .nil)))))) (.cons (.ite (.cmp .Eq (.var 2 2) (.cint 0)) (.cons (.ret (.own (.cat (.new (.cut (.var 1 1) .non (.one (.var 3 3)))) (.new (.cut (.var 1 1) (.one (.bin .Add (.var 3 3) (.cint 1))) .non))))) .nil) .nil) (.cons (.ite (.cmp .Eq (.var 2 2) (.cint 1)) (.cons (.ret (.own (.cat (.new (.cut (.var 1 1) .non (.one (.bin .Add (.var 3 3) (.cint 1))))) (.new (.cut (.var 1 1) (.one (.var 3 3)) .non))))) .nil) .nil) (.cons (.ite (.cmp .Eq (.var 2 2) (.cint 2)) (.cons (.ret (.own (.cat (.new (.cut (.var 1 1) (.one (.cint 1)) .non)) (.new (.cut (.var 1 1) .non (.one (.cint 1))))))) .nil) .nil) (.cons (.asg 4 4 (.dat (.new (.lst L)))) (.cons (.ret (.own (.cat (.new (.lst (.cons (.ix (.var 4 4) (.call (.call "_law_take" 2 (.io 0 0 (.cons (.cint 10) .nil))))) .nil))) (.new (.cut (.var 1 1) (.one (.cint 1)) .non))))) .nil)))))) :=
 ⟨match qN with
  |.cons _ (.cons _ (.cons _ (.cons _ (.cons (.asg _ _ (.dat (.new (.lst l)))) _))))=>l
  |_=>.nil,by decide +kernel,by decide +kernel,by decide +kernel,rfl⟩
theorem kW(cf:CF)(ht:qG cf){b:OV}(hb:zr b){rows:List Str}{way:Int}(hne:rows≠ [])(hl:rows.length<=500000)(ha:∀ y∈rows,∀ c∈y.cps.toList,c<=127):∃ (ts:List Str) (b':OV),(∀ y∈ts,∀ c∈y.cps.toList,c<=127)/\tot ts<=2*tot rows+20/\zr b'/\runI 5 [true,false,false] [0] qN cf [b,.d (.list (rows.map .str)),.d (.int way)]=.ok (.l ((ts.map .str).map .d)) [some b',none,none]:=by
 have hpos:0<rows.length:=List.length_pos_iff.mpr hne
 obtain⟨r,b1,h1,h1',hb1,e1⟩:=ht b hb rows.length (by omega) (by omega)
 have hlen:((rows.map PyData.str).length:Int)=rows.length:=by simp
 have c1:=ym (rows.map PyData.str) h1
 have c2:=wd (rows.map PyData.str) (k:=r+1) (by omega)
 have c3:=ym (rows.map PyData.str) (k:=r+1) (by omega)
 have c4:=wd (rows.map PyData.str) h1
 have c5:=wd (rows.map PyData.str) (k:=1) (by omega)
 have c6:=ym (rows.map PyData.str) (k:=1) (by omega)
 have k0:=wS r.toNat rows
 have k1:=wR (r+1).toNat rows
 have k2:=wS (r+1).toNat rows
 have k3:=wR r.toNat rows
 have k4:=wR (1:Int).toNat rows
 have k5:=wS (1:Int).toNat rows
 have at':∀ {k:Nat} {y:Str},y∈rows.take k->∀ c∈y.cps.toList,c<=127:=fun h=>ha _ (List.mem_of_mem_take h)
 have ad:∀ {k:Nat} {y:Str},y∈rows.drop k->∀ c∈y.cps.toList,c<=127:=fun h=>ha _ (List.mem_of_mem_drop h)
 have ap:∀ {xs ys:List Str},(∀ y∈xs,∀ c∈y.cps.toList,c<=127)->(∀ y∈ys,∀ c∈y.cps.toList,c<=127)->∀ y∈xs++ys,∀ c∈y.cps.toList,c<=127:=fun h1 h2 y hy=>(xF.mp hy).elim (h1 y) (h2 y)
 have hz1:∀ k j:Nat,((rows.map PyData.str).take k).length+((rows.map PyData.str).drop j).length<=1000000:=fun k j=>by simp[xI];omega
 have hz2:∀ k j:Nat,((rows.map PyData.str).drop k).length+((rows.map PyData.str).take j).length<=1000000:=fun k j=>by simp[xI];omega
 obtain⟨L,hk,hL,hA,eq⟩:=kU
 have e0:=fun Γ=>K8 cf Γ L hk
 have e3:=fun Γ=>Yf Γ (yC L)
 rw[eq]
 generalize yC L=hs at *
 have hzh:hs.length<=1000000:=by omega
 by_cases q0:way=0
 ·refine⟨rows.take r.toNat++rows.drop (r+1).toNat,b1,ap (fun y=>at') (fun y=>ad),by rw[jE];omega,hb1,?_⟩
  have z:=hz1 r.toNat (r+1).toNat
  have em:(rows.take r.toNat++rows.drop (r+1).toNat).map PyData.str=(rows.map PyData.str).take r.toNat++(rows.map PyData.str).drop (r+1).toNat:=by rw[ug,List.map_take,uz]
  rw[em]
  generalize (r+1).toNat=r' at *
  generalize r.toNat=r0 at *
  generalize rows.map PyData.str=RR at *
  rw[<- hlen]at e1
  generalize RR.take r0=A1 at *
  generalize RR.drop r'=A2 at *
  simp![e1,q0,Qd,qS,jh,Y8,c1,c2,z,zc,ze,zb]
 ·by_cases q1:way=1
  ·refine⟨rows.take (r+1).toNat++rows.drop r.toNat,b1,ap (fun y=>at') (fun y=>ad),by rw[jE];omega,hb1,?_⟩
   have z:=hz1 (r+1).toNat r.toNat
   have em:(rows.take (r+1).toNat++rows.drop r.toNat).map PyData.str=(rows.map PyData.str).take (r+1).toNat++(rows.map PyData.str).drop r.toNat:=by rw[ug,List.map_take,uz]
   rw[em]
   generalize (r+1).toNat=r' at *
   generalize r.toNat=r0 at *
   generalize rows.map PyData.str=RR at *
   rw[<- hlen]at e1
   generalize RR.take r'=A1 at *
   generalize RR.drop r0=A2 at *
   simp![e1,q0,q1,Qd,qS,jh,Y8,c3,c4,z,zc,ze,zb]
  ·by_cases q2:way=2
   ·refine⟨rows.drop (1:Int).toNat++rows.take (1:Int).toNat,b1,ap (fun y=>ad) (fun y=>at'),by rw[jE];omega,hb1,?_⟩
    have z:=hz2 (1:Int).toNat (1:Int).toNat
    have em:(rows.drop (1:Int).toNat++rows.take (1:Int).toNat).map PyData.str=(rows.map PyData.str).drop (1:Int).toNat++(rows.map PyData.str).take (1:Int).toNat:=by rw[ug,List.map_take,uz]
    rw[em]
    generalize (1:Int).toNat=one at *
    generalize rows.map PyData.str=RR at *
    rw[<- hlen]at e1
    generalize RR.take one=A1 at *
    generalize RR.drop one=A2 at *
    simp![e1,q0,q1,q2,Qd,qS,jh,Y8,c5,c6,z,zc,ze,zb]
   ·obtain⟨r2,b2,h2,h2',hb2,e2⟩:=ht b1 hb1 10 (by decide) (by decide)
    have hr:r2.toNat<hs.length:=by omega
    have hx:(hs.map PyData.str)[r2.toNat]?=some (.str hs[r2.toNat]):=by rw[xB,xC hr];rfl
    have hat:=jv hx
    have e:((r2.toNat:Nat):Int)=r2:=by omega
    rw[e]at hat
    have hy:=hA _ (ul hr)
    generalize hs[r2.toNat]=y at *
    refine⟨y::rows.drop (1:Int).toNat,b2,fun z hz=>?_,?_,hb2,?_⟩
    ·rcases xy.mp hz with z | z
     ·rw[z];exact hy.1
     ·exact ad z
    ·have:tot (y::rows.drop (1:Int).toNat)=y.length+1+tot (rows.drop (1:Int).toNat):=by simp[tot]
     rw[this]
     have:=hy.2
     omega
    ·have em:(y::rows.drop (1:Int).toNat).map PyData.str=.str y::(rows.map PyData.str).drop (1:Int).toNat:=by rw[xq,uz]
     have z:((rows.map PyData.str).drop (1:Int).toNat).length<=900000:=by simp;omega
     rw[em]
     generalize (1:Int).toNat=one at *
     generalize rows.map PyData.str=RR at *
     rw[<- hlen]at e1
     generalize RR.drop one=A2 at *
     have z':1+A2.length<=1000000:=by omega
     generalize hs.map PyData.str=HH at *
     simp![e0,e3,hzh,e1,e2,hat,q0,q1,q2,Qd,qS,jh,Y8,c5,z',zc,ze,zb]
noncomputable def Z2 (cf:CF):Prop:=∀ (pots:Nat) (cs:List Cl),pots<=12->W5 pots cs->cf "_law_same_sheet" [.d (.tuple [.int pots,zm cs]),.d (.tuple [.int pots,zm cs])]=.ok (.d (.bool true)) [none,none]
theorem VM(cf:CF)(hw:W8 cf)(ha:yZ cf){pots:Nat}{cs:List Cl}(hp:pots<=12)(hk:W5 pots cs):runI 2 [false,false] [] qt cf [.d (.tuple [.int pots,zm cs]),.d (.tuple [.int pots,zm cs])]=.ok (.d (.bool true)) [none,none]:=by
 have e1:=hw pots
 have e2:=ha pots cs (by omega) hk
 generalize zm cs=X at *
 simp![qt,e1,e2,a0,a1,zc,ze,zb]
noncomputable def shI (x:Str):List Int:=if x=Str.ofString "-" then [] else x.cps.toList.map fun c=>((NumText.digitsVal [c]:Nat):Int)
theorem vJ(x:Str):shD x=(shI x).map .int:=by
 unfold shD shI
 split
 ·rfl
 ·rw[xN];rfl
theorem Vd{p:Int}{pots:Nat}(hp:p=pots):∀ {rs:List Str},rs.all (cwB p)=true->∃ cs:List Cl,W5 pots cs/\rs.map (cwD p)=cs.map Cl.D
 |[],_=>⟨[],(by intro _ h;cases h),rfl⟩
 |y::r,h=>by
  rw[ue,xa]at h
  obtain⟨cs,hk,e⟩:=Vd hp h.2
  have h1:=h.1
  have ⟨c,hc,ec⟩:∃ c:Cl,(c.st.length=pots/\c.wi.length=pots)/\cwD p y=c.D:=by
   unfold cwB at h1
   unfold cwD
   cases k:jb y p with
   |none=>rw[k]at h1;cases h1
   |some d=>
    unfold jb at k
    split at k
    ·rename_i s x t es
     split at k
     ·rename_i q
      simp only[xa,vF,decide_eq_true_eq]at q
      cases k
      refine⟨⟨shI s,decide (x=Str.ofString "*"),shI t⟩,⟨?_,?_⟩,?_⟩
      ·have:=q.2.1.2
       rw[vJ,xn]at this
       show (shI s).length=pots
       omega
      ·have:=q.2.2.2
       rw[vJ,xn]at this
       show (shI t).length=pots
       omega
      ·rw[vJ,vJ];rfl
     ·cases k
    ·cases k
  exact⟨c::cs,fun z hz=>by
   rcases xy.mp hz with z | z
   ·rw[z];exact hc
   ·exact hk _ z,by rw[xq,xq,ec,e]⟩
theorem KD{qs:List Str}{l:Str}{p:Int}{rs:List Str}(e:jA qs l=some (p,rs)):∃ (pots:Nat) (cs:List Cl),pots<=12/\p=pots/\W5 pots cs/\PyData.list (rs.map (cwD p))=zm cs:=by
 unfold jA at e
 split at e
 ·split at e
  ·cases e
  ·split at e
   ·cases e
   ·rename_i p' n eh
    split at e
    ·rename_i q
     cases e
     have hp:0<=p/\p<=12:=by
      unfold jH at eh
      split at eh
      ·split at eh
       ·rename_i z
        cases eh
        simp only[xa,bdB,decide_eq_true_eq]at z
        exact⟨Int.natCast_nonneg _,z.2.1.2⟩
       ·cases eh
      ·cases eh
     obtain⟨cs,hk,ec⟩:=Vd (p:=p) (pots:=p.toNat) (by omega) (xu.mp q).2
     exact⟨p.toNat,cs,by omega,by omega,hk,by unfold zm;rw[ec]⟩
    ·cases e
 ·cases e
end Wx
namespace L3
open PySem L2
section
variable [Cs] {K:PySem.W.Frag} {mg:Str->Option Value} {h:Heap} {d:DefI}
theorem el1{α:Type}{P:List α->Prop}(h:∀ a0,P [a0]):∀ us:List α,us.length=1->P us:=fun us e=>by
 match us,e with
 |[a0],_=>exact h a0
theorem el2{α:Type}{P:List α->Prop}(h:∀ a0 a1,P [a0,a1]):∀ us:List α,us.length=2->P us:=fun us e=>by
 match us,e with
 |[a0,a1],_=>exact h a0 a1
theorem el3{α:Type}{P:List α->Prop}(h:∀ a0 a1 a2,P [a0,a1,a2]):∀ us:List α,us.length=3->P us:=fun us e=>by
 match us,e with
 |[a0,a1,a2],_=>exact h a0 a1 a2
theorem el4{α:Type}{P:List α->Prop}(h:∀ a0 a1 a2 a3,P [a0,a1,a2,a3]):∀ us:List α,us.length=4->P us:=fun us e=>by
 match us,e with
 |[a0,a1,a2,a3],_=>exact h a0 a1 a2 a3
noncomputable def biOk(K:PySem.W.Frag)(L:List Str):Bool:=L.all fun x=>match PySem.W.nsIn K mainGlobals x with
 |some none=>true
 |_=>false
theorem bi_all{L:List Str}(X:K.In h)(G:h.Ns mainGlobals mg)(hk:biOk K L=true)(x:Str)(hx:L.contains x=true):mg x=none:=by
 have:=xz.mp hk x (xU.mp hx)
 split at this
 ·exact PySem.W.mg_none_of X G (by assumption)
 ·cases this
noncomputable def giOk(K:PySem.W.Frag)(L:List (Str×Int)):Bool:=L.all fun p=>match PySem.W.nsIn K mainGlobals p.1 with
 |some (some (.int i _))=>decide (i=p.2)
 |_=>false
theorem gi_of{L:List (Str×Int)}(X:K.In h)(G:h.Ns mainGlobals mg)(hk:giOk K L=true)(x:Str)(i:Int)(hx:L.contains (x,i)=true):∃ t,mg x=some (.int i t):=by
 have:=xz.mp hk _ (xU.mp hx)
 split at this
 ·rename_i e
  exact⟨_,(PySem.W.mg_of X G e).trans (by rw[of_decide_eq_true this])⟩
 ·cases this
noncomputable def gsOk(K:PySem.W.Frag)(L:List (Str×Str)):Bool:=L.all fun p=>match PySem.W.nsIn K mainGlobals p.1 with
 |some (some (.str i _))=>decide (i=p.2)
 |_=>false
theorem gs_of{L:List (Str×Str)}(X:K.In h)(G:h.Ns mainGlobals mg)(hk:gsOk K L=true)(x:Str)(i:Str)(hx:L.contains (x,i)=true):∃ t,mg x=some (.str i t):=by
 have:=xz.mp hk _ (xU.mp hx)
 split at this
 ·rename_i e
  exact⟨_,(PySem.W.mg_of X G e).trans (by rw[of_decide_eq_true this])⟩
 ·cases this
noncomputable def exOk(K:PySem.W.Frag)(L:List Str):Bool:=L.all fun x=>match PySem.W.nsIn K mainGlobals x with
 |some (some (.ref a))=>PySem.W.excIn K a bmV "ValueError.__new__" &&L.all fun y=>match PySem.W.nsIn K mainGlobals y with
  |some (some (.ref b))=>decide ((mroIn K a).contains (.ref b)=decide (x=y))
  |_=>false
 |_=>false
theorem ex_of {L:List Str}(X:K.In h) (G:h.Ns mainGlobals mg) (hk:exOk K L=true):(∀ x,L.contains x=true->∃ C,mg x=some (.ref C)/\PySem.W.excIn K C bmV "ValueError.__new__" =true)/\∀ x C y C2,L.contains x=true->mg x=some (.ref C)->L.contains y=true->mg y=some (.ref C2)->(mroIn K C).contains (.ref C2)=decide (x=y):=by
 have hk:=xz.mp hk
 refine⟨fun x hx=>?_,fun x C y C2 hx e1 hy e2=>?_⟩
 ·have:=hk x (xU.mp hx)
  split at this
  ·rename_i e
   simp only[xa]at this
   exact⟨_,PySem.W.mg_of X G e,this.1⟩
  ·cases this
 ·have:=hk x (xU.mp hx)
  split at this
  ·rename_i e
   simp only[xa]at this
   have h2:=xz.mp this.2 y (xU.mp hy)
   split at h2
   ·rename_i e'
    rw[PySem.W.mg_of X G e]at e1
    rw[PySem.W.mg_of X G e']at e2
    cases e1
    cases e2
    exact of_decide_eq_true h2
   ·cases h2
  ·cases this
noncomputable def fkOk(K:PySem.W.Frag)(L:List (Str×Str)):Bool:=L.all fun p=>match PySem.W.nsIn K mainGlobals p.1 with
 |some (some (.ref C))=>PySem.W.plainGet K C Str.empty&&(PySem.W.hasDictIn K C&&(PySem.W.plainOver K C&&((match PySem.W.findIn K (.ref C) "__setattr__" with
   |some (some (.builtin b))=>decide (b= "object.__setattr__")
   |_=>false)&&match PySem.W.findIn K (.ref C) p.2 with
   |some none=>true
   |_=>false)))
 |_=>false
theorem fk_all{L:List (Str×Str)}(X:K.In h)(G:h.Ns mainGlobals mg)(hk:fkOk K L=true)(c f:Str)(hx:L.contains (c,f)=true):Cls K ((csOf mg).adr c)/\ZL K ((csOf mg).adr c) f:=by
 have:=xz.mp hk _ (xU.mp hx)
 split at this
 ·rename_i e
  simp only[xa]at this
  obtain⟨a1,a2,a3,a4,a5⟩:=this
  refine zf3 X G ⟨e,a1,a2,a3,?_⟩ ?_
  ·split at a4
   ·rename_i e2
    rw[e2,of_decide_eq_true a4]
   ·cases a4
  ·split at a5
   ·assumption
   ·cases a5
 ·cases this
noncomputable def AllX(K:PySem.W.Frag)(mg:Str->Option Value):List DefI->Prop
 |[]=>True
 |d::r=> @Dx (csOf mg) K mg d/\AllX K mg r
theorem dx_all{W:Wd}:{L:List DefI}->AllX K mg L->(L.all fun d=>d.ok W)=true->∀ d∈L,@Dx (csOf mg) K mg d/\d.ok W=true
 |[],_,_=>fun d hd=>nomatch hd
 |e::r,a,ok=>fun d hd=>by
  simp only[ue,xa]at ok
  rcases xy.mp hd with rfl | hd
  ·exact⟨a.1,ok.1⟩
  ·exact dx_all a.2 ok.2 d hd
end
end L3
set_option maxHeartbeats 4000000
namespace Wx
open PySem L2 L3
noncomputable def top(i:Nat):Stmt:=PySem.Challenge.pw_waxcloth_k34_charts_refused.main.body.getD i (.Pass ⟨0,0,0,0⟩)
noncomputable def Jz:DefI:=⟨"plain_number",top 8,["text"],["text"],[false],[],qg,.fn⟩
noncomputable def vn:DefI:=⟨"is_plain",top 9,["text"],["text"],[false],[],qy,.fn⟩
noncomputable def JA:DefI:=⟨"plain_shades",top 10,["text"],["text"],[false],[],zC,.fn⟩
noncomputable def JZ:DefI:=⟨"are_figures",top 11,["text"],["text"],[false],[],ji,.fn⟩
noncomputable def we:DefI:=⟨"read_chart",top 16,["text"],["text","head","rows","pots","size"],[false],[],qh,.fn⟩
noncomputable def w5:DefI:=⟨"read_head",top 17,["row"],["row","words"],[false],[],jY,.fn⟩
noncomputable def JB:DefI:=⟨"read_bounded",top 18,["text","most"],["text","most","number"],[false,false],[],zR,.fn⟩
noncomputable def wZ:DefI:=⟨"read_cell",top 19,["row","pots"],["row","pots","words"],[false,false],[],jX,.fn⟩
noncomputable def JC:DefI:=⟨"read_picture",top 20,["text","pots"],["text","pots","shades"],[false,false],[],zS,.fn⟩
noncomputable def Vk:DefI:=⟨"_law_whole",top 22,["_law_found"],["_law_found"],[false],[],jP,.fn⟩
noncomputable def vj:DefI:=⟨"_law_shades",top 23,["_law_found","_law_pots"],["_law_found","_law_pots"],[false,false],[],jx,.fn⟩
noncomputable def Ju:DefI:=⟨"_law_cells_kind",top 24,["_law_found","_law_pots"],["_law_found","_law_pots","_law_cell_here"],[false,false],[],qq,.fn⟩
noncomputable def Vg:DefI:=⟨"_law_alike",top 25,["_law_found","_law_due","_law_pots"],["_law_found","_law_due","_law_pots"],[false,false,false],[],jL,.fn⟩
noncomputable def Vi:DefI:=⟨"_law_mixed",top 27,["_law_number","_law_turn"],["_law_number","_law_turn","_law_one","_law_two"],[false,false],[],jN,.fn⟩
noncomputable def yq:DefI:=⟨"_law_take",top 28,["_law_box_here","_law_many"],["_law_box_here","_law_many","_law_left","_law_cell_here"],[true,false],[0],qw,.fn⟩
noncomputable def Vh:DefI:=⟨"_law_lacks",top 29,["_law_box_here","_law_pots","_law_size"],["_law_box_here","_law_pots","_law_size","_law_way","_law_ends","_law_rows","_law_at","_law_row","_law_low","_law_high"],[true,false,false],[0],jM,.fn⟩
noncomputable def yo:DefI:=⟨"_law_cell",top 30,["_law_box_here","_law_row","_law_loose","_law_wet"],["_law_box_here","_law_row","_law_loose","_law_wet","_law_stain","_law_want","_law_bit","_law_shade"],[true,false,false,false],[0],jw,.fn⟩
noncomputable def yn:DefI:=⟨"_law_bolt",top 31,["_law_box_here","_law_pots","_law_size","_law_loose"],["_law_box_here","_law_pots","_law_size","_law_loose","_law_wet","_law_rows"],[true,false,false,false],[0],ZM,.fn⟩
noncomputable def yp:DefI:=⟨"_law_sign",top 32,["_law_box_here"],["_law_box_here","_law_some"],[true],[0],ZN,.fn⟩
noncomputable def wX:DefI:=⟨"_law_figures",top 33,["_law_picture_here"],["_law_picture_here"],[false],[],jg,.fn⟩
noncomputable def JY:DefI:=⟨"_law_is_number",top 34,["_law_word"],["_law_word"],[false],[],qI,.fn⟩
noncomputable def Jv:DefI:=⟨"_law_is_figures",top 35,["_law_word"],["_law_word"],[false],[],qr,.fn⟩
noncomputable def wY:DefI:=⟨"_law_picture",top 36,["_law_word"],["_law_word"],[false],[],qA,.fn⟩
noncomputable def vk:DefI:=⟨"_law_spoilt",top 37,["_law_box_here","_law_text"],["_law_box_here","_law_text","_law_k","_law_at","_law_way"],[true,false],[0],jy,.fn⟩
noncomputable def Vj:DefI:=⟨"_law_sheet",top 38,["_law_rows","_law_pots"],["_law_rows","_law_pots","_law_found","_law_stain","_law_waxed","_law_want"],[false,false],[],jO,.fn⟩
noncomputable def Jy:DefI:=⟨"_law_sheet_head",top 39,["_law_row"],["_law_row","_law_words"],[false],[],qv,.fn⟩
noncomputable def Jx:DefI:=⟨"_law_sheet_cell",top 40,["_law_row","_law_pots"],["_law_row","_law_pots","_law_words","_law_stain","_law_want"],[false,false],[],qu,.fn⟩
noncomputable def Qc:DefI:=⟨"_law_sheet_meant",top 41,["_law_text"],["_law_text","_law_rows","_law_head","_law_found"],[false],[],qd,.fn⟩
noncomputable def Jw:DefI:=⟨"_law_same_sheet",top 42,["_law_found","_law_due"],["_law_found","_law_due"],[false,false],[],qt,.fn⟩
noncomputable def vm:DefI:=⟨"_law_turned",top 43,["_law_box_here","_law_rows","_law_way"],["_law_box_here","_law_rows","_law_way","_law_at","_law_heads"],[true,false,false],[0],qN,.fn⟩
noncomputable def lawB_1:IE:=(.ix (.var 1 4) (.cint 0))
noncomputable def lawB_2:IE:=(.sadd (.var 0 9) (.cstr "\n"))
noncomputable def lawB_3:IB:=(.cons (.asg 6 6 (.dat (.call (.call "_law_sheet_meant" 1 (.cons (.var 5 5) .nil))))) (.cons (.asg 7 7 (.dat .cnone)) (.cons (.asg 8 8 (.dat (.cbool false))) (.cons (.tryq (.cons (.asg 7 7 (.dat (.call (.call "read_chart" 1 (.cons (.var 5 5) .nil))))) .nil) [("NoChart",8,8,.b true)]) (.cons (.ite (.cmp .NotEq (.var 8 8) (.cmp .Is (.var 6 6) .cnone)) (.cons (.ret (.dat (.cbool false))) .nil) .nil) (.cons (.ret (.dat (.or (.var 8 8) (.call (.call "_law_same_sheet" 2 (.cons (.var 7 7) (.cons (.var 6 6) .nil))))))) .nil))))))
noncomputable def lawB_4:IB:=(.cons (.asg 5 5 (.dat (.call (.call "_law_sheet" 2 (.cons (.var 4 4) (.cons (.var 3 3) .nil)))))) (.cons (.ite (.cmp .Lt (.var 2 2) (.cint 4)) (.cons (.asg 5 5 (.dat (.join "" (.new (.comp 9 1 [] ["_law_row"] (.nm 0 9) (.list (.call (.call "_law_turned" 3 (.io 1 1 (.cons (.new (.cut (.new (.split (.var 5 5) (.cstr "\n"))) .non (.one (.neg (.cint 1))))) (.cons (.var 2 2) .nil)))))) .yes lawB_2))))) .nil) (.cons (.ite (.cmp .Lt (.var 2 2) (.cint 7)) (.cons (.asg 5 5 (.dat (.call (.call "_law_spoilt" 2 (.io 1 1 (.cons (.var 5 5) .nil)))))) .nil) (.cons (.ite (.cmp .Eq (.var 2 2) (.cint 7)) (.cons (.asg 5 5 (.dat (.cutS (.var 5 5) .non (.one (.neg (.cint 1)))))) .nil) (.cons (.ite (.cmp .Eq (.var 2 2) (.cint 8)) (.cons (.asg 5 5 (.dat (.sadd (.var 5 5) (.cstr "\n")))) .nil) .nil) .nil)) .nil)) .nil)) lawB_3))
noncomputable def defs:List DefI:=(Jz::vn::JA::JZ::we::w5::JB::wZ::JC::Vk::vj::Ju::Vg::Vi::yq::Vh::yo::yn::yp::wX::JY::Jv::wY::vk::Vj::Jy::Jx::Qc::Jw::vm:: [])
noncomputable def lawB:IB:=(.cons (.asg 2 2 (.dat (.call (.call "_law_take" 2 (.io 1 1 (.cons (.cint 10) .nil)))))) (.cons (.asg 3 3 (.dat (.call (.call "_law_take" 2 (.io 1 1 (.cons (.cint 7) .nil)))))) (.cons (.asg 4 4 (.dat (.call (.call "_law_bolt" 4 (.io 1 1 (.cons (.var 3 3) (.cons (.call (.call "_law_take" 2 (.io 1 1 (.cons (.cint 9) .nil)))) (.cons (.cint 3) .nil)))))))) (.cons (.ite (.and (.cmp .Gt (.len (.var 4 4)) (.cint 0)) (.cmp .Eq (.call (.call "_law_take" 2 (.io 1 1 (.cons (.cint 16) .nil)))) (.cint 0))) (.cons (.asg 4 4 (.dat (.new (.comp 9 1 [4] ["_law_k","_law_rows"] (.nm 0 9) (.range (.cint 1000)) .yes lawB_1)))) .nil) .nil) lawB_4))))
noncomputable def W:Wd:=⟨["all","any","bool","int","isinstance","len","list","max","min","range","str","tuple"],[("MOST_FIGURES",6),("MOST_POTS",12),("MOST_ROWS",999)],[("FIGURES","0123456789"),("NO_SHADES","-"),("NO_WAX","."),("WAX","*")],(("plain_number",1)::("is_plain",1)::("plain_shades",1)::("are_figures",1)::("read_chart",1)::("read_head",1)::("read_bounded",2)::("read_cell",2)::("read_picture",2)::("_law_whole",1)::("_law_shades",2)::("_law_cells_kind",2)::("_law_alike",3)::("_law_mixed",2)::("_law_take",2)::("_law_lacks",3)::("_law_cell",4)::("_law_bolt",4)::("_law_sign",1)::("_law_figures",1)::("_law_is_number",1)::("_law_is_figures",1)::("_law_picture",1)::("_law_spoilt",2)::("_law_sheet",2)::("_law_sheet_head",1)::("_law_sheet_cell",2)::("_law_sheet_meant",1)::("_law_same_sheet",2)::("_law_turned",3):: []),["NoChart"],[],[],[],[]⟩
noncomputable abbrev sBox:Stmt:=top 26
noncomputable abbrev sLaw:Stmt:=top 44
noncomputable def LN:List Str:= ["_law_script","_law_box_here","_law_way","_law_pots","_law_rows","_law_text","_law_due","_law_found","_law_refused"]
theorem okLaw:lawB.chk W (defScope sLaw) LN (List.range LN.length) LN.length 0 (defBody sLaw).tail=true:=by kernel_rfl
structure zbI(cf:CF):Prop where
 take:qG cf
 bolt:y3 cf
 sheet2:vY cf
 turned:v5 cf
 spoilt:vZ cf
 lsheet:vU cf
 chart2:vS cf
 ssheet2:Z2 cf
theorem ok34(n:Nat):zbI (zj defs (n+20)):=by
 have hmixed:∀ k,Ya (zj defs (k+1)):=fun k a b=>zac (zj defs k) a b
 have htake:∀ k,qG (zj defs (k+2)):=fun k b hb n h1 h2=>zde (zj defs (k+1)) (hmixed k) hb h1 h2
 have hlacks:∀ k,y9 (zj defs (k+3)):=fun k b hb pots size h1 h2=>K3 (zj defs (k+2)) (htake k) hb h1 h2
 have hcell:∀ k,y4 (zj defs (k+3)):=fun k b hb bs loose wet h1 h2 h3=>zb0 (zj defs (k+2)) (htake k) hb bs h1 h2 h3
 have hbolt:∀ k,y3 (zj defs (k+4)):=fun k b hb pots size loose h1 h2 h3 h4=>zbP (zj defs (k+3)) (htake (k+1)) (hlacks k) (hcell k) hb h1 h2 h3 h4
 have hfigures:∀ k,Wg (zj defs (k+1)):=fun k sh hl h=>yv (zj defs k) hl h
 have hsheet2:∀ k,vY (zj defs (k+2)):=fun k pots cs hp hb=>sheet2 (zj defs (k+1)) (hfigures k) hp hb
 have hturned:∀ k,v5 (zj defs (k+3)):=fun k b rows way hb hne hl ha=>kW (zj defs (k+2)) (htake k) hb hne hl ha
 have hsign:∀ k,ye (zj defs (k+3)):=fun k b hb=>zcV (zj defs (k+2)) (htake k) hb
 have hspoilt:∀ k,vZ (zj defs (k+4)):=fun k b x n hb hn h=>kQ (zj defs (k+3)) (htake (k+1)) (hsign k) hb hn h
 have hlnum2:∀ k,Kp (zj defs (k+1)):=fun k x h=>yB (zj defs k) h
 have hlhead:∀ k,y7 (zj defs (k+2)):=fun k row h=>zgc (zj defs (k+1)) (hlnum2 k) h
 have hlfig2:∀ k,Km (zj defs (k+1)):=fun k x h=>VA (zj defs k) h
 have hlpic2:∀ k,Ko (zj defs (k+1)):=fun k x h hb=>zab (zj defs k) h hb
 have hlcell:∀ k,W6 (zj defs (k+2)):=fun k row p h=>zgb (zj defs (k+1)) (hlfig2 k) (hlpic2 k) h p
 have hlsheet:∀ k,vU (zj defs (k+3)):=fun k T qs l h P=>lsheet (zj defs (k+2)) (hlhead k) (hlcell k) h P
 have hfigs2:∀ k,yb (zj defs (k+1)):=fun k x h=>W9 (zj defs k) h
 have hplain2:∀ k,vV (zj defs (k+2)):=fun k x h=>kg (zj defs (k+1)) (hfigs2 k) h
 have hpnum2:∀ k,JQ (zj defs (k+3)):=fun k x h=>w9 (zj defs (k+2)) (hplain2 k) h
 have hbound2:∀ k,vR (zj defs (k+4)):=fun k x m h=>Ky (zj defs (k+3)) (hpnum2 k) h m
 have hhead2:∀ k,y6 (zj defs (k+5)):=fun k row h=>yK (zj defs (k+4)) (hbound2 k) h
 have hpsh2:∀ k,wa (zj defs (k+2)):=fun k x h=>Wa (zj defs (k+1)) (hfigs2 k) h
 have hpic2:∀ k,Kq (zj defs (k+3)):=fun k x p h=>zay (zj defs (k+2)) (hpsh2 k) h p
 have hrcell2:∀ k,WZ (zj defs (k+4)):=fun k row p h=>yJ (zj defs (k+3)) (hpic2 k) h p
 have hchart2:∀ k,vS (zj defs (k+6)):=fun k T qs l h P=>VJ (zj defs (k+5)) (hhead2 k) (hrcell2 (k+1)) h P
 have hwhole:∀ k,W8 (zj defs (k+1)):=fun k i=>zbB (zj defs k) i
 have hshades:∀ k,vX (zj defs (k+2)):=fun k xs pots h hl=>kN (zj defs (k+1)) (hwhole k) h hl
 have hkind:∀ k,Kl (zj defs (k+3)):=fun k pots cs hp h=>zce (zj defs (k+2)) (hshades k) hp h
 have halike:∀ k,yZ (zj defs (k+4)):=fun k pots cs hp h=>Ks (zj defs (k+3)) (hkind k) hp h
 have hssheet2:∀ k,Z2 (zj defs (k+5)):=fun k pots cs hp hk=>VM (zj defs (k+4)) (hwhole (k+3)) (halike k) hp hk
 exact⟨htake (n+18),hbolt (n+16),hsheet2 (n+18),hturned (n+17),hspoilt (n+16),hlsheet (n+17),hchart2 (n+14),hssheet2 (n+15)⟩
theorem q3(cf:CF)(h:zbI cf){T:Str}(hT:Tx T){o1 o2 o3 o4:Option OV}:∃ Γ',lawB_3.ex cf [] [none,o1,o2,o3,o4,some (.d (.str T)),none,none,none]=.ok (.ret (.d (.bool true)),Γ'):=by
 obtain⟨qs,l,P⟩:=wb hT
 have em:=h.lsheet T qs l hT P
 have er:=h.chart2 T qs l hT P
 have qb:∀ a b:Bool,PyData.eqv (.bool a) (.bool b)=(a==b):=fun a b=>by cases a<;>cases b<;>rfl
 unfold lawB_3
 cases k:jA qs l with
 |none=>
  rw[k]at em er
  simp only[qJ,qP,noc]at em er
  simp![em,er,zaJ,IQ.ex,IQs.ex,ZJ,HC.D,isN,wu,qb,zb]
 |some z=>
  obtain⟨p,rs⟩:=z
  rw[k]at em er
  simp only[qJ,qP]at em er
  obtain⟨pots,cs,hp,e1,hk,e2⟩:=KD k
  have es:=h.ssheet2 pots cs hp hk
  have hv:(OV.t [.d (.int p),.l ((rs.map (cwD p)).map .d)]).view=.tuple [.int p,.list (rs.map (cwD p))]:=by
   simp only[OV.view,OV.views,OV.views_d]
  rw[<- e1,<- e2]at es
  generalize (rs.map (cwD p)).map OV.d=RO at *
  generalize rs.map (cwD p)=RD at *
  simp![em,er,es,hv,zaJ,IQ.ex,IQs.ex,ZJ,HC.D,isN,wu,qb,zb]
theorem q2(cf:CF)(h:zbI cf){b:OV}(hb:zr b){r:Int}{pots:Nat}{cs:List Cl}(hp:pots<=12)(hc:Bolt pots cs):∃ Γ',lawB_4.ex cf [] [none,some b,some (.d (.int r)),some (.d (.int pots)),some (.d (zm cs)),none,none,none,none]=.ok (.ret (.d (.bool true)),Γ'):=by
 obtain⟨x,hx,hlf,ex⟩:=h.sheet2 pots cs hp hc
 have p3':=fun (T:Str) (hT:Tx T) (o1 o2 o3 o4:Option OV)=>q3 cf h hT (o1:=o1) (o2:=o2) (o3:=o3) (o4:=o4)
 have hseq:∀ s,IB.ex cf [] (.cons s lawB_3)=sSeq (IS.ex cf [] s) (IB.ex cf [] lawB_3):=fun s=>rfl
 have hz:x.length<=900000:=by have:=hx.2;omega
 have hz1:x.length<=1000000:=by omega
 have h1:(Str.ofString "\n").length=1:=by decide
 have hl0:((Str.ofString "\n").length==0)=false:=by decide
 have hz2:x.length+(Str.ofString "\n").length<=1000000:=by omega
 have s3:Txn 1 (Str.ofString "\n"):=jF (by decide +kernel)
 unfold lawB_4
 by_cases w4:r<4
 ·obtain⟨qs,l,es,hq,hl,hql,hcs⟩:=wb (hx.tx (by decide))
  have hj:=StrLaws.join_split x (ch 10)
  have hf:=StrLaws.split_free x 10
  rw[es]at hj hf
  have hne:qs≠ []:=fun z=>by
   subst z
   rw[xP,jV]at hj
   exact hf l (by simp) (by rw[hj];exact hlf)
  have ht:=Vx 10 (qs++ [l]) (by simp)
  rw[hj,jE]at ht
  have htq:tot qs<=30001:=by have:=hx.2;omega
  obtain⟨ts,b2,ha,htt,hb2,et⟩:=h.turned b qs r hb hne (by omega) (fun y hy=>(hq y hy).1)
  obtain⟨hT,hg⟩:=kJ ha (n:=60100) (by omega) (by decide)
  have lp:∀ o5:Option OV,zW 1 (.nm 0 9) fYes (lawB_2.ev cf).1 (ts.map .str) [] [none,some b2,some (.d (.int r)),some (.d (.int pots)),some (.d (zm cs)),o5,none,none,none]=.ok ((ts.map fun y=>y++Str.ofString "\n").map .str,[none,some b2,some (.d (.int r)),some (.d (.int pots)),some (.d (zm cs)),o5,none,none,none]):=fun o5=>by
   rw[xN]
   exact qQ .str _ fun y hy=>by
    have hy1:y.length<=tot ts:=by
     obtain⟨a,c,rfl⟩:=List.append_of_mem hy
     rw[jE]
     simp[tot];omega
    have hz:y.length+(Str.ofString "\n").length<=1000000:=by omega
    refine⟨[none,some b2,some (.d (.int r)),some (.d (.int pots)),some (.d (zm cs)),o5,none,none,none,some (.d (.str y))],.dat (.str (y++Str.ofString "\n")),[none,some b2,some (.d (.int r)),some (.d (.int pots)),some (.d (zm cs)),o5,none,none,none,some (.d (.str y))],rfl,?_,rfl,rfl⟩
    unfold lawB_2
    generalize zm cs=BB at *
    generalize Str.ofString "\n" =LF at *
    simp![jS,hz,zb]
  obtain⟨Γ',e⟩:=p3' _ (hT.tx (by decide)) (some b2) (some (.d (.int r))) (some (.d (.int pots))) (some (.d (zm cs)))
  refine⟨Γ',?_⟩
  have hzt:(ts.map PyData.str).length<=1000000:=by
   have:=YC ts
   rw[xn];omega
  have hv:(OV.l ((ts.map PyData.str).map .d)).view=.list (ts.map PyData.str):=by rw[OV.view,OV.views_d]
  have hcut:=KH (qs.map PyData.str) (PyData.str l)
  rw[<- Vz]at es
  have es':(Txt.split x (Str.ofString "\n")).map PyData.str=qs.map PyData.str++ [PyData.str l]:=by rw[es];simp
  generalize Str.join "" (ts.map fun y=>y++Str.ofString "\n")=T at *
  generalize ((ts.map fun y=>y++Str.ofString "\n").map PyData.str)=YS at *
  generalize (ts.map PyData.str).map OV.d=TO at *
  generalize ts.map PyData.str=TS at *
  generalize qs.map PyData.str=QS at *
  generalize lawB_2=B2 at *
  generalize lawB_3=B3 at *
  generalize zm cs=BB at *
  generalize Str.ofString "\n" =LF at *
  simp![hseq,ex,w4,zk,es',hz,hl0,Qd,qS,jh,hcut,et,hv,hzt,lp,hg,e,zb]
 ·by_cases w7:r<7
  ·obtain⟨y,b2,hy,hb2,ey⟩:=h.spoilt b x 30000 hb (by decide) hx
   obtain⟨Γ',e⟩:=p3' y (hy.tx (by decide)) (some b2) (some (.d (.int r))) (some (.d (.int pots))) (some (.d (zm cs)))
   refine⟨Γ',?_⟩
   generalize lawB_2=B2 at *
   generalize lawB_3=B3 at *
   generalize zm cs=BB at *
   simp![hseq,ex,w4,w7,ey,e,zb]
  ·by_cases v7:r=7
   ·obtain⟨Γ',e⟩:=p3' (Txt.slice x none (some (-1))) ((hx.cut _ _).tx (by decide)) (some b) (some (.d (.int r))) (some (.d (.int pots))) (some (.d (zm cs)))
    refine⟨Γ',?_⟩
    generalize lawB_2=B2 at *
    generalize lawB_3=B3 at *
    generalize zm cs=BB at *
    subst v7
    simp![hseq,ex,jG,qS,jh,hz1,e,zc,ze,zb]
   ·by_cases v8:r=8
    ·obtain⟨Γ',e⟩:=p3' (x++Str.ofString "\n") ((hx.app s3).tx (by decide)) (some b) (some (.d (.int r))) (some (.d (.int pots))) (some (.d (zm cs)))
     refine⟨Γ',?_⟩
     generalize lawB_2=B2 at *
     generalize lawB_3=B3 at *
     generalize zm cs=BB at *
     generalize Str.ofString "\n" =LF at *
     subst v8
     simp![hseq,ex,jS,hz2,e,zc,ze,zb]
    ·obtain⟨Γ',e⟩:=p3' x (hx.tx (by decide)) (some b) (some (.d (.int r))) (some (.d (.int pots))) (some (.d (zm cs)))
     refine⟨Γ',?_⟩
     generalize lawB_2=B2 at *
     generalize lawB_3=B3 at *
     generalize zm cs=BB at *
     simp![hseq,ex,w4,w7,v7,v8,e,zc,ze,zb]
theorem law_run(cf:CF)(h:zbI cf)(cells:List Int)(i l t s:Int)(hi:0<=i):∃ Γ',lawB.ex cf [] (none::some (ZH cells i l t s)::List.replicate (LN.length-2) none)=.ok (.ret (.d (.bool true)),Γ'):=by
 have hB:zr (ZH cells i l t s):=⟨_,_,_,_,_,hi,rfl⟩
 generalize ZH cells i l t s=b at hB
 obtain⟨r,b1,h1,h1',hb1,e1⟩:=h.take b hB 10 (by decide) (by decide)
 obtain⟨p,b2,h2,h2',hb2,e2⟩:=h.take b1 hb1 7 (by decide) (by decide)
 obtain⟨n,b3,h3,h3',hb3,e3⟩:=h.take b2 hb2 9 (by decide) (by decide)
 obtain⟨pots,rfl⟩:∃ pots:Nat,p=pots:=⟨p.toNat,by omega⟩
 obtain⟨size,rfl⟩:∃ size:Nat,n=size:=⟨n.toNat,by omega⟩
 obtain⟨cs,b4,hcl,hck,hb4,e4⟩:=h.bolt b3 hb3 pots size 3 (by omega) (by omega) (by decide) (by decide)
 have hv:(OV.l (cs.map fun c=>.d c.D)).view=zm cs:=by
  have:(cs.map fun c=>OV.d c.D)=(cs.map Cl.D).map .d:=by rw[xN];rfl
  rw[this,OV.view,OV.views_d];rfl
 have hx:∀ s,IB.ex cf [] (.cons s lawB_4)=sSeq (IS.ex cf [] s) (IB.ex cf [] lawB_4):=fun s=>rfl
 have q2':=fun {b:OV} (hb:zr b) {cs:List Cl} (hc:Bolt pots cs)=>q2 cf h hb (r:=r) (pots:=pots) (by omega) hc
 have hbolt:Bolt pots cs:=⟨by omega,hck⟩
 have hlen:(cs.map Cl.D).length=cs.length:=xn ..
 simp only[lawB,LN]
 by_cases hc0:cs.length=0
 ·obtain⟨Γ',e⟩:=q2' hb4 hbolt
  refine⟨Γ',?_⟩
  have hg:¬ ((0:Int)<(cs.length:Int)):=by omega
  have hg2:¬ (0<cs.length):=by omega
  generalize lawB_1=B1 at *
  generalize lawB_4=B4 at *
  generalize (cs.map fun c=>OV.d c.D)=CO at *
  simp only[zm]at *
  generalize cs.map Cl.D=DD at *
  simp![hx,e1,e2,e3,e4,hv,hlen,hg,hg2,e,zc,ze,zb,-List.length_eq_zero_iff]
 ·obtain⟨m,b5,h5,h5',hb5,e5⟩:=h.take b4 hb4 16 (by decide) (by decide)
  have hg:(0:Int)<(cs.length:Int):=by omega
  have hg2:0<cs.length:=by omega
  by_cases m0:m=0
  ·obtain⟨c0,cr,rfl⟩:∃ c0 cr,cs=c0::cr:=by
    cases cs with
    |nil=>exact absurd rfl hc0
    |cons a r=>exact⟨a,r,rfl⟩
   have hb':Bolt pots (List.replicate 1000 c0):=⟨by simp,fun c hc=>by rw[List.eq_of_mem_replicate hc];exact hck c0 (by simp)⟩
   obtain⟨Γ',e⟩:=q2' hb5 hb'
   refine⟨Γ',?_⟩
   have lp:zW 1 (.nm 0 9) fYes (lawB_1.ev cf).1 (zL 1000) [] [none,some b5,some (.d (.int r)),some (.d (.int pots)),some (.d (zm (c0::cr))),none,none,none,none]=.ok ((List.replicate 1000 c0).map Cl.D,[none,some b5,some (.d (.int r)),some (.d (.int pots)),some (.d (zm (c0::cr))),none,none,none,none]):=by
    have:=qQ (k:=1) (t:=.nm 0 9) (elt:=(lawB_1.ev cf).1) (fun d:PyData=>d) (fun _=>c0.D) (xs:=zL 1000) (Γ:= [none,some b5,some (.d (.int r)),some (.d (.int pots)),some (.d (zm (c0::cr))),none,none,none,none]) fun d hd=>⟨[none,some b5,some (.d (.int r)),some (.d (.int pots)),some (.d (zm (c0::cr))),none,none,none,none,some (.d d)],.dat c0.D,[none,some b5,some (.d (.int r)),some (.d (.int pots)),some (.d (zm (c0::cr))),none,none,none,none,some (.d d)],rfl,by
     have ax':atI ((c0::cr).map Cl.D) 0=some c0.D:=a0
     unfold lawB_1
     simp only[zm]
     generalize (c0::cr).map Cl.D=CC at *
     generalize c0.D=C0 at *
     simp![ax',zb],rfl,rfl⟩
    rw[List.map_id']at this
    rw[this]
    congr 2
   have hz:(zL 1000).length<=1000000:=by rw[zG];decide
   have hrd:zL (1000:Int).toNat=zL 1000:=rfl
   subst m0
   clear hb' hck hbolt
   generalize lawB_1=B1 at *
   generalize lawB_4=B4 at *
   generalize ((c0::cr).map fun c=>OV.d c.D)=CO at *
   simp only[zm]at *
   generalize (List.replicate 1000 c0).map Cl.D=DD at *
   generalize (c0::cr).map Cl.D=DC at *
   generalize hR:zL 1000=RR at *
   simp![hx,e1,e2,e3,e4,e5,hv,hlen,hg,hg2,hR,hz,lp,e,zc,ze,zb]
  ·obtain⟨Γ',e⟩:=q2' hb5 hbolt
   refine⟨Γ',?_⟩
   generalize lawB_1=B1 at *
   generalize lawB_4=B4 at *
   generalize (cs.map fun c=>OV.d c.D)=CO at *
   simp only[zm]at *
   generalize cs.map Cl.D=DD at *
   simp![hx,e1,e2,e3,e4,e5,hv,hlen,hg,hg2,m0,e,zc,ze,zb]
section
variable [L2.Cs] {P:Program} {w:World} {K:PySem.W.Frag} {mg:Str->Option Value} {base:Heap}
theorem KG(ns:List Int)(lo hi:Option Int):∃ ms:List Int,Jt (ns.map V.int) lo hi=ms.map V.int/\ms.length<=ns.length:=by
 refine⟨(ns.drop (HT.sIx (ns.map V.int).length 0 lo)).take (HT.sIx (ns.map V.int).length (ns.map V.int).length hi-HT.sIx (ns.map V.int).length 0 lo),?_,?_⟩
 ·unfold Jt
  rw[List.map_take,uz]
 ·rw[xI,List.length_drop];omega
theorem scBox:ja ["_law_script","_law_seed","_law_cell_here"] ["_law_script"] (defScope sBox):=⟨rfl,rfl,rfl,by decide +kernel,rfl,by decide +kernel,by decide +kernel⟩
theorem kn_box (D:Df K mg "_law_box" sBox ["_law_script"]) (B:mg "list" =none):Kn P w K mg base CX0 "_law_box" 1 (za3 K) :=
 D.kn (k:=0) scBox (fun vs H Q E ⟨a,ns,e,_⟩=>by rw[e];rfl) fun f cdv A outer s H vs Q E hr ⟨a,ns,e,hS,hlen,kk⟩=>by
  subst e
  refine PSs.wp (qX (JH (i:=1) scBox.nd rfl (Or.inl rfl) pe_int)
   (qX (zaz PassesOwn.never rfl (Ys (Qm vK (pv 0) vG (vH pe_int))) (Yr (i:=2) scBox.nd rfl (Or.inl rfl))
    (Qo (JH (i:=1) scBox.nd rfl (Or.inl rfl) (WQ zal (WQ yF (WQ yF (WQ zam (pv 1) pe_int) (pv 2)) pe_int) pe_int))))
   (Qo (yH (zas (zp (ZC Z8 rfl B ZQ (zp (Qm vK (pv 0) vG (vH pe_int)) pa_nil)) (zp pe_int (zp pe_int (zp pe_int (zp (pv 1) pa_nil)))))))))) ?_
  obtain⟨ms,ems,hms⟩:=KG ns none (some 63)
  refine⟨_,rfl,_,rfl,a,_,rfl,hS,fun q nq=>⟨q,rfl,⟨_,SqL.of zh⟩,KP (K:=K) (a:=q) (xs:=Jt (ns.map V.int) none (some 63)) (fun i σ H2=>H2=upd H q (.lst (Jt (ns.map V.int) none (some 63)))/\∃ sd v,σ= [some (.ref a),some (.int sd),v])
   ⟨rfl,0,none,rfl⟩ (fun i σ H2 _ ⟨e,_⟩=>by rw[e];exact SqL.of zh) ?_ ?_⟩⟩
  ·rintro i x σ H2 hx ⟨rfl,sd,v,rfl⟩
   obtain⟨z,rfl⟩:∃ z,x=V.int z:=by
    rw[ems]at hx
    have:=ub hx
    obtain⟨z,_,rfl⟩:=xK.mp this
    exact⟨z,rfl⟩
   refine⟨_,rfl,_,_,rfl,rfl,.inr (by decide),_,rfl,_,_,rfl,rfl,_,_,rfl,rfl,_,_,rfl,rfl,(by show (0:Int)<2147483647;decide),?_⟩
   exact⟨rfl,_,_,rfl⟩
  ·rintro σ H2 ⟨rfl,sd,v,rfl⟩
   have s1:Same H (upd H q (.lst (Jt (ns.map V.int) none (some 63)))):=zu nq
   refine⟨_,rfl,_,rfl,a,_,rfl,s1.seq hS,fun q2 nq2=>⟨q2,_,rfl,.inl (SqL.of zh),fun l nl=>⟨_,rfl,(by show 5<=sizeLine;decide),fun b nb=>?_⟩⟩⟩
   have s2:=s1.trans (zu (o:=.lst (Jt (ns.map V.int) none (some 63))) nq2)
   have s3:=s2.trans (zu (o:=.lst (Jt (ns.map V.int) none (some 63))) nl)
   have hlb:l≠b:=fun e=>by rw[<- e,zh]at nb;cases nb
   refine kk b _ (s3.trans (zu nb)) (s3.free nb) (by rw[zh];exact fun z=>nomatch z) ⟨l,ms,0,0,0,sd,rfl,zh,?_,Int.le_refl 0⟩
   refine .list (vs:=ms.map V.int) (by rw[zf hlb,zh,ems]) hlb (RepL.ints ms)
theorem hw:wOk defs W=true:=by kernel_rfl
theorem hgd:∀ x kf,W.gd.contains (x,kf)=true->GD w K mg x kf:=fun x kf h=>nomatch h
theorem okS:wI LN ["_law_script"] (defScope sLaw)=true:=by kernel_rfl
theorem oks:(defs.all fun d=>d.ok W)=true:=by kernel_rfl
theorem hdd {h:Heap}(X:K.In h) (G:h.Ns mainGlobals mg) (D0:Df K mg "plain_number" (top 8) ["text"]) (D1:Df K mg "is_plain" (top 9) ["text"]) (D2:Df K mg "plain_shades" (top 10) ["text"]) (D3:Df K mg "are_figures" (top 11) ["text"]) (D4:Df K mg "read_chart" (top 16) ["text"]) (D5:Df K mg "read_head" (top 17) ["row"]) (D6:Df K mg "read_bounded" (top 18) ["text","most"]) (D7:Df K mg "read_cell" (top 19) ["row","pots"]) (D8:Df K mg "read_picture" (top 20) ["text","pots"]) (D9:Df K mg "_law_whole" (top 22) ["_law_found"]) (D10:Df K mg "_law_shades" (top 23) ["_law_found","_law_pots"]) (D11:Df K mg "_law_cells_kind" (top 24) ["_law_found","_law_pots"]) (D12:Df K mg "_law_alike" (top 25) ["_law_found","_law_due","_law_pots"]) (D13:Df K mg "_law_mixed" (top 27) ["_law_number","_law_turn"]) (D14:Df K mg "_law_take" (top 28) ["_law_box_here","_law_many"]) (D15:Df K mg "_law_lacks" (top 29) ["_law_box_here","_law_pots","_law_size"]) (D16:Df K mg "_law_cell" (top 30) ["_law_box_here","_law_row","_law_loose","_law_wet"]) (D17:Df K mg "_law_bolt" (top 31) ["_law_box_here","_law_pots","_law_size","_law_loose"]) (D18:Df K mg "_law_sign" (top 32) ["_law_box_here"]) (D19:Df K mg "_law_figures" (top 33) ["_law_picture_here"]) (D20:Df K mg "_law_is_number" (top 34) ["_law_word"]) (D21:Df K mg "_law_is_figures" (top 35) ["_law_word"]) (D22:Df K mg "_law_picture" (top 36) ["_law_word"]) (D23:Df K mg "_law_spoilt" (top 37) ["_law_box_here","_law_text"]) (D24:Df K mg "_law_sheet" (top 38) ["_law_rows","_law_pots"]) (D25:Df K mg "_law_sheet_head" (top 39) ["_law_row"]) (D26:Df K mg "_law_sheet_cell" (top 40) ["_law_row","_law_pots"]) (D27:Df K mg "_law_sheet_meant" (top 41) ["_law_text"]) (D28:Df K mg "_law_same_sheet" (top 42) ["_law_found","_law_due"]) (D29:Df K mg "_law_turned" (top 43) ["_law_box_here","_law_rows","_law_way"]):AllX K mg defs:=⟨zD rfl D0,zD rfl D1,zD rfl D2,zD rfl D3,zD rfl D4,zD rfl D5,zD rfl D6,zD rfl D7,zD rfl D8,zD rfl D9,zD rfl D10,zD rfl D11,zD rfl D12,zD rfl D13,zD rfl D14,zD rfl D15,zD rfl D16,zD rfl D17,zD rfl D18,zD rfl D19,zD rfl D20,zD rfl D21,zD rfl D22,zD rfl D23,zD rfl D24,zD rfl D25,zD rfl D26,zD rfl D27,zD rfl D28,zD rfl D29,trivial⟩
end
noncomputable def dP(s:Stmt):Arguments:=match s with
 |.FunctionDef _ a _ _ _ _ _ _ _ _=>a
 |_=>⟨[],[],none,[],[],none,[]⟩
noncomputable abbrev dB:=L2.defBody
noncomputable abbrev dS:=L2.defScope
noncomputable abbrev dE(P:PySem.Params)(n:Str)(t:Nat)(v:Value):DictEntry:=.mk (PySem.PyData.keyHash P n) (.str n t) v
noncomputable abbrev dR(P:PySem.Params)(n:Str)(t a:Nat):DictEntry:=.mk (PySem.PyData.keyHash P n) (.str n t) (.ref a)
noncomputable def v3(c:Nat):List (Nat×Nat)->List Value
 |[]=> []
 | (l,a)::r=>.int l 0::.int c 0::.ref a::v3 c r
noncomputable abbrev o3(c:Nat)(l:List (Nat×Nat)):Obj:=.mk .none none (.fields (v3 c l).toArray) #[]
noncomputable def sL:Nat->List Str->List Value
 |_,[]=> []
 |t,s::r=>.str s t::sL (t+1) r
noncomputable abbrev sN(t:Nat)(l:List Str):Array Value:=(sL t l).toArray
noncomputable def rL:List Nat->List Value
 |[]=> []
 |a::r=>.ref a::rL r
noncomputable abbrev rN(l:List Nat):Array Value:=(rL l).toArray
noncomputable abbrev oA:Obj:=PySem.Obj.mk (.type "tuple") none (.seq #[] 0) #[]
noncomputable abbrev oB (s1:Str) (n0:Nat):Obj:=PySem.Obj.mk (.type "tuple") none (.seq (sN n0 [s1]) 0) #[]
noncomputable abbrev oC (s0:Str) (n1 n2 n3 n4 n5:Nat):Obj:=PySem.Obj.mk (.type "code") none (.fields #[(.str s0 n1),(.str s0 (n1+1)),(.str "/claim/cut.py" (n1+2)),(.int ((n2:Nat):Int) 0),(.int ((n3:Nat):Int) 0),(.int 0 0),(.int 0 0),(.int 3 0),(.ref n4),(.bool true),(.int 181 0),(.ref (n4+1)),.none,(.ref (n4+2)),(.ref (n4+3)),(.ref (n4+4)),(.int ((n5:Nat):Int) 0),(.int ((n2:Nat):Int) 0),(.str "/claim/cut.py" (n5+1))]) #[]
noncomputable abbrev oD (s0 s2:Str) (n1 n3 n4:Nat):Obj:=PySem.Obj.mk (.type "function") none (.func (PySem.FuncData.mk s0 s0 (dP (top n1)) (.stmts (dB (top n1))) (dS (top n1)) 3 [] .none .none .none (.str s2 n3) none (.ref n4) .none 0)) #[]
noncomputable abbrev oE (s0:Str) (n1 n2 n3 n4:Nat):Obj:=PySem.Obj.mk (.type "code") none (.fields #[(.str s0 n1),(.str s0 (n1+1)),(.str "/claim/cut.py" (n1+2)),(.int ((n2:Nat):Int) 0),(.int ((n3:Nat):Int) 0),(.int 0 0),(.int 0 0),(.int 3 0),(.ref n4),(.bool true),(.int 181 0),(.ref (n4+1)),.none,.none,.none,(.ref (n4+2)),(.int ((n1+3:Nat):Int) 0),(.int ((n2:Nat):Int) 0),(.str "/claim/cut.py" (n1+4))]) #[]
noncomputable abbrev oF (s1 s2:Str) (n0:Nat):Obj:=PySem.Obj.mk (.type "tuple") none (.seq (sN n0 [s1,s2]) 0) #[]
noncomputable abbrev oG (s1 s2 s3:Str) (n0:Nat):Obj:=PySem.Obj.mk (.type "tuple") none (.seq (sN n0 [s1,s2,s3]) 0) #[]
noncomputable abbrev oH (s1 s2 s3 s4 s5:Str) (n0:Nat):Obj:=PySem.Obj.mk (.type "tuple") none (.seq (sN n0 [s1,s2,s3,s4,s5]) 0) #[]
noncomputable abbrev oI (s0:Str) (n1 n2 n3:Nat):Obj:=PySem.Obj.mk (.type "code") none (.fields #[(.str s0 n1),(.str s0 (n1+1)),(.str "/claim/cut.py" (n1+2)),(.int ((n2:Nat):Int) 0),(.int 0 0),(.int 0 0),(.int 0 0),(.int 0 0),(.ref n3),(.bool false),(.int 181 0),(.ref (n3+1)),.none,.none,.none,.none,(.int ((n1+3:Nat):Int) 0),(.int ((n2:Nat):Int) 0),(.str "/claim/cut.py" (n1+4))]) #[]
noncomputable abbrev oJ (s2:Str) (n0 n1 n3:Nat):Obj:=PySem.Obj.mk (.type "frame") none .plain #[(some (.ref n0)),(some (.ref 3)),(some (.ref n1)),none,(some (.str s2 n3)),none,(some (.ref 0))]
noncomputable abbrev oK:Obj:=PySem.Obj.mk (.type "builtin_function_or_method") none (.fields #[(.builtin "type.__prepare__"),(.type "type")]) #[]
noncomputable abbrev oL (P:PySem.Params) (s1:Str) (n0 n2 n3:Nat):Obj:=PySem.Obj.mk (.type "dict") none (.dict #[(dE P "__module__" n0 (.str "waxcloth.errors" 187)),(dE P "__qualname__" (n0+2) (.str s1 (n0+1))),(dE P "__firstlineno__" (n0+4) (.int ((n2:Nat):Int) (n0+3))),dR P "__static_attributes__" (n0+5) n3] 4) #[]
noncomputable abbrev oM:Obj:=PySem.Obj.mk .none none (.fields #[]) #[]
noncomputable abbrev oN (n0:Nat):Obj:=PySem.Obj.mk (.type "builtin_function_or_method") none (.fields #[(.builtin "object.__init_subclass__"),(.ref n0)]) #[]
noncomputable abbrev oO(s0:Str)(n1:Nat):Obj:=PySem.Obj.mk .none none (.func (PySem.FuncData.mk s0 s0 (dP (top n1)) (.stmts (dB (top n1))) (dS (top n1)) 0 [] .none .none .none .none none .none .none 0)) #[]
noncomputable def K(P:PySem.Params):PySem.W.Frag :=
 (nat_lit 2,(PySem.Obj.mk .none none (.dict #[] 0) #[])) ::
 (nat_lit 3,(PySem.Obj.mk (.type "dict") none (.dict #[(dE P "__name__" 165 (.str "law_waxcloth_k34_charts_refused" 308)),(dE P "__doc__" 166 .none),(dE P "__package__" 167 .none),(dE P "__loader__" 168 (.builtin "__main__.__loader__#opaque")),(dE P "__spec__" 169 .none),dR P "__annotations__" 170 6,dR P "__builtins__" 171 4,(dE P "__file__" 173 (.str "/claim/cut.py" 172)),(dE P "__cached__" 174 .none),dR P "WaxError" 206 24,dR P "NoChart" 222 37,(dE P "FIGURES" 226 (.str "0123456789" 225)),(dE P "NO_SHADES" 228 (.str "-" 227)),(dE P "MOST_FIGURES" 230 (.int 6 229)),(dE P "MOST_POTS" 232 (.int 12 231)),dR P "plain_number" 239 46,dR P "is_plain" 246 53,dR P "plain_shades" 252 58,dR P "are_figures" 258 63,(dE P "MOST_ROWS" 262 (.int 999 261)),(dE P "WAX" 264 (.str "*" 263)),(dE P "NO_WAX" 266 (.str "." 265)),dR P "read_chart" 272 68,dR P "read_head" 280 75,dR P "read_bounded" 289 82,dR P "read_cell" 298 89,dR P "read_picture" 307 96,dR P "_law_whole" 316 103,dR P "_law_shades" 322 108,dR P "_law_cells_kind" 331 115,dR P "_law_alike" 340 122,dR P "_law_box" 349 129,dR P "_law_mixed" 359 136,dR P "_law_take" 369 143,dR P "_law_lacks" 375 148,dR P "_law_cell" 389 155,dR P "_law_bolt" 395 160,dR P "_law_sign" 403 167,dR P "_law_figures" 409 172,dR P "_law_is_number" 415 177,dR P "_law_is_figures" 421 182,dR P "_law_picture" 427 187,dR P "_law_spoilt" 438 194,dR P "_law_sheet" 450 201,dR P "_law_sheet_head" 456 206,dR P "_law_sheet_cell" 467 213,dR P "_law_sheet_meant" 473 218,dR P "_law_same_sheet" 481 225,dR P "_law_turned" 492 232,dR P "law" 498 237] 50) #[])) ::
 (nat_lit 15,(PySem.Obj.mk (.type "tuple") none (.seq #[(.type "ValueError")] 0) #[])) ::
 (nat_lit 22,oA) ::
 (nat_lit 23,(PySem.Obj.mk (.type "dict") none (.dict #[(dE P "__module__" 196 (.str "waxcloth.errors" 187)),(dE P "__firstlineno__" 200 (.int 2 199)),dR P "__static_attributes__" 201 22,dR P "__weakref__" 203 25,(dE P "__doc__" 204 .none)] 3) #[])) ::
 (nat_lit 24,(PySem.Obj.mk (.type "type") none (.cls (PySem.ClassData.mk "WaxError" [(.type "ValueError")] [(.ref 24),(.type "ValueError"),(.type "Exception"),(.type "BaseException"),(.type "object")] 23 "WaxError" true [] [(.ref 37)] false none false)) #[(some (.ref 15)),none,(some (.str "WaxError" 189)),(some (.str "WaxError" 197)),(some (.builtin "ValueError.__new__")),(some (.bool true))])) ::
 (nat_lit 25,(PySem.Obj.mk (.type "getset_descriptor") none (.fields #[(.str "__weakref__" 202),(.ref 24),(.builtin "ExceptionGroup.__weakref__"),.none]) #[])) ::
 (nat_lit 28,(PySem.Obj.mk (.type "tuple") none (.seq #[(.ref 24)] 0) #[])) ::
 (nat_lit 35,oA) ::
 (nat_lit 36,(PySem.Obj.mk (.type "dict") none (.dict #[(dE P "__module__" 214 (.str "waxcloth.errors" 187)),(dE P "__firstlineno__" 218 (.int 4 217)),dR P "__static_attributes__" 219 35,(dE P "__doc__" 220 .none)] 2) #[])) ::
 (nat_lit 37,(PySem.Obj.mk (.type "type") none (.cls (PySem.ClassData.mk "NoChart" [(.ref 24)] [(.ref 37),(.ref 24),(.type "ValueError"),(.type "Exception"),(.type "BaseException"),(.type "object")] 36 "NoChart" true [] [] false none false)) #[(some (.ref 28)),none,(some (.str "NoChart" 207)),(some (.str "NoChart" 215)),(some (.builtin "ValueError.__new__")),(some (.bool true))])) ::
 (nat_lit 40,oA) ::
 (nat_lit 42,(oB "text" 236)) ::
 (nat_lit 43,oA) ::
 (nat_lit 45,(oC "plain_number" 233 11 1 40 237)) ::
 (nat_lit 46,(oD "plain_number" "waxcloth.words" 8 223 45)) ::
 (nat_lit 47,oA) ::
 (nat_lit 49,(oB "text" 243)) ::
 (nat_lit 50,oA) ::
 (nat_lit 52,(oC "is_plain" 240 15 1 47 244)) ::
 (nat_lit 53,(oD "is_plain" "waxcloth.words" 9 223 52)) ::
 (nat_lit 54,oA) ::
 (nat_lit 57,(oE "plain_shades" 247 21 1 54)) ::
 (nat_lit 58,(oD "plain_shades" "waxcloth.words" 10 223 57)) ::
 (nat_lit 59,oA) ::
 (nat_lit 62,(oE "are_figures" 253 27 1 59)) ::
 (nat_lit 63,(oD "are_figures" "waxcloth.words" 11 223 62)) ::
 (nat_lit 64,oA) ::
 (nat_lit 67,(oE "read_chart" 267 33 1 64)) ::
 (nat_lit 68,(oD "read_chart" "waxcloth.charts" 16 259 67)) ::
 (nat_lit 69,oA) ::
 (nat_lit 71,(oF "row" "words" 276)) ::
 (nat_lit 72,oA) ::
 (nat_lit 74,(oC "read_head" 273 41 1 69 278)) ::
 (nat_lit 75,(oD "read_head" "waxcloth.charts" 17 259 74)) ::
 (nat_lit 76,oA) ::
 (nat_lit 78,(oG "text" "most" "number" 284)) ::
 (nat_lit 79,oA) ::
 (nat_lit 81,(oC "read_bounded" 281 46 2 76 287)) ::
 (nat_lit 82,(oD "read_bounded" "waxcloth.charts" 18 259 81)) ::
 (nat_lit 83,oA) ::
 (nat_lit 85,(oG "row" "pots" "words" 293)) ::
 (nat_lit 86,oA) ::
 (nat_lit 88,(oC "read_cell" 290 51 2 83 296)) ::
 (nat_lit 89,(oD "read_cell" "waxcloth.charts" 19 259 88)) ::
 (nat_lit 90,oA) ::
 (nat_lit 92,(oG "text" "pots" "shades" 302)) ::
 (nat_lit 93,oA) ::
 (nat_lit 95,(oC "read_picture" 299 56 2 90 305)) ::
 (nat_lit 96,(oD "read_picture" "waxcloth.charts" 20 259 95)) ::
 (nat_lit 97,oA) ::
 (nat_lit 99,(oB "_law_found" 313)) ::
 (nat_lit 100,oA) ::
 (nat_lit 102,(oC "_law_whole" 310 62 1 97 314)) ::
 (nat_lit 103,(oD "_law_whole" "law_waxcloth_k34_charts_refused" 22 308 102)) ::
 (nat_lit 104,oA) ::
 (nat_lit 107,(oE "_law_shades" 317 64 2 104)) ::
 (nat_lit 108,(oD "_law_shades" "law_waxcloth_k34_charts_refused" 23 308 107)) ::
 (nat_lit 109,oA) ::
 (nat_lit 111,(oG "_law_found" "_law_pots" "_law_cell_here" 326)) ::
 (nat_lit 112,oA) ::
 (nat_lit 114,(oC "_law_cells_kind" 323 66 2 109 329)) ::
 (nat_lit 115,(oD "_law_cells_kind" "law_waxcloth_k34_charts_refused" 24 308 114)) ::
 (nat_lit 116,oA) ::
 (nat_lit 118,(oG "_law_found" "_law_due" "_law_pots" 335)) ::
 (nat_lit 119,oA) ::
 (nat_lit 121,(oC "_law_alike" 332 75 3 116 338)) ::
 (nat_lit 122,(oD "_law_alike" "law_waxcloth_k34_charts_refused" 25 308 121)) ::
 (nat_lit 123,oA) ::
 (nat_lit 125,(oG "_law_script" "_law_seed" "_law_cell_here" 344)) ::
 (nat_lit 126,oA) ::
 (nat_lit 128,(oC "_law_box" 341 77 1 123 347)) ::
 (nat_lit 129,(oD "_law_box" "law_waxcloth_k34_charts_refused" 26 308 128)) ::
 (nat_lit 130,oA) ::
 (nat_lit 132,(PySem.Obj.mk (.type "tuple") none (.seq (sN 353 ["_law_number","_law_turn","_law_one","_law_two"]) 0) #[])) ::
 (nat_lit 133,oA) ::
 (nat_lit 135,(oC "_law_mixed" 350 82 2 130 357)) ::
 (nat_lit 136,(oD "_law_mixed" "law_waxcloth_k34_charts_refused" 27 308 135)) ::
 (nat_lit 137,oA) ::
 (nat_lit 139,(PySem.Obj.mk (.type "tuple") none (.seq (sN 363 ["_law_box_here","_law_many","_law_left","_law_cell_here"]) 0) #[])) ::
 (nat_lit 140,oA) ::
 (nat_lit 142,(oC "_law_take" 360 86 2 137 367)) ::
 (nat_lit 143,(oD "_law_take" "law_waxcloth_k34_charts_refused" 28 308 142)) ::
 (nat_lit 144,oA) ::
 (nat_lit 147,(oE "_law_lacks" 370 100 3 144)) ::
 (nat_lit 148,(oD "_law_lacks" "law_waxcloth_k34_charts_refused" 29 308 147)) ::
 (nat_lit 149,oA) ::
 (nat_lit 151,(PySem.Obj.mk (.type "tuple") none (.seq (sN 379 ["_law_box_here","_law_row","_law_loose","_law_wet","_law_stain","_law_want","_law_bit","_law_shade"]) 0) #[])) ::
 (nat_lit 152,oA) ::
 (nat_lit 154,(oC "_law_cell" 376 117 4 149 387)) ::
 (nat_lit 155,(oD "_law_cell" "law_waxcloth_k34_charts_refused" 30 308 154)) ::
 (nat_lit 156,oA) ::
 (nat_lit 159,(oE "_law_bolt" 390 128 4 156)) ::
 (nat_lit 160,(oD "_law_bolt" "law_waxcloth_k34_charts_refused" 31 308 159)) ::
 (nat_lit 161,oA) ::
 (nat_lit 163,(oF "_law_box_here" "_law_some" 399)) ::
 (nat_lit 164,oA) ::
 (nat_lit 166,(oC "_law_sign" 396 132 1 161 401)) ::
 (nat_lit 167,(oD "_law_sign" "law_waxcloth_k34_charts_refused" 32 308 166)) ::
 (nat_lit 168,oA) ::
 (nat_lit 171,(oE "_law_figures" 404 137 1 168)) ::
 (nat_lit 172,(oD "_law_figures" "law_waxcloth_k34_charts_refused" 33 308 171)) ::
 (nat_lit 173,oA) ::
 (nat_lit 176,(oE "_law_is_number" 410 141 1 173)) ::
 (nat_lit 177,(oD "_law_is_number" "law_waxcloth_k34_charts_refused" 34 308 176)) ::
 (nat_lit 178,oA) ::
 (nat_lit 181,(oE "_law_is_figures" 416 145 1 178)) ::
 (nat_lit 182,(oD "_law_is_figures" "law_waxcloth_k34_charts_refused" 35 308 181)) ::
 (nat_lit 183,oA) ::
 (nat_lit 186,(oE "_law_picture" 422 147 1 183)) ::
 (nat_lit 187,(oD "_law_picture" "law_waxcloth_k34_charts_refused" 36 308 186)) ::
 (nat_lit 188,oA) ::
 (nat_lit 190,(oH "_law_box_here" "_law_text" "_law_k" "_law_at" "_law_way" 431)) ::
 (nat_lit 191,oA) ::
 (nat_lit 193,(oC "_law_spoilt" 428 151 2 188 436)) ::
 (nat_lit 194,(oD "_law_spoilt" "law_waxcloth_k34_charts_refused" 37 308 193)) ::
 (nat_lit 195,oA) ::
 (nat_lit 197,(PySem.Obj.mk (.type "tuple") none (.seq (sN 442 ["_law_rows","_law_pots","_law_found","_law_stain","_law_waxed","_law_want"]) 0) #[])) ::
 (nat_lit 198,oA) ::
 (nat_lit 200,(oC "_law_sheet" 439 164 2 195 448)) ::
 (nat_lit 201,(oD "_law_sheet" "law_waxcloth_k34_charts_refused" 38 308 200)) ::
 (nat_lit 202,oA) ::
 (nat_lit 205,(oE "_law_sheet_head" 451 169 1 202)) ::
 (nat_lit 206,(oD "_law_sheet_head" "law_waxcloth_k34_charts_refused" 39 308 205)) ::
 (nat_lit 207,oA) ::
 (nat_lit 209,(oH "_law_row" "_law_pots" "_law_words" "_law_stain" "_law_want" 460)) ::
 (nat_lit 210,oA) ::
 (nat_lit 212,(oC "_law_sheet_cell" 457 176 2 207 465)) ::
 (nat_lit 213,(oD "_law_sheet_cell" "law_waxcloth_k34_charts_refused" 40 308 212)) ::
 (nat_lit 214,oA) ::
 (nat_lit 217,(oE "_law_sheet_meant" 468 185 1 214)) ::
 (nat_lit 218,(oD "_law_sheet_meant" "law_waxcloth_k34_charts_refused" 41 308 217)) ::
 (nat_lit 219,oA) ::
 (nat_lit 221,(oF "_law_found" "_law_due" 477)) ::
 (nat_lit 222,oA) ::
 (nat_lit 224,(oC "_law_same_sheet" 474 194 2 219 479)) ::
 (nat_lit 225,(oD "_law_same_sheet" "law_waxcloth_k34_charts_refused" 42 308 224)) ::
 (nat_lit 226,oA) ::
 (nat_lit 228,(oH "_law_box_here" "_law_rows" "_law_way" "_law_at" "_law_heads" 485)) ::
 (nat_lit 229,oA) ::
 (nat_lit 231,(oC "_law_turned" 482 198 3 226 490)) ::
 (nat_lit 232,(oD "_law_turned" "law_waxcloth_k34_charts_refused" 43 308 231)) ::
 (nat_lit 233,oA) ::
 (nat_lit 236,(oE "law" 493 208 1 233)) ::
 (nat_lit 237,(oD "law" "law_waxcloth_k34_charts_refused" 44 308 236)):: []
noncomputable abbrev RR:PySem.W.RowW:=PySem.W.OpenRow.toRowW (PySem.W.OpenLaw.row PySem.Challenge.rw_waxcloth_k34_charts_refused)
noncomputable def Q:Program:={ RR.prog with main:={ RR.prog.main with body:= [top 1,top 2,top 4,top 5,top 6,top 7,top 8,top 9,top 10,top 11,top 13,top 14,top 15,top 16,top 17,top 18,top 19,top 20,top 22,top 23,top 24,top 25,top 26,top 27,top 28,top 29,top 30,top 31,top 32,top 33,top 34,top 35,top 36,top 37,top 38,top 39,top 40,top 41,top 42,top 43,top 44] } }
noncomputable def asL:List Nat:= [2,3,15,22,23,24,25,28,35,36,37,40,42,43,45,46,47,49,50,52,53,54,57,58,59,62,63,64,67,68,69,71,72,74,75,76,78,79,81,82,83,85,86,88,89,90,92,93,95,96,97,99,100,102,103,104,107,108,109,111,112,114,115,116,118,119,121,122,123,125,126,128,129,130,132,133,135,136,137,139,140,142,143,144,147,148,149,151,152,154,155,156,159,160,161,163,164,166,167,168,171,172,173,176,177,178,181,182,183,186,187,188,190,191,193,194,195,197,198,200,201,202,205,206,207,209,210,212,213,214,217,218,219,221,222,224,225,226,228,229,231,232,233,236,237]
theorem asE:∀ P,asL=(K P).map (·.1):=fun _=>by kernel_rfl
noncomputable def zgh(P:PySem.Params):List (Nat×Obj) :=
 (0,PySem.W.boot_o_0 P) ::
 (1,PySem.W.boot_o_1 P) ::
 (4,PySem.W.boot_o_4 P) ::
 (5,PySem.W.boot_o_5 P) ::
 (6,PySem.W.boot_o_6 P) ::
 (7,PySem.W.boot_o_7 P) ::
 (8,PySem.W.boot_o_8 P) ::
 (9,PySem.W.boot_o_9 P) ::
 (10,PySem.W.boot_o_10 P) ::
 (11,oA) ::
 (12,(o3 0 [(2,20),(4,33),(11,45),(15,52),(21,57),(27,62),(33,67),(41,74),(46,81),(51,88),(56,95),(62,102),(64,107),(66,114),(75,121),(77,128),(82,135),(86,142),(100,147),(117,154),(128,159),(132,166),(137,171),(141,176),(145,181),(147,186),(151,193),(164,200),(169,205),(176,212),(185,217),(194,224),(198,231),(208,236)])) ::
 (13,(oI "<module>" 182 1 11)) ::
 (14,(oJ "__main__" 13 3 164)) ::
 (16,oK) ::
 (17,(oL P "WaxError" 196 2 22)) ::
 (18,oA) ::
 (19,oM) ::
 (20,(oI "WaxError" 191 2 18)) ::
 (21,(oJ "waxcloth.errors" 20 17 187)) ::
 (26,(PySem.Obj.mk (.type "super") none (.fields (rN [24,24,24])) #[])) ::
 (27,(oN 24)) ::
 (29,oK) ::
 (30,(oL P "NoChart" 214 4 35)) ::
 (31,oA) ::
 (32,oM) ::
 (33,(oI "NoChart" 209 4 31)) ::
 (34,(oJ "waxcloth.errors" 33 30 187)) ::
 (38,(PySem.Obj.mk (.type "super") none (.fields (rN [37,37,37])) #[])) ::
 (39,(oN 37)) ::
 (41,oM) ::
 (44,(oO "plain_number" 8)) ::
 (48,oM) ::
 (51,(oO "is_plain" 9)) ::
 (55,oM) ::
 (56,(oO "plain_shades" 10)) ::
 (60,oM) ::
 (61,(oO "are_figures" 11)) ::
 (65,oM) ::
 (66,(oO "read_chart" 16)) ::
 (70,oM) ::
 (73,(oO "read_head" 17)) ::
 (77,oM) ::
 (80,(oO "read_bounded" 18)) ::
 (84,oM) ::
 (87,(oO "read_cell" 19)) ::
 (91,oM) ::
 (94,(oO "read_picture" 20)) ::
 (98,oM) ::
 (101,(oO "_law_whole" 22)) ::
 (105,oM) ::
 (106,(oO "_law_shades" 23)) ::
 (110,oM) ::
 (113,(oO "_law_cells_kind" 24)) ::
 (117,oM) ::
 (120,(oO "_law_alike" 25)) ::
 (124,oM) ::
 (127,(oO "_law_box" 26)) ::
 (131,oM) ::
 (134,(oO "_law_mixed" 27)) ::
 (138,oM) ::
 (141,(oO "_law_take" 28)) ::
 (145,oM) ::
 (146,(oO "_law_lacks" 29)) ::
 (150,oM) ::
 (153,(oO "_law_cell" 30)) ::
 (157,oM) ::
 (158,(oO "_law_bolt" 31)) ::
 (162,oM) ::
 (165,(oO "_law_sign" 32)) ::
 (169,oM) ::
 (170,(oO "_law_figures" 33)) ::
 (174,oM) ::
 (175,(oO "_law_is_number" 34)) ::
 (179,oM) ::
 (180,(oO "_law_is_figures" 35)) ::
 (184,oM) ::
 (185,(oO "_law_picture" 36)) ::
 (189,oM) ::
 (192,(oO "_law_spoilt" 37)) ::
 (196,oM) ::
 (199,(oO "_law_sheet" 38)) ::
 (203,oM) ::
 (204,(oO "_law_sheet_head" 39)) ::
 (208,oM) ::
 (211,(oO "_law_sheet_cell" 40)) ::
 (215,oM) ::
 (216,(oO "_law_sheet_meant" 41)) ::
 (220,oM) ::
 (223,(oO "_law_same_sheet" 42)) ::
 (227,oM) ::
 (230,(oO "_law_turned" 43)) ::
 (234,oM) ::
 (235,(oO "law" 44)):: []
noncomputable def mix:Nat->Nat->List (Nat×Obj)->List (Nat×Obj)->List Obj
 |0,_,_,_=> []
 |n+1,i,(a,x)::l,(b,y)::r=>match Nat.beq a i with
  |true=>x::mix n (i+1) l ((b,y)::r)
  |false=>y::mix n (i+1) ((a,x)::l) r
 |n+1,i,(_,x)::l,[]=>x::mix n (i+1) l []
 |n+1,i,[],(_,y)::r=>y::mix n (i+1) [] r
 |_+1,_,[],[]=> []
noncomputable def ev:Bool->List Obj->List Obj
 |_,[]=> []
 |true,x::r=>x::ev false r
 |false,_::r=>ev true r
noncomputable def bt:Nat->List Obj->PySem.W.BT
 |0,_=>.nil
 |_+1,[]=>.nil
 |n+1,x::r=>.node x (bt n (ev true r)) (bt n (ev false r))
noncomputable def lf:Life:=(.mk [] [] [] 0 [] [] false #[] [] 0 false false false 0 [2000,10,10] false 0 true [] [] 0 false)
noncomputable def zgg(P:PySem.Params):List Obj:=mix 238 0 (K P) (zgh P)
noncomputable def zeg:Env:={ scope:=RR.prog.main.scope,locals:=mainNs,globals:=mainNs,cells:= [],code:=.ref 13,frame:=some 14 }
noncomputable def bH:List Stmt:=PySem.W.behindTheImports RR.prog
noncomputable def cH:Code:=.body bH zeg
noncomputable abbrev BH:List Frame:= [PySem.W.topFrame ⟨0,0,0,0⟩]
noncomputable def zeA (P:PySem.Params):List Obj:= [PySem.W.boot_o_0 P,PySem.W.boot_o_1 P,PySem.W.boot_o_2 P,PySem.W.boot_o_3 P,PySem.W.boot_o_4 P,PySem.W.boot_o_5 P,PySem.W.boot_o_6 P,PySem.W.boot_o_7 P,PySem.W.boot_o_8 P,PySem.W.boot_o_9 P,PySem.W.boot_o_10 P,oA,oM,(oI "<module>" 182 1 11),(oJ "__main__" 13 3 164)]
set_option maxHeartbeats 0 in
theorem preH:∀ w:World,(fun os=>PySem.W.topGo treeTable RR.prog w 11 (some (.ref 6)) 12 ⟨PySem.W.boot_heap w.params,Array.mk [],PySem.W.boot_drawn,PySem.W.boot_toks,os⟩ (PySem.W.topStub RR.prog))=fun os=>some (⟨⟨(zeA w.params).toArray,lf⟩,Array.mk [],PySem.W.boot_drawn,187,os⟩,⟨denote treeTable cH,cH,⟨0,0,0,0⟩,BH⟩):=fun w=>by kernel_rfl
noncomputable def tr0(P:PySem.Params):PySem.W.BT:=bt 14 (zeA P)
set_option maxHeartbeats 0 in
theorem zdW:∀ w:World,(fun os=>PySem.W.segRun treeTable RR.prog w 11 (some (.ref 6)) 1 1 ⟨⟨(zeA w.params).toArray,lf⟩,Array.mk [],PySem.W.boot_drawn,187,os⟩ (PySem.W.blockOf bH zeg cH ⟨0,0,0,0⟩ BH))=fun os=>some (.next,(PySem.W.SharedT.mk (tr0 w.params) 15 lf (Array.mk []) PySem.W.boot_drawn 187 os).abs,cH,⟨0,0,0,0⟩):=fun w=>by kernel_rfl
noncomputable def tr1(P:PySem.Params):PySem.W.BT:=bt 14 (zgg P)
noncomputable def zgH:List Stmt:=bH
set_option maxHeartbeats 0 in
theorem zgv:∀ w:World,(fun os=>PySem.W.segRunT treeTable RR.prog w 11 (some (.ref 6)) 1 1433 (PySem.W.SharedT.mk (tr0 w.params) 15 lf (Array.mk []) PySem.W.boot_drawn 187 os) (PySem.W.piecesOf zgH zeg cH ⟨0,0,0,0⟩ BH))=fun os=>some (.next,(PySem.W.SharedT.mk (tr1 w.params) 238 lf (Array.mk []) PySem.W.boot_drawn 499 os),cH,⟨208,0,233,64⟩):=fun w=>by kernel_rfl
noncomputable def hE(P:PySem.Params):Heap:=⟨(zgg P).toArray,lf⟩
set_option maxHeartbeats 0 in
theorem finH:∀ w:World,(fun os=>PySem.W.topRun treeTable RR.prog w 11 (some (.ref 6)) 2 (PySem.W.SharedT.mk (tr1 w.params) 238 lf (Array.mk []) PySem.W.boot_drawn 499 os).abs ⟨PySem.W.doneF .next,cH,⟨208,0,233,64⟩,BH⟩)=fun os=>some ⟨hE w.params,Array.mk [],PySem.W.boot_drawn,499,os⟩:=fun w=>by kernel_rfl
theorem zfX:bH=zgH++([]):=by kernel_rfl
theorem runH(w:World)(os:OsState):PySem.W.topRun treeTable RR.prog w 11 (some (.ref 6)) (12+(1+(1433+2))) ⟨PySem.W.boot_heap w.params,Array.mk [],PySem.W.boot_drawn,PySem.W.boot_toks,os⟩ (PySem.W.topStub RR.prog)=some ⟨hE w.params,Array.mk [],PySem.W.boot_drawn,499,os⟩:=by
 refine PySem.W.go_top (congrFun (preH w) os) (PySem.W.piece_block (congrFun (zdW w) os) ?_)
 rw[zfX]
 exact PySem.W.piece_app (PySem.W.segRun_of (congrFun (zgv w) os)) (PySem.W.piece_nil (congrFun (finH w) os))
noncomputable abbrev XtH:Shared->Bool:=fun s=>PySem.W.xlAt Q [] s&&PySem.W.recOk (PySem.W.RowW.records RR) s
set_option maxHeartbeats 0 in
theorem zex:∀ w:World,(fun os=>((PySem.W.staticsOk (importedModules RR.prog.main.body) (PySem.W.boot_heap w.params) (hE w.params)&&PySem.W.namesBound RR.prog (hE w.params)&&PySem.W.gensDone ⟨hE w.params,Array.mk [],PySem.W.boot_drawn,499,os⟩&&PySem.W.laidKept (PySem.W.boot_heap w.params) (hE w.params)),PySem.W.openSeen Q [] (importedModules RR.prog.main.body) XtH true ⟨hE w.params,Array.mk [],PySem.W.boot_drawn,499,os⟩,(PySem.W.Hook.obs (PySem.W.kHook K asL asE)) ⟨hE w.params,Array.mk [],PySem.W.boot_drawn,499,os⟩))=fun _=>(true,PySem.W.openGood Q [],PySem.W.Hook.val (PySem.W.kHook K asL asE) w):=fun w=>by kernel_rfl
theorem zgm:PySem.W.opening RR.prog=PySem.W.plainProg RR.prog.main.scope.names:=by kernel_rfl
theorem zeh:∀ s,fenceModules? RR.prog s=some s:=fun s=>by kernel_rfl
theorem zgA:∀ w:World,((PySem.W.boot_heap w.params).isNs mainGlobals&&(Array.mk ([]:List GenState)).size==0,(PySem.W.boot_heap w.params).objs.size,(PySem.W.boot_heap w.params).nsMap mainGlobals "__annotations__")=(true,11,(some (.ref 6))):=fun w=>by kernel_rfl
theorem left:PySem.W.LeftO RR.prog Q [] XtH (PySem.W.Hook.obs (PySem.W.kHook K asL asE)) (PySem.W.Hook.val (PySem.W.kHook K asL asE)) 2990 :=
 PySem.W.LeftO.of_pieces (PySem.W.boot_open zgm (by decide +kernel) zeh) zgA runH (by decide +kernel) zex
set_option maxHeartbeats 0 in
theorem saidL:PySem.W.OpenLaw.wellSaid PySem.Challenge.rw_waxcloth_k34_charts_refused=true:=by kernel_rfl
end Wx
open PySem PySem.W PyProof.Rows
set_option hygiene false in
local macro_rules
 | `(tactic| rotate_left 1)=>`(tactic| (dsimp only [L2.KOf];refine' L2.Df.of KX G ?a ?l ?c ?k (fun _ _ _ _ _ _=>L3.el1 fun _=>rfl);(case a=>k_is);(case l=>k_is);(case c=>k_is);(case k=>k_is)))
 | `(tactic| rotate_left 2)=>`(tactic| (dsimp only [L2.KOf];refine' L2.Df.of KX G ?a ?l ?c ?k (fun _ _ _ _ _ _=>L3.el2 fun _ _=>rfl);(case a=>k_is);(case l=>k_is);(case c=>k_is);(case k=>k_is)))
 | `(tactic| rotate_left 3)=>`(tactic| (dsimp only [L2.KOf];refine' L2.Df.of KX G ?a ?l ?c ?k (fun _ _ _ _ _ _=>L3.el3 fun _ _ _=>rfl);(case a=>k_is);(case l=>k_is);(case c=>k_is);(case k=>k_is)))
 | `(tactic| rotate_left 4)=>`(tactic| (dsimp only [L2.KOf];refine' L2.Df.of KX G ?a ?l ?c ?k (fun _ _ _ _ _ _=>L3.el4 fun _ _ _ _=>rfl);(case a=>k_is);(case l=>k_is);(case c=>k_is);(case k=>k_is)))
set_option maxHeartbeats 0 in
theorem PySem.Challenge.cw_waxcloth_k34_charts_refused_holds : PySem.Challenge.rw_waxcloth_k34_charts_refused.Holds := by
 w_on;refine PySem.W.holds_law Wx.saidL fun said=>?_
 refine PySem.W.holds_open (q:=Wx.Q) (loose:= []) (XP:=PySem.W.XL Wx.Q []) (YP:=PySem.W.Hook.says (PySem.W.kHook Wx.K Wx.asL Wx.asE)) (N:=2990) Wx.left (PySem.W.Hook.of (PySem.W.kHook Wx.K Wx.asL Wx.asE)) (PySem.W.Hook.keeps (PySem.W.kHook Wx.K Wx.asL Wx.asE)) (fun s e=>PySem.W.xl_of s (xu.mp e).1) PySem.W.XL.keeps (by rfl) (by rfl) (by rfl) (fun s e=>PySem.W.recFacts_of (xu.mp e).2) (by rfl) (by first | assumption | decide +kernel) (by decide +kernel) ⟨rfl,rfl,rfl,rfl,rfl,by decide +kernel⟩ ?hw ?hc
 (case hw=>w_witness2)
 k_fill
 haveI:L2.Cs:=⟨fun _=>0⟩
 refine L2.walkL (l:=PySem.Challenge.rw_waxcloth_k34_charts_refused) (k:=43) (st:=Wx.sLaw) rfl rfl ⟨rfl,by decide,by decide⟩ (fun w h Y=>PySem.W.kIn_of Y) ?F
 case F=>
  intro w mg fa h KX G hmg
  letI:L2.Cs:=L3.csOf mg
  have HD:L3.AllX (L2.KOf KX) mg Wx.defs:=Wx.hdd KX G (by rotate_left 1) (by rotate_left 1) (by rotate_left 1) (by rotate_left 1) (by rotate_left 1) (by rotate_left 1) (by rotate_left 2) (by rotate_left 2) (by rotate_left 2) (by rotate_left 1) (by rotate_left 2) (by rotate_left 2) (by rotate_left 3) (by rotate_left 2) (by rotate_left 2) (by rotate_left 3) (by rotate_left 4) (by rotate_left 4) (by rotate_left 1) (by rotate_left 1) (by rotate_left 1) (by rotate_left 1) (by rotate_left 1) (by rotate_left 2) (by rotate_left 2) (by rotate_left 1) (by rotate_left 2) (by rotate_left 1) (by rotate_left 2) (by rotate_left 3)
  have DB:L2.Df (L2.KOf KX) mg "_law_box" Wx.sBox ["_law_script"]:=by rotate_left 1
  have HB:∀ x,Wx.W.bi.contains x=true->mg x=none:=L3.bi_all (K:=L2.KOf KX) KX G (by kernel_rfl)
  have HX:=L3.ex_of (K:=L2.KOf KX) (L:=Wx.W.ex) KX G (by kernel_rfl)
  have L:L2.Dl (L2.KOf KX) "law" Wx.sLaw fa "_law_script" :=by
   dsimp only [L2.KOf]
   refine' L2.Dl.of KX G hmg ?a ?l ?c ?k ?b
   (case a=>k_is);(case l=>k_is);(case c=>k_is);(case k=>k_is)
   (case b=>exact fun s u=>.of_eq rfl)
  refine⟨L,fun fd Ff base=>?_⟩
  exact L3.law_ok Ff Wx.okS (Wx.kn_box DB (HB "list" (by kernel_rfl))) (by decide) (L3.wk_all (L3.dx_all HD Wx.oks) Wx.hw HB (L3.gi_of (K:=L2.KOf KX) KX G (by kernel_rfl)) (L3.gs_of (K:=L2.KOf KX) KX G (by kernel_rfl)) HX.1 HX.2 Wx.hgd (L3.fk_all (K:=L2.KOf KX) KX G (by kernel_rfl)) 20) (by decide) rfl rfl rfl rfl (by first | exact Or.inl rfl | exact Or.inr rfl) rfl Wx.okLaw (fun cells i l t s hi=>Wx.law_run _ (Wx.ok34 0) cells i l t s hi)
