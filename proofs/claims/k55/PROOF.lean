import PyProof.Rows.All
import Wide.All
import OpenK.AllK
import PySem.Challenge.RW_waxcloth_k55_together_or_apart
set_option maxHeartbeats 0
set_option maxRecDepth 100000
set_option bootstrap.genMatcherCode false
set_option compiler.extract_closed false
abbrev xa:=@Bool.and_eq_true
abbrev xb:=@List.getElem?_eq_some_iff
abbrev xc:=@List.getElem?_append_left
abbrev xf:=@List.getElem?_append_right
abbrev xg:=@List.getElem?_eq_getElem
abbrev xh:=@List.getElem?_set_ne
abbrev xi:=@Nat.le_refl
abbrev xj:=@List.getElem?_set_self
abbrev xk:=@Nat.ne_of_lt
abbrev xl:=@List.getElem?_map
abbrev xn:=@List.length_map
abbrev xo:=@List.mem_cons_of_mem
abbrev xq:=@List.size_toArray
abbrev xr:=@List.length_cons
abbrev xu:=@Nat.lt_of_lt_of_le
abbrev xv:=@List.mem_cons_self
abbrev xw:=@List.map_cons
abbrev xy:=@List.lookup_cons
abbrev xz:=@List.mem_append_right
abbrev xA:=@List.nodup_cons
abbrev xB:=@List.length_append
abbrev xC:=@List.mem_cons
abbrev xD:=@List.getElem?_eq_none
abbrev xE:=@List.mem_map
abbrev xF:=@List.map_map
abbrev xG:=@List.map_append
abbrev xH:=@List.getD_eq_getElem?_getD
abbrev xI:=@List.all_eq_true
abbrev xJ:=@Nat.le_trans
abbrev xK:=@Bool.and_eq_true_iff
abbrev xL:=@List.nodup_append
abbrev xM:=@List.mem_append
abbrev xN:=@Bool.or_eq_true
abbrev xO:=@Int.eq_ofNat_of_zero_le
abbrev xP:=@List.length_take
abbrev xQ:=@List.getElem?_take_of_lt
abbrev xR:=@List.append_nil
abbrev xS:=@List.length_set
abbrev xT:=@List.getElem?_replicate
abbrev xU:=@List.filter_cons
abbrev xV:=@Nat.lt_irrefl
abbrev xW:=@List.replicate_succ
abbrev xX:=@List.find?_cons
abbrev xY:=@List.any_cons
abbrev xZ:=@List.filterMap_cons
abbrev ua:=@List.ext_getElem?
abbrev ub:=@List.take_length
abbrev uc:=@List.getElem_mem
abbrev ud:=@List.elem_iff
abbrev ue:=@Array.getElem?_eq_some_iff
abbrev uf:=@List.take_add_one
abbrev ug:=@Nat.zero_le
abbrev uh:=@List.length_nil
abbrev ui:=@List.length_singleton
abbrev uj:=@List.mem_append_left
abbrev uk:=@List.mem_of_getElem?
abbrev ul:=@List.flatten_cons
abbrev um:=@List.getElem?_cons_succ
abbrev uo:=@Nat.le_of_lt
abbrev uq:=@List.map_set
abbrev ur:=@List.all_cons
abbrev ut:=@List.getElem?_range
abbrev uu:=@Option.map_eq_some_iff
abbrev uv:=@Bool.false_eq_true
abbrev uw:=@List.map_replicate
abbrev ux:=@List.length_replicate
abbrev uy:=@List.set_append_right
abbrev uz:=@List.append_assoc
abbrev uA:=@Nat.ne_of_gt
abbrev uB:=@List.map_congr_left
abbrev uC:=@Option.isSome_iff_exists
abbrev uD:=@Option.map_some
abbrev uE:=@List.mem_filterMap
abbrev uF:=@Int.emod_lt_of_pos
abbrev uG:=@List.filter_append
abbrev uH:=@Bool.not_eq_true'
abbrev uI:=@List.take_of_length_le
abbrev uJ:=@Nat.zero_add
abbrev uK:=@List.length_range
abbrev uL:=@Nat.lt_succ_self
abbrev uM:=@List.drop_length
abbrev uN:=@List.prefix_refl
abbrev uO:=@List.any_eq_true
abbrev uP:=@Nat.le_succ
abbrev uQ:=@Int.emod_nonneg
abbrev uR:=@List.any_map
abbrev uS:=@Nat.not_lt
set_option Elab.async false
set_option linter.all false
set_option bootstrap.genMatcherCode false
set_option compiler.extract_closed false
abbrev x0:=@decide_eq_true_eq
abbrev x5:=@PySem.wpAny_bind
abbrev x6:=@PySem.Heap.get?_push_of_some
abbrev x8:=@PySem.Heap.lt_size
abbrev x9:=@PySem.wpAny_pure
abbrev Xa:=@PySem.Heap.get?_push_size
abbrev Xb:=@beq_eq_false_iff_ne
abbrev Xc:=@decide_eq_false
abbrev Xd:=@PySem.wpAny_holding
abbrev Xe:=@PySem.wpAny_mono
abbrev Xf:=@PySem.Heap.get?_update_other
abbrev Xg:=@PySem.sizeLine_eq
abbrev Xh:=@of_decide_eq_true
abbrev Xi:=@PySem.wpAny_loadPart'
abbrev Xj:=@PySem.wpAny_truthy_bool
abbrev Xk:=@PySem.wpAny_Call_Name_kw
abbrev Xl:=@PySem.codeAny_mono
set_option hygiene false in
local macro_rules
  | `(∅) => `((PySem.wpAny (PySem.model X.prog X.w) X.A))
  | `(⋯) => `((X.comp N' scope cl C s2 H2 fp))
  | `($x⁻¹) => `(PySem.starEach [$x] X.env = [(false, PySem.eval $x X.env)])
  | `(↥$x) => `(($x == ("__debug__" : PySem.Str)) = false)
  | `(tactic| lia) => `(tactic| intro X XP k sc N mp m S T e h)
  | `(tactic| cbv) => `(tactic| intro pins s σ H Q I h)
  | `(by? $t:tacticSeq) => `(fun M0 F Γ ν σ H Q rs hs hp => by $t:tacticSeq)
section
open PySem
abbrev Ad:=List (Str × PyData)
abbrev Ao:=List (PyData × PyData)
abbrev Ak:=List (Addr × Obj)
abbrev Aa:=List PyData
abbrev Ab:=List Str
abbrev Ac:=List Nat
abbrev Ag:=List Expr
abbrev An:=List Value
abbrev Af:=Value → Shared → Prop
abbrev Aq:=Str → Option Value
abbrev Ae:=Addr → Prop
abbrev Ah:=W.Frag
abbrev Aj:=Value
abbrev Am:=Shared
abbrev Ap:=Addr
abbrev Ar:=Program
end
local macro_rules
  | `(tactic| rwa [$xs,*]) => do
    let ts ← xs.getElems.mapM fun x => match x with
      | `(Lean.Parser.Tactic.rwRule| $a:term = $b:ident) => `(tactic| generalize $a:term = $b at *)
      | _ => Lean.Macro.throwUnsupported
    `(tactic| ($[$ts];*))
  | `(⇑$x) => `((PySem.Shared.heap $x).objs.size)
  | `(@& $x) => `(some (.d $x))
namespace L2
open PySem PySem.Spec PyProof.Rows
noncomputable abbrev Key:=Sum Int Str
noncomputable def VC:Key->Aj->Bool
 |.inl k,v=>Value.isInt k v
 |.inr x,v=>Value.isStrOf x v
noncomputable def keyH(w:World):Key->Int
 |.inl k=>hashInt k
 |.inr x=>hashStr w x
theorem zI:∀{k:Key}{v:Aj},VC k v=true->(∃ i t,k=Sum.inl i/\v=Value.int i t)∨(∃ x t,k=Sum.inr x/\v=Value.str x t)
 |.inl i,v,h=>by
  obtain⟨t,e⟩:=Value.isInt_shape h
  exact .inl ⟨i,t,rfl,e⟩
 |.inr x,v,h=>by
  obtain⟨t,e⟩:=Value.isStrOf_shape h
  exact .inr ⟨x,t,rfl,e⟩
theorem zaV(i:Int)(t:Tok):VC (.inl i) (.int i t)=true:=by simp[VC,Value.isInt]
theorem zaW(x:Str)(t:Tok):VC (.inr x) (.str x t)=true:=by simp[VC,Value.isStrOf]
theorem zhG(a b:Int):decide ((Sum.inl a:Key)=Sum.inl b)=(a==b):=by
 by_cases e:a=b
 ·subst e;simp
 ·have h:¬ (Sum.inl a:Key)=Sum.inl b:=λq=>e (Sum.inl.inj q)
  rw[Xc h]
  exact (Xb.mpr e).symm
theorem zhJ(a b:Str):decide ((Sum.inr a:Key)=Sum.inr b)=decide (a=b):=by
 by_cases e:a=b
 ·subst e;simp
 ·have h:¬ (Sum.inr a:Key)=Sum.inr b:=λq=>e (Sum.inr.inj q)
  rw[Xc h,Xc e]
theorem zhH(a:Int)(b:Str):decide ((Sum.inl a:Key)=Sum.inr b)=false:=Xc (λq=>nomatch q)
theorem zhI(a:Str)(b:Int):decide ((Sum.inr a:Key)=Sum.inl b)=false:=Xc (λq=>nomatch q)
noncomputable def zA(prog:Ar)(w:World):PySem.KeyKind prog w Key where
 is:=VC
 hash:=keyH w
 inj:=λv a b ha hb=>by
  rcases zI ha with ⟨i,t,rfl,rfl⟩ | ⟨x,t,rfl,rfl⟩
  ·rcases zI hb with ⟨j,u,rfl,e⟩ | ⟨y,u,rfl,e⟩
   ·injection e with e1 _;rw[e1]
   ·exact nomatch e
  ·rcases zI hb with ⟨j,u,rfl,e⟩ | ⟨y,u,rfl,e⟩
   ·exact nomatch e
   ·injection e with e1 _;rw[e1]
 byValue:=λk v h=>by
  rcases zI h with ⟨i,t,rfl,rfl⟩ | ⟨x,t,rfl,rfl⟩<;>rfl
 pyHash:=λhv h=>by
  rcases zI hv with ⟨i,t,rfl,rfl⟩ | ⟨x,t,rfl,rfl⟩
  ·exact wpAny_pyHash_int h
  ·exact wpAny_pyHash_str h
 eqBool:=λhu hv h=>by
  rcases zI hu with ⟨i,t,rfl,rfl⟩ | ⟨x,t,rfl,rfl⟩
  ·rcases zI hv with ⟨j,u,rfl,rfl⟩ | ⟨y,u,rfl,rfl⟩
   ·rw[zhG]at h;exact wpAny_eqBool_int h
   ·rw[zhH]at h;exact SeqAt.EqAt.int_str i t y u _ _ _ _ h
  ·rcases zI hv with ⟨j,u,rfl,rfl⟩ | ⟨y,u,rfl,rfl⟩
   ·rw[zhI]at h;exact SeqAt.EqAt.str_int x t j u _ _ _ _ h
   ·rw[zhJ]at h;exact wpAny_eqBool_str h
 «strs»:=λk x t v h=>by
  rcases zI h with ⟨i,u,rfl,e⟩ | ⟨y,u,rfl,e⟩
  ·exact nomatch e
  ·injection e with e1 _
   subst e1
   cases v<;>rfl
theorem Ys(prog:Ar)(w:World)(i:Int)(t:Tok):(zA prog w).is (.inl i) (.int i t)=true:=zaV i t
theorem Yt(prog:Ar)(w:World)(x:Str)(t:Tok):(zA prog w).is (.inr x) (.str x t)=true:=zaW x t
inductive V where
 |non | bl (b:Bool) | int (i:Int) | str (x:Str) | byt (b:Array UInt8) | flt (b:UInt64) | ref (a:Ap) | ty (n:String)
 deriving DecidableEq
def RelV:V->Aj->Prop
 |.non,u=>u=Value.none
 |.bl b,u=>u=Value.bool b
 |.int i,u=>∃ t,u=Value.int i t
 |.str x,u=>∃ t,u=Value.str x t
 |.byt b,u=>∃ t,u=Value.bytes b t
 |.flt b,u=>∃ t,u=Value.float b t
 |.ref a,u=>u=Value.ref a
 |.ty n,u=>u=Value.type n
abbrev Vals:List V->An->Prop:=Paired RelV
theorem Vals.length{xs:List V}{us:An}(r:Vals xs us):xs.length=us.length:=Paired.length r
theorem Vals.get:∀{xs:List V}{us:An}{i:Nat}{x:V},Vals xs us->xs[i]?=some x->∃ u,us[i]?=some u/\RelV x u
 |_,_,_,_,.nil,e=>by simp at e
 |_,_,0,_,.cons r _,e=>by simp at e;subst e;exact⟨_,rfl,r⟩
 |_,_,i+1,x,.cons _ t,e=>by
  obtain⟨u,h1,h2⟩:=Vals.get t (by simpa using e)
  exact⟨u,by simpa using h1,h2⟩
theorem Vals.set(r:RelV x u):∀{xs:List V}{us:An}(i:Nat),Vals xs us->Vals (xs.set i x) (us.set i u)
 |_,_,_,.nil=>.nil
 |_,_,0,.cons _ t=>.cons r t
 |_,_,i+1,.cons q t=>.cons q (Vals.set r i t)
theorem Vals.append:∀{xs ys:List V}{us ws:An},Vals xs us->Vals ys ws->Vals (xs++ys) (us++ws)
 |_,_,_,_,.nil,s=>s
 |_,_,_,_,.cons r t,s=>.cons r (Vals.append t s)
theorem Vals.take:∀{xs:List V}{us:An}(n:Nat),Vals xs us->Vals (xs.take n) (us.take n)
 |_,_,0,_=>.nil
 |_,_,_+1,.nil=>.nil
 |_,_,n+1,.cons r t=>.cons r (Vals.take n t)
theorem Vals.drop:∀{xs:List V}{us:An}(n:Nat),Vals xs us->Vals (xs.drop n) (us.drop n)
 |_,_,0,r=>r
 |_,_,_+1,.nil=>.nil
 |_,_,n+1,.cons _ t=>Vals.drop n t
def RelO:Option V->Option Aj->Prop
 |some v,some u=>RelV v u
 |none,none=>True
 |_,_=>False
def KV{κ:Type}:List (κ×V)->List (κ×Value)->Prop:=Paired λ(p:κ×V)(q:κ×Value)=>p.1=q.1/\RelV p.2 q.2
noncomputable def kV:Key->V
 |.inl i=>.int i
 |.inr x=>.str x
inductive HO where
 /-- a list -/
 |lst (xs:List V)
 /-- a tuple (never changes) -/
 |tup (xs:List V)
 /-- a dict whose keys are ints and texts;one whose keys are tuples of ints and texts (the empty one is both) -/
 |dK (kvs:List (Key×V)) | dT (kvs:List (List Key×V))
 /-- a set of ints: its members,its size -/
 |set (S:Int->Bool) (n:Nat)
 /-- an instance of the class at C,its dict at dx,its attributes -/
 |ins (C dx:Ap) (fs:List (Str×V))
 /-- the dict of the instance at x -/
 |own (x:Ap)
 /-- the dict of an exception -/
 |xd (fs:List (Str×V))
 /-- a bound method,f of x -/
 |met (f x:Ap)
 /-- a range object lo,lo+1,.. below hi -/
 |rng (lo hi:Int)
 /-- a thing that is known to the object (the script;a dict while a loop walks it): read,never written while it is so -/
 |frz (o:Obj) (u:HO)
 /-- a code object's table -/
 |tbl (ps:Array Aj)
 /-- any other thing,by what is true of its one object (a def of one's own: SetO a S n:=HO.ext λh=>..) -/
 |ext (φ:Heap->Prop)
noncomputable abbrev Hp:=Ap->Option HO
noncomputable def upd(H:Hp)(a:Ap)(o:HO):Hp:=λb=>if b=a then some o else H b
theorem zg:upd H a o a=some o:=by unfold upd;rw[if_pos rfl]
theorem ze(h:b≠a):upd H a o b=H b:=by unfold upd;rw[if_neg h]
theorem zgD{H:Hp}(h:H a=some o)(h':H b=some u)(d:o≠u):a≠b:=by
 intro e;subst e;rw[h]at h';exact d (Option.some.inj h')
theorem zJ{H:Hp}(h:H a=some o)(h':H b=none):a≠b:=by
 intro e;subst e;rw[h]at h';cases h'
section
variable (P:Ar)(w:World)
def ObjOk(H:Hp)(h:Heap)(a:Ap):HO->Prop
 |.lst xs=>xs.length<=sizeLine/\∃ (its:An) (n:Nat),Vals xs its/\h.get? a=some { cls:=.type "list",data:=.seq its.toArray n }
 |.tup xs=>xs.length<=sizeLine/\∃ its:An,Vals xs its/\IsTup h a its.toArray
 |.dK kvs=>kvs.length<=sizeLine/\(a==sysModules)=false/\∃ vs,KV kvs vs/\h.DictOf (zA P w) a vs
 |.dT kvs=>kvs.length<=sizeLine/\(a==sysModules)=false/\∃ xs:List (List Key×Addr×Value),
   Paired (λ(p:List Key×V)(q:List Key×Addr×Value)=>p.1=q.1/\H q.2.1=some (.tup (p.1.map kV))/\RelV p.2 q.2.2) kvs xs /\
   ∃ o es ep,h.get? a=some o/\o.ExactDict/\o.data=.dict es ep/\es.toList=xs.map (entryOfKey (tupleKind (zA P w)))/\(xs.map (·.1)).Nodup
 |.set S n=>h.SetOf (intKind P w) a S n
 |.ins C dx fs=>H dx=some (.own a)/\fs.length<=1000/\dx≠a/\h.get? a=some (W.instObj C dx) /\
   ∃ mA,h.Ns1 dx mA/\(∀ f,RelO (fs.lookup f) (mA f))/\PySem.Within mA (fs.map (·.1))
 |.own _=>∃ o,h.get? a=some o
 |.xd fs=>∃ mA,h.Ns1 a mA/\∀ f,RelO (fs.lookup f) (mA f)
 |.rng lo hi=>∃ t u v,h.get? a=some { cls:=.type "range",data:=.fields #[.int lo t,.int hi u,.int 1 v] }
 |.frz o u=>h.get? a=some o/\ObjOk H h a u
 |.tbl ps=>h.get? a=some { cls:=.none,data:=.fields ps }
 |.met f x=>h.get? a=some (W.methodObj (.ref f) (.ref x))
 |.ext φ=>φ h/\(∃ o,h.get? a=some o)/\∀ h1 h2:Heap,φ h1->(∀ o,h1.get? a=some o->h2.get? a=some o)->φ h2
def HOk(H:Hp)(h:Heap):Prop:=∀ a o,H a=some o->ObjOk P w H h a o
end
section
variable {P:Ar}{w:World}{H H':Hp}{h h':Heap}{a:Ap}{o:HO}
theorem ObjOk.lt(x:ObjOk P w H h a o):a<h.objs.size:=by
 cases o with
 |lst xs=>obtain⟨_,_,_,_,e⟩:=x;exact x8 e
 |tup xs=>obtain⟨_,_,_,p⟩:=x;exact p.lt
 |dK kvs=>obtain⟨_,_,_,_,o,_,_,e,_⟩:=x;exact x8 e
 |dT kvs=>obtain⟨_,_,_,_,o,_,_,e,_⟩:=x;exact x8 e
 |set S n=>obtain⟨o,_,_,_,e,_⟩:=x;exact x8 e
 |ins C dx fs=>obtain⟨_,_,_,e,_⟩:=x;exact x8 e
 |own y=>obtain⟨_,e⟩:=x;exact x8 e
 |xd fs=>obtain⟨_,⟨_,_,_,e,_⟩,_⟩:=x;exact x8 e
 |rng lo hi=>obtain⟨_,_,_,e⟩:=x;exact x8 e
 |frz ob u=>obtain⟨e,_⟩:=x;exact x8 e
 |tbl ps=>exact x8 (show h.get? a=some _ from x)
 |met f y=>exact x8 (show h.get? a=some _ from x)
 |ext φ=>obtain⟨_,⟨_,e⟩,_⟩:=x;exact x8 e
theorem Paired.mapP{α β:Type}{F G:α->β->Prop}:∀{l₁:List α}{l₂:List β},Paired F l₁ l₂->(∀ a b,F a b->G a b)->Paired G l₁ l₂
 |_,_,.nil,_=>.nil
 |_,_,.cons r t,f=>.cons (f _ _ r) (Paired.mapP t f)
theorem ObjOk.stay(x:ObjOk P w H h a o)(k:∀ b u,(b=a∨H b=some (.own a))->h.get? b=some u->h'.get? b=some u)
  (ho:∀ b,H b=some (.own a)->H' b=some (.own a)) (ht:∀ b xs,H b=some (.tup xs)->H' b=some (.tup xs)):ObjOk P w H' h' a o:=by
 induction o with
 |lst xs=>obtain⟨z,its,n,r,e⟩:=x;exact⟨z,its,n,r,k _ _ (.inl rfl) e⟩
 |tup xs=>obtain⟨z,its,r,ob,e,c⟩:=x;exact⟨z,its,r,ob,k _ _ (.inl rfl) e,c⟩
 |dK kvs=>obtain⟨z,y,vs,r,ob,es,ep,e,c⟩:=x;exact⟨z,y,vs,r,ob,es,ep,k _ _ (.inl rfl) e,c⟩
 |dT kvs=>
  obtain⟨z,y,xs,r,ob,es,ep,e,c⟩:=x
  exact⟨z,y,xs,Paired.mapP r λp q z=>⟨z.1,ht _ _ z.2.1,z.2.2⟩,ob,es,ep,k _ _ (.inl rfl) e,c⟩
 |set S n=>obtain⟨ob,es,ep,t,e,c⟩:=x;exact⟨ob,es,ep,t,k _ _ (.inl rfl) e,c⟩
 |ins C dx fs=>
  obtain⟨d,z,ne,e,mA,⟨od,es,ep,e2,c⟩,r⟩:=x
  exact⟨ho _ d,z,ne,k _ _ (.inl rfl) e,mA,⟨od,es,ep,k _ _ (.inr d) e2,c⟩,r⟩
 |own y=>obtain⟨ob,e⟩:=x;exact⟨ob,k _ _ (.inl rfl) e⟩
 |xd fs=>obtain⟨mA,⟨od,es,ep,e,c⟩,r⟩:=x;exact⟨mA,⟨od,es,ep,k _ _ (.inl rfl) e,c⟩,r⟩
 |rng lo hi=>obtain⟨t,u,v,e⟩:=x;exact⟨t,u,v,k _ _ (.inl rfl) e⟩
 |frz ob u ih=>obtain⟨e,q⟩:=x;exact⟨k _ _ (.inl rfl) e,ih q⟩
 |tbl ps=>
  have e:=x
  exact k a _ (.inl rfl) e
 |met f y=>
  have e:=x
  exact k a _ (.inl rfl) e
 |ext φ=>obtain⟨p,⟨o,e⟩,st⟩:=x;exact⟨st _ _ p λo q=>k _ _ (.inl rfl) q,⟨o,k _ _ (.inl rfl) e⟩,st⟩
theorem HOk.lt(x:HOk P w H h)(e:H a=some o):a<h.objs.size:=(x a o e).lt
theorem HOk.fresh(x:HOk P w H h)(e:h.objs.size<=a):H a=none:=by
 cases q:H a with
 |none=>rfl
 |some u=>exact absurd (xu (x.lt q) e) (xV _)
theorem HOk.kept(x:HOk P w H h)(k:∀ b u,h.get? b=some u->h'.get? b=some u):HOk P w H h':=λa o e=>
 (x a o e).stay (λb u _ q=>k b u q) (λ_ q=>q) λ_ _ q=>q
theorem HOk.laid(x:HOk P w H h)(k:∀ b u,h.get? b=some u->h'.get? b=some u)(hp:h.objs.size<=a)(new:ObjOk P w (upd H a o) h' a o):HOk P w (upd H a o) h':=λb u e=>by
 have hn:=x.fresh hp
 by_cases hb:b=a
 ·subst hb;rw[zg]at e;cases e;exact new
 ·rw[ze hb]at e
  exact (x b u e).stay (λc v _ q=>k c v q) (λc q=>by rw[ze (zJ q hn)];exact q) λc xs q=>by rw[ze (zJ q hn)];exact q
end
def Rd(H:Hp)(a:Ap)(u:HO):Prop:=H a=some u∨∃ o,H a=some (.frz o u)
theorem Rd.ok{P:Ar}{w:World}{H:Hp}{h:Heap}{a:Ap}{u:HO}(r:Rd H a u)(x:HOk P w H h):ObjOk P w H h a u:=by
 rcases r with r | ⟨o,r⟩
 ·exact x a u r
 ·obtain⟨_,q⟩:=x a _ r
  exact q
def Mut:Option HO->Prop
 |some (.lst _)=>True
 |some (.dK _)=>True
 |some (.dT _)=>True
 |some (.set _ _)=>True
 |some (.ins _ _ _)=>True
 |some (.ext _)=>True
 |_=>False
section
variable {P:Ar}{w:World}{H:Hp}{h h':Heap}{x e:Ap}{o':HO}
theorem HOk.write(ok:HOk P w H h)(mu:Mut (H x))(he:e=x∨H e=some (.own x))(k:∀ b u,b≠e->h.get? b=some u->h'.get? b=some u)(heo:∃ u,h'.get? e=some u)
  (new:ObjOk P w (upd H x o') h' x o'):HOk P w (upd H x o') h':=λb u q=>by
 have nown:∀ c y,H c=some (.own y)->c≠x:=λc y r z=>by subst z;rw[r]at mu;exact mu
 have ntup:∀ c xs,H c=some (.tup xs)->c≠x:=λc xs r z=>by subst z;rw[r]at mu;exact mu
 by_cases hb:b=x
 ·subst hb;rw[zg]at q;cases q;exact new
 ·rw[ze hb]at q
  by_cases hbe:b=e
  ·have q':H b=some (.own x):=by
    rcases he with z | z
    ·exact absurd (hbe.trans z) hb
    ·rw[hbe];exact z
   rw[q]at q';cases q'
   obtain⟨v,hv⟩:=heo
   exact⟨v,by rw[hbe];exact hv⟩
  ·refine (ok b u q).stay (λc v hc r=>k c v ?_ r) (λc r=>by rw[ze (nown c b r)];exact r) λc xs r=>by rw[ze (ntup c xs r)];exact r
   rcases hc with rfl | hc
   ·exact hbe
   ·rintro rfl
    rcases he with z | z
    ·exact nown c b hc z
    ·rw[hc]at z;cases z;exact hb rfl
end
structure Un(fs ex:List Ap)(H H':Hp)(h h':Heap):Prop where
 keep:∀ b o,h.get? b=some o->H b=none->b∉fs->b∉ex->h'.get? b=some o
 slot:∀ b o,h.get? b=some o->H b=none->b∈fs->b∉ex->∃ sl,h'.get? b=some { o with slots:=sl }
 free:∀ b o,h.get? b=some o->H b=none->b∉ex->H' b=none
 there:∀ b o,h.get? b=some o->b∉ex->∃ o',h'.get? b=some o'
 tups:∀ b xs,H b=some (.tup xs)->H' b=some (.tup xs)
 frzs:∀ b o u,H b=some (.frz o u)->H' b=some (.frz o u)
 tbls:∀ b ps,H b=some (.tbl ps)->∃ more,H' b=some (.tbl (ps++more))
section
variable {fs ex:List Ap}{H H1:Hp}{h h1 h':Heap}{a x e:Ap}{o:HO}
theorem Un.any(u:Un fs ex H H1 h h1){b:Ap}{ob:Obj}(q:h.get? b=some ob)(n:H b=none)(hx:b∉ex):∃ sl,h1.get? b=some { ob with slots:=sl }:=by
 by_cases hb:b∈fs
 ·exact u.slot b ob q n hb hx
 ·exact⟨ob.slots,u.keep b ob q n hb hx⟩
theorem Un.kept(k:∀ b u,h.get? b=some u->h'.get? b=some u):Un fs ex H H h h' :=
 ⟨λb ob q _ _ _=>k b ob q,λb ob q _ _ _=>⟨ob.slots,k b ob q⟩,λ_ _ _ n _=>n,λb ob q _=>⟨ob,k b ob q⟩,λ_ _ q=>q,λ_ _ _ q=>q,λ_ ps q=>⟨#[],by rw[q];simp⟩⟩
theorem Un.refl:Un fs ex H H h h:=Un.kept λ_ _ q=>q
theorem Un.laid(k:∀ b u,h.get? b=some u->h'.get? b=some u)(hp:h.objs.size<=a)(hn:H a=none):Un fs ex H (upd H a o) h h' where
 keep:=λb u q _ _ _=>k b u q
 slot:=λb u q _ _ _=>⟨u.slots,k b u q⟩
 free:=λb u q n _=>by rw[ze (xk (xu (x8 q) hp))];exact n
 there:=λb u q _=>⟨u,k b u q⟩
 tups:=λb xs q=>by rw[ze (zJ q hn)];exact q
 frzs:=λb u xs q=>by rw[ze (zJ q hn)];exact q
 tbls:=λb ps q=>⟨#[],by rw[ze (zJ q hn),q];simp⟩
theorem Un.write(mu:Mut (H x))(he:e=x∨H e=some (.own x))(k:∀ b u,b≠e->h.get? b=some u->h'.get? b=some u)(heo:∃ u,h'.get? e=some u):Un fs ex H (upd H x o) h h':=by
 have hx:∀ b,H b=none->b≠x:=λb n z=>by subst z;rw[n]at mu;exact mu
 have hb:∀ b,H b=none->b≠e:=λb n z=>by
  subst z
  rcases he with r | r
  ·exact hx b n r
  ·rw[n]at r;cases r
 have hm:∀ b u,H b=some u->¬ Mut (some u)->b≠x:=λb u q nm z=>by subst z;rw[q]at mu;exact nm mu
 refine⟨λb u q n _ _=>k b u (hb b n) q,λb u q n _ _=>⟨u.slots,k b u (hb b n) q⟩,λb u q n _=>by rw[ze (hx b n)];exact n,λb u q _=>?_,
  λb xs q=>by rw[ze (hm b _ q λz=>z)];exact q,λb u xs q=>by rw[ze (hm b _ q λz=>z)];exact q,λb ps q=>⟨#[],by rw[ze (hm b _ q λz=>z),q];simp⟩⟩
 by_cases hbe:b=e
 ·subst hbe;exact heo
 ·exact⟨u,k b u hbe q⟩
end
noncomputable def trk(h:Heap)(H:Hp):List Ap:=(List.range h.objs.size).filter λa=>(H a).isSome
noncomputable def yB(h:Heap)(H:Hp):Heap:=W.hideAll h (trk h H)
theorem zaP(h:Heap)(H:Hp):(yB h H).objs.size=h.objs.size:=W.hideAll_size _ _
theorem zco(e:h.get? b=some o)(n:H b=none):(yB h H).get? b=some o :=
 W.hideAll_get _ e λhm=>by
  have q:=(List.mem_filter.mp hm).2
  rw[n]at q;simp at q
theorem ze9(e:(yB h H).get? b=some o):h.get? b=some o/\H b=none:=by
 have e':=W.of_hideAll (trk h H) e
 refine⟨e',?_⟩
 cases q:H b with
 |none=>rfl
 |some x=>
  have hm:b∈trk h H:=List.mem_filter.mpr ⟨List.mem_range.mpr (x8 e'),by simp[q]⟩
  have z:(yB h H).get? b=none:=W.hideAll_none (trk h H) hm
  rw[z]at e;cases e
structure Mod(K:Ah)(mg:Aq)(base:Heap):Prop where
 kin:K.In base
 glob:base.Ns mainGlobals mg
 blt:∃ mb,base.Ns builtinsNs mb/\∀ x:Str,x≠ "__name__" ->mb x=bootBuiltins x
 nolimit:base.NoLimit
structure Cx where
 prog:Ar
 w:World
 K:Ah
 mg:Aq
 base:Heap
 A:Around
 N:Ab
 s₀:Am
 H₀:Hp
 env:Env
 outer:List Env
 stack:List Env
 ex:List Ap
 fn:Str->Bool
 calm:Bool
 pn:Ak
 xe:Af
noncomputable def frs(l:List Env):List Ap:=l.filterMap (·.frame)
noncomputable abbrev Cx.fs(X:Cx):List Ap:=frs X.outer
def Vis(sc:Scope)(x:Str):Prop:=sc.names.lookup x=some .local∨sc.names.lookup x=some .cell∨sc.names.lookup x=some .free
def Loc(sc:Scope)(x:Str):Prop:=sc.names.lookup x=some .local∨sc.names.lookup x=some .cell
def Look(env:Env)(h:Heap)(m:Aq)(x:Str)(u:Aj):Prop :=
 (env.kindOf x=some .local/\m x=some u)∨((env.kindOf x=some .cell∨env.kindOf x=some .free)/\∃ c,env.cells.lookup x=some c/\h.IsCell c (some u))
structure Cx.Ok(X:Cx):Prop where
 mod:Mod X.K X.mg X.base
 kind:X.env.scope.kind=.function
 glob:X.env.globals=mainGlobals
 blt:X.env.builtins=builtinsNs
 above:X.s₀.heap.objs.size<=X.env.locals
 inj:∀ x y c,X.env.cells.lookup x=some c->X.env.cells.lookup y=some c->x=y
 has:∀ x,(X.env.kindOf x=some .cell∨X.env.kindOf x=some .free)->∃ c,X.env.cells.lookup x=some c
 cab:∀ x c,X.fn x=true->X.env.cells.lookup x=some c->X.s₀.heap.objs.size<=c
 hd:X.calm=true->X.A.handled=none
 frames:X.A.frames=some X.stack
 stk:X.stack=X.outer∨(X.stack=X.env::X.outer/\X.env.frame=some X.env.locals)
 exf:∀ b∈X.ex,b≠X.env.locals/\∀ x c,X.env.cells.lookup x=some c->c≠b
 bs:∀ b o,X.base.get? b=some o->X.s₀.heap.get? b=some o/\X.H₀ b=none
 bsz:X.base.objs.size<=X.s₀.heap.objs.size
 noex:∀ b o,X.base.get? b=some o->b∉X.ex
 exfs:∀ b∈X.ex,b∉X.fs
 funs:X.s₀.heap.FunFrames X.base X.outer
 frf:∀ b∈X.fs,X.H₀ b=none
structure Inv(X:Cx)(pins:Ak)(σ:List (Option V))(H:Hp)(s:Am):Prop where
 ok:X.Ok
 os:s.os=X.s₀.os
 bare:AllBare s.gens
 base:Un X.fs X.ex X.H₀ H X.s₀.heap s.heap
 loc:∃ m,s.heap.Ns X.env.locals m/\∀(i:Nat)(x:Str)(v:V),X.N[i]?=some x->σ[i]?=some (some v)->Vis X.env.scope x->∃ u,RelV v u/\Look X.env s.heap m x u
 cell:∀ x c,X.env.cells.lookup x=some c->∃ v,s.heap.IsCell c v
 free:H X.env.locals=none
 freeC:∀ x c,X.env.cells.lookup x=some c->H c=none
 pin:∀ p∈X.pn++pins,s.heap.get? p.1=some p.2/\H p.1=none/\p.1≠X.env.locals/\p.1∉X.fs/\∀ v,p.2.data≠ .cell v
 hok:HOk X.prog X.w H s.heap
 len:σ.length=X.N.length
section
variable {X:Cx}{pins:Ak}{σ:List (Option V)}{H H':Hp}{s:Am}{h':Heap}
theorem Cx.Ok.nofr(ok:X.Ok)(e:X.base.get? b=some o):b∉X.fs:=λhb=>by
 have:=(ok.funs.mem hb).1
 rw[e]at this;cases this
theorem Inv.bs(I:Inv X pins σ H s):∀ b o,X.base.get? b=some o->s.heap.get? b=some o/\H b=none:=λb o e=>
 ⟨I.base.keep b o (I.ok.bs b o e).1 (I.ok.bs b o e).2 (I.ok.nofr e) (I.ok.noex b o e),I.base.free b o (I.ok.bs b o e).1 (I.ok.bs b o e).2 (I.ok.noex b o e)⟩
theorem Inv.bk(I:Inv X pins σ H s):∀ b o,X.base.get? b=some o->s.heap.get? b=some o:=λb o e=>(I.bs b o e).1
theorem Inv.mod(I:Inv X pins σ H s):Mod X.K X.mg X.base:=I.ok.mod
theorem Inv.kIn(I:Inv X pins σ H s):X.K.In s.heap:=I.ok.mod.kin.keeps I.bk
theorem Inv.lt(I:Inv X pins σ H s):X.env.locals<⇑s:=let ⟨_,hn,_⟩:=I.loc;hn.lt
theorem Inv.sz(I:Inv X pins σ H s):X.s₀.heap.objs.size<=⇑s:=xJ I.ok.above (uo I.lt)
theorem Inv.nofs(I:Inv X pins σ H s)(h:⇑s<=a):a∉X.fs:=λhb=>by
 obtain⟨_,o,ho,_⟩:=I.ok.funs.mem hb
 exact absurd (xu (x8 ho) (xJ I.sz h)) (xV _)
theorem Inv.cne(I:Inv X pins σ H s):∀ x c,X.env.cells.lookup x=some c->c≠X.env.locals:=λx c e z=>by
 obtain⟨v,o,ho,hd⟩:=I.cell x c e
 obtain⟨m,⟨o',es,ep,ho',hd',_⟩,_⟩:=I.loc
 rw[z,ho']at ho;cases ho;rw[hd']at hd;cases hd
theorem Inv.funs(I:Inv X pins σ H s):s.heap.FunFrames X.base X.outer:=by
 have all:∀(l:List Env),(∀ b∈frs l,b∈X.fs)->X.s₀.heap.FunFrames X.base l->s.heap.FunFrames X.base l:=by
  intro l
  induction l with
  |nil=>intro _ _;trivial
  |cons env r ih=>
   intro hs hl
   obtain⟨hk,⟨L,o,hf,hn,ho,hd⟩,hr⟩:=hl
   have hL:=hs L (by unfold frs;rw[xZ,hf];exact xv)
   obtain⟨sl,e⟩:=I.base.slot L o ho (I.ok.frf L hL) hL λz=>I.ok.exfs L z hL
   exact⟨hk,⟨L,_,hf,hn,e,hd⟩,ih (λb hb=>hs b (by unfold frs;rw[xZ,hf];exact xo _ hb)) hr⟩
 exact all X.outer (λ_ hb=>hb) I.ok.funs
theorem Inv.stack(I:Inv X pins σ H s):s.heap.FunFrames X.base X.stack:=by
 rcases I.ok.stk with e | ⟨e,hf⟩
 ·rw[e];exact I.funs
 ·rw[e]
  obtain⟨m,hn,_⟩:=I.loc
  refine .cons (by rw[I.ok.kind];decide) hf hn ?_ I.funs
  exact Heap.get?_none_of_le (xJ I.ok.bsz I.ok.above)
theorem Inv.stkSub(I:Inv X pins σ H s):∀ b∈frs X.stack,b∈X.env.locals::X.fs:=λb hb=>by
 rcases I.ok.stk with e | ⟨e,hf⟩
 ·rw[e]at hb;exact xo _ hb
 ·rw[e]at hb
  unfold frs at hb
  rw[xZ,hf]at hb
  exact hb
theorem Inv.stkFree(I:Inv X pins σ H s):∀ b∈frs X.stack,H b=none:=λb hb=>by
 rcases xC.mp (I.stkSub b hb)with e | hb
 ·rw[e];exact I.free
 ·obtain⟨_,o,ho,_⟩:=I.ok.funs.mem hb
  exact I.base.free b o ho (I.ok.frf b hb) λz=>I.ok.exfs b z hb
theorem Inv.step{g':Array GenState}{t':Nat}{d':Drawn}{ch:List Ap}(I:Inv X pins σ H s)
  (hch:∀ b∈ch,(b∈X.ex∨X.s₀.heap.objs.size<=b)/\b≠X.env.locals/\(∀ x c,X.env.cells.lookup x=some c->c≠b)/\∀ p∈X.pn++pins,p.1≠b)
  (keep:∀ b o,b≠X.env.locals->b∉X.fs->b∉ch->s.heap.get? b=some o->H b=none->h'.get? b=some o)
  (slot:∀ b o,b≠X.env.locals->b∈X.fs->b∉ch->s.heap.get? b=some o->H b=none->∃ sl,h'.get? b=some { o with slots:=sl }) (free:∀ b o,b∉ch->s.heap.get? b=some o->H b=none->H' b=none)
  (there:∀ b o,b∉ch->s.heap.get? b=some o->∃ o',h'.get? b=some o')
  (tups:∀ b xs,H b=some (.tup xs)->H' b=some (.tup xs)) (frzs:∀ b o u,H b=some (.frz o u)->H' b=some (.frz o u)) (tbls:∀ b ps,H b=some (.tbl ps)->∃ more,H' b=some (.tbl (ps++more)))
  (ns:∀ m,s.heap.Ns X.env.locals m->h'.Ns X.env.locals m) (hok:HOk X.prog X.w H' h') (hg:AllBare g') :
  Inv X pins σ H' { s with heap:=h',gens:=g',drawn:=d',toks:=t' }:=by
 have neL:∀ b o,X.s₀.heap.get? b=some o->b≠X.env.locals:=λb o e=>xk (xu (x8 e) I.ok.above)
 have neC:∀ b o,X.s₀.heap.get? b=some o->b∉X.ex->b∉ch:=λb o e hx hb=>by
  rcases (hch b hb).1 with z | z
  ·exact hx z
  ·exact absurd (xu (x8 e) z) (xV _)
 have cellK:∀ x c,X.env.cells.lookup x=some c->∀ v,s.heap.IsCell c v->h'.IsCell c v:=λx c e v ⟨o,ho,hd⟩=>by
  have nch:c∉ch:=λz=>(hch c z).2.2.1 x c e rfl
  by_cases hc:c∈X.fs
  ·obtain⟨sl,q⟩:=slot c o (I.cne x c e) hc nch ho (I.freeC x c e)
   exact⟨_,q,hd⟩
  ·exact⟨o,keep c o (I.cne x c e) hc nch ho (I.freeC x c e),hd⟩
 refine⟨I.ok,I.os,hg,⟨λb o e n hb hx=>?_,λb o e n hb hx=>?_,λb o e n hx=>?_,λb o e hx=>?_,λb xs e=>tups b xs (I.base.tups b xs e),λb o xs e=>frzs b o xs (I.base.frzs b o xs e),λb ps e=>?_⟩,?_,λx c e=>?_,?_,λx c e=>?_,λp hp=>?_,hok,I.len⟩
 ·exact keep b o (neL b o e) hb (neC b o e hx) (I.base.keep b o e n hb hx) (I.base.free b o e n hx)
 ·obtain⟨sl,e1⟩:=I.base.slot b o e n hb hx
  obtain⟨sl',e2⟩:=slot b _ (neL b o e) hb (neC b o e hx) e1 (I.base.free b o e n hx)
  exact⟨sl',e2⟩
 ·obtain⟨o',e1⟩:=I.base.there b o e hx
  exact free b o' (neC b o e hx) e1 (I.base.free b o e n hx)
 ·obtain⟨o',e1⟩:=I.base.there b o e hx
  exact there b o' (neC b o e hx) e1
 ·obtain⟨m1,e1⟩:=I.base.tbls b ps e
  obtain⟨m2,e2⟩:=tbls b _ e1
  exact⟨m1++m2,by rw[e2,Array.append_assoc]⟩
 ·obtain⟨m,hn,hl⟩:=I.loc
  refine⟨m,ns m hn,λi x v e1 e2 e3=>?_⟩
  obtain⟨u,r,l⟩:=hl i x v e1 e2 e3
  refine⟨u,r,?_⟩
  rcases l with l | ⟨k,c,e,z⟩
  ·exact .inl l
  ·exact .inr ⟨k,c,e,cellK x c e _ z⟩
 ·obtain⟨v,z⟩:=I.cell x c e
  exact⟨v,cellK x c e v z⟩
 ·obtain⟨m,⟨o,_,_,ho,_⟩,_⟩:=I.loc
  exact free _ o (λz=>(hch _ z).2.1 rfl) ho I.free
 ·obtain⟨v,o,ho,hd⟩:=I.cell x c e
  exact free c o (λz=>(hch c z).2.2.1 x c e rfl) ho (I.freeC x c e)
 ·obtain⟨e,n,ne,nf,d⟩:=I.pin p hp
  have nch:p.1∉ch:=λz=>(hch p.1 z).2.2.2 p hp rfl
  exact⟨keep p.1 p.2 ne nf nch e n,free p.1 p.2 nch e n,ne,nf,d⟩
theorem Inv.un(I:Inv X pins σ H s)(u:Un X.fs [] H H' s.heap h')(hok:HOk X.prog X.w H' h'):Inv X pins σ H' { s with heap:=h',toks:=t' }:=by
 obtain⟨m,⟨o,es,ep,ho,r⟩,_⟩:=id I.loc
 obtain⟨sl,hL⟩:=u.any ho I.free (by simp)
 exact I.step (ch:= []) (λ_ z=>nomatch z) (λb o _ hb _ e n=>u.keep b o e n hb (by simp)) (λb o _ hb _ e n=>u.slot b o e n hb (by simp)) (λb o _ e n=>u.free b o e n (by simp)) (λb o _ e=>u.there b o e (by simp)) u.tups u.frzs u.tbls (λm' hm=>by
  obtain⟨o',es',ep',ho',r'⟩:=hm
  rw[ho]at ho';cases ho'
  exact⟨_,es',ep',hL,r'⟩) hok I.bare
theorem Inv.call{g':Array GenState}{t':Nat}{d':Drawn}{ch:List Ap}(I:Inv X pins σ H s)(u:Un (frs X.stack) ch H H' s.heap h')(hok:HOk X.prog X.w H' h')(hg:AllBare g')
  (hch:∀ b∈ch,(b∈X.ex∨X.s₀.heap.objs.size<=b)/\b≠X.env.locals/\(∀ x c,X.env.cells.lookup x=some c->c≠b)/\∀ p∈X.pn++pins,p.1≠b) :
  Inv X pins σ H' { s with heap:=h',gens:=g',drawn:=d',toks:=t' }:=by
 obtain⟨m,⟨o,es,ep,ho,r⟩,_⟩:=id I.loc
 obtain⟨sl,hL⟩:=u.any ho I.free λz=>(hch _ z).2.1 rfl
 exact I.step hch (λb o hL hb hc e n=>u.keep b o e n (λz=>(xC.mp (I.stkSub b z)).elim hL hb) hc) (λb o _ _ hc e n=>u.any e n hc) (λb o hc e n=>u.free b o e n hc) (λb o hc e=>u.there b o e hc) u.tups u.frzs u.tbls (λm' hm=>by
  obtain⟨o',es',ep',ho',r'⟩:=hm
  rw[ho]at ho';cases ho'
  exact⟨_,es',ep',hL,r'⟩) hok hg
theorem Inv.turned{t':Nat}(I:Inv X pins σ H s)(k:∀ b o,b≠it->s.heap.get? b=some o->h'.get? b=some o)(hn:H it=none)(hL:it≠X.env.locals)
  (h1:it∈X.ex∨X.s₀.heap.objs.size<=it) (h2:∀ x c,X.env.cells.lookup x=some c->c≠it) (h3:∀ p∈X.pn++pins,p.1≠it):Inv X pins σ H { s with heap:=h',toks:=t' }:=by
 have nit:∀ b u,H b=some u->b≠it:=λb u e z=>by rw[z,hn]at e;cases e
 refine I.step (ch:= [it]) (λb hb=>?_) (λb o _ _ hc e _=>k b o (λz=>hc (by simp[z])) e) (λb o _ _ hc e _=>⟨o.slots,k b o (λz=>hc (by simp[z])) e⟩) (λ_ _ _ _ n=>n)
  (λb o hc e=>⟨o,k b o (λz=>hc (by simp[z])) e⟩) (λ_ _ e=>e) (λ_ _ _ e=>e) (λb ps e=>⟨#[],by rw[e];simp⟩) (λm hm=>?_) (λb u e=>?_) I.bare
 ·have e:b=it:=by simpa using hb
  subst e
  exact⟨h1,hL,h2,h3⟩
 ·obtain⟨o,es,ep,ho,r⟩:=hm
  exact⟨o,es,ep,k _ o (Ne.symm hL) ho,r⟩
 ·refine (I.hok b u e).stay (λc v hc q=>k c v ?_ q) (λ_ q=>q) λ_ _ q=>q
  rcases hc with z | z
  ·rw[z];exact nit b u e
  ·exact nit c _ z
theorem Inv.tok(I:Inv X pins σ H s)(t:Nat):Inv X pins σ H { s with toks:=t }:=I.un Un.refl I.hok
theorem Inv.kept{t':Nat}(I:Inv X pins σ H s)(k:∀ b u,s.heap.get? b=some u->h'.get? b=some u):Inv X pins σ H { s with heap:=h',toks:=t' }:=I.un (Un.kept k) (I.hok.kept k)
theorem Inv.laid{a:Ap}{o:HO}{t':Nat}(I:Inv X pins σ H s)(k:∀ b u,s.heap.get? b=some u->h'.get? b=some u)(hp:⇑s<=a)(new:ObjOk X.prog X.w (upd H a o) h' a o) :
  Inv X pins σ (upd H a o) { s with heap:=h',toks:=t' }:=I.un (Un.laid k hp (I.hok.fresh hp)) (I.hok.laid k hp new)
theorem Inv.write{o:HO}{t':Nat}(I:Inv X pins σ H s)(mu:Mut (H x))(he:e=x∨H e=some (.own x))(k:∀ b u,b≠e->s.heap.get? b=some u->h'.get? b=some u)(heo:∃ u,h'.get? e=some u)
  (new:ObjOk X.prog X.w (upd H x o) h' x o):Inv X pins σ (upd H x o) { s with heap:=h',toks:=t' }:=I.un (Un.write mu he k heo) (I.hok.write mu he k heo new)
theorem Inv.weak(I:Inv X pins σ H s)(hl:σ'.length=σ.length)(w:∀(i:Nat) v,σ'[i]?=some (some v)->σ[i]?=some (some v)):Inv X pins σ' H s :=
 ⟨I.ok,I.os,I.bare,I.base,let ⟨m,hn,hl'⟩:=I.loc;⟨m,hn,λi x v e1 e2 e3=>hl' i x v e1 (w i v e2) e3⟩,I.cell,I.free,I.freeC,I.pin,I.hok,hl.trans I.len⟩
theorem Inv.pins_of(I:Inv X pins σ H s)(h:∀ p∈pins',s.heap.get? p.1=some p.2/\H p.1=none/\p.1≠X.env.locals/\p.1∉X.fs/\∀ v,p.2.data≠ .cell v):Inv X pins' σ H s :=
 ⟨I.ok,I.os,I.bare,I.base,I.loc,I.cell,I.free,I.freeC,λp hp=>(xM.mp hp).elim (λz=>I.pin p (uj _ z)) (h p),I.hok,I.len⟩
theorem Yv{N:Ab}(hN:N.Nodup){i j:Nat}(a:N[i]?=some x)(b:N[j]?=some x):i=j:=by
 obtain⟨h1,e1⟩:=xb.mp a
 obtain⟨h2,e2⟩:=xb.mp b
 exact (List.getElem_inj hN).mp (e1.trans e2.symm)
theorem wz{M:Model}{A:Around}{E:Af}{x:Str}{v:V}{u:Aj}{Q:Unit->Am->Prop}(I:Inv X pins σ H s)(hN:X.N.Nodup)(hi:X.N[i]?=some x)(hx:Loc X.env.scope x)(r:RelV v u)
  (h:∀ s',Inv X pins (σ.set i (some v)) H s'->(∃ a,Heap.SameBut a s.heap s'.heap/\(a=X.env.locals∨X.env.cells.lookup x=some a))->Q () s') (hf:X.fn x=true∨X.env.scope.names.lookup x=some .local:=by first | exact .inl rfl | exact .inr rfl | assumption):wpAny M A (storeName X.env x u) Q E s:=by
 obtain⟨m,hn,hl⟩:=id I.loc
 have hcls:(X.env.scope.kind==.class||(X.env.scope.kind==.module&&X.env.locals !=X.env.globals))=false:=by rw[I.ok.kind];rfl
 have hiσ:i<σ.length:=by rw[I.len];exact (xb.mp hi).1
 have cne:=I.cne
 have tracked:∀{a:Ap}{h':Heap},(∃ o,s.heap.get? a=some o/\H a=none)->Heap.SameBut a s.heap h'->HOk X.prog X.w H h':=λ{a h'} ha hs b ob e=>by
  obtain⟨_,_,hfree⟩:=ha
  refine (I.hok b ob e).stay (λc w' hc q=>(hs.2 c ?_).trans q) (λ_ q=>q) λ_ _ q=>q
  rintro rfl
  rcases hc with rfl | hc
  ·rw[hfree]at e;cases e
  ·rw[hfree]at hc;cases hc
 rcases hx with hk | hk
 ·refine wpAny_storeName_local hk hn (λh' hn' hs=>?_) hcls
  obtain⟨oL,_,_,hoL,_⟩:=id hn
  refine h _ ⟨I.ok,I.os,I.bare,⟨λb o e n hb hx=>?_,λb o e n hb hx=>?_,I.base.free,λb o e hx=>?_,I.base.tups,I.base.frzs,I.base.tbls⟩,⟨_,hn',λj y v' e1 e2 e3=>?_⟩,λy c e=>?_,I.free,I.freeC,λp hp=>?_,tracked ⟨oL,hoL,I.free⟩ hs,by simpa using I.len⟩ ⟨_,hs,.inl rfl⟩
  ·exact (hs.2 b (xk (xu (x8 e) I.ok.above))).trans (I.base.keep b o e n hb hx)
  ·obtain⟨sl,e1⟩:=I.base.slot b o e n hb hx
   exact⟨sl,(hs.2 b (xk (xu (x8 e) I.ok.above))).trans e1⟩
  ·obtain⟨o',e1⟩:=I.base.there b o e hx
   exact⟨o',(hs.2 b (xk (xu (x8 e) I.ok.above))).trans e1⟩
  ·by_cases hj:j=i
   ·subst hj
    rw[hi]at e1;cases e1
    rw[xj hiσ]at e2
    cases e2
    exact⟨u,r,.inl ⟨hk,by simp⟩⟩
   ·rw[xh (Ne.symm hj)]at e2
    obtain⟨u',r',q⟩:=hl j y v' e1 e2 e3
    refine⟨u',r',?_⟩
    rcases q with ⟨k,e⟩ | ⟨k,c,e,z⟩
    ·refine .inl ⟨k,?_⟩
     have:y≠x:=λe=>hj (Yv hN e1 (e ▸ hi))
     simp[this,e]
    ·exact .inr ⟨k,c,e,z.sameBut hs (cne y c e)⟩
  ·obtain⟨w',z⟩:=I.cell y c e
   exact⟨w',z.sameBut hs (cne y c e)⟩
  ·obtain⟨e,n,ne,nf,d⟩:=I.pin p hp
   exact⟨(hs.2 p.1 ne).trans e,n,ne,nf,d⟩
 ·have hfn:X.fn x=true:=by
   rcases hf with z | z
   ·exact z
   ·rw[z]at hk;cases hk
  obtain⟨c,hc⟩:=I.ok.has x (.inl hk)
  obtain⟨w',z⟩:=I.cell x c hc
  refine wpAny_storeName_cell I.ok.kind hk hc z (λh' hc' hs=>?_)
  obtain⟨oc,hoc,hocd⟩:=id z
  refine h { s with heap:=h' } ⟨I.ok,I.os,I.bare,⟨λb o e n hb hx=>?_,λb o e n hb hx=>?_,I.base.free,λb o e hx=>?_,I.base.tups,I.base.frzs,I.base.tbls⟩,⟨m,hn.sameBut hs (Ne.symm (cne x c hc)),λj y v' e1 e2 e3=>?_⟩,λy c' e=>?_,I.free,I.freeC,λp hp=>?_,tracked ⟨oc,hoc,I.freeC x c hc⟩ hs,by simpa using I.len⟩ ⟨c,hs,.inr hc⟩
  ·exact (hs.2 b (xk (xu (x8 e) (I.ok.cab x c hfn hc)))).trans (I.base.keep b o e n hb hx)
  ·obtain⟨sl,e1⟩:=I.base.slot b o e n hb hx
   exact⟨sl,(hs.2 b (xk (xu (x8 e) (I.ok.cab x c hfn hc)))).trans e1⟩
  ·obtain⟨o',e1⟩:=I.base.there b o e hx
   exact⟨o',(hs.2 b (xk (xu (x8 e) (I.ok.cab x c hfn hc)))).trans e1⟩
  ·by_cases hj:j=i
   ·subst hj
    rw[hi]at e1;cases e1
    rw[xj hiσ]at e2
    cases e2
    exact⟨u,r,.inr ⟨.inl hk,c,hc,hc'⟩⟩
   ·rw[xh (Ne.symm hj)]at e2
    obtain⟨u',r',q⟩:=hl j y v' e1 e2 e3
    refine⟨u',r',?_⟩
    rcases q with q | ⟨k,c',e,z'⟩
    ·exact .inl q
    ·refine .inr ⟨k,c',e,z'.sameBut hs ?_⟩
     rintro rfl
     exact hj (Yv hN e1 (I.ok.inj _ _ _ e hc ▸ hi))
  ·by_cases hcc:c'=c
   ·subst hcc;exact⟨_,hc'⟩
   ·obtain⟨w2,z2⟩:=I.cell y c' e
    exact⟨w2,z2.sameBut hs hcc⟩
  ·obtain⟨e,n,ne,nf,d⟩:=I.pin p hp
   refine⟨(hs.2 p.1 ?_).trans e,n,ne,nf,d⟩
   intro q
   rw[q,hoc]at e
   have q':=Option.some.inj e
   exact d w' (by rw[<- q'];exact hocd)
theorem Jp{M:Model}{A:Around}{E:Af}{i:Nat}{x:Str}{v:V}{u:Aj}{Q:Unit->Am->Prop}(I:Inv X pins σ H s)(hN:X.N.Nodup)(hi:X.N[i]?=some x)(hx:Loc X.env.scope x)(r:RelV v u)
  (h:∀ s',Inv X pins (σ.set i (some v)) H s'->Q () s') (hf:X.fn x=true∨X.env.scope.names.lookup x=some .local:=by first | exact .inl rfl | exact .inr rfl | assumption):wpAny M A (storeName X.env x u) Q E s :=
 wz I hN hi hx r (λs' I' _=>h s' I') hf
theorem Inv.call'(I:Inv X pins σ H s)(ho:s'.os=s.os)(u:Un (frs X.stack) ch H H' s.heap s'.heap)(hok:HOk X.prog X.w H' s'.heap)(hg:AllBare s'.gens)
  (hch:∀ b∈ch,(b∈X.ex∨X.s₀.heap.objs.size<=b)/\b≠X.env.locals/\(∀ x c,X.env.cells.lookup x=some c->c≠b)/\∀ p∈X.pn++pins,p.1≠b):Inv X pins σ H' s':=by
 obtain⟨h',g',d',t',o'⟩:=s'
 have e:=ho
 subst e
 exact I.call u hok hg hch
end
abbrev XK:=Aj->Option Ap->Hp->Prop
noncomputable abbrev St:=List (Option V)
abbrev VK:=V->Hp->Prop
abbrev TE:=St->Hp->VK->Prop
abbrev TT:=St->Hp->(Bool->Hp->Prop)->Prop
abbrev TA:=St->Hp->(List V->Hp->Prop)->Prop
structure Zf where
 nx:St->Hp->Prop
 rt:VK
 bk:St->Hp->Prop:=λ_ _=>False
 ct:St->Hp->Prop:=λ_ _=>False
abbrev TS:=Zf->St->Hp->Prop
def EP(X:Cx)(pins:Ak)(σ:St)(Q:VK)(u:Aj)(s':Am):Prop:=∃ v H',Inv X pins σ H' s'/\RelV v u/\Q v H'
def TP(X:Cx)(pins:Ak)(σ:St)(Q:Bool->Hp->Prop)(b:Bool)(s':Am):Prop:=∃ H',Inv X pins σ H' s'/\Q b H'
def AP(X:Cx)(pins:Ak)(σ:St)(Q:List V->Hp->Prop)(us:An)(s':Am):Prop:=∃ vs H',Inv X pins σ H' s'/\Vals vs us/\Q vs H'
def SP(X:Cx)(pins:Ak)(D:Zf)(f:Flow)(s':Am):Prop :=
 match f with
 |.next=>∃ σ' H',Inv X pins σ' H' s'/\D.nx σ' H'
 |.brk=>∃ σ' H',Inv X pins σ' H' s'/\D.bk σ' H'
 |.cont=>∃ σ' H',Inv X pins σ' H' s'/\D.ct σ' H'
 |.ret u=>∃ v σ' H',Inv X pins σ' H' s'/\RelV v u/\D.rt v H'
def PE(X:Cx)(e:Expr)(t:TE):Prop :=
 ∀(pins:Ak)(s:Am)(σ:St)(H:Hp)(Q:VK),Inv X pins σ H s->t σ H Q->∅ (eval e X.env) (EP X pins σ Q) X.xe s
def PT(X:Cx)(e:Expr)(t:TT):Prop :=
 ∀(pins:Ak)(s:Am)(σ:St)(H:Hp)(Q:Bool->Hp->Prop),Inv X pins σ H s->t σ H Q->∅ (isTrue e X.env (eval e X.env)) (TP X pins σ Q) X.xe s
def PW(X:Cx)(e:Expr)(t:TT):Prop :=
 ∀(whole:Sem Aj)(pins:Ak)(s:Am)(σ:St)(H:Hp)(Q:Bool->Hp->Prop),Inv X pins σ H s->t σ H Q->∅ (isTrue e X.env whole) (TP X pins σ Q) X.xe s
def PA(X:Cx)(es:Ag)(t:TA):Prop :=
 ∀(pos:Pos)(pins:Ak)(s:Am)(σ:St)(H:Hp)(Q:List V->Hp->Prop),Inv X pins σ H s->t σ H Q->∅ (spliced (backTo pos (starEach es X.env))) (AP X pins σ Q) X.xe s
def PS(X:Cx)(st:Stmt)(t:TS):Prop :=
 ∀(pins:Ak)(s:Am)(σ:St)(H:Hp)(D:Zf),Inv X pins σ H s->t D σ H->∅ (exec st X.env) (SP X pins D) X.xe s
def PSs(X:Cx)(st:List Stmt)(t:TS):Prop :=
 ∀(pins:Ak)(s:Am)(σ:St)(H:Hp)(D:Zf),Inv X pins σ H s->t D σ H->∅ (execs st X.env) (SP X pins D) X.xe s
theorem thn{α:Type}{t:Sem α}{Q Q':α->Am->Prop}{M:Model}{A:Around}{E:Af}{s:Am}(h:wpAny M A t Q E s)(hQ:∀ a s,Q a s->Q' a s):wpAny M A t Q' E s:=Xe h hQ λ_ _ x=>x
section
variable {X:Cx}
def zj7(i:Nat):TE:=λσ H Q=>∃ v,σ[i]?=some (some v)/\Q v H
def tC(v:V):TE:=λ_ H Q=>Q v H
theorem zQ (hN:X.N[i]?=some x) (hv:Vis X.env.scope x) (hd:(↥x):=by decide) (hcd:(x==("__classdict__" :Str))=false:=by decide):PE X (.Name x pos) (zj7 i):=by
 cbv
 obtain⟨v,e,h⟩:=h
 obtain⟨m,hn,hl⟩:=I.loc
 obtain⟨u,r,l⟩:=hl i x v hN e hv
 have fin:EP X pins σ Q u s:=⟨v,H,I,r,h⟩
 rcases l with ⟨hk,hm⟩ | ⟨hk,c,hc,hcell⟩
 ·exact wpAny_Name (wpAny_loadName_local I.ok.kind hk hn hm fin) hd
 ·rcases hk with hk | hk
  ·exact wpAny_Name (wpAny_loadName_cell I.ok.kind hk hc hcell fin) hd
  ·exact wpAny_Name (wpAny_loadName_free I.ok.kind hk hc hcell fin hcd) hd
theorem pe_int{i j pos}:PE X (.Constant (.int i) j pos) (tC (.int i)):=λ_ _ _ H _ I h=>wpAny_Constant_int ⟨.int i,H,I.tok _,⟨_,rfl⟩,h⟩
theorem pe_bl{b j pos}:PE X (.Constant (.bool b) j pos) (tC (.bl b)):=λ_ _ _ H _ I h=>Constant_bool ⟨.bl b,H,I,rfl,h⟩
theorem pe_str{x j pos}:PE X (.Constant (.str x) j pos) (tC (.str x)):=λ_ _ _ H _ I h=>Calls.Constant_str ⟨.str x,H,I.tok _,⟨_,rfl⟩,h⟩
def Gl(X:Cx)(x:Str):Prop:=X.env.kindOf x=some .globalImplicit
theorem j6{E:Af}{pins:Ak}{s:Am}{σ:St}{H:Hp}{x:Str}{u:Aj}{pos:Pos}{Q:Af}(I:Inv X pins σ H s)(hg:Gl X x)(hm:X.mg x=some u)(h:Q u s)
  (hd:(↥x):=by decide):∅ (eval (.Name x pos) X.env) Q E s :=
 Calls.Name_function_global I.ok.kind hg (Calls.loadGlobal_global (by rw[I.ok.glob];exact I.mod.glob.keeps I.bk) hm h) hd
theorem QH{E:Af}{pins:Ak}{s:Am}{σ:St}{H:Hp}{x:Str}{u:Aj}{pos:Pos}{Q:Af}(I:Inv X pins σ H s)(hg:Gl X x)(hm:X.mg x=none)(hv:bootBuiltins x=some u)(h:Q u s)
  (hn:x≠ "__name__" :=by decide) (hd:(↥x):=by decide):∅ (eval (.Name x pos) X.env) Q E s:=by
 obtain⟨mb,h1,h2⟩:=I.mod.blt
 exact Calls.Name_function_global I.ok.kind hg (Calls.loadGlobal_builtin (by rw[I.ok.glob];exact I.mod.glob.keeps I.bk) hm (by rw[I.ok.blt];exact h1.keeps I.bk) ((h2 x hn).trans hv) h) hd
theorem K4 (hg:Gl X x) (hm:X.mg x=some u) (r:RelV v u) (hd:(↥x):=by decide):PE X (.Name x pos) (tC v) :=
 λ_ _ _ H _ I h=>j6 I hg hm ⟨v,H,I,r,h⟩ hd
theorem zfg (hg:Gl X x) (hm:X.mg x=none) (hv:bootBuiltins x=some u) (r:RelV v u) (hn:x≠ "__name__" :=by decide) (hd:(↥x):=by decide):PE X (.Name x pos) (tC v) :=
 λ_ _ _ H _ I h=>QH I hg hm hv ⟨v,H,I,r,h⟩ hn hd
variable {a b:Expr}{ta tb:TE}{pos:Pos}
variable {tA tB':TT}{rest:Ag}
def tAnd(t u:TT):TT:=λσ H Q=>t σ H λc H1=>if c=true then u σ H1 Q else Q false H1
def tOr(t u:TT):TT:=λσ H Q=>t σ H λc H1=>if c=true then Q true H1 else u σ H1 Q
def tNot(t:TT):TT:=λσ H Q=>t σ H λc H1=>Q (!c) H1
theorem zft(ha:PT X a tA):PW X (.BoolOp .And [a] pos) tA:=by
 intro wh pins s σ H Q I h
 refine isTrue_and (thn (ha pins s σ H Q I h) λc s1 e=>?_)
 cases c with
 |true=>exact isTrue_and_nil e
 |false=>exact e
theorem zib(ha:PT X a tA):PW X (.BoolOp .Or [a] pos) tA:=by
 intro wh pins s σ H Q I h
 refine isTrue_or (thn (ha pins s σ H Q I h) λc s1 e=>?_)
 cases c with
 |false=>exact isTrue_or_nil e
 |true=>exact e
theorem zia(ha:PT X a tA)(hb:PW X (.BoolOp .And (b::rest) pos) tB'):PW X (.BoolOp .And (a::b::rest) pos) (tAnd tA tB'):=by
 intro wh pins s σ H Q I h
 refine isTrue_and (thn (ha pins s σ H _ I h) λc s1 ⟨H1,I1,q1⟩=>?_)
 cases c with
 |true=>exact hb wh pins s1 σ H1 Q I1 q1
 |false=>exact⟨H1,I1,q1⟩
theorem zjD(ha:PT X a tA)(hb:PW X (.BoolOp .Or (b::rest) pos) tB'):PW X (.BoolOp .Or (a::b::rest) pos) (tOr tA tB'):=by
 intro wh pins s σ H Q I h
 refine isTrue_or (thn (ha pins s σ H _ I h) λc s1 ⟨H1,I1,q1⟩=>?_)
 cases c with
 |true=>exact⟨H1,I1,q1⟩
 |false=>exact hb wh pins s1 σ H1 Q I1 q1
theorem zh8(ha:PT X a tA):PT X (.UnaryOp .Not a pos) (tNot tA):=by
 cbv
 exact isTrue_not (ha pins s σ H (λc H1=>Q (!c) H1) I h)
def zj0(ta tb:TE):TE:=λσ H Q=>ta σ H λx H1=>∃ c,x=.bl c/\if c=true then tb σ H1 Q else Q (.bl false) H1
def tOrV(ta tb:TE):TE:=λσ H Q=>ta σ H λx H1=>∃ c,x=.bl c/\if c=true then Q (.bl true) H1 else tb σ H1 Q
theorem zh1{op}(h:PE X a t):PE X (.BoolOp op [a] pos) t:=λpins s σ H Q I hw=>BoolOp_one (h pins s σ H Q I hw)
theorem zh0(ha:PE X a ta)(hb:PE X (.BoolOp .And (b::rest) pos) tb):PE X (.BoolOp .And (a::b::rest) pos) (zj0 ta tb):=by
 cbv
 refine BoolOp_and (thn (ha pins s σ H _ I h) λv s1 ⟨x,H1,I1,r1,q1⟩=>?_)
 obtain⟨c,rfl,q1⟩:=q1
 cases r1
 refine Xj ?_
 cases c with
 |true=>exact hb pins s1 σ H1 Q I1 q1
 |false=>exact⟨.bl false,H1,I1,rfl,q1⟩
theorem zjB(ha:PE X a ta)(hb:PE X (.BoolOp .Or (b::rest) pos) tb):PE X (.BoolOp .Or (a::b::rest) pos) (tOrV ta tb):=by
 cbv
 refine BoolOp_or (thn (ha pins s σ H _ I h) λv s1 ⟨x,H1,I1,r1,q1⟩=>?_)
 obtain⟨c,rfl,q1⟩:=q1
 cases r1
 refine Xj ?_
 cases c with
 |false=>exact hb pins s1 σ H1 Q I1 q1
 |true=>exact⟨.bl true,H1,I1,rfl,q1⟩
def tIf(t:TT)(ta tb:TE):TE:=λσ H Q=>t σ H λc H1=>if c=true then ta σ H1 Q else tb σ H1 Q
theorem zcY{c:Expr}(hc:PT X c tA)(ha:PE X a ta)(hb:PE X b tb):PE X (.IfExp c a b pos) (tIf tA ta tb):=by
 cbv
 refine wpAny_IfExp (thn (hc pins s σ H _ I h) λd s1 ⟨H1,I1,q1⟩=>?_)
 cases d with
 |true=>exact ha pins s1 σ H1 Q I1 q1
 |false=>exact hb pins s1 σ H1 Q I1 q1
end
def SqL(K:Ah)(H:Hp)(a:Ap)(xs:List V):Prop :=
 Rd H a (.lst xs) ∨
  ∃ (o:Obj) (its:Array Aj) (n:Nat),K.lookup a=some o/\o.cls=.type "list" /\o.dict=none/\o.data=.seq its n/\its.size<=sizeLine/\Vals xs its.toList
def SqT(K:Ah)(H:Hp)(a:Ap)(xs:List V):Prop :=
 Rd H a (.tup xs) ∨
  ∃ (o:Obj) (its:Array Aj) (n:Nat),K.lookup a=some o/\o.cls=.type "tuple" /\o.data=.seq its n/\its.size<=sizeLine/\Vals xs its.toList
noncomputable def absV:Aj->Option V
 |.none=>some .non
 |.bool b=>some (.bl b)
 |.int i _=>some (.int i)
 |.str x _=>some (.str x)
 |.bytes b _=>some (.byt b)
 |.float b _=>some (.flt b)
 |.ref a=>some (.ref a)
 |.type n=>some (.ty n)
 |_=>none
theorem RelV.abs(r:RelV x u):absV u=some x:=by
 cases x with
 |non=>cases r;rfl
 |bl _=>cases r;rfl
 |int _=>obtain⟨t,rfl⟩:=r;rfl
 |str _=>obtain⟨t,rfl⟩:=r;rfl
 |byt _=>obtain⟨t,rfl⟩:=r;rfl
 |flt _=>obtain⟨t,rfl⟩:=r;rfl
 |ref _=>cases r;rfl
 |ty _=>cases r;rfl
theorem RelV.inj{x y:V}{u:Aj}(r:RelV x u)(q:RelV y u):x=y:=Option.some.inj (r.abs.symm.trans q.abs)
theorem Vals.inj:∀{xs ys:List V}{us:An},Vals xs us->Vals ys us->xs=ys
 |_,_,_,.nil,.nil=>rfl
 |_,_,_,.cons r t,.cons r' t'=>by rw[r.inj r',Vals.inj t t']
section
variable {X:Cx}{pins:Ak}{σ:St}{H:Hp}{s:Am}{a:Ap}{xs ys:List V}
theorem SqL.of{K:Ah}(h:H a=some (.lst xs)):SqL K H a xs:=.inl (.inl h)
theorem SqT.of{K:Ah}(h:H a=some (.tup xs)):SqT K H a xs:=.inl (.inl h)
theorem Inv.list(I:Inv X pins σ H s)(h:SqL X.K H a xs):∃ its:An,Vals xs its/\PlainL s.heap a its.toArray/\xs.length<=sizeLine:=by
 rcases h with h | ⟨o,its,n,hk,hc,hd,hs,hz,r⟩
 ·obtain⟨z,its,n,r,e⟩:=h.ok I.hok
  exact⟨its,r,⟨_,n,e,rfl,rfl,rfl⟩,z⟩
 ·refine⟨its.toList,r,⟨o,n,I.kIn a o hk,hc,hd,by simpa using hs⟩,?_⟩
  have e:=r.length
  simp only[Array.length_toList]at e
  omega
theorem Inv.tuple(I:Inv X pins σ H s)(h:SqT X.K H a xs):∃ its:An,Vals xs its/\IsTup s.heap a its.toArray/\xs.length<=sizeLine:=by
 rcases h with h | ⟨o,its,n,hk,hc,hs,hz,r⟩
 ·obtain⟨z,its,r,p⟩:=h.ok I.hok
  exact⟨its,r,p,z⟩
 ·refine⟨its.toList,r,⟨o,I.kIn a o hk,hc,n,by simpa using hs⟩,?_⟩
  have e:=r.length
  simp only[Array.length_toList]at e
  omega
theorem Inv.list_inj(I:Inv X pins σ H s)(h:SqL X.K H a xs)(h':SqL X.K H a ys):xs=ys:=by
 obtain⟨its,r,⟨o,n,e,_,_,d⟩,_⟩:=I.list h
 obtain⟨its',r',⟨o',n',e',_,_,d'⟩,_⟩:=I.list h'
 rw[e]at e';cases e'
 rw[d]at d'
 injection d' with d1 _
 have:its=its':=by simpa using congrArg Array.toList d1
 subst this
 exact r.inj r'
theorem Inv.tuple_inj(I:Inv X pins σ H s)(h:SqT X.K H a xs)(h':SqT X.K H a ys):xs=ys:=by
 obtain⟨its,r,⟨o,e,_,n,d⟩,_⟩:=I.tuple h
 obtain⟨its',r',⟨o',e',_,n',d'⟩,_⟩:=I.tuple h'
 rw[e]at e';cases e'
 rw[d]at d'
 injection d' with d1 _
 have:its=its':=by simpa using congrArg Array.toList d1
 subst this
 exact r.inj r'
end
noncomputable abbrev Cx.wish(X:Cx)(E:Af):Cx:={ X with xe:=E }
noncomputable abbrev Cx.nox(X:Cx):Cx:=X.wish λ_ _=>False
theorem Cx.Ok.wish{X:Cx}(ok:X.Ok)(E:Af):(X.wish E).Ok :=
 ⟨ok.mod,ok.kind,ok.glob,ok.blt,ok.above,ok.inj,ok.has,ok.cab,ok.hd,ok.frames,ok.stk,ok.exf,ok.bs,ok.bsz,ok.noex,ok.exfs,ok.funs,ok.frf⟩
theorem Cx.Ok.unwish{X:Cx}(ok:(X.wish E).Ok):X.Ok :=
 ⟨ok.mod,ok.kind,ok.glob,ok.blt,ok.above,ok.inj,ok.has,ok.cab,ok.hd,ok.frames,ok.stk,ok.exf,ok.bs,ok.bsz,ok.noex,ok.exfs,ok.funs,ok.frf⟩
section
variable {X:Cx}{pins:Ak}{σ:St}{H:Hp}{s:Am}{E:Af}
theorem Inv.wish(I:Inv X pins σ H s)(E:Af):Inv (X.wish E) pins σ H s:=⟨I.ok.wish E,I.os,I.bare,I.base,I.loc,I.cell,I.free,I.freeC,I.pin,I.hok,I.len⟩
theorem Inv.unwish(I:Inv (X.wish E) pins σ H s):Inv X pins σ H s:=⟨I.ok.unwish,I.os,I.bare,I.base,I.loc,I.cell,I.free,I.freeC,I.pin,I.hok,I.len⟩
theorem SP.unwish(h:SP (X.wish E) pins D f s'):SP X pins D f s':=by
 cases f with
 |next=>obtain⟨σ',H',I,q⟩:=h;exact⟨σ',H',I.unwish,q⟩
 |brk=>obtain⟨σ',H',I,q⟩:=h;exact⟨σ',H',I.unwish,q⟩
 |cont=>obtain⟨σ',H',I,q⟩:=h;exact⟨σ',H',I.unwish,q⟩
 |ret u=>obtain⟨v,σ',H',I,r,q⟩:=h;exact⟨v,σ',H',I.unwish,r,q⟩
theorem PSs.nox{st:List Stmt}(h:PSs X.nox st t):PSs X st t:=λpins s σ H D I hw=>
 Xe (h pins s σ H D (I.wish _) hw) (λ_ _ q=>q.unwish) λ_ _ z=>False.elim z
end
section
variable {X:Cx}{st:Stmt}{rest:List Stmt}{t u:TS}{e:Expr}{te:TE}{pos:Pos}
def zgK:TS:=λD σ H=>D.nx σ H
def tSeq(t u:TS):TS:=λD σ H=>t { D with nx:=u D } σ H
theorem pss_nil:PSs X [] zgK:=λ_ _ σ H _ I h=>wpAny_execs_nil ⟨σ,H,I,h⟩
theorem Zs(h1:PS X st t)(h2:PSs X rest u):PSs X (st::rest) (tSeq t u):=by
 intro pins s σ H D I h
 refine wpAny_execs_cons (thn (h1 pins s σ H { D with nx:=u D } I h) λf s1 q=>?_)
 cases f with
 |next=>
  obtain⟨σ',H',I',q⟩:=q
  exact h2 pins s1 σ' H' D I' q
 |ret v=>exact q
 |brk=>exact q
 |cont=>exact q
theorem Wt(h1:PS X st t):PSs X [st] t:=by
 intro pins s σ H D I h
 refine wpAny_execs_cons (thn (h1 pins s σ H D I h) λf s1 q=>?_)
 cases f with
 |next=>exact wpAny_execs_nil q
 |ret v=>exact q
 |brk=>exact q
 |cont=>exact q
theorem ps_pass:PS X (.Pass pos) zgK:=λ_ _ σ H _ I h=>wpAny_Pass ⟨σ,H,I,h⟩
theorem Inv.quiet{pins:Ak}{σ:St}{H:Hp}{s:Am}(I:Inv X pins σ H s):interactive X.env=false:=by simp[interactive,I.ok.kind]
def zj4(te:TE):TS:=λD σ H=>te σ H λ_ H1=>D.nx σ H1
theorem Jl(he:PE X e te)(hs:swapsWith e none pos.line X.env=pure false:=by rfl):PS X (.Expr e pos) (zj4 te):=by
 intro pins s σ H D I h
 exact wpAny_Expr_any (thn (he pins s σ H _ I h) λv s1 ⟨x,H1,I1,r1,q1⟩=>⟨σ,H1,I1,q1⟩) I.quiet hs
def tRet(te:TE):TS:=λD σ H=>te σ H D.rt
theorem Ki(he:PE X e te):PS X (.Return (some e) pos) (tRet te):=by
 intro pins s σ H D I h
 exact wpAny_Return_some (thn (he pins s σ H _ I h) λv s1 ⟨x,H1,I1,r1,q1⟩=>⟨x,σ,H1,I1,r1,q1⟩)
def tIfS(c:TT)(t u:TS):TS:=λD σ H=>c σ H λb H1=>if b=true then t D σ H1 else u D σ H1
theorem zjC{c:Expr}{a b:List Stmt}{tc:TT}(hc:PT X c tc)(ha:PSs X a t)(hb:PSs X b u):PS X (.If c a b pos) (tIfS tc t u):=by
 intro pins s σ H D I h
 refine wpAny_If (thn (hc pins s σ H _ I h) λd s1 ⟨H1,I1,q1⟩=>?_)
 cases d with
 |true=>exact ha pins s1 σ H1 D I1 q1
 |false=>exact hb pins s1 σ H1 D I1 q1
end
abbrev TG:=V->St->Hp->(St->Hp->Prop)->Prop
abbrev TGs:=List V->St->Hp->(St->Hp->Prop)->Prop
def PG(X:Cx)(target:Expr)(t:TG):Prop :=
 ∀(pins:Ak)(s:Am)(σ:St)(H:Hp)(v:V)(u:Aj)(Q:St->Hp->Prop),Inv X pins σ H s->RelV v u->t v σ H Q ->
  ∅ (assign target X.env u) (λ_ s'=>∃ σ' H',Inv X pins σ' H' s'/\Q σ' H') X.xe s
def PGs(X:Cx)(ts:Ag)(t:TGs):Prop :=
 ∀(pins:Ak)(s:Am)(σ:St)(H:Hp)(vs:List V)(us:An)(Q:St->Hp->Prop),Inv X pins σ H s->Vals vs us->t vs σ H Q ->
  ∅ (assignInOrder ((assignEach ts X.env).map (·.2)) us) (λ_ s'=>∃ σ' H',Inv X pins σ' H' s'/\Q σ' H') X.xe s
abbrev zeh:=V->V->V->Hp->(Hp->Prop)->Prop
def zgX(X:Cx)(t:zeh):Prop :=
 ∀(pins:Ak)(s:Am)(σ:St)(H:Hp)(o i v:V)(ov iv u:Aj)(Q:Hp->Prop),Inv X pins σ H s->RelV o ov->RelV i iv->RelV v u->t o i v H Q ->
  ∅ (setItem ov iv u) (λ_ s'=>∃ H',Inv X pins σ H' s'/\Q H') X.xe s
section
variable {X:Cx}{pos:Pos}
def W4(i:Nat):TG:=λv σ H Q=>Q (σ.set i (some v)) H
theorem K5(hN:X.N.Nodup)(hi:X.N[i]?=some x)(hx:Loc X.env.scope x)(hf:X.fn x=true∨X.env.scope.names.lookup x=some .local:=by first | exact .inl rfl | exact .inr rfl | assumption):PG X (.Name x pos) (W4 i):=by
 intro pins s σ H v u Q I r h
 exact wpAny_assign_Name (Jp I hN hi hx r (λs' I'=>⟨_,H,I',h⟩) hf)
def gNil:TGs:=λvs σ H Q=>vs= []/\Q σ H
def zjm(t:TG)(u:TGs):TGs:=λvs σ H Q=>∃ v r,vs=v::r/\t v σ H λσ' H'=>u r σ' H' Q
theorem pgs_nil:PGs X [] gNil:=by
 intro pins s σ H vs us Q I r h
 obtain⟨e,h⟩:=h
 subst e
 cases r
 exact assignInOrder_nil ⟨σ,H,I,h⟩
theorem zc4{e:Expr}{es:Ag}{t:TG}{u:TGs}(h1:PG X e t)(h2:PGs X es u)
  (hs:(assignEach (e::es) X.env).map (·.2)=assign e X.env::(assignEach es X.env).map (·.2):=by rfl):PGs X (e::es) (zjm t u):=by
 intro pins s σ H vs us Q I r h
 obtain⟨v,vr,e1,h⟩:=h
 subst e1
 cases r with
 |cons r rr=>
  rw[hs]
  refine assignInOrder_cons (thn (h1 pins s σ H _ _ _ I r h) λ_ s1 ⟨σ1,H1,I1,q1⟩=>?_)
  exact h2 pins s1 σ1 H1 _ _ Q I1 rr q1
def gTup(K:Ah)(n:Nat)(t:TGs):TG:=λv σ H Q=>∃ a xs,v=.ref a/\SqT K H a xs/\xs.length=n/\t xs σ H Q
theorem zh4{k:Nat}{n:Nat}(hc:X.calm=true)(h:PGs X es t)
  (hn:(assignEach es X.env).length=n:=by rfl) (hst:(assignEach es X.env).findIdx? (·.1)=none:=by rfl):PG X (.Tuple es k pos) (gTup X.K n t):=by
 intro pins s σ H v u Q I r hw
 obtain⟨a,xs,e1,hq,hl,hw⟩:=hw
 subst e1
 cases r
 obtain⟨its,rv,ht,hz⟩:=I.tuple hq
 refine assign_Tuple_tuple (I.ok.hd hc) ht (by simp[hn,<- hl,rv.length]) hst λh' hx=>?_
 have I1:=I.kept (t':=s.toks) λb o e=>hx b o (xk (x8 e)) e
 exact h pins _ σ H xs _ Q I1 (by simpa using rv) hw
def zjn(to ti:TE)(t:zeh):TG:=λv σ H Q=>to σ H λo H1=>ti σ H1 λi H2=>t o i v H2 λH3=>Q σ H3
theorem zh3{o i:Expr}{to ti:TE}{t:zeh}(ho:PE X o to)(hi:PE X i ti)(hs:zgX X t)
  (ha:∀ v,assign (.Subscript o i pos) X.env v=(do
   let ov<-holding [v] (eval o X.env)
   let iv<-holding [v,ov] (eval i X.env)
   standAt pos
   holding [v,ov,iv] (setItem ov iv v)
   release [v,ov,iv] []):=by intro _;rfl):PG X (.Subscript o i pos) (zjn to ti t):=by
 intro pins s σ H v u Q I r h
 rw[ha]
 refine x5 (Xd (thn (ho pins s σ H _ I h) λov s1 ⟨x,H1,I1,r1,q1⟩=>?_))
 refine x5 (Xd (thn (hi pins s1 σ H1 _ I1 q1) λiv s2 ⟨y,H2,I2,r2,q2⟩=>?_))
 refine x5 (wpAny_standAt (x5 (Xd (thn (hs pins s2 σ H2 x y v ov iv u _ I2 r1 r2 r q2) λ_ s3 ⟨H3,I3,q3⟩=>?_))))
 exact wpAny_release ⟨σ,H3,I3,q3⟩
def yR(te:TE)(g:TG):TS:=λD σ H=>te σ H λx H1=>g x σ H1 D.nx
theorem Kh{tg e:Expr}{te:TE}{g:TG}(he:PE X e te)(hg:PG X tg g)(hs:swapsWithSole [tg] e pos.line X.env=pure false:=by rfl)(hw:swappedStores [tg] e X.env=pure none:=by rfl)
    (h1:(assignEach [tg] X.env).map (·.2)= [assign tg X.env]:=by rfl):PS X (.Assign [tg] e pos) (yR te g):=by
  intro pins s σ H D I h
  refine wpAny_Assign_stores (thn (he pins s σ H _ I h) λv s1 ⟨x,H1,I1,r1,q1⟩=>?_) hs hw
  rw[h1]
  exact thn (hg pins s1 σ H1 x v _ I1 r1 q1) λ_ s2 q=>q
theorem vA{i:Nat}{x:Str}{e:Expr}{te:TE}{pos':Pos}(hN:X.N.Nodup)(hi:X.N[i]?=some x)(hx:Loc X.env.scope x)(he:PE X e te)(hs:swapsWith e (some (.Name x pos')) pos.line X.env=pure false:=by rfl)(hf:X.fn x=true∨X.env.scope.names.lookup x=some .local:=by first | exact .inl rfl | exact .inr rfl | assumption) :
    PS X (.Assign [.Name x pos'] e pos) (yR te (W4 i)):=by
  intro pins s σ H D I h
  refine wpAny_Assign_Name (thn (he pins s σ H _ I h) λv s1 ⟨y,H1,I1,r1,q1⟩=>?_) hs
  exact Jp I1 hN hi hx r1 (λs2 I2=>⟨_,H1,I2,q1⟩) hf
end
section
end
structure It where
 go:Nat->Hp->Prop
 yld:Nat->Hp->V->Hp->Prop
 stop:Nat->Hp->Prop
def Q4(X:Cx)(pins:Ak)(H:Hp)(b:Ap):Prop :=
 H b=none/\b≠X.env.locals/\b∉X.fs/\(b∈X.ex∨X.s₀.heap.objs.size<=b)/\(∀ x c,X.env.cells.lookup x=some c->c≠b)/\∀ p∈X.pn++pins,p.1≠b
theorem Inv.fpOk{X:Cx}{pins:Ak}{σ:St}{H H':Hp}{s:Am}{b:Ap}(I:Inv X pins σ H s)(hb:⇑s<=b)(hn:H' b=none):Q4 X pins H' b:=by
 refine⟨hn,uA (xu I.lt hb),I.nofs hb,.inr (xJ I.sz hb),λx c e z=>?_,λp hp z=>?_⟩
 ·obtain⟨v,q⟩:=I.cell x c e
  exact absurd (xu q.lt (by rw[z];exact hb)) (xV _)
 ·exact absurd (xu (x8 (I.pin p hp).1) (by rw[z];exact hb)) (xV _)
structure vS(P:Ar)(w:World)(K:Ah)(tg:Expr)(J:It)(fp:List Ap)(it:Ap)(tn:Nat->Heap->Prop):Prop where
 mem:it∈fp
 obj:∀ i h,tn i h->∀ b∈fp,∃ o,h.get? b=some o/\∀ v,o.data≠ .cell v
 keep:∀ i h h',tn i h->(∀ b∈fp,∀ o,h.get? b=some o->h'.get? b=some o)->tn i h'
 item:∀(X:Cx),X.prog=P->X.w=w->X.K=K->X.calm=true->∀(i:Nat)(pins:Ak)(s:Am)(σ:St)(H:Hp)(E:Af),Inv X pins σ H s->(∀ b∈fp,Q4 X pins H b)->tn i s.heap->J.go i H ->
  wpAny (model P w) X.A (pyNext (.ref it)) (λr s1=>∃ u,r=some u /\
   wpAny (model P w) X.A (letOwnedTupleGo tg (.ref it) u) (λ_ s2=>∃ x H',Inv X pins σ H' s2/\RelV x u/\J.yld i H x H'/\tn (i+1) s2.heap/\∀ b∈fp,H' b=none) E s1) E s
 done:∀(X:Cx),X.prog=P->X.w=w->X.K=K->X.calm=true->∀(i:Nat)(pins:Ak)(s:Am)(σ:St)(H:Hp)(E:Af),Inv X pins σ H s->(∀ b∈fp,Q4 X pins H b)->tn i s.heap->J.stop i H ->
  wpAny (model P w) X.A (pyNext (.ref it)) (λr s1=>r=none/\Inv X pins σ H s1) E s
 self:∀(A:Around)(i:Nat)(s:Am)(Q:Af)(E:Af),tn i s.heap->Q (.ref it) s->wpAny (model P w) A (pyIter (.ref it)) Q E s
abbrev TI:=St->Hp->(It->Hp->Prop)->Prop
def PIE(X:Cx)(pins:Ak)(σ:St)(tg:Expr)(R:It->Hp->Prop)(itv:Aj)(s2:Am):Prop :=
 ∃(it:Ap)(fp:List Ap)(tn:Nat->Heap->Prop)(J:It)(H':Hp),itv=.ref it/\Inv X pins σ H' s2/\vS X.prog X.w X.K tg J fp it tn/\tn 0 s2.heap/\(∀ b∈fp,Q4 X pins H' b)/\R J H'
def PI(X:Cx)(tg iter:Expr)(wi:TI):Prop :=
 ∀(pins:Ak)(s:Am)(σ:St)(H:Hp)(R:It->Hp->Prop),Inv X pins σ H s->wi σ H R ->
  ∅ (eval iter X.env) (λv s1=>∅ (pyIter v) (PIE X pins σ tg R) X.xe s1) X.xe s
theorem KQ{M:Model}{A:Around}{E:Af}{tg:Expr}{u:Aj}{Q:Unit->Am->Prop}(ho:s.heap.get? it=some o)(hc:o.cls=.type n)(hd:o.data=.fields vs)
    (hn: ["enumerate","zip","dict_itemiterator","dict_reverseitemiterator","odict_iterator","itertools.zip_longest","itertools.pairwise"].contains n=false) (hQ:Q () s):wpAny M A (letOwnedTupleGo tg (.ref it) u) Q E s:=by
  unfold letOwnedTupleGo
  cases tg<;>first
    |exact x9 hQ
    | (cases u<;>first
        |exact x9 hQ
        | (refine x5 (wpAny_load ho ?_)
           rw[hc,hd]
           show wpAny M A (if (["enumerate","zip","dict_itemiterator","dict_reverseitemiterator","odict_iterator","itertools.zip_longest","itertools.pairwise"].contains n&&vs[0]?==some (rawInt _))=true then _ else _) Q E s
           rw[if_neg (by intro h;rw[hn,Bool.false_and]at h;cases h)]
           exact x9 hQ))
noncomputable def Itl(K:Ah)(a:Ap):It :=
 ⟨λi H=>∃ xs x,SqL K H a xs/\xs[i]?=some x,λi H x H'=>H'=H/\∀ xs,SqL K H a xs->xs[i]?=some x,λi H=>∃ xs,SqL K H a xs/\xs.length<=i⟩
noncomputable def Itt(K:Ah)(a:Ap):It :=
 ⟨λi H=>∃ xs x,SqT K H a xs/\xs[i]?=some x,λi H x H'=>H'=H/\∀ xs,SqT K H a xs->xs[i]?=some x,λi H=>∃ xs,SqT K H a xs/\xs.length<=i⟩
noncomputable def Itr(lo:Int)(n:Nat):It:=⟨λi _=>i<n,λi H x H'=>H'=H/\x=.int (lo+i),λi _=>n<=i⟩
theorem zbq{P:Ar}{w:World}{K:Ah}{tg:Expr}(a it:Ap):vS P w K tg (Itl K a) [it] it (λi h=>h.IsListIter it a i) where
 mem:=by simp
 obj:=λi h st b hb=>by
  have e:b=it:=by simpa using hb
  subst e
  obtain⟨o,e,c,d⟩:=st
  exact⟨o,e,λv z=>by rw[d]at z;cases z⟩
 keep:=λi h h' st k=>st.at λo e=>k it (by simp) o e
 item:=by
  intro X hP hw hK hc i pins s σ H E I hf st hg
  subst hP hw hK
  obtain⟨xs,x,hq,hx⟩:=hg
  obtain⟨its,rv,p,hz⟩:=I.list hq
  obtain⟨u,hu,ru⟩:=rv.get hx
  obtain⟨f0,f1,f2,f3,f4,f5⟩:=hf it (by simp)
  refine wpAny_pyNext_list_item st p.isList (x:=u) (by simpa using hu) λh' st' sb=>?_
  have I1:=I.turned (t':=s.toks) (λb o hb e=>(sb.2 b hb).trans e) f0 f1 f3 f4 f5
  obtain⟨o,e,c,d⟩:=id st'
  exact⟨u,rfl,KQ e c d (by decide) ⟨x,H,I1,ru,⟨rfl,λys hy=>by rw[I.list_inj hy hq];exact hx⟩,st',λb hb=>(hf b hb).1⟩⟩
 done:=by
  intro X hP hw hK hc i pins s σ H E I hf st hg
  subst hP hw hK
  obtain⟨xs,hq,hx⟩:=hg
  obtain⟨its,rv,p,hz⟩:=I.list hq
  obtain⟨f0,f1,f2,f3,f4,f5⟩:=hf it (by simp)
  have hl:=rv.length
  exact wpAny_pyNext_list_end (I.ok.hd hc) st p.isList (by simp;omega) λh' eb=>⟨rfl,I.turned (t':=s.toks) (λb o hb e=>eb b o hb e) f0 f1 f3 f4 f5⟩
 self:=λ_ _ _ _ _ st h=>wpAny_pyIter_listiter st h
theorem Kv{P:Ar}{w:World}{K:Ah}{tg:Expr}(a it:Ap):vS P w K tg (Itt K a) [it] it (λi h=>h.IsTupleIter it a i) where
 mem:=by simp
 obj:=λi h st b hb=>by
  have e:b=it:=by simpa using hb
  subst e
  obtain⟨o,e,c,d⟩:=st
  exact⟨o,e,λv z=>by rw[d]at z;cases z⟩
 keep:=λi h h' st k=>st.at λo e=>k it (by simp) o e
 item:=by
  intro X hP hw hK hc i pins s σ H E I hf st hg
  subst hP hw hK
  obtain⟨xs,x,hq,hx⟩:=hg
  obtain⟨its,rv,p,hz⟩:=I.tuple hq
  obtain⟨u,hu,ru⟩:=rv.get hx
  obtain⟨f0,f1,f2,f3,f4,f5⟩:=hf it (by simp)
  refine wpAny_pyNext_tuple_item st (show s.heap.IsTuple a its.toArray from p) (x:=u) (by simpa using hu) λh' st' sb=>?_
  have I1:=I.turned (t':=s.toks) (λb o hb e=>(sb.2 b hb).trans e) f0 f1 f3 f4 f5
  obtain⟨o,e,c,d⟩:=id st'
  exact⟨u,rfl,KQ e c d (by decide) ⟨x,H,I1,ru,⟨rfl,λys hy=>by rw[I.tuple_inj hy hq];exact hx⟩,st',λb hb=>(hf b hb).1⟩⟩
 done:=by
  intro X hP hw hK hc i pins s σ H E I hf st hg
  subst hP hw hK
  obtain⟨xs,hq,hx⟩:=hg
  obtain⟨its,rv,p,hz⟩:=I.tuple hq
  obtain⟨f0,f1,f2,f3,f4,f5⟩:=hf it (by simp)
  have hl:=rv.length
  exact wpAny_pyNext_tuple_end (I.ok.hd hc) st (show s.heap.IsTuple a its.toArray from p) (by simp;omega) λh' eb=>⟨rfl,I.turned (t':=s.toks) (λb o hb e=>eb b o hb e) f0 f1 f3 f4 f5⟩
 self:=λ_ _ _ _ _ st h=>wpAny_pyIter_tupleiter st h
theorem Ku{w:World}{K:Ah}(it:Ap)(lo:Int)(n:Nat):vS P w K tg (Itr lo n) [it] it (λi h=>IsRangeIter h it (lo+(i:Nat)*1) ((n:Int)-(i:Nat)) 1) where
 mem:=by simp
 obj:=λi h st b hb=>by
  have e:b=it:=by simpa using hb
  subst e
  exact⟨_,st,λv z=>by
   have z':Data.fields _=Data.cell v:=z
   cases z'⟩
 keep:=λi h h' st k=>k it (by simp) _ st
 item:=by
  intro X hP hw hK hc i pins s σ H E I hf st hg
  subst hP hw hK
  obtain⟨f0,f1,f2,f3,f4,f5⟩:=hf it (by simp)
  have W:=Walks.range (prog:=X.prog) (w:=X.w) (I.ok.hd hc) it lo 1 n
  refine W.item i s _ _ hg st λv h' tk hv st' kk=>?_
  obtain⟨t,rfl⟩:=hv
  have I1:Inv X pins σ H { s with heap:=h',toks:=tk }:=I.turned (λb o hb e=>kk b o (by simpa using hb) e) f0 f1 f3 f4 f5
  refine⟨_,rfl,KQ (s:={ s with heap:=h',toks:=tk }) (n:= "range_iterator") st' rfl rfl (by decide) ⟨.int (lo+i),H,I1,⟨t,?_⟩,⟨rfl,rfl⟩,st',λb hb=>(hf b hb).1⟩⟩
  rw[Int.mul_one]
 done:=by
  intro X hP hw hK hc i pins s σ H E I hf st hg
  subst hP hw hK
  obtain⟨f0,f1,f2,f3,f4,f5⟩:=hf it (by simp)
  exact wpAny_pyNext_range_end (I.ok.hd hc) st (by have:n<=i:=hg;omega) λh' eb=>⟨rfl,I.turned (t':=s.toks) (λb o hb e=>eb b o hb e) f0 f1 f3 f4 f5⟩
 self:=λ_ _ _ _ _ st h=>wpAny_pyIter_rangeiter st h
section
variable {X:Cx}{tg:Expr}
def zjq(K:Ah)(tl:TE):TI:=λσ H R=>tl σ H λx H1=>∃ a,x=.ref a/\(∃ xs,SqL K H1 a xs)/\R (Itl K a) H1
def iTup(K:Ah)(tl:TE):TI:=λσ H R=>tl σ H λx H1=>∃ a,x=.ref a/\(∃ xs,SqT K H1 a xs)/\R (Itt K a) H1
theorem K6{l:Expr}{tl:TE}(hl:PE X l tl):PI X tg l (zjq X.K tl):=by
 intro pins s σ H R I h
 refine thn (hl pins s σ H _ I h) λv s1 ⟨x,H1,I1,r1,q1⟩=>?_
 obtain⟨a,e,⟨xs,hq⟩,q⟩:=q1
 subst e
 cases r1
 obtain⟨its,rv,p,hz⟩:=I1.list hq
 refine wpAny_pyIter_list p.isList ?_
 refine⟨⇑s1,[⇑s1],_,_,H1,rfl,I1.kept λb o e=>x6 _ e,zbq a _,⟨_,Xa _ rfl,rfl,rfl⟩,λb hb=>?_,q⟩
 have e:b=⇑s1:=by simpa using hb
 subst e
 exact I1.fpOk (xi _) (I1.hok.fresh (xi _))
theorem zh5{l:Expr}{tl:TE}(hl:PE X l tl):PI X tg l (iTup X.K tl):=by
 intro pins s σ H R I h
 refine thn (hl pins s σ H _ I h) λv s1 ⟨x,H1,I1,r1,q1⟩=>?_
 obtain⟨a,e,⟨xs,hq⟩,q⟩:=q1
 subst e
 cases r1
 obtain⟨its,rv,p,hz⟩:=I1.tuple hq
 refine wpAny_pyIter_tuple (show s1.heap.IsTuple a its.toArray from p) ?_
 refine⟨⇑s1,[⇑s1],_,_,H1,rfl,I1.kept λb o e=>x6 _ e,Kv a _,⟨_,Xa _ rfl,rfl,rfl⟩,λb hb=>?_,q⟩
 have e:b=⇑s1:=by simpa using hb
 subst e
 exact I1.fpOk (xi _) (I1.hok.fresh (xi _))
theorem zdd{pins:Ak}{σ:St}{H:Hp}{s:Am}{R:It->Hp->Prop}{E:Af}{lo hi:Int}{t u v:Tok}{tk:Nat}(I:Inv X pins σ H s)(h1: -(2 ^ 62)<=lo)(h2:lo<2 ^ 62)(h3: -(2 ^ 62)<=hi)(h4:hi<2 ^ 62)
  (q:R (Itr lo (hi-lo).toNat) H):∅ (pyIter (.ref ⇑s)) (PIE X pins σ tg R) E { s with heap:=s.heap.push { cls:=.type "range",data:=.fields #[.int lo t,.int hi u,.int 1 v] },toks:=tk }:=by
 refine wpAny_pyIter_range (IsRange.new ..) (small_one h1 h2 h3 h4) ?_
 have I1:Inv X pins σ H { s with heap:=s.heap.push { cls:=.type "range",data:=.fields #[.int lo t,.int hi u,.int 1 v] },toks:=tk }:=I.kept λb o e=>x6 _ e
 refine⟨(s.heap.push { cls:=.type "range",data:=.fields #[.int lo t,.int hi u,.int 1 v] }).objs.size,[(s.heap.push { cls:=.type "range",data:=.fields #[.int lo t,.int hi u,.int 1 v] }).objs.size],_,_,H,rfl,
  I1.kept λb o e=>x6 _ e,Ku _ lo (hi-lo).toNat,?_,λb hb=>?_,q⟩
 ·have e1:lo+((0:Nat):Int)*1=lo:=by simp
  have e2:(((hi-lo).toNat:Nat):Int)-((0:Nat):Int)=Builtin.Range.rangeSize lo hi 1:=by rw[rangeSize_one];split<;>omega
  rw[e1,e2]
  exact Xa _ rfl
 ·have e:b=(s.heap.push { cls:=.type "range",data:=.fields #[.int lo t,.int hi u,.int 1 v] }).objs.size:=by simpa using hb
  subst e
  exact I1.fpOk (xi _) (I1.hok.fresh (xi _))
def zjr(ta:TA):TI:=λσ H R=>ta σ H λvs H1=>∃ j:Int,vs= [.int j]/\ -(2 ^ 62)<=j/\j<2 ^ 62/\R (Itr 0 j.toNat) H1
theorem za8 {a:Expr}{ta:TA}{p pos:Pos}(hg:Gl X "range") (hm:X.mg "range" =none) (ha:PA X [a] ta) (hs:a⁻¹:=by rfl):PI X tg (.Call (.Name "range" p) [a] [] pos) (zjr ta):=by
 intro pins s σ H R I h
 refine Call_ (QH I hg hm boot_range (PyProof.Rows.callWith_type1 (thn (ha pos pins s σ H _ I h) λus s1 ⟨vs,H1,I1,r1,q1⟩=>?_) hs rfl))
 obtain⟨j,e,q1,q2,q⟩:=q1
 subst e
 cases r1 with
 |cons r rr=>
  cases rr
  obtain⟨t,rfl⟩:=r
  exact call_range_1 (zdd I1 (by omega) (by omega) q1 q2 (by simpa using q))
def tFor(wi:TI)(g:TG)(tb:TS):TS:=λD σ H=>wi σ H λJ H1=>∃ W:Nat->Nat->St->Hp->Prop,(∃ m,W 0 m σ H1)/\∀ i m σ H,W i m σ H ->
 (J.stop i H/\D.nx σ H)∨(J.go i H/\∃ N:St->Hp->Prop,(∀ σ' H',N σ' H'->∃ m',m'<m/\W (i+1) m' σ' H')/\∀ x H',J.yld i H x H'->g x σ H' λσ2 H2=>tb { D with nx:=N,ct:=N,bk:=D.nx } σ2 H2)
noncomputable def vw(fp:List Ap)(h:Heap):Ak:=fp.filterMap λb=>(h.get? b).map λo=>(b,o)
theorem qP{fp:List Ap}{h:Heap}{b:Ap}{o:Obj}(hb:b∈fp)(e:h.get? b=some o):(b,o)∈vw fp h:=uE.mpr ⟨b,hb,by rw[e];rfl⟩
theorem za3(hp:p∈vw fp h):p.1∈fp/\h.get? p.1=some p.2:=by
 obtain⟨b,hb,e⟩:=uE.mp hp
 cases q:h.get? b with
 |none=>rw[q]at e;cases e
 |some o=>
  rw[q]at e
  have e':=Option.some.inj e
  subst e'
  exact⟨hb,q⟩
theorem Inv.pinned{pins:Ak}{σ:St}{H:Hp}{s:Am}{fp:List Ap}(I:Inv X pins σ H s)(hf:∀ b∈fp,Q4 X pins H b)(ho:∀ b∈fp,∃ o,s.heap.get? b=some o/\∀ v,o.data≠ .cell v):Inv X (pins++vw fp s.heap) σ H s :=
 I.pins_of λp hp=>(xM.mp hp).elim (λz=>I.pin p (xz _ z)) λz=>by
  obtain⟨hb,e⟩:=za3 z
  obtain⟨f0,f1,f2,_⟩:=hf p.1 hb
  obtain⟨o,e',d⟩:=ho p.1 hb
  rw[e]at e';cases e'
  exact⟨e,f0,f1,f2,d⟩
theorem Inv.unpinned{pins pl:Ak}{σ:St}{H:Hp}{s:Am}(I:Inv X (pins++pl) σ H s):Inv X pins σ H s:=I.pins_of λp hp=>I.pin p (xz _ (uj _ hp))
theorem zc8{iter:Expr}{body:List Stmt}{wi:TI}{g:TG}{tb:TS}{pos:Pos}(hp:PassesOwn (model X.prog X.w) X.A X.env X.xe)(hc:X.calm=true)(hi:PI X tg iter wi)(hg:PG X tg g)(hb:PSs X body tb)
  (hs:∀ x,foldedSetIterable iter X.env x=pure x:=by intro _;rfl):PS X (.For tg iter body [] pos) (tFor wi g tb):=by
 intro pins s σ H D I h
 refine wpAny_For (thn (hi pins s σ H _ I h) λv s1 h1=>thn h1 λitv s2 h2=>?_) hs
 obtain⟨it,fp,tn,J,H2,e,I2,T,st2,f2,W,⟨m0,w0⟩,turn⟩:=h2
 subst e
 -- what stays true of the iterator's objects through the loop
 have stat:∀{H':Hp},(∀ b∈fp,H' b=none)->∀ b∈fp,Q4 X pins H' b:=λhn b hb=>⟨hn b hb,(f2 b hb).2⟩
 refine codeAny_forLoop_any (λn s'=>∃ i σ' H',Inv X pins σ' H' s'/\tn i s'.heap/\(∀ b∈fp,H' b=none)/\W i n σ' H') ?_ m0 ⟨0,σ,H2,I2,st2,λb hb=>(f2 b hb).1,w0⟩
 rintro n s3 ⟨i,σ3,H3,I3,st3,fr3,w3⟩
 rcases turn i n σ3 H3 w3 with ⟨stop,qn⟩ | ⟨go,N,hN,step⟩
 ·refine wpAny_passesOwn hp (thn (T.done X rfl rfl rfl hc i pins s3 σ3 H3 X.xe I3 (stat fr3) st3 stop) λr s4 ⟨hr,I4⟩=>?_)
  subst hr
  exact wpAny_execs_nil ⟨σ3,H3,I4,qn⟩
 ·refine wpAny_passesOwn hp (thn (T.item X rfl rfl rfl hc i pins s3 σ3 H3 X.xe I3 (stat fr3) st3 go) λr s4 ⟨u,hr,h4⟩=>?_)
  subst hr
  refine wpAny_passesOwn hp (thn h4 λ_ s5 ⟨x,H5,I5,r5,y5,st5,fr5⟩=>?_)
  have I5':=I5.pinned (stat fr5) (T.obj _ _ st5)
  refine wpAny_passesOwn hp (thn (hg _ s5 σ3 H5 x u _ I5' r5 (step x H5 y5)) λ_ s6 ⟨σ6,H6,I6,q6⟩=>?_)
  refine wpAny_passesOwn hp (thn (hb _ s6 σ6 H6 _ I6 q6) λf s7 q7=>?_)
  have again:∀{σ7:St}{H7:Hp},Inv X (pins++vw fp s5.heap) σ7 H7 s7->N σ7 H7->∃ m,m<n/\∃ i σ' H',Inv X pins σ' H' s7/\tn i s7.heap/\(∀ b∈fp,H' b=none)/\W i m σ' H':=λ{σ7 H7} I7 n7=>by
   obtain⟨m',hm,w7⟩:=hN σ7 H7 n7
   refine⟨m',hm,i+1,σ7,H7,I7.unpinned,T.keep _ _ _ st5 λb hb o e=>(I7.pin (b,o) (xz _ (xz _ (qP hb e)))).1,λb hb=>?_,w7⟩
   obtain⟨o,e,d⟩:=T.obj _ _ st5 b hb
   exact (I7.pin (b,o) (xz _ (xz _ (qP hb e)))).2.1
  cases f with
  |next=>obtain⟨σ7,H7,I7,n7⟩:=q7;exact again I7 n7
  |cont=>obtain⟨σ7,H7,I7,n7⟩:=q7;exact again I7 n7
  |brk=>obtain⟨σ7,H7,I7,q7⟩:=q7;exact⟨σ7,H7,I7.unpinned,q7⟩
  |ret v=>obtain⟨x7,σ7,H7,I7,r7,q7⟩:=q7;exact⟨x7,σ7,H7,I7.unpinned,r7,q7⟩
end
theorem zci{K:Ah}{g:TG}{tb:TS}{D:Zf}{σ:St}{H:Hp}(Pv:Nat->St->Hp->Prop)(h0:Pv 0 σ H)(hl:∀ i σ H,i<=xs.length->Pv i σ H->SqL K H a xs)
  (hs:∀ i x σ H,xs[i]?=some x->Pv i σ H->g x σ H λσ2 H2=>tb { D with nx:=Pv (i+1),ct:=Pv (i+1),bk:=D.nx } σ2 H2) (hd:∀ σ H,Pv xs.length σ H->D.nx σ H) :
  ∃ W:Nat->Nat->St->Hp->Prop,(∃ m,W 0 m σ H)/\∀ i m σ H,W i m σ H ->
   ((Itl K a).stop i H/\D.nx σ H)∨((Itl K a).go i H/\∃ N:St->Hp->Prop,(∀ σ' H',N σ' H'->∃ m',m'<m/\W (i+1) m' σ' H')/\∀ x H',(Itl K a).yld i H x H'->g x σ H' λσ2 H2=>tb { D with nx:=N,ct:=N,bk:=D.nx } σ2 H2):=by
 refine⟨λi m σ H=>m=xs.length-i/\i<=xs.length/\Pv i σ H,⟨xs.length,by simp,ug _,h0⟩,?_⟩
 rintro i m σ H ⟨rfl,hi,p⟩
 have q:=hl i σ H hi p
 by_cases hlt:i<xs.length
 ·refine .inr ⟨⟨xs,xs[i],q,by simp[hlt]⟩,Pv (i+1),λσ' H' p'=>⟨xs.length-(i+1),by omega,rfl,hlt,p'⟩,λx H' y=>?_⟩
  obtain⟨e,y⟩:=y
  subst e
  exact hs i x σ _ (y xs q) p
 ·have e:i=xs.length:=by omega
  subst e
  exact .inl ⟨⟨xs,q,xi _⟩,hd σ H p⟩
abbrev R2:=V->V->Hp->VK->Prop
def OpR(X:Cx)(f:Aj->Aj->Sem Aj)(r:R2):Prop :=
 ∀(pins:Ak)(s:Am)(σ:St)(H:Hp)(x y:V)(v u:Aj)(Q:VK),Inv X pins σ H s->RelV x v->RelV y u->r x y H Q ->
  ∅ (f v u) (EP X pins σ Q) X.xe s
def UnR(X:Cx)(f:Aj->Sem Aj)(r:V->Hp->VK->Prop):Prop :=
 ∀(pins:Ak)(s:Am)(σ:St)(H:Hp)(x:V)(v:Aj)(Q:VK),Inv X pins σ H s->RelV x v->r x H Q ->
  ∅ (f v) (EP X pins σ Q) X.xe s
def qZ(X:Cx)(f:Aj)(r:List V->Hp->VK->Prop):Prop :=
 ∀(pins:Ak)(s:Am)(σ:St)(H:Hp)(xs:List V)(us:An)(Q:VK),Inv X pins σ H s->Vals xs us->r xs H Q ->
  ∅ (call f us) (EP X pins σ Q) X.xe s
def TruR(X:Cx)(r:V->Hp->(Bool->Hp->Prop)->Prop):Prop :=
 ∀(pins:Ak)(s:Am)(σ:St)(H:Hp)(x:V)(v:Aj)(Q:Bool->Hp->Prop),Inv X pins σ H s->RelV x v->r x H Q ->
  ∅ (truthy v) (TP X pins σ Q) X.xe s
def tOp(r:R2)(ta tb:TE):TE:=λσ H Q=>ta σ H λx H1=>tb σ H1 λy H2=>r x y H2 Q
def tUn(r:V->Hp->VK->Prop)(ta:TE):TE:=λσ H Q=>ta σ H λx H1=>r x H1 Q
noncomputable def rI(C:Int->Int->Prop)(g:Int->Int->V):R2:=λx y H Q=>∃ i j,x=.int i/\y=.int j/\C i j/\Q (g i j) H
noncomputable def rI0(g:Int->Int->V):R2:=λx y H Q=>∃ i j,x=.int i/\y=.int j/\Q (g i j) H
def rU(g:Int->V):V->Hp->VK->Prop:=λx H Q=>∃ i,x=.int i/\Q (g i) H
section
variable {X:Cx}{a b:Expr}{ta tb:TE}{pos:Pos}
theorem zg3(ha:PE X a ta)(hb:PE X b tb){pins:Ak}{s:Am}{σ:St}{H:Hp}{R:V->V->Hp->Prop}(I:Inv X pins σ H s)
  (h:ta σ H λx H1=>tb σ H1 λy H2=>R x y H2) {Q:Af} {f:Aj->Aj->Sem Aj}
  (hf:∀ v u s2 x y H2,Inv X pins σ H2 s2->RelV x v->RelV y u->R x y H2->∅ (f v u) Q X.xe s2) :
  ∅ (eval a X.env) (λv s₁=>∅ (eval b X.env) (λu s₂=>∅ (f v u) Q X.xe s₂) X.xe s₁) X.xe s:=by
 refine thn (ha pins s σ H _ I h) λv s1 ⟨x,H1,I1,r1,q1⟩=>?_
 refine thn (hb pins s1 σ H1 _ I1 q1) λu s2 ⟨y,H2,I2,r2,q2⟩=>?_
 exact hf v u s2 x y H2 I2 r1 r2 q2
theorem vp(ho:OpR X (binaryOp op) r)(ha:PE X a ta)(hb:PE X b tb):PE X (.BinOp a op b pos) (tOp r ta tb):=by
 cbv
 exact wpAny_BinOp (zg3 ha hb I h λv u s2 x y H2 I2 rx ry q=>ho pins s2 σ H2 x y v u Q I2 rx ry q)
theorem zgE{op:UnaryOp}{r:V->Hp->VK->Prop}(ho:UnR X (unaryOp op) r)(ha:PE X a ta):PE X (.UnaryOp op a pos) (tUn r ta):=by
 cbv
 exact UnaryOp_ (thn (ha pins s σ H _ I h) λv s1 ⟨x,H1,I1,r1,q1⟩=>ho pins s1 σ H1 x v Q I1 r1 q1)
theorem opI{f:Aj->Aj->Sem Aj}{C:Int->Int->Prop}{g:Int->Int->Int}
  (rule:∀(i j:Int)(t u:Tok)(s:Am)(Q:Af)(E:Af),C i j->Q (.int (g i j) s.toks) { s with toks:=s.toks+1 }->∅ (f (.int i t) (.int j u)) Q E s) :
  OpR X f (rI C λi j=>.int (g i j)):=by
 intro pins s σ H x y v u Q I rx ry h
 obtain⟨i,j,rfl,rfl,hc,q⟩:=h
 obtain⟨t,rfl⟩:=rx
 obtain⟨t',rfl⟩:=ry
 exact rule i j t t' s _ _ hc ⟨.int (g i j),H,I.tok _,⟨_,rfl⟩,q⟩
theorem zhQ{f:Aj->Aj->Sem Aj}{g:Int->Int->Int}
  (rule:∀(i j:Int)(t u:Tok)(s:Am)(Q:Af)(E:Af),Q (.int (g i j) s.toks) { s with toks:=s.toks+1 }->∅ (f (.int i t) (.int j u)) Q E s) :
  OpR X f (rI0 λi j=>.int (g i j)):=by
 intro pins s σ H x y v u Q I rx ry h
 obtain⟨i,j,rfl,rfl,q⟩:=h
 obtain⟨t,rfl⟩:=rx
 obtain⟨t',rfl⟩:=ry
 exact rule i j t t' s _ _ ⟨.int (g i j),H,I.tok _,⟨_,rfl⟩,q⟩
theorem zfa{f:Aj->Aj->Sem Aj}{g:Int->Int->Bool}
  (rule:∀(i j:Int)(t u:Tok)(s:Am)(Q:Af)(E:Af),Q (.bool (g i j)) s->∅ (f (.int i t) (.int j u)) Q E s) :
  OpR X f (rI0 λi j=>.bl (g i j)):=by
 intro pins s σ H x y v u Q I rx ry h
 obtain⟨i,j,rfl,rfl,q⟩:=h
 obtain⟨t,rfl⟩:=rx
 obtain⟨t',rfl⟩:=ry
 exact rule i j t t' s _ _ ⟨.bl (g i j),H,I,rfl,q⟩
def CDiv(i j:Int):Prop:=0<j/\j<1073741824
def zi8(i j:Int):Prop:=0<=j/\j<=1000000/\i.natAbs<2 ^ 64
def CMul(i j:Int):Prop:=(-(2 ^ 64)<i/\i<2 ^ 64)∨(-(2 ^ 64)<j/\j<2 ^ 64)
theorem CMul.ok{i j:Int}(h:CMul i j):IntMulOk i j:=by
 rcases h with ⟨h1,h2⟩ | ⟨h1,h2⟩
 ·exact .of_left (intBits_le_64 h1 h2)
 ·exact .of_right (intBits_le_64 h1 h2)
theorem Kw(k:Nat):(0:Int)<=2 ^ k:=by
 rw[two_pow_cast]
 exact Int.natCast_nonneg _
theorem Kb:OpR X (binaryOp .Add) (rI0 λi j=>.int (i+j)):=zhQ λ_ _ _ _ _ _ _ q=>add_int q
theorem zhZ:OpR X (binaryOp .Sub) (rI0 λi j=>.int (i-j)):=zhQ λ_ _ _ _ _ _ _ q=>sub_int q
theorem zcP:OpR X (binaryOp .Mult) (rI CMul λi j=>.int (i*j)):=opI λ_ _ _ _ _ _ _ hc q=>mul_int q hc.ok
theorem zfc:OpR X (binaryOp .FloorDiv) (rI CDiv λi j=>.int (i / j)):=opI λi j _ _ _ _ _ hc q=>by
 have h1:=hc.1
 have h2:=hc.2
 exact floordiv_int (by omega) (by rw[Int.fdiv_eq_ediv_of_nonneg i (by omega)];exact q) (.inl (PyProof.noPylong_small (by omega)))
theorem zcO:OpR X (binaryOp .Mod) (rI (λ_ j=>0<j) λi j=>.int (i % j)):=opI λi j _ _ _ _ _ hc q=>by
 have h1:=hc
 exact mod_int' (by omega) (by rw[Int.fmod_eq_emod_of_nonneg i (by omega)];exact q)
theorem zhV:OpR X (binaryOp .Pow) (rI zi8 λi j=>.int (i ^ j.toNat)):=opI λ_ _ _ _ _ _ _ hc q=>pow_int_small hc.1 hc.2.1 hc.2.2 q
theorem zhW:OpR X (binaryOp .LShift) (rI zi8 λi j=>.int (i*2 ^ j.toNat)):=opI λ_ _ _ _ _ _ _ hc q=>lshift_int_small hc.1 hc.2.1 hc.2.2 q
theorem zhX:OpR X (binaryOp .RShift) (rI (λ_ j=>0<=j) λi j=>.int (i / 2 ^ j.toNat)):=opI λi j _ _ _ _ _ hc q=>
 rshift_int hc (by rw[Int.fdiv_eq_ediv_of_nonneg i (Kw _)];exact q)
theorem zhR:OpR X (binaryOp .BitAnd) (rI0 λi j=>.int (Builtin.bitAnd i j)):=zhQ λ_ _ _ _ _ _ _ q=>and_int q
theorem unI{f:Aj->Sem Aj}{g:Int->Int}
  (rule:∀(i:Int)(t:Tok)(s:Am)(Q:Af)(E:Af),Q (.int (g i) s.toks) { s with toks:=s.toks+1 }->∅ (f (.int i t)) Q E s) :
  UnR X f (rU λi=>.int (g i)):=by
 intro pins s σ H x v Q I rx h
 obtain⟨i,rfl,q⟩:=h
 obtain⟨t,rfl⟩:=rx
 exact rule i t s _ _ ⟨.int (g i),H,I.tok _,⟨_,rfl⟩,q⟩
theorem ziZ:UnR X (unaryOp .USub) (rU λi=>.int (-i)):=unI λ_ _ _ _ _ q=>neg_int q
end
section
variable {X:Cx}{a b c:Expr}{ta tb tc:TE}{pos:Pos}
theorem zcg(I:Inv X pins σ H s)(q:Q (.bl k) H)(e:k=k'):EP X pins σ Q (.bool k') s:=by
 subst e
 exact⟨.bl k,H,I,rfl,q⟩
theorem zjy:OpR X (compareOp .Lt) (rI0 λi j=>.bl (decide (i<j))):=zfa λ_ _ _ _ _ _ _ q=>lt_int q
theorem zjx:OpR X (compareOp .LtE) (rI0 λi j=>.bl (decide (i<=j))):=zfa λ_ _ _ _ _ _ _ q=>le_int q
theorem zjw:OpR X (compareOp .Gt) (rI0 λi j=>.bl (decide (j<i))):=zfa λ_ _ _ _ _ _ _ q=>gt_int q
theorem zjv:OpR X (compareOp .GtE) (rI0 λi j=>.bl (decide (j<=i))):=zfa λ_ _ _ _ _ _ _ q=>ge_int q
theorem zhU:OpR X (compareOp .Is) (λx y H Q=>y=.non/\Q (.bl (decide (x=.non))) H):=by
 intro pins s σ H x y v u Q I rx ry h
 obtain⟨rfl,q⟩:=h
 cases ry
 refine is_none_gen (zcg I q ?_)
 cases x<;>first
  | (cases rx;rfl)
  | (obtain⟨t,rfl⟩:=rx;rfl)
theorem zfe:OpR X (compareOp .IsNot) (λx y H Q=>y=.non/\Q (.bl (!decide (x=.non))) H):=by
 intro pins s σ H x y v u Q I rx ry h
 obtain⟨rfl,q⟩:=h
 cases ry
 refine isnot_none_gen (zcg I q ?_)
 cases x<;>first
  | (cases rx;rfl)
  | (obtain⟨t,rfl⟩:=rx;rfl)
theorem zfi(ho:OpR X (compareOp op) r)(ha:PE X a ta)(hb:PE X b tb)(hm:behindInMarks op b=false):PE X (.Compare a [op] [b] pos) (tOp r ta tb):=by
 cbv
 exact wpAny_Compare1 (zg3 ha hb I h λv u s2 x y H2 I2 rx ry q=>ho pins s2 σ H2 x y v u Q I2 rx ry q) hm
def zgL(t:TE):TT:=λσ H Q=>t σ H λx H'=>∃ k,x=.bl k/\Q k H'
theorem zfs{op:CmpOp}{r:R2}(ho:OpR X (compareOp op) r)(ha:PE X a ta)(hb:PE X b tb)(hm:behindInMarks op b=false):PT X (.Compare a [op] [b] pos) (zgL (tOp r ta tb)):=by
 cbv
 refine wpAny_isTrue_Compare1 (thn (ha pins s σ H _ I h) λv s1 ⟨x,H1,I1,r1,q1⟩=>thn (hb pins s1 σ H1 _ I1 q1) λu s2 ⟨y,H2,I2,r2,q2⟩=>
  thn (ho pins s2 σ H2 x y v u _ I2 r1 r2 q2) λc s3 ⟨z,H3,I3,r3,k,e,q3⟩=>?_) hm
 subst e
 cases r3
 exact Xj ⟨H3,I3,q3⟩
def Kp(r r':R2)(ta tb tc:TE):TE:=λσ H Q=>ta σ H λx H1=>tb σ H1 λy H2=>r x y H2 λz H3=>∃ k,z=.bl k /\
 (if k=true then tc σ H3 λw' H4=>r' y w' H4 Q else Q (.bl false) H3)
theorem zcS{op op':CmpOp}{r r':R2}(ho:OpR X (compareOp op) r)(ho':OpR X (compareOp op') r')(ha:PE X a ta)(hb:PE X b tb)(hc:PE X c tc)
  (hm:lastMarks [op,op'] [b,c]=false:=by with_unfolding_all rfl):PE X (.Compare a [op,op'] [b,c] pos) (Kp r r' ta tb tc):=by
 cbv
 refine Compare_chain (thn (ha pins s σ H _ I h) λv s1 ⟨x,H1,I1,r1,q1⟩=>chain_link (thn (hb pins s1 σ H1 _ I1 q1) λu s2 ⟨y,H2,I2,r2,q2⟩=>
  thn (ho pins s2 σ H2 x y v u _ I2 r1 r2 q2) λd s3 ⟨z,H3,I3,r3,k,e,q3⟩=>?_)) hm
 subst e
 cases r3
 refine Xj ?_
 cases k with
 |false=>exact ite_ff ⟨.bl false,H3,I3,rfl,q3⟩
 |true=>exact ite_tt (chain_last (thn (hc pins s3 σ H3 _ I3 q3) λw' s4 ⟨z',H4,I4,r4,q4⟩=>ho' pins s4 σ H4 y z' u w' Q I4 r2 r4 q4))
theorem zdb{op op':CmpOp}{r r':R2}(ho:OpR X (compareOp op) r)(ho':OpR X (compareOp op') r')(ha:PE X a ta)(hb:PE X b tb)(hc:PE X c tc)
  (hm:lastMarks [op,op'] [b,c]=false:=by with_unfolding_all rfl):PT X (.Compare a [op,op'] [b,c] pos) (zgL (Kp r r' ta tb tc)):=by
 cbv
 refine isTrue_chain (thn (ha pins s σ H _ I h) λv s1 ⟨x,H1,I1,r1,q1⟩=>test_link (thn (hb pins s1 σ H1 _ I1 q1) λu s2 ⟨y,H2,I2,r2,q2⟩=>
  thn (ho pins s2 σ H2 x y v u _ I2 r1 r2 q2) λd s3 ⟨z,H3,I3,r3,k,e,q3⟩=>?_)) hm
 subst e
 cases r3
 refine Xj ?_
 cases k with
 |false=>
  obtain⟨k',e',q'⟩:=q3
  cases e'
  exact ite_ff ⟨H3,I3,q'⟩
 |true=>
  refine ite_tt (test_last (thn (hc pins s3 σ H3 _ I3 q3) λw' s4 ⟨z',H4,I4,r4,q4⟩=>thn (ho' pins s4 σ H4 y z' u w' _ I4 r2 r4 q4) λd' s5 ⟨z2,H5,I5,r5,k2,e2,q5⟩=>?_))
  subst e2
  cases r5
  exact Xj ⟨H5,I5,q5⟩
def zei(K:Ah)(x:V)(H:Hp)(k:Bool):Prop :=
 match x with
 |.non=>k=false
 |.bl b=>k=b
 |.int i=>k=(i !=0)
 |.str y=>y.length<=sizeLine/\k=((y.length:Int) !=0)
 |.byt y=>y.size<=sizeLine/\k=((y.size:Int) !=0)
 |.ref p=>(∃ xs,SqL K H p xs/\k= !xs.isEmpty)∨(∃ xs,SqT K H p xs/\k= !xs.isEmpty)∨∃ kvs,H p=some (.dK kvs)/\k= !kvs.isEmpty
 |_=>False
theorem kT{κ:Type}{kvs:List (κ×V)}{vs:List (κ×Value)}(r:KV kvs vs):(!vs.isEmpty)= !kvs.isEmpty:=by
 cases r<;>rfl
theorem W9{xs:List V}{its:An}(r:Vals xs its):(!its.toArray.isEmpty)= !xs.isEmpty:=by
 cases r<;>simp
theorem wo:(sizeLine:Nat)<2 ^ 63:=by rw[Xg];decide
theorem zdL:TruR X (λx H Q=>∃ k,zei X.K x H k/\Q k H):=by
 intro pins s σ H x v Q I rx h
 obtain⟨k,e,q⟩:=h
 have hl:=wo
 have hs:=Xg
 cases x with
 |non=>
  cases rx
  have e':=e
  subst e'
  exact truthy_none ⟨H,I,q⟩
 |bl b=>
  cases rx
  have e':=e
  subst e'
  exact Xj ⟨H,I,q⟩
 |int i=>
  obtain⟨t,rfl⟩:=rx
  have e':=e
  subst e'
  exact PySem.P.truthy_int ⟨H,I,q⟩
 |str y=>
  obtain⟨t,rfl⟩:=rx
  obtain⟨hy,e'⟩:y.length<=sizeLine/\k=((y.length:Int) !=0):=e
  subst e'
  exact PySem.P.truthy_str (by omega) ⟨H,I.tok _,q⟩
 |byt y=>
  obtain⟨t,rfl⟩:=rx
  obtain⟨hy,e'⟩:y.size<=sizeLine/\k=((y.size:Int) !=0):=e
  subst e'
  exact W.truthy_bytes (by omega) ⟨H,I.tok _,q⟩
 |ref p=>
  cases rx
  have e':=e
  rcases e' with ⟨xs,hx,e'⟩ | ⟨xs,hx,e'⟩ | ⟨kvs,hx,e'⟩
  ·subst e'
   obtain⟨its,r,pl,hz⟩:=I.list hx
   have hlen:=r.length
   exact wpAny_truthy_list pl.isList (by simp only[xq];omega) ⟨H,I.tok _,by rw[W9 r];exact q⟩
  ·subst e'
   obtain⟨its,r,pl,hz⟩:=I.tuple hx
   have hlen:=r.length
   exact truthy_tuple pl (by simp only[xq];omega) ⟨H,I.tok _,by rw[W9 r];exact q⟩
  ·subst e'
   obtain⟨hz,hS,vs,r,m⟩:kvs.length<=sizeLine/\(p==sysModules)=false/\∃ vs,KV kvs vs/\s.heap.DictOf (zA X.prog X.w) p vs:=I.hok p _ hx
   have hlen:=Paired.length r
   exact wpAny_truthy_dict hS m (by omega) ⟨H,I.tok _,by rw[kT r];exact q⟩
 |_=>exact (show False from e).elim
theorem YA(ha:PE X a ta)(he:∀ whole,isTrue a X.env whole=(do let v<-whole;standAt a.pos;holding [v] (truthy v))) :
  PT X a (λσ H Q=>ta σ H λx H'=>∃ k,zei X.K x H' k/\Q k H'):=by
 cbv
 exact isTrue_plain (thn (ha pins s σ H _ I h) λv s1 ⟨x,H1,I1,r1,q1⟩=>zdL pins s1 σ H1 x v Q I1 r1 q1) (he _)
theorem jX(r:Vals [x] us):∃ u,us= [u]/\RelV x u:=by
 cases r with
 |cons r1 r2=>cases r2;exact⟨_,rfl,r1⟩
theorem zkb(r:Vals [x,y] us):∃ u w',us= [u,w']/\RelV x u/\RelV y w':=by
 cases r with
 |cons r1 r2=>
  cases r2 with
  |cons r3 r4=>cases r4;exact⟨_,_,rfl,r1,r3⟩
theorem Vp:qZ X (.type "int") (λxs H Q=>(∃ i,xs= [.int i]/\Q (.int i) H)∨∃ k,xs= [.bl k]/\Q (.int (if k then 1 else 0)) H):=by
 intro pins s σ H xs us Q I r h
 rcases h with ⟨i,rfl,q⟩ | ⟨k,rfl,q⟩
 ·obtain⟨u,rfl,t,rfl⟩:=jX r
  exact call_int_int ⟨.int i,H,I,⟨_,rfl⟩,q⟩
 ·obtain⟨u,rfl,r1⟩:=jX r
  cases r1
  exact call_int_bool ⟨.int (if k then 1 else 0),H,I.tok _,⟨_,rfl⟩,q⟩
end
structure ObjM(h:Heap)(x dx C:Ap)(mA:Aq):Prop where
 obj:h.get? x=some (W.instObj C dx)
 ns:h.Ns1 dx mA
 ne:dx≠x
theorem za0{h:Heap}(n:h.Ns1 dx mA):∃ od,h.get? dx=some od/\∀ name,W.lookIn name od=some (mA name):=by
 obtain⟨o,es,ep,ho,hd,hk,_,hm⟩:=n
 refine⟨o,ho,λname=>?_⟩
 have e:=hm name
 unfold nsFind findBy at e
 rw[<- Array.find?_toList]at e
 unfold W.lookIn
 rw[hd]
 dsimp only
 split
 next y q=>
  rw[q]at e
  exact congrArg some e
 next q=>
  rw[q]at e
  have a:es.toList.any (·.refKey)=false:=by
   rw[List.any_eq_false]
   intro y hy
   obtain⟨z,t,hkey⟩:=hk y (Array.mem_toList_iff.mp hy)
   simp[DictEntry.refKey,hkey]
  have a':¬ es.toList.any (·.refKey)=true:=by rw[a];exact Bool.false_ne_true
  rw[if_neg a']
  exact congrArg some e
theorem ObjM.look(I:ObjM h x dx C mA):∃ od,W.InstAt h x (W.instObj C dx) C (some od)/\∀ name,W.lookIn name od=some (mA name) :=
 let ⟨od,ho,hl⟩:=za0 I.ns
 ⟨od,⟨I.obj,rfl,rfl,ho⟩,hl⟩
section
variable {prog:Ar}{w:World}{A:Around}{E:Af}{s:Am}{K:Ah}{x dx C f:Ap}{mA:Aq}{name:Str}{v:Aj}
theorem zeU{expr:Bool}{Q:Af}(X:K.In s.heap)(I:ObjM s.heap x dx C mA)(hg:W.plainGet K C name=true)(hh:W.hasDictIn K C=true)
  (ha:W.findIn K (.ref C) name=some none) (hv:mA name=some v) (hv':W.handedIn v=true) (h:Q v { s with toks:=s.toks+1 }) :
  wpAny (model prog w) A (getAttr (.ref x) name expr) Q E s:=by
 obtain⟨od,J,hl⟩:=I.look
 exact W.get_value X J (W.plainGet_of hg).1 (W.findObj_own hh ha rfl (by rw[hl,hv])) hv' h
theorem zcl{pl:Sem Bool}{Q:Aj×An->Am->Prop}(X:K.In s.heap)(I:ObjM s.heap x dx C mA)(hg:W.plainGet K C name=true)
  (hf:W.findIn K (.ref C) name=some (some (.ref f))) (ht:W.isFn K (.ref f)=true) (hv:mA name=none) (h:Q (.ref f,[.ref x]) s) :
  wpAny (model prog w) A (getMethod (.ref x) name pl) Q E s:=by
 obtain⟨od,J,hl⟩:=I.look
 exact W.method_fn X J (W.plainGet_of hg).1 (W.plainGet_of hg).2 hf (beq_iff_eq.mp ht) (by show (W.lookIn name od).map (·.isSome)=some false;rw[hl,hv];rfl) h
theorem zfN{ns:Ab}{Q:Unit->Am->Prop}(X:K.In s.heap)(I:ObjM s.heap x dx C mA)
  (hs:W.findIn K (.ref C) "__setattr__" =some (some (.builtin "object.__setattr__"))) (hp:W.plainOver K C=true) (ht:W.takerIn K C name=some none) (hh:W.hasDictIn K C=true)
  (hw:PySem.Within mA ns) (hsz:ns.length<=sizeLine)
  (h:∀ h',ObjM h' x dx C (λy=>if y=name then some v else mA y)->Heap.SameBut dx s.heap h'->Q () { s with heap:=h',toks:=s.toks+2 }) :
  wpAny (model prog w) A (setAttr (.ref x) name v) Q E s:=by
 obtain⟨od,J,hl⟩:=I.look
 refine W.set_plain X J hs (W.osa_open X J hp ht λb=>?_)
 obtain⟨cd,hc,hd'⟩:=W.any_some hh
 have hx:=I.obj
 refine x5 (x9 (x5 (x5 (wpAny_loadPart hx (x5 (W.Looks.here (W.looks_clsIn X hc) ?_))))))
 rw[hd']
 refine x9 (x5 (x9 (x5 ?_)))
 refine wpAny_nsSet1 I.ns λh' hn2 hs2=>?_
 obtain⟨oD,esD,epD,hoD,hdD,hcD⟩:=hn2.count (PySem.Within.cons name v hw)
 refine x5 (wpAny_lookBehind hoD (by rw[hdD];exact pastItsLine_dict (xJ hcD (by rw[xr];omega))) ?_)
 exact x9 (h _ ⟨(hs2.2 _ (Ne.symm I.ne)).trans I.obj,hn2,I.ne⟩ hs2)
theorem zcD{R:Result->Am->Prop}{vs:An}{kw:List (Str×Value)}(X:K.In s.heap)(hm:W.makesIn K C=true)
  (hi:W.findIn K (.ref C) "__init__" =some (some (.ref f))) (hf:W.typeIn K (.ref f)=some (.type "function"))
  (h:codeAny (model prog w) (A.under (.builtin "type.__call__" ⟨.ref C::vs,kw⟩)) (.call (.ref f) ⟨.ref (⇑s+1)::vs,kw⟩) (W.InitBack (⇑s+1) R)
   { s with heap:=(s.heap.push W.emptyDict).push (W.instObj C ⇑s) }) :
  codeAny (model prog w) A (.call (.ref C) ⟨vs,kw⟩) R s:=by
 obtain⟨hh,g,d,t,os⟩:=s
 exact W.make_core (W.makes_of X hm) (W.looks_findIn X hi) (λself=>W.bind_fn X self hf) (.inl rfl) h
end
noncomputable def qz(f:Str)(v:V):List (Str×V)->List (Str×V)
 |[]=> [(f,v)]
 | (g,x)::r=>if g=f then (g,v)::r else (g,x)::qz f v r
theorem wQ(f g:Str)(v:V):∀ fs:List (Str×V),(qz f v fs).lookup g=if g=f then some v else fs.lookup g
 |[]=>by
  show List.lookup g [(f,v)]=_
  by_cases h:g=f
  ·have hb:=beq_iff_eq.mpr h
   simp only[List.lookup,hb,if_pos h]
  ·have hb:=Xb.mpr h
   simp only[List.lookup,hb,if_neg h]
 | (k,x)::r=>by
  have ih:=wQ f g v r
  rw[show qz f v ((k,x)::r)=(if k=f then (k,v)::r else (k,x)::qz f v r) from rfl]
  by_cases hk:k=f
  ·rw[if_pos hk]
   by_cases h:g=k
   ·have hb:=beq_iff_eq.mpr h
    simp only[List.lookup,hb,if_pos (h.trans hk)]
   ·have hb:=Xb.mpr h
    simp only[List.lookup,hb,if_neg (λe:g=f=>h (e.trans hk.symm))]
  ·rw[if_neg hk]
   by_cases h:g=k
   ·have hb:=beq_iff_eq.mpr h
    simp only[List.lookup,hb,if_neg (λe:g=f=>hk (h.symm.trans e))]
   ·have hb:=Xb.mpr h
    simp only[List.lookup,hb]
    exact ih
theorem wm(f:Str)(v:V):∀ fs:List (Str×V),f∈(qz f v fs).map (·.1)/\∀ g,g∈fs.map (·.1)->g∈(qz f v fs).map (·.1)
 |[]=>⟨by simp[qz],λg h=>by simp at h⟩
 | (k,x)::r=>by
  obtain⟨i1,i2⟩:=wm f v r
  rw[show qz f v ((k,x)::r)=(if k=f then (k,v)::r else (k,x)::qz f v r) from rfl]
  by_cases hk:k=f
  ·rw[if_pos hk]
   subst hk
   exact⟨by simp,λg h=>by simpa using h⟩
  ·rw[if_neg hk]
   refine⟨?_,λg h=>?_⟩
   ·rw[xw]
    exact xo _ i1
   ·rw[xw]at h |-
    rcases xC.mp h with e | e
    ·exact xC.mpr (.inl e)
    ·exact xo _ (i2 g e)
theorem wN(f:Str)(v:V):∀ fs:List (Str×V),(qz f v fs).length<=fs.length+1
 |[]=>by simp[qz]
 | (k,x)::r=>by
  have ih:=wN f v r
  rw[show qz f v ((k,x)::r)=(if k=f then (k,v)::r else (k,x)::qz f v r) from rfl]
  by_cases hk:k=f
  ·rw[if_pos hk,xr,xr];omega
  ·rw[if_neg hk,xr,xr];omega
theorem RelO.some_of(r:RelO (some v) o):∃ u,o=some u/\RelV v u:=by
 cases o with
 |none=>exact (show False from r).elim
 |some u=>exact⟨u,rfl,r⟩
theorem RelO.none_of(r:RelO none o):o=none:=by
 cases o with
 |none=>rfl
 |some u=>exact (show False from r).elim
theorem zaO(r:RelV v u):W.handedIn u=true:=by
 cases v with
 |non=>cases (show u=Value.none from r);rfl
 |bl b=>cases (show u=Value.bool b from r);rfl
 |int i=>obtain⟨t,e⟩:=(show ∃ t,u=Value.int i t from r);cases e;rfl
 |str x=>obtain⟨t,e⟩:=(show ∃ t,u=Value.str x t from r);cases e;rfl
 |byt b=>obtain⟨t,e⟩:=(show ∃ t,u=Value.bytes b t from r);cases e;rfl
 |flt b=>obtain⟨t,e⟩:=(show ∃ t,u=Value.float b t from r);cases e;rfl
 |ref a=>cases (show u=Value.ref a from r);rfl
 |ty n=>cases (show u=Value.type n from r);rfl
section
variable {P:Ar}{w:World}{H:Hp}{h:Heap}{a C dx:Ap}{fs:List (Str×V)}
theorem Wr(hok:HOk P w H h)(e:H a=some (.ins C dx fs)):∃ mA,ObjM h a dx C mA/\(∀ f,RelO (fs.lookup f) (mA f))/\PySem.Within mA (fs.map (·.1))/\fs.length<=1000/\H dx=some (.own a):=by
 obtain⟨d,z,ne,ob,mA,n,r,q⟩:=(show ObjOk P w H h a (.ins C dx fs) from hok a _ e)
 exact⟨mA,⟨ob,n,ne⟩,r,q,z,d⟩
end
structure Cls(K:Ah)(C:Ap):Prop where
 pg:W.plainGet K C Str.empty=true
 hd:W.hasDictIn K C=true
 po:W.plainOver K C=true
 sa:W.findIn K (.ref C) "__setattr__" =some (some (.builtin "object.__setattr__"))
theorem Cls.get{K:Ah}{C:Ap}(c:Cls K C)(f:Str):W.plainGet K C f=true:=c.pg
def NoAttr(K:Ah)(C:Ap)(f:Str):Prop:=W.findIn K (.ref C) f=some none
theorem NoAttr.taker{K:Ah}(n:NoAttr K C f):W.takerIn K C f=some none:=by
 unfold W.takerIn
 rw[show W.findIn K (.ref C) f=some none from n]
 rfl
structure Y6(K:Ah)(C:Ap)(m:Str)(f:Ap):Prop where
 at_:W.findIn K (.ref C) m=some (some (.ref f))
 fn:W.isFn K (.ref f)=true
 kp:W.keepIn K (.ref f)=true
section
variable {X:Cx}{pins:Ak}{σ:St}{H:Hp}{s:Am}{a C dx:Ap}{fs:List (Str×V)}{f:Str}{v:V}{A:Around}{E:Af}
theorem kN{b:Bool}{Q:Af}(I:Inv X pins σ H s)(e:H a=some (.ins C dx fs))(c:Cls X.K C)(n:NoAttr X.K C f)(l:fs.lookup f=some v)
  (h:∀ u s',Inv X pins σ H s'->RelV v u->Q u s'):wpAny (model X.prog X.w) A (getAttr (.ref a) f b) Q E s:=by
 obtain⟨mA,O,r,_,_,_⟩:=Wr I.hok e
 obtain⟨u,hu,ru⟩:=RelO.some_of (by rw[<- l];exact r f)
 exact zeU I.kIn O (c.get f) c.hd n hu (zaO ru) (h u _ (I.tok _) ru)
theorem W5{m:Str}{g:Ap}{pl:Sem Bool}{Q:Aj×An->Am->Prop}(I:Inv X pins σ H s)(e:H a=some (.ins C dx fs))(c:Cls X.K C)(k:Y6 X.K C m g)(l:fs.lookup m=none)
  (h:Q (.ref g,[.ref a]) s):wpAny (model X.prog X.w) A (getMethod (.ref a) m pl) Q E s:=by
 obtain⟨mA,O,r,_,_,_⟩:=Wr I.hok e
 have hn:=RelO.none_of (by rw[<- l];exact r m)
 exact zcl I.kIn O (c.get m) k.at_ k.fn hn h
theorem Kl{y:V}{u:Aj}{Q:Unit->Am->Prop}(I:Inv X pins σ H s)(e:H a=some (.ins C dx fs))(c:Cls X.K C)(n:NoAttr X.K C f)(hl:fs.length<1000)(ry:RelV y u)
  (h:∀ s',Inv X pins σ (upd H a (.ins C dx (qz f y fs))) s'->Q () s'):wpAny (model X.prog X.w) A (setAttr (.ref a) f u) Q E s:=by
 obtain⟨mA,O,r,wi,_,ho⟩:=Wr I.hok e
 have hz:(fs.map (·.1)).length<=sizeLine:=by rw[xn,Xg];omega
 refine zfN I.kIn O c.sa c.po n.taker c.hd wi hz λh' O' sb=>h _ ?_
 have hd:∃ o,h'.get? dx=some o:=let ⟨o,_,_,e',_⟩:=O'.ns;⟨o,e'⟩
 refine I.write (by rw[e];exact True.intro) (.inr ho) (λb q hb z=>(sb.2 b hb).trans z) hd ?_
 refine⟨by rw[ze O.ne];exact ho,?_,O.ne,O'.obj,_,O'.ns,λg=>?_,λg hg=>?_⟩
 ·have:=wN f y fs;omega
 ·show RelO ((qz f y fs).lookup g) (if g=f then some u else mA g)
  rw[wQ]
  by_cases q:g=f
  ·rw[if_pos q,if_pos q];exact ry
  ·rw[if_neg q,if_neg q];exact r g
 ·by_cases q:g=f
  ·rw[q];exact (wm f y fs).1
  ·refine (wm f y fs).2 g (wi g λz=>hg ?_)
   show (if g=f then some u else mA g)=none
   rw[if_neg q];exact z
theorem Inv.made(I:Inv X pins σ H s):Inv X pins σ (upd (upd H ⇑s (.own (⇑s+1))) (⇑s+1) (.ins C ⇑s []))
  { s with heap:=(s.heap.push W.emptyDict).push (W.instObj C ⇑s) }:=by
 have e1:(s.heap.push W.emptyDict).get? ⇑s=some W.emptyDict:=Xa s.heap rfl
 have e2:((s.heap.push W.emptyDict).push (W.instObj C ⇑s)).get? (⇑s+1)=some (W.instObj C ⇑s):=by
  have:=Xa (s.heap.push W.emptyDict) (o:=W.instObj C ⇑s) rfl
  rwa [Heap.size_push]at this
 have e3:(s.heap.push W.emptyDict).Ns ⇑s (λ_=>none):=⟨W.emptyDict,#[],_,e1,rfl,(λe he=>absurd he (by simp)),λ_=>rfl⟩
 have I1:=I.laid (a:=⇑s) (o:=.own (⇑s+1)) (h':=s.heap.push W.emptyDict) (t':=s.toks) (λb u q=>x6 _ q) (xi _) ⟨_,e1⟩
 refine I1.laid (a:=⇑s+1) (o:=.ins C ⇑s []) (t':=s.toks) (λb u q=>x6 _ q) (Nat.le_of_eq (Heap.size_push _ _)) ?_
 have ne:⇑s≠⇑s+1:=xk (uL _)
 refine⟨by rw[ze ne,zg],ug _,ne,e2,λ_=>none,(Heap.Ns1.of_empty e3).at λo q=>x6 _ q,λ_=>True.intro,λy hy=>absurd rfl hy⟩
theorem zen{prog:Ar}{w:World}{env:Env}{e:Expr}{f:Str}{pos:Pos}{s:Am}{Q:Af}(hb:attributeBase e f env (eval e env)=eval e env)
  (h:wpAny (model prog w) A (eval e env) (λo s₁=>wpAny (model prog w) A (getAttr o f true) Q E s₁) E s):wpAny (model prog w) A (eval (.Attribute e f pos) env) Q E s :=
 Attribute_any_ h (by rw[arm_eval_Attribute,hb])
end
def tFld(K:Ah)(ta:TE)(f:Str):TE:=λσ H Q=>ta σ H λx H1=>∃ a C dx fs v,x=.ref a/\H1 a=some (.ins C dx fs)/\Cls K C/\NoAttr K C f/\fs.lookup f=some v/\Q v H1
def sFld(K:Ah)(ta tv:TE)(f:Str):TS:=λD σ H=>tv σ H λy H1=>ta σ H1 λx H2=>∃ a C dx fs,x=.ref a/\H2 a=some (.ins C dx fs)/\Cls K C/\NoAttr K C f/\fs.length<1000 /\
 D.nx σ (upd H2 a (.ins C dx (qz f y fs)))
section
variable {X:Cx}{o e value:Expr}{f:Str}{pos pos':Pos}{ta tv:TE}
theorem zcX(he:PE X e ta)(hb:attributeBase e f X.env (eval e X.env)=eval e X.env):PE X (.Attribute e f pos) (tFld X.K ta f):=by
 cbv
 refine zen hb (thn (he pins s σ H _ I h) λu s1 ⟨x,H1,I1,rx,a,C,dx,fs,v,ex,ea,c,n,l,q⟩=>?_)
 subst ex
 obtain rfl:u=Value.ref a:=rx
 exact kN I1 ea c n l λu' s2 I2 ru=>⟨v,H1,I2,ru,q⟩
theorem zh7(ha:PE X o ta)(hv:PE X value tv)(hs:swapsWith value (some (.Attribute o f pos')) pos.line X.env=pure false):PS X (.Assign [.Attribute o f pos'] value pos) (sFld X.K ta tv f):=by
 intro pins s σ H D I h
 refine plainObj_wpAny_Assign_Attribute (thn (hv pins s σ H _ I h) λu s1 ⟨y,H1,I1,ry,q⟩=>thn (ha pins s1 σ H1 _ I1 q) λov s2 ⟨x,H2,I2,rx,a,C,dx,fs,ex,ea,c,n,l,q2⟩=>?_) hs
 subst ex
 obtain rfl:ov=Value.ref a:=rx
 exact Kl I2 ea c n l ry λs3 I3=>⟨σ,_,I3,q2⟩
end
section
variable {X:Cx}{pins:Ak}{σ:St}{H:Hp}{s:Am}{A:Around}{E:Af}{Q:Af}{c:Aj}{b:Bool}
inductive Q8(K:Ah)(H:Hp):V->Aj->Prop where
 |non:Q8 K H .non (.type "NoneType")
 |bl (x:Bool):Q8 K H (.bl x) (.type "bool")
 |int (i:Int):Q8 K H (.int i) (.type "int")
 |str (x:Str):Q8 K H (.str x) (.type "str")
 |flt (x:UInt64):Q8 K H (.flt x) (.type "float")
 |lst {a:Ap} {xs:List V} (e:H a=some (.lst xs)):Q8 K H (.ref a) (.type "list")
 |frz {a:Ap} {o:Obj} {xs:List V} (e:H a=some (.frz o (.lst xs))):Q8 K H (.ref a) (.type "list")
 |tup {a:Ap} {xs:List V} (e:H a=some (.tup xs)):Q8 K H (.ref a) (.type "tuple")
 |dK {a:Ap} {kvs:List (Key×V)} (e:H a=some (.dK kvs)):Q8 K H (.ref a) (.type "dict")
 |dT {a:Ap} {kvs:List (List Key×V)} (e:H a=some (.dT kvs)):Q8 K H (.ref a) (.type "dict")
 |ins {a C dx:Ap} {fs:List (Str×V)} (e:H a=some (.ins C dx fs)) (cl:Cls K C) (ha:W.findIn K (.ref C) "__class__" =some (some (.builtin "object.__class__")))
   (hn:W.specialIn K (.builtin "object.__class__") "__get__" =some (some (.builtin "getset_descriptor.__get__"))) (htk:W.takesIn K (.builtin "object.__class__")=some true)
   (hm:W.mroIn K C (.type "object")=some true):Q8 K H (.ref a) (.ref C)
theorem zaU(I:Inv X pins σ H s)(rx:RelV x u)(ty:Q8 X.K H x t)(e:W.kitOne X.K t c=some b)(h:∀ tk,Q (.bool b) { s with toks:=tk }) :
  wpAny (model X.prog X.w) A (call (.builtin "isinstance") [u,c]) Q E s:=by
 cases ty with
 |non=>cases (show u=Value.none from rx);exact W.kia_one W.kitx_none I.kIn True.intro e (λz=>nomatch z) h
 |bl y=>cases (show u=Value.bool y from rx);exact W.kia_one W.kitx_bool I.kIn True.intro e (λz=>nomatch z) h
 |int i=>obtain⟨t,q⟩:=(show ∃ t,u=Value.int i t from rx);cases q;exact W.kia_one W.kitx_int I.kIn True.intro e (λz=>nomatch z) h
 |str y=>obtain⟨t,q⟩:=(show ∃ t,u=Value.str y t from rx);cases q;exact W.kia_one W.kitx_str I.kIn True.intro e (λz=>nomatch z) h
 |flt y=>obtain⟨t,q⟩:=(show ∃ t,u=Value.float y t from rx);cases q;exact W.kia_one W.kitx_float I.kIn True.intro e (λz=>nomatch z) h
 | @lst a xs ea=>
  cases (show u=Value.ref a from rx)
  obtain⟨_,_,n,_,h1⟩:=(show ObjOk X.prog X.w H s.heap a (.lst xs) from I.hok a _ ea)
  exact W.kia_one W.kitx_list I.kIn ⟨_,h1,rfl⟩ e (λz=>nomatch z) h
 | @frz a ob xs ea=>
  cases (show u=Value.ref a from rx)
  obtain⟨_,_,_,n,_,h1⟩:=(show ObjOk X.prog X.w H s.heap a (.frz ob (.lst xs)) from I.hok a _ ea)
  exact W.kia_one W.kitx_list I.kIn ⟨_,h1,rfl⟩ e (λz=>nomatch z) h
 | @tup a xs ea=>
  cases (show u=Value.ref a from rx)
  obtain⟨_,_,_,p⟩:=(show ObjOk X.prog X.w H s.heap a (.tup xs) from I.hok a _ ea)
  obtain⟨o,h1,h2,_⟩:=p
  exact W.kia_one W.kitx_tuple I.kIn ⟨o,h1,h2⟩ e (λz=>nomatch z) h
 | @dK a kvs ea=>
  cases (show u=Value.ref a from rx)
  obtain⟨_,_,vs,_,p⟩:=(show ObjOk X.prog X.w H s.heap a (.dK kvs) from I.hok a _ ea)
  obtain⟨o,es,ep,h1,h2,_⟩:=p
  exact W.kia_one W.kitx_dict I.kIn ⟨o,h1,h2.1⟩ e (λz=>nomatch z) h
 | @dT a kvs ea=>
  cases (show u=Value.ref a from rx)
  obtain⟨_,_,xs,_,o,es,ep,h1,h2,_⟩:=(show ObjOk X.prog X.w H s.heap a (.dT kvs) from I.hok a _ ea)
  exact W.kia_one W.kitx_dict I.kIn ⟨o,h1,h2.1⟩ e (λz=>nomatch z) h
 | @ins a C dx fs ea cl ha hn htk hm=>
  cases (show u=Value.ref a from rx)
  obtain⟨mA,O,_⟩:=Wr I.hok ea
  obtain⟨od,J,_⟩:=O.look
  exact W.kia_one (W.kitx_own (cl.get _) cl.hd ha hn htk hm) I.kIn J e (λz=>nomatch z) h
end
structure Room(k:Nat)(A:Around):Prop where
 hd:A.handled=none
 dp:A.depth+3*k+5<recursionLimit
 un:A.units+16*k+200<cLine
theorem Room.mono(r:Room k A)(h:j<=k):Room j A:=⟨r.hd,by have:=r.dp;omega,by have:=r.un;omega⟩
theorem Room.deeper(r:Room (k+1) A)(env:Env):Room k (A.deeper env) :=
 ⟨r.hd,by have:=r.dp;show A.depth+1+3*k+5<_;omega,by have:=r.un;show A.units+3+16*k+200<_;omega⟩
theorem Room.in1(r:Room (k+1) A):Room k A.in1 :=
 ⟨r.hd,by have:=r.dp;show A.depth+3*k+5<_;omega,by have:=r.un;show A.units+1+16*k+200<_;omega⟩
theorem kZ {A:Around}{C:Ap}:(A.under (.builtin "type.__call__" ⟨.ref C::us,kw⟩)).depth=A.depth+1:=by
 first | rfl | simp[Around.under,Code.weight,Code.isCreation,Code.isGuard,Code.isCaller,Code.frames,Code.isFrame,guardIds]
theorem k6 {A:Around}{C:Ap}:(A.under (.builtin "type.__call__" ⟨.ref C::us,kw⟩)).units=A.units+1:=by
 first | rfl | simp[Around.under,Code.cUnits,Code.frames,Code.isFrame]
theorem Room.make (r:Room (k+1) A) (C:Ap) (us:An) (kw:List (Str×Value)):Room k (A.under (.builtin "type.__call__" ⟨.ref C::us,kw⟩)) :=
 ⟨r.hd,by have:=r.dp;rw[kZ];omega,by have:=r.un;rw[k6];omega⟩
theorem Room.depth(r:Room k A):A.depth<recursionLimit:=by have:=r.dp;omega
theorem Room.units(r:Room k A):A.units+64<cLine:=by have:=r.un;omega
def ziP:TA:=λ_ H Q=>Q [] H
def zdJ(ta:TE)(tr:TA):TA:=λσ H Q=>ta σ H λx H1=>tr σ H1 λxs H2=>Q (x::xs) H2
section
variable {X:Cx}{e:Expr}{es:Ag}{te:TE}{t:TA}{pos:Pos}
theorem pa_nil:PA X [] ziP:=λ_ _ _ _ H Q I h=>Calls.spliced_nil ⟨[],H,I,.nil,h⟩
theorem zt(ha:PE X e te)(hr:PA X es t)(hs:starEach (e::es) X.env=(false,eval e X.env)::starEach es X.env:=by rfl):PA X (e::es) (zdJ te t):=by
 intro pos pins s σ H Q I h
 rw[hs]
 refine Calls.spliced_cons (thn (ha pins s σ H _ I h) λu s1 ⟨x,H1,I1,r1,q1⟩=>?_)
 exact thn (hr pos pins s1 σ H1 _ I1 q1) λus s2 ⟨xs,H2,I2,r2,q2⟩=>⟨x::xs,H2,I2,.cons r1 r2,q2⟩
def tTup(t:TA):TE:=λσ H Q=>t σ H λxs H1=>xs.length<=sizeLine/\∀ p,H1 p=none->Q (.ref p) (upd H1 p (.tup xs))
def tLst(t:TA):TE:=λσ H Q=>t σ H λxs H1=>xs.length<=sizeLine/\∀ p,H1 p=none->Q (.ref p) (upd H1 p (.lst xs))
theorem zc1{x1}(h:PA X es t):PE X (.Tuple es x1 pos) (tTup t):=by
 intro pins s σ H Q I hq
 refine wpAny_Tuple_spliced (thn (h pos pins s σ H _ I hq) λus s1 ⟨xs,H1,I1,r,z,q⟩=>⟨by rw[<- r.length];exact z,?_⟩)
 have hf:=I1.hok.fresh (xi _)
 refine⟨.ref ⇑s1,upd H1 ⇑s1 (.tup xs),I1.laid (λb u e=>x6 _ e) (xi _) ?_,rfl,q _ hf⟩
 exact⟨z,us,r,⟨_,Xa _ rfl,rfl,_,rfl⟩⟩
theorem zc0(h:PA X es t):PE X (.List es pos) (tLst t):=by
 intro pins s σ H Q I hq
 refine wpAny_List_spliced (thn (h pos pins s σ H _ I hq) λus s1 ⟨xs,H1,I1,r,z,q⟩=>⟨by rw[<- r.length];exact z,?_⟩)
 have hf:=I1.hok.fresh (xi _)
 refine⟨.ref ⇑s1,upd H1 ⇑s1 (.lst xs),I1.laid (λb u e=>x6 _ e) (xi _) ?_,rfl,q _ hf⟩
 exact⟨z,us,0,r,Xa _ rfl⟩
end
abbrev Sp:=List V->Hp->VK->XK->Prop
noncomputable abbrev CXT:=List Env->Hp->Am->XK->Af
structure Env0(P:Ar)(w:World)(K:Ah)(mg:Aq)(base:Heap)(A:Around)(outer:List Env)(s:Am)(H:Hp):Prop where
 frames:A.frames=some outer
 mod:Mod K mg base
 bs:∀ b o,base.get? b=some o->s.heap.get? b=some o/\H b=none
 bsz:base.objs.size<=⇑s
 funs:s.heap.FunFrames base outer
 frf:∀ b∈frs outer,H b=none
 hok:HOk P w H s.heap
 bare:AllBare s.gens
def CE(outer:List Env)(P:Ar)(w:World)(H:Hp)(s:Am)(Q:VK)(u:Aj)(s':Am):Prop :=
 ∃ v H',s'.os=s.os/\AllBare s'.gens/\Un (frs outer) [] H H' s.heap s'.heap/\HOk P w H' s'.heap/\RelV v u/\Q v H'
def CR(CX:CXT)(outer:List Env)(P:Ar)(w:World)(H:Hp)(s:Am)(Q:VK)(E:XK)(r:Result)(s':Am):Prop :=
 match r with
 |.ok (.ret u)=>CE outer P w H s Q u s'
 |.ok _=>False
 |.error e=>CX outer H s E e s'
structure FnOk(P:Ar)(w:World)(K:Ah)(mg:Aq)(base:Heap)(CX:CXT)(k:Nat)(f:Ap)(fd:FuncData)(ps:Ab)(sp:Sp):Prop where
 len:∀ vs H Q E,sp vs H Q E->vs.length=ps.length
 run:∀(A:Around)(outer:List Env)(s:Am)(H:Hp)(args:Args)(us:An)(vs:List V)(Q:VK)(E:XK),Room k A->Env0 P w K mg base A outer s H->BindsTo s fd args (ps.zip us)->Vals vs us->sp vs H Q E ->
  codeAny (model P w) A (.call (.ref f) args) (CR CX outer P w H s Q E) s
theorem FnOk.mono{P:Ar}{w:World}{K:Ah}{base:Heap}{CX:CXT}{j k:Nat}{f:Ap}{ps:Ab}{sp:Sp}(F:FnOk P w K mg base CX j f fd ps sp)(h:j<=k) :
  FnOk P w K mg base CX k f fd ps sp:=⟨F.len,λA outer s H args us vs Q E hr=>F.run A outer s H args us vs Q E (hr.mono h)⟩
theorem Env0.make{P:Ar}{w:World}{K:Ah}{base:Heap}{A:Around}{s:Am}{H:Hp}(e:Env0 P w K mg base A outer s H)(C:Ap)(us:An)(kw:List (Str×Value)) :
  Env0 P w K mg base (A.under (.builtin "type.__call__" ⟨.ref C::us,kw⟩)) outer s H:=⟨by first | exact e.frames | (simpa [Around.under,Code.envs,Code.isFrame,pushEnvs] using e.frames),e.mod,e.bs,e.bsz,e.funs,e.frf,e.hok,e.bare⟩
section
variable {X:Cx}{pins:Ak}{σ:St}{H:Hp}{s s':Am}
theorem Inv.env0(I:Inv X pins σ H s):Env0 X.prog X.w X.K X.mg X.base X.A X.stack s H :=
 ⟨I.ok.frames,I.ok.mod,I.bs,xJ I.ok.bsz I.sz,I.stack,I.stkFree,I.hok,I.bare⟩
theorem Inv.after(I:Inv X pins σ H s)(h:CE X.stack X.prog X.w H s Q u s'):EP X pins σ Q u s':=by
 obtain⟨v,H',os,bare,un,hok,r,q⟩:=h
 obtain⟨hh,g,d,t,os'⟩:=s'
 obtain rfl:os'=s.os:=os
 exact⟨v,H',I.call un hok bare (λb z=>absurd z (by simp)),r,q⟩
end
def zj1(sp:Sp)(dvs:List V)(E:XK)(t:TA):TE:=λσ H Q=>t σ H λvs H1=>sp (vs++dvs) H1 Q E
def Binds(K:Ah)(fd:FuncData)(ps:Ab)(ds:An):Prop :=
 ∀(s:Am)(us:An),K.In s.heap->(us++ds).length=ps.length->BindsTo s fd ⟨us,[]⟩ (ps.zip (us++ds))
theorem Binds.all{K:Ah}{fd:FuncData}{ps:Ab}(h:∀ us:An,us.length=ps.length->bindArgs fd ⟨us,[]⟩=pure (ps.zip us)):Binds K fd ps []:=λs us _ hl=>by
 rw[xR]at hl |-
 exact .of_eq (h us hl)
def V5(CX:CXT)(X:Cx)(E:XK):Prop:=∀(pins:Ak)(σ:St)(H:Hp)(s:Am)(e:Aj)(s':Am),Inv X pins σ H s->CX X.stack H s E e s'->X.xe e s'
section
variable {X:Cx}{CX:CXT}{k:Nat}{f C:Ap}{fd:FuncData}{ps:Ab}{sp:Sp}{dvs:List V}{ds:An}{E:XK}{x:Str}{p pos:Pos}{e:Expr}{es:Ag}{t:TA}
theorem zie{pins:Ak}{σ:St}{H:Hp}{s:Am}{Q:VK}{us:An}{vs:List V}(F:FnOk X.prog X.w X.K X.mg X.base CX k f fd ps sp)(hr:Room k X.A)(hb:Binds X.K fd ps ds)(hd:Vals dvs ds)(hx:V5 CX X E)
  (I:Inv X pins σ H s) (r:Vals vs us) (h:sp (vs++dvs) H Q E):∅ (call (.ref f) us) (EP X pins σ Q) X.xe s:=by
 have r2:=r.append hd
 have hl:(us++ds).length=ps.length:=by rw[<- r2.length];exact F.len _ _ _ _ h
 refine wpAny_call (Xl (F.run X.A X.stack s H ⟨us,[]⟩ (us++ds) (vs++dvs) Q E hr I.env0 (hb s us I.kIn hl) r2 h) λr s' hq=>?_)
 cases r with
 |error e=>exact hx pins σ H s e s' I hq
 |ok fl=>
  cases fl with
  |ret u=>exact I.after hq
  |next=>exact False.elim hq
  |brk=>exact False.elim hq
  |cont=>exact False.elim hq
theorem zfh(F:FnOk X.prog X.w X.K X.mg X.base CX k f fd ps sp)(hr:Room k X.A)(hg:Gl X x)(hm:X.mg x=some (.ref f))(hk:W.keepIn X.K (.ref f)=true)(hb:Binds X.K fd ps ds)(hd:Vals dvs ds)(hx:V5 CX X E)
  (ha:PA X (e::es) t) (hdb:(↥x):=by decide) (he:starEach (e::es) X.env=(false,eval e X.env)::starEach es X.env:=by rfl) (hpl:(backTo pos (starEach es X.env)).any (·.1)=false:=by rfl) :
  PE X (.Call (.Name x p) (e::es) [] pos) (zj1 sp dvs E t):=by
 cbv
 refine Xk (j6 I hg hm ?_ hdb)
 refine W.callWith_K I.ok.mod.kin hk (thn (ha pos pins s σ H _ I h) λus s1 ⟨vs,H1,I1,r,q⟩=>⟨I1.kIn,?_⟩) he hpl
 exact zie F hr hb hd hx I1 r q
structure Mk(K:Ah)(C f:Ap):Prop where
 makes:W.makesIn K C=true
 init:W.findIn K (.ref C) "__init__" =some (some (.ref f))
 fn:W.isFn K (.ref f)=true
 kp:W.keepIn K (.ref C)=true
end
section
end
structure ja(N P:Ab)(sc:Scope):Prop where
 kind:sc.kind=.function
 co:sc.isCoroutine=false
 gen:sc.isGenerator=false
 nd:N.Nodup
 pre:N.take P.length=P
 par:∀ x∈P,sc.names.lookup x=some .local∨sc.names.lookup x=some .cell
 nofree:∀ y∈sc.names,y.2≠ .free
theorem Vh{kindOf:Str->Option NameKind}:∀{binds:List (Str×Value)}{m:Aq},(∀ v,(x,v)∉binds)->bindL kindOf binds m x=m x
 |[],_,_=>rfl
 | (n,v)::r,m,h=>by
  unfold bindL
  rw[Vh λw hw=>h w (xo _ hw)]
  split
  ·have:x≠n:=by rintro rfl;exact h v xv
   simp[this]
  ·rfl
theorem Vf{kindOf:Str->Option NameKind}:∀{binds:List (Str×Value)}{m:Aq},(∀ v,(x,v)∉binds)->bindC kindOf binds m x=m x
 |[],_,_=>rfl
 | (n,v)::r,m,h=>by
  unfold bindC
  rw[Vf λw hw=>h w (xo _ hw)]
  split
  ·rfl
  ·have:x≠n:=by rintro rfl;exact h v xv
   simp[this]
theorem Vg{kindOf:Str->Option NameKind}:∀{P:Ab}{vs:An}{i:Nat}{m:Aq},P.Nodup->P[i]?=some x->vs[i]?=some v->kindOf x=some .local ->
  bindL kindOf (P.zip vs) m x=some v
 |[],_,_,_,_,h,_,_=>by simp at h
 |_::_,[],_,_,_,_,h,_=>by simp at h
 |p::P,w::vs,0,m,nd,h1,h2,hk=>by
  simp at h1 h2;subst h1;subst h2
  show bindL kindOf ((p,w)::P.zip vs) m p=_
  unfold bindL
  rw[Vh λv hv=>(xA.mp nd).1 (List.of_mem_zip hv).1,if_pos hk]
  simp
 |p::P,w::vs,i+1,m,nd,h1,h2,hk=>by
  unfold bindL
  exact Vg (xA.mp nd).2 (by simpa using h1) (by simpa using h2) hk
theorem Ve{kindOf:Str->Option NameKind}:∀{P:Ab}{vs:An}{i:Nat}{m:Aq},P.Nodup->P[i]?=some x->vs[i]?=some v->kindOf x≠some .local ->
  bindC kindOf (P.zip vs) m x=some v
 |[],_,_,_,_,h,_,_=>by simp at h
 |_::_,[],_,_,_,_,h,_=>by simp at h
 |p::P,w::vs,0,m,nd,h1,h2,hk=>by
  simp at h1 h2;subst h1;subst h2
  show bindC kindOf ((p,w)::P.zip vs) m p=_
  unfold bindC
  rw[Vf λv hv=>(xA.mp nd).1 (List.of_mem_zip hv).1,if_neg hk]
  simp
 |p::P,w::vs,i+1,m,nd,h1,h2,hk=>by
  show bindC kindOf ((p,w)::P.zip vs) m x=_
  unfold bindC
  exact Ve (xA.mp nd).2 (by simpa using h1) (by simpa using h2) hk
noncomputable def start(N:Ab)(vs:List V):St:=vs.map some++List.replicate (N.length-vs.length) none
noncomputable def Qu(CX:CXT)(P:Ar)(w:World)(K:Ah)(mg:Aq)(base:Heap)(N:Ab)(qual:Str)(scope:Scope)(f:Ap)(cd:Aj)(A:Around)(outer:List Env)(s:Am)(H:Hp)(E:XK):Cx where
 prog:=P
 w:=w
 K:=K
 mg:=mg
 base:=base
 A:=A.deeper (envOfC qual scope ⇑s f cd)
 N:=N
 s₀:=s
 H₀:=H
 env:=envOfC qual scope ⇑s f cd
 outer:=outer
 stack:=envOfC qual scope ⇑s f cd::outer
 ex:= []
 calm:=true
 fn:=λ_=>true
 pn:= []
 xe:=λe s'=>wpAny (model P w) (A.deeper (envOfC qual scope ⇑s f cd)) (leaving (envOfC qual scope ⇑s f cd) e) (λ_ s''=>CX outer H s E e s'') (λe' s''=>CX outer H s E e' s'') s'
theorem Jd{sc:Scope}(h:sc.names.lookup x=some .cell):∃ c,(cellsFrom n sc.names []).lookup x=some c:=by
 have q:=W.cellsFrom_some sc.names n [] (.inl h)
 exact uC.mp q
theorem zaT{CX:CXT}{P:Ar}{w:World}{K:Ah}{mg:Aq}{base:Heap}{N ps:Ab}{qual:Str}{scope:Scope}{f:Ap}{cd:Aj}{A:Around}{outer:List Env}{s s1:Am}{H:Hp}{E:XK}{us:An}{vs:List V}
  (S:ja N ps scope) (hd:A.handled=none) (e0:Env0 P w K mg base A outer s H) (hl:vs.length=ps.length) (r:Vals vs us)
  (x:InCallC s ⇑s (bindL (envOfC qual scope ⇑s f cd).kindOf (ps.zip us) λ_=>none) (cellsFrom (⇑s+1) scope.names []) (bindC (envOfC qual scope ⇑s f cd).kindOf (ps.zip us) λ_=>none) s1) :
  Inv (Qu CX P w K mg base N qual scope f cd A outer s H E) [] (start N vs) H s1:=by
 have hpl:ps.length<=N.length:=by have:=congrArg List.length S.pre;rw[xP]at this;omega
 obtain⟨h1,tk,rfl,hk⟩:=x.done
 have noA:∀ b:Ap,b∉(Qu CX P w K mg base N qual scope f cd A outer s H E).ex:=λb z=>absurd (show b∈([]:List Ap) from z) (by simp)
 refine⟨⟨e0.mod,S.kind,rfl,rfl,xi _,λy z c h1 h2=>?_,λy hy=>?_,λy c _ h=>?_,λ_=>hd,Around.frames_deeper e0.frames,.inr ⟨rfl,rfl⟩,λb z=>absurd z (noA b),e0.bs,e0.bsz,λb _ _=>noA b,λb z=>absurd z (noA b),e0.funs,e0.frf⟩,
  rfl,e0.bare,Un.kept hk,⟨_,x.toInCall.ns,λi y v h1 h2 h3=>?_⟩,λy c h=>⟨_,x.cell y c h⟩,e0.hok.fresh (xi _),λy c h=>?_,λp hp=>absurd (show p∈([]:Ak) from hp) (by simp),e0.hok.kept hk,?_⟩
 ·exact name_of_addr x.apart (PySem.mem_of_lookup h1) (PySem.mem_of_lookup h2)
 ·have hy:=hy
  rcases hy with hy | hy
  ·exact Jd hy
  ·exact absurd rfl (S.nofree _ (PySem.mem_of_lookup hy))
 ·exact uo (x.above y c (PySem.mem_of_lookup h))
 ·have hi:i<vs.length:=by
   unfold start at h2
   by_cases hi:i<vs.length
   ·exact hi
   ·rw[xf (by simpa using hi)]at h2
    rw[xT]at h2
    split at h2<;>cases h2
  have ha:vs[i]?=some v:=by
   unfold start at h2
   rw[xc (by simpa using hi),xl]at h2
   cases e:vs[i]? with
   |none=>rw[e]at h2;cases h2
   |some a=>rw[e]at h2;cases h2;rfl
  obtain⟨u,hu,rv⟩:=r.get ha
  have hp:ps[i]?=some y:=by
   rw[<- S.pre,xQ (by omega)];exact h1
  have ndP:ps.Nodup:=by rw[<- S.pre];exact S.nd.sublist (List.take_sublist _ _)
  refine⟨u,rv,?_⟩
  rcases S.par y (uk hp)with k | k
  ·exact .inl ⟨k,Vg ndP hp hu k⟩
  ·obtain⟨c,e⟩:=Jd k
   refine .inr ⟨.inl k,c,e,?_⟩
   have q:=x.cell y c e
   rw[Ve ndP hp hu (by show scope.names.lookup y≠_;rw[k];decide)]at q
   exact q
 ·exact e0.hok.fresh (uo (x.above y c (PySem.mem_of_lookup h)))
 ·unfold start
  show _=N.length
  rw[xB,xn,ux]
  omega
theorem zgA{CX:CXT}{P:Ar}{w:World}{K:Ah}{mg:Aq}{base:Heap}{k:Nat}{f:Ap}{name qual:Str}{params:Arguments}{body:List Stmt}{scope:Scope}{dV kV doc pm cdv ct oc:Aj}{an od:Option Ap}
  {osl:Array (Option Aj)} {N ps:Ab} {sp:Sp} (lk:K.lookup f=some ⟨oc,od,.func (W.fnOf name qual params body scope dV kV doc pm an cdv ct),osl⟩) (hcd:W.codeIn K cdv qual=true) (S:ja N ps scope)
  (len:∀ vs H Q E,sp vs H Q E->vs.length=ps.length)
  (hbody:∀(A:Around)(outer:List Env)(s:Am)(H:Hp)(vs:List V)(Q:VK)(E:XK),Room k (A.deeper (envOfC qual scope ⇑s f cdv))->sp vs H Q E ->
   ∃ t,PSs (Qu CX P w K mg base N qual scope f cdv A outer s H E) body t/\t { nx:=λ_ H'=>Q .non H',rt:=Q } (start N vs) H) :
  FnOk P w K mg base CX (k+1) f (W.fnOf name qual params body scope dV kV doc pm an cdv ct) ps sp:=by
 refine⟨len,λA outer s H args us vs Q E hr e0 hb r hsp=>?_⟩
 have hl:=len _ _ _ _ hsp
 have KX:K.In s.heap:=e0.mod.kin.keeps λb o e=>(e0.bs b o e).1
 have lim:s.heap.NoLimit:=e0.mod.nolimit.keeps λb o e=>(e0.bs b o e).1
 have hkind:∀ y∈ps.zip us,scope.names.lookup y.1=some .local∨(scope.names.lookup y.1=some .cell/\((cellsFrom (⇑s+1) scope.names []).lookup y.1).isSome=true):=λ⟨n,v⟩ hy=>by
  rcases S.par n (List.of_mem_zip hy).1 with q | q
  ·exact .inl q
  ·exact .inr ⟨q,W.cellsFrom_some _ _ _ (.inl q)⟩
 refine codeAny_call_function hr.depth (KX _ _ lk) rfl S.co S.gen rfl (W.codeRec_of KX hcd) (hb _ _ _ _ ?_)
 refine wpAny_newFunctionEnv_cells S.kind hkind λenv he s1 x=>?_
 subst he
 refine⟨lim.keeps x.toInCall.keep,codeAny_func ?_⟩
 obtain⟨t,ht,hq⟩:=hbody A outer s H vs Q E (hr.deeper _) hsp
 have I:Inv (Qu CX P w K mg base N qual scope f cdv A outer s H E) [] (start N vs) H s1:=zaT S hr.hd e0 hl r x
 refine Xe (ht [] s1 (start N vs) H _ I hq) (λfl s' hs=>?_) λe s' hs=>hs
 have fin:∀{σ':St}{H':Hp}{v:V}{u:Aj},Inv (Qu CX P w K mg base N qual scope f cdv A outer s H E) [] σ' H' s'->RelV v u->Q v H'->CE outer P w H s Q u s' :=
  λ{σ' H' v u} J rv q=>⟨v,H',J.os,J.bare,J.base,J.hok,rv,q⟩
 cases fl with
 |ret u=>
  obtain⟨v,σ',H',J,rv,q⟩:=hs
  exact fin J rv q
 |next=>
  obtain⟨σ',H',J,q⟩:=hs
  exact fin (v:=V.non) (u:=Value.none) J rfl q
 |brk=>
  obtain⟨_,_,_,q⟩:=hs
  exact False.elim q
 |cont=>
  obtain⟨_,_,_,q⟩:=hs
  exact False.elim q
section
variable {X:Cx}{x:Str}{p pos:Pos}{e:Expr}{es:Ag}{t:TA}{id T:String}{r:List V->Hp->VK->Prop}
def tCB(r:List V->Hp->VK->Prop)(t:TA):TE:=λσ H Q=>t σ H λvs H1=>r vs H1 Q
theorem Jj (hc:qZ X (.builtin id) r) (hg:Gl X x) (hm:X.mg x=none) (hv:bootBuiltins x=some (.builtin id)) (ha:PA X (e::es) t) (hn:x≠ "__name__" :=by decide) (hdb:(↥x):=by decide)
    (he:starEach (e::es) X.env=(false,eval e X.env)::starEach es X.env:=by rfl) (hpl:(backTo pos (starEach es X.env)).any (·.1)=false:=by rfl):PE X (.Call (.Name x p) (e::es) [] pos) (tCB r t):=by
  cbv
  refine Xk (QH I hg hm hv ?_ hn hdb)
  exact PyProof.Rows.callWith_builtin1 (thn (ha pos pins s σ H _ I h) λus s1 ⟨vs,H1,I1,r1,q1⟩=>hc pins s1 σ H1 vs us Q I1 r1 q1) he hpl
theorem jS (hc:qZ X (.type T) r) (hg:Gl X x) (hm:X.mg x=none) (hv:bootBuiltins x=some (.type T)) (ha:PA X (e::es) t) (hn:x≠ "__name__" :=by decide) (hdb:(↥x):=by decide)
    (he:starEach (e::es) X.env=(false,eval e X.env)::starEach es X.env:=by rfl) (hpl:(backTo pos (starEach es X.env)).any (·.1)=false:=by rfl):PE X (.Call (.Name x p) (e::es) [] pos) (tCB r t):=by
  cbv
  refine Xk (QH I hg hm hv ?_ hn hdb)
  exact PyProof.Rows.callWith_type1 (thn (ha pos pins s σ H _ I h) λus s1 ⟨vs,H1,I1,r1,q1⟩=>hc pins s1 σ H1 vs us Q I1 r1 q1) he hpl
end
end L2
namespace HT
open PySem PyProof.Rows
section
open PySem.SeqAt
open PySem.AutoSeq1 (wpAny_loadPart')
open PySem.MeetsSeq PySem.MeetsSeq2 PySem.MeetsSeq3
end
section
variable {prog:Ar}{w:World}{A:Around}{E:Af}{s:Am}
theorem cat_tup{Q:Af}(ht:IsTup s.heap t vs.toArray)(hb:IsTup s.heap b ws.toArray)(hv:vs≠ [])
  (h1:ws= []->Q (.ref t) s) (h2:ws≠ []->Q (.ref ⇑s) { s with heap:=s.heap.push { cls:=.type "tuple",data:=.seq (vs++ws).toArray } })
  (hsz:vs.length+ws.length<=sizeLine):wpAny (model prog w) A (binaryOp .Add (.ref t) (.ref b)) Q E s:=by
 obtain⟨⟨cls,dd,data,sl⟩,ho,hc,n,hd⟩:=id ht
 obtain⟨⟨cls2,dd2,data2,sl2⟩,ho2,hc2,n2,hd2⟩:=id hb
 simp only at hc hd hc2 hd2
 subst hc hd hc2 hd2
 have e:vs.toArray++ws.toArray=(vs++ws).toArray:=by simp
 by_cases hw:ws= []
 ·exact concat_meets ⟨_,ho,rfl⟩ ⟨_,ho2,rfl⟩ noFill_tuple_add seq_tuple_add PySem.F.slot_tuple_add PySem.F.entry_tuple_add (PySem.F.args_tuple_add_2 _ _)
   (tuple_addW1 t b vs.toArray ws.toArray n n2 dd dd2 sl sl2 (by simpa using hv) (by simp[hw])) ⟨ho,ho2,h1 hw⟩
 ·refine concat_meets ⟨_,ho,rfl⟩ ⟨_,ho2,rfl⟩ noFill_tuple_add seq_tuple_add PySem.F.slot_tuple_add PySem.F.entry_tuple_add (PySem.F.args_tuple_add_2 _ _)
   (tuple_addW2 t b vs.toArray ws.toArray n n2 dd dd2 sl sl2 (by simpa using hv) (by simpa using hw) (by rw[xq,xq];exact hsz)) ⟨ho,ho2,?_⟩
  rw[e]
  exact h2 hw
noncomputable def sIx(n d:Nat):Option Int->Nat
 |none=>d
 |some v=>if v<0 then (v+(n:Int)).toNat else min v.toNat n
theorem zif(n d:Nat)(hd:d<=n)(o:Option Int):sIx n d o<=n:=by
 cases o with
 |none=>exact hd
 |some v=>
  show (if v<0 then (v+(n:Int)).toNat else min v.toNat n)<=n
  by_cases hv:v<0
  ·rw[if_pos hv];omega
  ·rw[if_neg hv];exact Nat.min_le_right _ _
theorem KG(v:Int)(n d:Nat):(if v<0 then max (v+(n:Int)) 0 else min v (n:Int))=((sIx n d (some v):Nat):Int):=by
 show (if v<0 then max (v+(n:Int)) 0 else min v (n:Int))=(((if v<0 then (v+(n:Int)).toNat else min v.toNat n):Nat):Int)
 by_cases hv:v<0
 ·simp only[if_pos hv];omega
 ·simp only[if_neg hv];omega
theorem kg(lo hi:Option Int)(n:Nat):Builtin.Slice.sliceAdjust lo hi 1 (n:Int)=(((sIx n 0 lo:Nat):Int),((sIx n n hi:Nat):Int)):=by
 have h1:¬ ((1:Int)<0):=by omega
 unfold Builtin.Slice.sliceAdjust
 simp only[h1,if_false]
 refine Prod.ext ?_ ?_
 ·cases lo with
  |none=>rfl
  |some v=>exact KG v n 0
 ·cases hi with
  |none=>rfl
  |some v=>exact KG v n n
theorem Ke(i j:Nat):Builtin.Slice.slicePlaces (i:Int) (j:Int) 1=j-i:=by
 unfold Builtin.Slice.slicePlaces
 have h1:(1:Int)>0:=by omega
 simp only[h1,if_true,Int.ediv_one]
 split<;>omega
theorem vI(p:IsPart v o)(h:Q o s):wpAny (model prog w) A (Builtin.Slice.slicePartIndex v) Q E s:=by
 cases p with
 |none=>exact slicePart_none h
 |int i t=>exact slicePart_int h
theorem wy{lo hi:Option Int}{n:Nat}{Q:Int×Int×Nat->Am->Prop}(hs:s.heap.IsSliceOf sl vl vu .none)(pl:IsPart vl lo)(pu:IsPart vu hi)
  (h:Q (((sIx n 0 lo:Nat):Int),1,sIx n n hi-sIx n 0 lo) s):wpAny (model prog w) A (Builtin.Slice.sliceApplied (.ref sl) (pure (n:Int))) Q E s:=by
 obtain⟨os,hos,hcs,hds⟩:=id hs
 unfold Builtin.Slice.sliceApplied Builtin.Slice.sliceFields
 refine x5 (x5 (wpAny_field hos hds rfl (x5 (wpAny_field hos hds rfl (x5 (wpAny_field hos hds rfl (x9 ?_)))))))
 refine x5 (slicePart_none ?_)
 show wpAny _ _ (if ((1:Int)==0)=true then _ else _) _ _ s
 rw[if_neg (by decide)]
 refine x5 (vI pl (x5 (vI pu (x5 (x9 ?_)))))
 show wpAny _ _ (match Builtin.Slice.sliceAdjust lo hi 1 (n:Int)with | (lo,hi)=>pure (lo,(1:Int),Builtin.Slice.slicePlaces lo hi 1)) _ _ s
 rw[kg lo hi n]
 show wpAny _ _ (pure (((sIx n 0 lo:Nat):Int),(1:Int),Builtin.Slice.slicePlaces ((sIx n 0 lo:Nat):Int) ((sIx n n hi:Nat):Int) 1)) _ _ s
 rw[Ke]
 exact x9 h
theorem zc7(xs:Array Aj)(i k:Nat):((List.range k).filterMap λ(m:Nat)=>xs[((i:Int)+(m:Int)*1).toNat]?).toArray=((xs.toList.drop i).take k).toArray:=by
 have e:(λ(m:Nat)=>xs[((i:Int)+(m:Int)*1).toNat]?)=λm=>xs[i+m]?:=by
  funext m
  have:((i:Int)+(m:Int)*1).toNat=i+m:=by omega
  rw[this]
 rw[e]
 have:=pick_run xs i k
 rw[List.filterMap_map]at this
 have e2:((λx=>xs[x]?)∘λx=>i+x)=λm=>xs[i+m]?:=rfl
 rw[e2]at this
 rw[this]
theorem getItem_tuple_cut{t sl:Ap}{lo hi:Option Int}{Q:Af}(ht:IsTup s.heap t items)(hs:s.heap.IsSliceOf sl vl vu .none)(pl:IsPart vl lo)(pu:IsPart vu hi)
  (hw:¬ (sIx items.size 0 lo=0/\sIx items.size items.size hi=items.size))
  (h:Q (.ref ⇑s) { s with heap:=s.heap.push { cls:=.type "tuple",data:=.seq ((items.toList.drop (sIx items.size 0 lo)).take (sIx items.size items.size hi-sIx items.size 0 lo)).toArray } })
  (hsz:items.size<=sizeLine):wpAny (model prog w) A (getItem (.ref t) (.ref sl)) Q E s:=by
 have htake:sizeOk (.seq ((items.toList.drop (sIx items.size 0 lo)).take (sIx items.size items.size hi-sIx items.size 0 lo)).toArray):=by
  show ((items.toList.drop (sIx items.size 0 lo)).take (sIx items.size items.size hi-sIx items.size 0 lo)).toArray.size<=sizeLine
  rw[xq,xP,List.length_drop,Array.length_toList]
  omega
 have hj:sIx items.size items.size hi<=items.size:=zif _ _ (xi _) hi
 obtain⟨os,hos,hcs,hds⟩:=id hs
 have hTs:s.TypeIs (.ref sl) "slice" :=⟨os,hos,hcs⟩
 unfold getItem
 try with_reducible refine Xd ?_
 first | refine x5 (x9 ?_) | skip
 refine x5 (wpAny_sequenceKey ht.typeIs (by decide) ?_)
 refine x5 (wpAny_callSpecial?_slot (name:=Str.ofString "__getitem__") ht.typeIs PyProof.Rows.slot_tuple_getitem
  (wpAny_call_entry PyProof.Rows.slot_tuple_getitem ht.typeIs entry_tuple_getitem ?_ (args_tuple_getitem _ _)))
 show wpAny _ _ (Builtin.Tuple.tupleItemsOf (.ref t) >>= _) _ _ s
 refine x5 (tupleItemsOf_ ht ?_)
 refine x5 (wpAny_typeOf hTs ?_)
 rw[if_pos (by decide)]
 refine x5 (wy hs pl pu ?_)
 have hno:¬ ((((sIx items.size 0 lo:Nat):Int)==0&&(1:Int)==1&&(sIx items.size items.size hi-sIx items.size 0 lo)==items.size)=true):=by
  intro q
  rw[xa,xa]at q
  have q1:((sIx items.size 0 lo:Nat):Int)=0:=eq_of_beq q.1.1
  have q2:sIx items.size items.size hi-sIx items.size 0 lo=items.size:=eq_of_beq q.2
  exact hw ⟨by omega,by omega⟩
 show wpAny _ _ (if (((sIx items.size 0 lo:Nat):Int)==0&&(1:Int)==1&&(sIx items.size items.size hi-sIx items.size 0 lo)==items.size)=true then _ else _) _ _ s
 rw[if_neg hno,zc7]
 first
  |exact x5 (wpAny_newObj_type (x9 ⟨_,rfl,x9 h⟩) htake)
  |exact x5 (wpAny_newObj_type (x5 (x9 (x9 ⟨_,rfl,x9 h⟩))) htake)
  |exact x5 (x5 (wpAny_newObj_type (x9 (x9 ⟨_,rfl,x9 h⟩)) htake))
  |exact x5 (x5 (wpAny_newObj_type (x9 ⟨_,rfl,x9 h⟩) htake))
end
end HT
namespace L2
open PySem PySem.Spec PyProof.Rows
abbrev TO:=St->Hp->(Option Int->Hp->Prop)->Prop
def PO(X:Cx)(e:Option Expr)(t:TO):Prop :=
 ∀(pins:Ak)(s:Am)(σ:St)(H:Hp)(Q:Option Int->Hp->Prop),Inv X pins σ H s->t σ H Q ->
  ∅ (evalPart e X.env) (λu s'=>∃ o H',Inv X pins σ H' s'/\IsPart u o/\Q o H') X.xe s
noncomputable def zgf:TO:=λ_ H Q=>Q none H
noncomputable def zj5(t:TE):TO:=λσ H Q=>t σ H λx H1=>∃ i,x=.int i/\Q (some i) H1
section
variable {X:Cx}{e:Expr}{te:TE}{lo hi:Option Expr}{tl th:TO}{pos p2:Pos}
theorem yI:PO X none zgf:=by
 cbv
 rw[evalPart_none]
 exact x9 ⟨none,H,I,.none,h⟩
theorem yJ(h:PE X e te):PO X (some e) (zj5 te):=by
 intro pins s σ H Q I hw
 rw[evalPart_some]
 refine thn (h pins s σ H _ I hw) λu s1 ⟨x,H1,I1,r1,q1⟩=>?_
 obtain⟨i,rfl,q⟩:=q1
 obtain⟨t,rfl⟩:=r1
 exact⟨some i,H1,I1,.int i t,q⟩
def SlR(X:Cx)(r:V->Option Int->Option Int->Hp->VK->Prop):Prop :=
 ∀(pins:Ak)(s:Am)(σ:St)(H:Hp)(x:V)(v vl vu:Aj)(lo hi:Option Int)(sl:Ap)(Q:VK),Inv X pins σ H s->RelV x v->s.heap.IsSliceOf sl vl vu .none->IsPart vl lo->IsPart vu hi->r x lo hi H Q ->
  ∃ T id,typeLookup (.type T) "__getitem__" =pure (some (.builtin id))/\s.TypeIs v T/\∅ (getItem v (.ref sl)) (EP X pins σ Q) X.xe s
def tSl(r:V->Option Int->Option Int->Hp->VK->Prop)(te:TE)(tl th:TO):TE:=λσ H Q=>te σ H λx H1=>tl σ H1 λl H2=>th σ H2 λu H3=>r x l u H3 Q
theorem vq{r:V->Option Int->Option Int->Hp->VK->Prop}(hr:SlR X r)(he:PE X e te)(hl:PO X lo tl)(hu:PO X hi th):PE X (.Subscript e (.Slice lo hi none p2) pos) (tSl r te tl th):=by
 cbv
 refine Subscript_ (thn (he pins s σ H _ I h) λv s1 ⟨x,H1,I1,r1,q1⟩=>?_)
 refine wpAny_Slice (thn (hl pins s1 σ H1 _ I1 q1) λvl s2 ⟨l,H2,I2,pl,q2⟩=>thn (hu pins s2 σ H2 _ I2 q2) λvu s3 ⟨u,H3,I3,pu,q3⟩=>?_)
 rw[evalPart_none]
 refine x9 ?_
 have I4:Inv X pins σ H3 { s3 with heap:=s3.heap.push { cls:=.type "slice",data:=.fields #[vl,vu,.none] } }:=I3.kept (t':=s3.toks) λb ob q=>x6 _ q
 obtain⟨T,id,hT,ht,hg⟩:=hr pins { s3 with heap:=s3.heap.push { cls:=.type "slice",data:=.fields #[vl,vu,.none] } } σ H3 x v vl vu l u ⇑s3 Q I4 r1 (Heap.IsSliceOf.new ..) pl pu q3
 show ∅ (subscriptTail e (.Slice lo hi none p2) v (.ref ⇑s3)) (EP X pins σ Q) X.xe { s3 with heap:=s3.heap.push { cls:=.type "slice",data:=.fields #[vl,vu,.none] } }
 exact tail_any ht hT hg (by with_unfolding_all rfl)
noncomputable def we(xs:List V)(lo hi:Option Int):List V:=(xs.drop (HT.sIx xs.length 0 lo)).take (HT.sIx xs.length xs.length hi-HT.sIx xs.length 0 lo)
theorem wK(xs:List V)(lo hi:Option Int):(we xs lo hi).length<=xs.length:=by
 unfold we
 rw[xP,List.length_drop]
 omega
def rSlT(K:Ah):V->Option Int->Option Int->Hp->VK->Prop:=λx lo hi H Q=>∃ a xs,x=.ref a/\SqT K H a xs /\
 ¬ (HT.sIx xs.length 0 lo=0/\HT.sIx xs.length xs.length hi=xs.length)/\∀ p,H p=none->Q (.ref p) (upd H p (.tup (we xs lo hi)))
theorem ziB:SlR X (rSlT X.K):=by
 intro pins s σ H x v vl vu lo hi sl Q I rx hs pl pu h
 obtain⟨a,xs,rfl,hx,hw,q⟩:=h
 cases rx
 obtain⟨its,r,ht,hz⟩:=I.tuple hx
 have hlen:its.toArray.size=xs.length:=by rw[xq];exact r.length.symm
 refine⟨"tuple",_,PyProof.Rows.slot_tuple_getitem.lookup,ht.typeIs,?_⟩
 refine HT.getItem_tuple_cut ht hs pl pu (by rw[hlen];exact hw) ?_ (by rw[hlen];exact hz)
 rw[hlen]
 refine⟨.ref ⇑s,_,I.laid (λb ob q=>x6 _ q) (xi _) ?_,rfl,q _ (I.hok.fresh (xi _))⟩
 exact⟨xJ (wK xs lo hi) hz,_,(r.drop (HT.sIx xs.length 0 lo)).take (HT.sIx xs.length xs.length hi-HT.sIx xs.length 0 lo),IsTup.new _ _⟩
theorem Vals.nil_iff(r:Vals xs us):us= []↔xs= []:=by
 cases r with
 |nil=>simp
 |cons _ _=>simp
end
noncomputable def ixN(n:Nat)(i:Int):Option Nat:=if 0<=i then (if i<n then some i.toNat else none) else if -(n:Int)<=i then some (i+n).toNat else none
noncomputable def atI{α:Type}(xs:List α)(i:Int):Option α:=(ixN xs.length i).bind λj=>xs[j]?
theorem KY(h:ixN n i=some j):seqIndex? i n=some j/\j<n/\ -(n:Int)<=i/\i<n:=by
 unfold ixN at h
 by_cases h0:0<=i
 ·rw[if_pos h0]at h
  by_cases h1:i<n
  ·rw[if_pos h1]at h
   have e:=Option.some.inj h
   exact⟨by rw[seqIndex_of h0 h1,e],by omega,by omega,h1⟩
  ·rw[if_neg h1]at h;cases h
 ·rw[if_neg h0]at h
  by_cases h1: -(n:Int)<=i
  ·rw[if_pos h1]at h
   have e:=Option.some.inj h
   exact⟨by rw[seqIndex_neg (by omega) h1,e],by omega,h1,by omega⟩
  ·rw[if_neg h1]at h;cases h
theorem V8{α:Type}{xs:List α}{i:Int}{v:α}(h:atI xs i=some v):∃ j,seqIndex? i xs.length=some j/\xs[j]?=some v/\j<xs.length/\ -(xs.length:Int)<=i/\i<xs.length:=by
 unfold atI at h
 cases e:ixN xs.length i with
 |none=>rw[e]at h;cases h
 |some j=>
  rw[e]at h
  obtain⟨h1,h2,h3,h4⟩:=KY e
  exact⟨j,h1,h,h2,h3,h4⟩
theorem Zx{α:Type}{xs:List α}{j:Nat}{v:α}(h:xs[j]?=some v):atI xs (j:Int)=some v:=by
 have hj:=(xb.mp h).1
 have e:ixN xs.length (j:Int)=some j:=by
  unfold ixN
  rw[if_pos (by omega),if_pos (by omega)];simp
 unfold atI;rw[e];exact h
theorem zbP{α:Type}(xs:List α)(v:α):atI (xs++ [v]) (-1)=some v:=by
 have hl:(xs++ [v]).length=xs.length+1:=by simp
 have e:ixN (xs++ [v]).length (-1)=some xs.length:=by
  unfold ixN
  rw[hl,if_neg (by decide),if_pos (by omega)]
  congr 1
  omega
 unfold atI
 rw[e]
 simp
def Wl(b:Expr):Prop:=∀ o i,subscripted b false o i=operate [o,i] (getItem o i)
def IxR(X:Cx)(r:R2):Prop :=
 ∀(value slice:Expr)(pins:Ak)(s:Am)(σ:St)(H:Hp)(x y:V)(v u:Aj)(Q:VK),Inv X pins σ H s->RelV x v->RelV y u->r x y H Q ->
  subscripted slice false v u=operate [v,u] (getItem v u)->∅ (subscriptTail value slice v u) (EP X pins σ Q) X.xe s
def MtR(X:Cx)(id:String)(r:V->List V->Hp->VK->Prop):Prop :=
 ∀(pins:Ak)(s:Am)(σ:St)(H:Hp)(x:V)(xs:List V)(v:Aj)(us:An)(Q:VK),Inv X pins σ H s->RelV x v->Vals xs us->r x xs H Q ->
  ∅ (call (.builtin id) (v::us)) (EP X pins σ Q) X.xe s
section
variable {X:Cx}{a b:Expr}{ta tb:TE}{pos:Pos}
theorem IxR.or{r r':R2}(h:IxR X r)(h':IxR X r'):IxR X (λx y H Q=>r x y H Q∨r' x y H Q):=by
 intro value slice pins s σ H x y v u Q I rx ry q hs
 rcases q with q | q
 ·exact h value slice pins s σ H x y v u Q I rx ry q hs
 ·exact h' value slice pins s σ H x y v u Q I rx ry q hs
theorem zcZ(hr:IxR X r)(ha:PE X a ta)(hb:PE X b tb)(hs:Wl b):PE X (.Subscript a b pos) (tOp r ta tb):=by
 cbv
 exact Subscript_ (zg3 ha hb I h λv u s2 x y H2 I2 rx ry q=>hr a b pins s2 σ H2 x y v u Q I2 rx ry q (hs _ _))
noncomputable def rIxL(K:Ah):R2:=λx y H Q=>∃ p xs i v,x=.ref p/\y=.int i/\SqL K H p xs/\atI xs i=some v/\Q v H
noncomputable def rIxT(K:Ah):R2:=λx y H Q=>∃ p xs i v,x=.ref p/\y=.int i/\SqT K H p xs/\atI xs i=some v/\Q v H
noncomputable def rIxS:R2:=λx y H Q=>∃ z i c,x=.str z/\y=.int i/\z.length<=sizeLine/\atI z.cps.toList i=some c/\Q (.str ⟨#[c]⟩) H
theorem ix_list:IxR X (rIxL X.K):=by
 intro value slice pins s σ H x y v u Q I rx ry h hs
 obtain⟨p,xs,i,z,rfl,rfl,hq,he,q⟩:=h
 cases rx
 obtain⟨t,rfl⟩:=ry
 obtain⟨its,r,pl,hz⟩:=I.list hq
 obtain⟨j,h1,h2,h3,h4,h5⟩:=V8 he
 obtain⟨w,ew,rw'⟩:=r.get h2
 have hl:=r.length
 have hn:=wo
 have fin:EP X pins σ Q w s:=⟨z,H,I,rw',q⟩
 by_cases h0:0<=i
 ·have hj:i.toNat=j:=by
   rw[seqIndex_of h0 h5]at h1
   exact Option.some.inj h1
  exact item_listR pl.isList h0 (by omega) (by rw[hj];simpa using ew) fin hs
 ·have hj:(i+(its.toArray.size:Int)).toNat=j:=by
   rw[seqIndex_neg (by omega) h4]at h1
   rw[xq,<- hl]
   exact Option.some.inj h1
  exact subscriptTail_builtinR pl.isList.typeIs slot_list_getitem.lookup
   (wpAny_getItem_list_neg pl.isList (by omega) (by rw[xq]<;>omega) (by omega) (by rw[hj];simpa using ew) ⟨rfl,fin⟩) hs
theorem zhE:IxR X (rIxT X.K):=by
 intro value slice pins s σ H x y v u Q I rx ry h hs
 obtain⟨p,xs,i,z,rfl,rfl,hq,he,q⟩:=h
 cases rx
 obtain⟨t,rfl⟩:=ry
 obtain⟨its,r,pl,hz⟩:=I.tuple hq
 obtain⟨j,h1,h2,h3,h4,h5⟩:=V8 he
 obtain⟨w,ew,rw'⟩:=r.get h2
 have hl:=r.length
 have hn:=wo
 have fin:EP X pins σ Q w s:=⟨z,H,I,rw',q⟩
 exact subscriptTail_builtinR pl.typeIs slot_tuple_getitem.lookup
  (getItem_tuple pl (by omega) (by omega) (by rw[xq,<- hl];exact h1) (by simpa using ew) ⟨rfl,fin⟩) hs
theorem zhD:IxR X rIxS:=by
 intro value slice pins s σ H x y v u Q I rx ry h hs
 obtain⟨z,i,c,rfl,rfl,hz,he,q⟩:=h
 obtain⟨t,rfl⟩:=rx
 obtain⟨t',rfl⟩:=ry
 obtain⟨j,h1,h2,h3,h4,h5⟩:=V8 he
 have hl:z.cps.toList.length=z.length:=by simp[Str.length]
 rw[hl]at h1 h4 h5
 have hn:=wo
 exact tail_any (typeIs_str s z t) slot_str_getitem.lookup (getItem_str (by
  have e1:decide (i< -(2 ^ 63:Int))=false:=Xc (by omega)
  have e2:decide (i≥2 ^ 63)=false:=Xc (by omega)
  rw[e1,e2,Bool.or_false]) (by rw[h1];simpa using h2) ⟨.str ⟨#[c]⟩,H,I.tok _,⟨_,rfl⟩,q⟩) hs
theorem k8 (its:An) (n j:Nat) (u:Aj):Obj.mapSeq (·.setIfInBounds j u) { cls:=.type "list",data:=.seq its.toArray n }={ cls:=.type "list",data:=.seq (its.set j u).toArray n }:=by
 simp[Obj.mapSeq]
theorem Inv.lst{pins:Ak}{σ:St}{H:Hp}{s:Am}{p:Ap}{xs:List V}(I:Inv X pins σ H s)(h:H p=some (.lst xs)) :
  ∃ (its:An) (n:Nat),Vals xs its/\s.heap.get? p=some { cls:=.type "list",data:=.seq its.toArray n }/\xs.length<=sizeLine:=by
 obtain⟨z,its,n,r,e⟩:=I.hok p _ h
 exact⟨its,n,r,e,z⟩
theorem Inv.lstUpd{xs ys:List V}{its its':An}{n n':Nat}{f:Obj->Obj}(I:Inv X pins σ H s)(h:H p=some (.lst xs))
  (ho:s.heap.get? p=some { cls:=.type "list",data:=.seq its.toArray n }) (hf:f { cls:=.type "list",data:=.seq its.toArray n }={ cls:=.type "list",data:=.seq its'.toArray n' }) (r:Vals ys its') (hz:ys.length<=sizeLine) (t:Nat) :
  Inv X pins σ (upd H p (.lst ys)) { s with heap:=s.heap.update p f,toks:=t }:=by
 have e:(s.heap.update p f).get? p=some { cls:=.type "list",data:=.seq its'.toArray n' }:=by
  rw[Heap.get?_update_self f ho (by rw[hf]<;>rfl),hf]
 refine I.write (by rw[h];trivial) (.inl rfl) (λb u hb q=>(Xf _ _ (Ne.symm hb)).trans q) ⟨_,e⟩ ?_
 exact⟨hz,its',n',r,e⟩
def zjG:V->V->V->Hp->(Hp->Prop)->Prop:=λo i v H Q=>∃ p xs k j,o=.ref p/\i=.int k/\H p=some (.lst xs)/\ixN xs.length k=some j/\Q (upd H p (.lst (xs.set j v)))
theorem zdp:zgX X zjG:=by
 intro pins s σ H o i v ov iv u Q I ro ri rv h
 obtain⟨p,xs,k,j,rfl,rfl,hp,hj,q⟩:=h
 cases ro
 obtain⟨t,rfl⟩:=ri
 obtain⟨its,n,r,ho,hz⟩:=I.lst hp
 obtain⟨h1,h2,h3,h4⟩:=KY hj
 have hl:=r.length
 have hn:=wo
 have I':Inv X pins σ (upd H p (.lst (xs.set j v))) { s with heap:=s.heap.update p (Obj.mapSeq (·.setIfInBounds j u)) } :=
  I.lstUpd hp ho (k8 its n j u) (r.set rv j) (by rw[xS];exact hz) s.toks
 by_cases h0:0<=k
 ·have hk:k.toNat=j:=by
   rw[seqIndex_of h0 h4]at h1
   exact Option.some.inj h1
  exact W.ki_setAt ho h0 (by omega) (by rw[xq,<- hl];exact h4) (by rw[hk];exact⟨_,I',q⟩)
 ·have hk:(k+(its.toArray.size:Int)).toNat=j:=by
   rw[seqIndex_neg (by omega) h3]at h1
   rw[xq,<- hl]
   exact Option.some.inj h1
  exact W.ki_setBack ho (by omega) (by rw[xq,<- hl];exact h3) (by omega) (by rw[hk];exact⟨_,I',q⟩)
theorem yN(lo hi:Option Int)(n:Nat):(sliceBounds lo hi none n).1=((HT.sIx n 0 lo:Nat):Int)/\(sliceBounds lo hi none n).2.1=((HT.sIx n n hi:Nat):Int)/\(sliceBounds lo hi none n).2.2=1:=by
 refine⟨?_,?_,rfl⟩
 ·cases lo with
  |none=>simp[sliceBounds,HT.sIx]
  |some i=>
   simp only[sliceBounds,HT.sIx,Option.getD_none,show (1:Int)>0 by decide,if_true]
   by_cases h:i<0
   ·simp only[h,if_true]<;>omega
   ·simp only[h,if_false]<;>omega
 ·cases hi with
  |none=>simp[sliceBounds,HT.sIx]
  |some i=>
   simp only[sliceBounds,HT.sIx,Option.getD_none,show (1:Int)>0 by decide,if_true]
   by_cases h:i<0
   ·simp only[h,if_true]<;>omega
   ·simp only[h,if_false]<;>omega
theorem v8(its:An)(lo hi:Option Int):slicePick its.toArray lo hi none=((its.drop (HT.sIx its.length 0 lo)).take (HT.sIx its.length its.length hi-HT.sIx its.length 0 lo)).toArray:=by
 obtain⟨h1,h2,h3⟩:=yN lo hi its.toArray.size
 unfold slicePick
 rw[h1,h2,h3]
 simp only[sliceRange_one,pick_run,xq]<;>rfl
def rSlL(K:Ah):V->Option Int->Option Int->Hp->VK->Prop:=λx lo hi H Q=>∃ a xs,x=.ref a/\SqL K H a xs/\∀ p,H p=none->Q (.ref p) (upd H p (.lst (we xs lo hi)))
theorem zad:SlR X (rSlL X.K):=by
 intro pins s σ H x v vl vu lo hi sl Q I rx hs pl pu h
 obtain⟨a,xs,rfl,hx,q⟩:=h
 cases rx
 obtain⟨its,r,ht,hz⟩:=I.list hx
 have hlen:=r.length
 refine⟨"list",_,slot_list_getitem.lookup,ht.isList.typeIs,?_⟩
 refine wpAny_getItem_list_slice ht.isList hs pl pu .none (by simp) ?_ (by rw[xq]<;>omega)
 rw[v8,<- hlen]
 refine⟨.ref ⇑s,_,I.laid (λb ob q=>x6 _ q) (xi _) ?_,rfl,q _ (I.hok.fresh (xi _))⟩
 exact⟨xJ (wK xs lo hi) hz,_,0,(r.drop (HT.sIx xs.length 0 lo)).take (HT.sIx xs.length xs.length hi-HT.sIx xs.length 0 lo),Xa _ rfl⟩
theorem j2:qZ X (.builtin "len") (λxs H Q=>∃ p ys,xs= [.ref p]/\(SqL X.K H p ys∨SqT X.K H p ys)/\Q (.int ys.length) H):=by
 intro pins s σ H xs us Q I r h
 obtain⟨p,ys,rfl,hq,q⟩:=h
 obtain⟨u,rfl,rx⟩:=jX r
 cases rx
 have hn:=wo
 rcases hq with hq | hq
 ·obtain⟨its,r',pl,hz⟩:=I.list hq
  have hlen:=r'.length
  exact Calls.call_len_list pl.isList (by simp only[xq]<;>omega) ⟨.int ys.length,H,I.tok _,⟨s.toks+1,by rw[xq,hlen]⟩,q⟩
 ·obtain⟨its,r',pl,hz⟩:=I.tuple hq
  have hlen:=r'.length
  exact len_tuple pl (by simp only[xq]<;>omega) ⟨.int ys.length,H,I.tok _,⟨s.toks+1,by rw[xq,hlen]⟩,q⟩
theorem Jc:qZ X (.type "list") (λxs H Q=>∃ p ys,xs= [.ref p]/\(SqL X.K H p ys∨SqT X.K H p ys)/\∀ l,H l=none->Q (.ref l) (upd H l (.lst ys))):=by
 intro pins s σ H xs us Q I r h
 obtain⟨p,ys,rfl,hq,q⟩:=h
 obtain⟨u,rfl,rx⟩:=jX r
 cases rx
 have fin:∀(its:An),Vals ys its->ys.length<=sizeLine->∀(h':Heap)(c':Nat),(∀ b o',s.heap.get? b=some o'->h'.get? b=some o') ->
   h'.get? ⇑s=some { cls:=.type "list",dict:=none,data:=.seq its.toArray c',slots:=#[] }->EP X pins σ Q (.ref ⇑s) { s with heap:=h' }:=λits r' hz h' c' kp e=>
  ⟨.ref ⇑s,_,I.laid kp (xi _) (show ObjOk X.prog X.w _ h' _ (.lst ys) from ⟨hz,its,c',r',e⟩),rfl,q _ (I.hok.fresh (xi _))⟩
 rcases hq with hq | hq
 ·obtain⟨its,r',pl,hz⟩:=I.list hq
  have hlen:=r'.length
  obtain⟨o,ho,hc,n,hd⟩:=pl.isList
  exact call_list_seq p (.inl rfl) ho hc hd (λh' c' kp e=>fin its r' hz h' c' kp e) (by simp only[xq]<;>omega)
 ·obtain⟨its,r',pl,hz⟩:=I.tuple hq
  have hlen:=r'.length
  obtain⟨o,ho,hc,n,hd⟩:=pl
  exact call_list_seq p (.inr rfl) ho hc hd (λh' c' kp e=>fin its r' hz h' c' kp e) (by simp only[xq]<;>omega)
theorem vU:qZ X (.type "tuple") (λxs H Q=>∃ p ys,xs= [.ref p]/\((SqL X.K H p ys/\∀ l,H l=none->Q (.ref l) (upd H l (.tup ys)))∨(SqT X.K H p ys/\Q (.ref p) H))):=by
 intro pins s σ H xs us Q I r h
 obtain⟨p,ys,rfl,h⟩:=h
 obtain⟨u,rfl,rx⟩:=jX r
 cases rx
 rcases h with ⟨hq,q⟩ | ⟨hq,q⟩
 ·obtain⟨its,r',pl,hz⟩:=I.list hq
  have hlen:=r'.length
  refine call_tuple_list pl.isList (λh' kp=>?_) (by simp only[xq]<;>omega)
  have I1:=I.kept (t':=s.toks) kp
  have I2:Inv X pins σ (upd H h'.objs.size (.tup ys)) { s with heap:=h'.push { cls:=.type "tuple",data:=.seq its.toArray } } :=
   I1.laid (λb o e=>x6 _ e) (xi _) (show ObjOk X.prog X.w _ _ _ (.tup ys) from ⟨hz,its,r',IsTup.new _ _⟩)
  exact⟨.ref h'.objs.size,_,I2,rfl,q _ (I1.hok.fresh (xi _))⟩
 ·obtain⟨its,r',pl,hz⟩:=I.tuple hq
  exact call_tuple_same pl ⟨.ref p,H,I,rfl,q⟩
def tyV(K:Ah)(T:String)(x:V)(H:Hp):Prop:=match x with
 |.str _=>T= "str"
 |.int _=>T= "int"
 |.ref p=>(T= "list" /\∃ xs,SqL K H p xs)∨(T= "tuple" /\∃ o,K.lookup p=some o/\o.cls=.type "tuple" /\o.dict=none) ∨
   (T= "dict" /\((∃ kvs,H p=some (.dK kvs))∨∃ kvs,H p=some (.dT kvs)))∨(T= "set" /\∃ S n,H p=some (.set S n))
 |_=>False
theorem ziS{pins:Ak}{σ:St}{H:Hp}{s:Am}{T:String}{x:V}{v:Aj}(I:Inv X pins σ H s)(r:RelV x v)(ty:tyV X.K T x H) :
  s.TypeIs v T/\∀ a,v=.ref a->∃ ob,s.heap.get? a=some ob/\ob.dict=none:=by
 cases x with
 |str z=>
  obtain⟨t,rfl⟩:=r
  cases (show T= "str" from ty)
  exact⟨typeIs_str s z t,λ_ e=>nomatch e⟩
 |int i=>
  obtain⟨t,rfl⟩:=r
  cases (show T= "int" from ty)
  exact⟨typeIs_int s i t,λ_ e=>nomatch e⟩
 |ref p=>
  cases r
  rcases ty with ⟨rfl,xs,hq⟩ | ⟨rfl,o,hk,hc,hd⟩ | ⟨rfl,hk⟩ | ⟨rfl,S,n,hk⟩
  ·obtain⟨its,_,pl,_⟩:=I.list hq
   refine⟨pl.isList.typeIs,λa e=>?_⟩
   cases e
   obtain⟨o,n,e,c,hd,_⟩:=pl
   exact⟨o,e,hd⟩
  ·refine⟨⟨o,I.kIn p o hk,hc⟩,λa e=>?_⟩
   cases e
   exact⟨o,I.kIn _ o hk,hd⟩
  ·have z:∃ o,s.heap.get? p=some o/\o.ExactDict:=by
    rcases hk with ⟨kvs,hk⟩ | ⟨kvs,hk⟩
    ·obtain⟨_,_,_,_,o,_,_,e,ex,_⟩:=I.hok p _ hk
     exact⟨o,e,ex⟩
    ·obtain⟨_,_,_,_,o,_,_,e,ex,_⟩:=I.hok p _ hk
     exact⟨o,e,ex⟩
   obtain⟨o,e,ex⟩:=z
   refine⟨⟨o,e,ex.1⟩,λa e2=>?_⟩
   cases e2
   exact⟨o,e,ex.2.1⟩
  ·obtain⟨o,_,_,_,e,ex,_⟩:=I.hok p _ hk
   refine⟨⟨o,e,ex.1⟩,λa e2=>?_⟩
   cases e2
   exact⟨o,e,ex.2.1⟩
 |_=>exact False.elim ty
def tBM(K:Ah)(T:String)(r:V->List V->Hp->VK->Prop)(to:TE)(t:TA):TE:=λσ H Q=>to σ H λx H1=>tyV K T x H1/\t σ H1 λxs H2=>r x xs H2 Q
variable {o e:Expr}{es:Ag}{to:TE}{t:TA}{name:Str}{apos cpos:Pos}{T id:String}{r:V->List V->Hp->VK->Prop}
theorem zcR (pa:PlainAttrs T) (slot:Slot T name id) (hty:typeOf (.builtin id)=pure (.type "method_descriptor")) (hm:MtR X id r) (ho:PE X o to) (ha:PA X (e::es) t)
  (hbase:attributeBase o name X.env (eval o X.env)=eval o X.env:=by rfl)
  (hfew:((backTo cpos (starEach (e::es) X.env)).all (λx=> !x.1)&&(backToKw cpos (keywordEach [] X.env)).all (λx=>x.1.isSome)
   && decide ((e::es).length+([]:List Keyword).length+(if ([]:List Keyword).isEmpty then 0 else 1)<30))=true:=by rfl)
  (hline:(apos.endLine==cpos.line)=true:=by rfl) (hs:starEach (e::es) X.env=(false,eval e X.env)::starEach es X.env:=by rfl) (hplain:(backTo cpos (starEach es X.env)).any (·.1)=false:=by rfl) :
  PE X (.Call (.Attribute o name apos) (e::es) [] cpos) (tBM X.K T r to t):=by
 cbv
 refine wpAny_Call_method_late hbase hfew hline rfl (thn (ho pins s σ H _ I h) λv s1 ⟨x,H1,I1,r1,ty,q1⟩=>?_)
 obtain⟨h1,h2⟩:=ziS I1 r1 ty
 refine⟨T,id,pa,slot,hty,h1,h2,?_⟩
 have hA:=ha cpos pins s1 σ H1 _ I1 q1
 rw[hs]at hA |-
 refine Calls.callWith_builtin (by show (false||(backTo cpos (starEach es X.env)).any (·.1))=false;rw[hplain]<;>rfl) (Calls.evalArgs_plain ?_)
 exact thn hA λus s2 ⟨vs,H2,I2,r2,q2⟩=>hm pins s2 σ H2 x vs v us Q I2 r1 r2 q2
end
def MtM(X:Cx)(id:String)(r:V->List V->Hp->VK->Prop):Prop :=
 ∀(pins:Ak)(s:Am)(σ:St)(H:Hp)(x:V)(xs:List V)(v:Aj)(us:An)(Q:VK),Inv X pins σ H s->RelV x v->Vals xs us->r x xs H Q ->
  ∅ (call (.builtin id) (v::us)) (EP X pins σ Q) X.xe s
theorem Vals.one:∀{x:V}{us:An},Vals [x] us->∃ u,us= [u]/\RelV x u
 |_,_,.cons r .nil=>⟨_,rfl,r⟩
theorem Vals.rep(h:Vals xs us):∀ k:Nat,Vals (List.replicate k xs).flatten (List.replicate k us).flatten
 |0=>.nil
 |k+1=>by
  rw[xW,xW,ul,ul]
  exact Vals.append h (Vals.rep h k)
theorem wj(its:An):∀(k:Nat)(acc:An),
  List.foldl (λx1 x2=>x1++x2) acc.toArray (List.replicate k its.toArray)=(acc++(List.replicate k its).flatten).toArray
 |0,acc=>by simp
 |k+1,acc=>by
  have e:acc.toArray++its.toArray=(acc++its).toArray:=by simp
  have e2:(acc++its)++(List.replicate k its).flatten=acc++(List.replicate (k+1) its).flatten:=by
   rw[xW,ul,uz]
  rw[<- e2,<- wj its k (acc++its),<- e,xW,List.foldl_cons]
section
variable {X:Cx}{pins:Ak}{σ:St}{H:Hp}{s:Am}{l:Ap}{xs ys:List V}
theorem Inv.lset{its its':An}{n:Nat}{f:Array Aj->Array Aj}{t':Nat}(I:Inv X pins σ H s)(hH:H l=some (.lst xs))
  (e:s.heap.get? l=some { cls:=.type "list",data:=.seq its.toArray n }) (hf:f its.toArray=its'.toArray) (hv:Vals ys its') (hz:ys.length<=sizeLine) :
  Inv X pins σ (upd H l (.lst ys)) { s with heap:=s.heap.update l (Obj.mapSeq f),toks:=t' }:=by
 have q:=PySem.IsL.update e f
 rw[hf]at q
 refine I.write (by rw[hH];exact trivial) (.inl rfl) (λb' u hb hu=>(Xf s.heap (Obj.mapSeq f) (Ne.symm hb)).trans hu) ⟨_,q⟩ ?_
 exact⟨hz,its',_,hv,q⟩
theorem Inv.lnew{t':Nat}(I:Inv X pins σ H s)(hv:Vals ys its)(hz:ys.length<=sizeLine) :
  Inv X pins σ (upd H ⇑s (.lst ys)) { s with heap:=s.heap.push { cls:=.type "list",data:=.seq its.toArray },toks:=t' } :=
 I.laid (λ_ _ q=>x6 _ q) (xi _) ⟨hz,its,0,hv,Xa _ rfl⟩
theorem Inv.fresh(I:Inv X pins σ H s):H ⇑s=none:=I.hok.fresh (xi _)
theorem Inv.lstM (I:Inv X pins σ H s) (hH:H l=some (.lst xs)):xs.length<=sizeLine/\∃ (its:An) (n:Nat),Vals xs its/\xs.length=its.length/\s.heap.get? l=some { cls:=.type "list",data:=.seq its.toArray n }:=by
 obtain⟨z,its,n,r,e⟩:=I.hok l _ hH
 exact⟨z,its,n,r,r.length,e⟩
end
section
variable {X:Cx}
def zfw:V->List V->Hp->VK->Prop:=λx vs H Q=>∃ l xs y,x=.ref l/\vs= [y]/\H l=some (.lst xs)/\xs.length<sizeLine/\Q .non (upd H l (.lst (xs++ [y])))
theorem VN:MtM X "list.append" zfw:=by
 intro pins s σ H x vs v us Q I rx rv h
 obtain⟨l,xs,y,rfl,rfl,hH,hz,q⟩:=h
 cases rx
 obtain⟨u,rfl,ru⟩:=rv.one
 obtain⟨z,its,n,r,hl,e⟩:=I.lstM hH
 refine call_meets F.slot_list_append ⟨_,e,rfl⟩ F.entry_list_append (F.args_list_append_2 _ _) (PySem.list_append l its.toArray n u (by rw[xq];omega)) ⟨e,?_⟩
 refine⟨.non,_,I.lset hH e (by simp) (r.append (.cons ru .nil)) ?_,rfl,q⟩
 rw[xB,ui]
 omega
noncomputable def rCat:R2:=λx y H Q=>∃ l b xs zs,x=.ref l/\y=.ref b/\H l=some (.lst xs)/\H b=some (.lst zs)/\xs.length+zs.length<=sizeLine/\∀ p,H p=none->Q (.ref p) (upd H p (.lst (xs++zs)))
theorem zhS:OpR X (binaryOp .Add) rCat:=by
 intro pins s σ H x y v u Q I rx ry h
 obtain⟨l,b,xs,zs,rfl,rfl,hH,hB,hz,q⟩:=h
 cases rx
 cases ry
 obtain⟨z,its,n,r,hl,e⟩:=I.lstM hH
 obtain⟨z2,its2,n2,r2,hl2,e2⟩:=I.lstM hB
 refine PySem.P.add_list e e2 ?_ (by rw[xq,xq];omega)
 have ea:its.toArray++its2.toArray=(its++its2).toArray:=by simp
 rw[ea]
 exact⟨.ref _,_,I.lnew (r.append r2) (by rw[xB];omega),rfl,q _ I.fresh⟩
theorem yC{α:Type}(xs:List α)(k:Nat):(List.replicate k xs).flatten.length=k*xs.length:=by
 induction k with
 |zero=>simp
 |succ k ih=>rw[xW,ul,xB,ih,Nat.succ_mul,Nat.add_comm]
end
section
end
section
end
end L2
namespace Att
open PySem PySem.W PySem.Calls PyProof.Rows
theorem Wi:∀(ns:List Int)(vs:An),WellAll P h vs (ns.map WData.int)->IntsAre vs ns:=by
 intro ns
 induction ns with
 |nil=>
  intro vs w
  rw[List.map_nil]at w
  cases w
  exact .nil
 |cons n ns ih=>
  intro vs w
  rw[xw]at w
  cases w with
  |cons a b=>
   cases a
   exact .cons _ _ (ih _ b)
theorem zbf{l:OpenLaw}(hn:l.most=some n){P:Params}{h:Heap}{args:List WData}{vals:An}
  (hpre:l.row.toRowW.claim.pre args=true) (hwl:WellAll P h vals args) :
  ∃ a vs ns,vals= [Value.ref a]/\args= [WData.list (ns.map WData.int)]/\h.get? a=some { cls:=.type "list",data:=.seq vs.toArray }/\IntsAre vs ns/\ns.length<=n:=by
 have hsh:=(pre_splitW hpre).1
 have hc:l.pre.holds [] { args:=args }=true:=(pre_splitW hpre).2
 obtain⟨d,r,rfl,h1,h2⟩:=hasAllW_cons hsh
 obtain rfl:=hasAllW_nil h2
 obtain⟨xs,rfl,h3⟩:=hasW_list h1
 obtain⟨ns,rfl⟩:=items_int h3
 have hlen:ns.length<=n:=by
  unfold OpenLaw.pre at hc
  have h4:(WTm.not (.lt (.lit (.int (n:Int))) (.len (.arg 0)))).holds [] { args:= [.list (ns.map .int)] }=true:=by
   have h4:=(holds_andW hc).1
   rw[hn]at h4
   exact h4
  have h5:=condW_of h4 (w_not (w_lt w_lit (w_len_list (w_arg rfl))))
  rw[xn]at h5
  refine Nat.le_of_not_lt λq=>?_
  have q':(n:Int)<((ns.length:Nat):Int):=by omega
  first
   | (rw[decide_eq_true q']at h5;exact absurd h5 (by decide))
   | (simp at h5;omega)
 cases hwl with
 |cons w1 w2=>
  cases w2
  cases w1 with
  |list ho hall=>exact⟨_,_,ns,rfl,rfl,ho,Wi ns _ hall,hlen⟩
theorem zbb(l:OpenLaw)(args:List WData):l.row.toRowW.claim.post args (.bool true) args=true :=
 postW_of
  (show WShape.has [] (.bool true) .bool=true by first | rfl | decide | simp[WShape.has,WShape.arms,WShape.armsAll])
  (show (WTm.eq .res (.lit (.bool true))).value [] { args:=args,res:=some (.bool true),after:=args }=some (.bool (true==true)) from w_eq_bool (w_res rfl) w_lit) rfl
theorem attach_call{l:OpenLaw}{n:Nat}{q:Ar}{loose:Ab}{XP:(Aq)->Heap->Prop}{YP:World->Heap->Prop}{d:DefRec}
  (hn:l.most=some n) (hdf:d.params.defaults= [])
  (call:∀(w:World)(s₀ s₁:Am)(mg mb:Aq)(fa:Ap)(o:Obj)(pm cd doc:Aj)(a:Ap)(vs:An)(ns:List Int),
   Ground q loose [] XP w s₀ mg mb s₁.heap->YP w s₁.heap ->
   s₁.heap.get? fa=some o->o.data=.func (docDef d.name d.params d.body d.scope pm cd doc)->s₁.heap.CodeRec cd d.name->mg d.name=some (.ref fa) ->
   s₁.heap.get? a=some { cls:=.type "list",data:=.seq vs.toArray }->IntsAre vs ns->ns.length<=n->s₁.gens=#[] ->
   codeAny (model l.prog w) callerA (.call (.ref fa) ⟨[.ref a],[]⟩) (λr s'=>r=.ok (.ret (.bool true))/\OldK s₁.heap s'.heap/\s'.os=s₁.os/\AllBare s'.gens) s₁) :
  WalkO q loose XP YP l.row.toRowW d [] (λf vs=>PySem.call f vs):=by
 intro w s₀ s₁ mg mb G Y fa o pm cd doc dV kV ho hd hcd hD hmg hg args vals as hpre hlay hrd hwl hlo
 obtain rfl:dV=.none:=Dflts.none hD hdf
 obtain rfl:kV=.none:=Dflts.noKw hD
 obtain⟨a,vs,ns,rfl,rfl,hobj,hints,hlen⟩:=zbf hn hpre hwl
 refine enter_call (Xl (call w s₀ s₁ mg mb fa o pm cd doc a vs ns G Y ho (fd_plain hd) hcd hmg hobj hints hlen hg) λr s' hq=>?_)
 obtain⟨rfl,h2,h3,h4⟩:=hq
 exact⟨.inl ⟨.bool true,.bool true,[],rfl,λ_=>rfl,.bool true,zbb l _,λ_=>⟨List.Pairwise.nil,λ_ hm=>(nomatch hm)⟩⟩,h2,h3,h4⟩
section
end
end Att
namespace L2
open PySem PySem.Spec PyProof.Rows
theorem jY:∀{vs:An}{ns:List Int},IntsAre vs ns->Vals (ns.map V.int) vs
 |_,_,.nil=>.nil
 |_,_,.cons n t h=>.cons ⟨t,rfl⟩ (jY h)
def zgW(H:Hp):Prop:=∀ b,H b=none∨∃ o xs,H b=some (.frz o (.lst xs))
theorem zcw{P:Ar}{w:World}{K:Ah}{mg mb:Aq}{CX:CXT}{k:Nat}{fa a:Ap}{fd:FuncData}{x:Str}{sp:Sp}{s₁:Am}{vs:An}{ns:List Int}
  (KX:K.In s₁.heap) (hns:s₁.heap.Ns mainGlobals mg) (hb:s₁.heap.Ns builtinsNs mb) (hbb:∀ x:Str,x≠ "__name__" ->mb x=bootBuiltins x) (hlim:s₁.heap.NoLimit) (hg:s₁.gens=#[])
  (ha:s₁.heap.get? a=some { cls:=.type "list",data:=.seq vs.toArray }) (hi:IntsAre vs ns) (hl:ns.length<=sizeLine) (hr:Room k callerA)
  (F:∀ base:Heap,K.In base->base.Ns mainGlobals mg->FnOk P w K mg base CX k fa fd [x] sp) (hbind:∀(s:Am)(u:Aj),BindsTo s fd ⟨[u],[]⟩ [(x,u)])
  (hsp:∀ H:Hp,zgW H->SqL K H a (ns.map V.int)->sp [.ref a] H (λv _=>v=.bl true) λ_ _ _=>False)
  (hCX:∀ H e s',CX [] H s₁ (λ_ _ _=>False) e s'->False) :
  codeAny (model P w) callerA (.call (.ref fa) ⟨[.ref a],[]⟩) (λr s'=>r=.ok (.ret (.bool true))/\OldK s₁.heap s'.heap/\s'.os=s₁.os/\AllBare s'.gens) s₁:=by
 have rv:=jY hi
 have lenV:=hi.length
 -- from an abstract heap in which nothing but the script may be tracked
 have core:∀ H:Hp,zgW H->SqL K H a (ns.map V.int)->HOk P w H s₁.heap->(∀ b,H b≠none->b=a)->(H a≠none->K.lookup a=none) ->
   codeAny (model P w) callerA (.call (.ref fa) ⟨[.ref a],[]⟩) (λr s'=>r=.ok (.ret (.bool true))/\OldK s₁.heap s'.heap/\s'.os=s₁.os/\AllBare s'.gens) s₁:=by
  intro H hO hS hok hA hK
  have Jb:∀{b:Ap}{o:Obj},s₁.heap.get? b=some o->H b=none->(yB s₁.heap H).get? b=some o:=λe n=>zco e n
  have noA:∀{b:Ap}{o:Obj}{es:Array DictEntry}{ep:Nat},s₁.heap.get? b=some o->o.data=.dict es ep->H b=none:=λ{b o es ep} e d=>by
   cases q:H b with
   |none=>rfl
   |some u=>
    have e':=hA b (by rw[q];simp)
    subst e'
    rw[ha]at e;cases e
    have d':=d
    cases d'
  have nsK:∀{b:Ap}{m:Aq},s₁.heap.Ns b m->(yB s₁.heap H).Ns b m:=λ{b m} ⟨o,es,ep,e,d,r⟩=>⟨o,es,ep,Jb e (noA e d),d,r⟩
  have hKb:K.In (yB s₁.heap H):=λb o e=>Jb (KX b o e) (by
   cases q:H b with
   |none=>rfl
   |some u=>
    have e':=hA b (by rw[q];simp)
    subst e'
    rw[hK (by rw[q];simp)]at e;cases e)
  have hM:Mod K mg (yB s₁.heap H):=⟨hKb,nsK hns,⟨mb,nsK hb,hbb⟩,let ⟨mc,h1,h2⟩:=hlim;⟨mc,nsK h1,h2⟩⟩
  have e0:Env0 P w K mg (yB s₁.heap H) callerA [] s₁ H:=⟨rfl,hM,λb o e=>ze9 e,Nat.le_of_eq (zaP _ _),trivial,λb hb=>absurd (show b∈([]:List Ap) from hb) (by simp),hok,.of_eq hg⟩
  refine Xl ((F _ hKb (nsK hns)).run callerA [] s₁ H ⟨[.ref a],[]⟩ [.ref a] [.ref a] _ _ hr e0 (hbind s₁ (.ref a)) (.cons rfl .nil) (hsp H hO hS)) λr s' h=>?_
  cases r with
  |error e=>exact (hCX H e s' h).elim
  |ok fl=>
   cases fl with
   |next=>exact False.elim h
   |brk=>exact False.elim h
   |cont=>exact False.elim h
   |ret u=>
    obtain⟨v,H',os,bare,un,hok',r',q⟩:=h
    have q':=q
    subst q'
    obtain rfl:u=Value.bool true:=r'
    refine⟨rfl,OldK.of_keep λb o e=>?_,os,bare⟩
    cases q:H b with
    |none=>exact un.keep b o e q (by intro z;exact absurd (show b∈([]:List Ap) from z) (by simp)) (by simp)
    |some u=>
     rcases hO b with z | ⟨ob,xs,z⟩
     ·rw[q]at z;cases z
     ·have z2:=un.frzs b ob _ z
      obtain⟨e1,_⟩:=hok b _ z
      obtain⟨e2,_⟩:=hok' b _ z2
      rw[e]at e1;cases e1
      exact e2
 cases hk:K.lookup a with
 |some o=>
  -- the script is one of the module's own objects
  have e:=KX a o hk
  rw[ha]at e
  cases e
  refine core (λ_=>none) (λ_=>.inl rfl) (.inr ⟨_,vs.toArray,_,hk,rfl,rfl,rfl,by rw[xq,lenV];exact hl,by simpa using rv⟩) (λb u z=>by have z':(none:Option HO)=some u:=z;cases z') (λb z=>absurd rfl z) λz=>absurd rfl z
 |none=>
  refine core (λb=>if b=a then some (.frz { cls:=.type "list",data:=.seq vs.toArray } (.lst (ns.map V.int))) else none) (λb=>?_) (.inl (.inr ⟨{ cls:=.type "list",data:=.seq vs.toArray },if_pos rfl⟩)) (λb u z=>?_) (λb z=>?_) λ_=>hk
  ·by_cases hb:b=a
   ·exact .inr ⟨_,_,if_pos hb⟩
   ·exact .inl (if_neg hb)
  ·by_cases hb:b=a
   ·have z':=(if_pos hb).symm.trans z
    cases z'
    subst hb
    exact⟨ha,by rw[xn];exact hl,vs,_,rv,ha⟩
   ·have z':=(if_neg hb).symm.trans z
    cases z'
  ·by_cases hb:b=a
   ·exact hb
   ·exact absurd (if_neg hb) z
noncomputable abbrev KOf{K:Ah}{h:Heap}(_:K.In h):Ah:=K
theorem walk_of{l:W.OpenLaw}{n k:Nat}{q:Ar}{loose:Ab}{XP:(Aq)->Heap->Prop}{YP:World->Heap->Prop}{d:DefRec}{K:Params->Ah}{CX:World->CXT}{sp:World->Sp}{x:Str}
  (hn:l.most=some n) (hn2:n<=sizeLine) (hdf:d.params.defaults= []) (hr:Room k callerA)
  (hY:∀(w:World)(h:Heap),YP w h->(K w.params).In h)
  (F:∀(w:World)(mg:Aq)(fa:Ap)(h:Heap),(K w.params).In h->h.Ns mainGlobals mg->mg d.name=some (.ref fa) ->
   ∃ fd:FuncData,(∀(s:Am)(u:Aj),BindsTo s fd ⟨[u],[]⟩ [(x,u)]) /\
    ∀ base:Heap,(K w.params).In base->base.Ns mainGlobals mg->FnOk l.prog w (K w.params) mg base (CX w) k fa fd [x] (sp w))
  (hsp:∀(w:World)(H:Hp)(a:Ap)(ns:List Int),ns.length<=n->zgW H->SqL (K w.params) H a (ns.map V.int)->sp w [.ref a] H (λv _=>v=.bl true) λ_ _ _=>False)
  (hCX:∀(w:World)(H:Hp)(s:Am)(e:Aj)(s':Am),CX w [] H s (λ_ _ _=>False) e s'->False) :
  W.WalkO q loose XP YP l.row.toRowW d [] (λf vs=>PySem.call f vs):=by
 refine Att.attach_call hn hdf λw s₀ s₁ mg mb fa o pm cd doc a vs ns G Y ho hd hcd hmg hobj hints hlen hg=>?_
 have KX:=hY w _ Y
 obtain⟨fd,hb,hF⟩:=F w mg fa _ KX G.T.g hmg
 exact zcw KX G.T.g G.T.b G.T.builtins G.T.nolimit hg hobj hints (xJ hlen hn2) hr hF hb (λH hO hS=>hsp w H a ns hlen hO hS) λH e s'=>hCX w H s₁ e s'
noncomputable def qd(s:Stmt):Arguments:=match s with
 |.FunctionDef _ a _ _ _ _ _ _ _ _=>a
 |_=>{ posonlyargs:= [],args:= [],vararg:=none,kwonlyargs:= [],kw_defaults:= [],kwarg:=none,defaults:= [] }
noncomputable def defBody(s:Stmt):List Stmt:=match s with
 |.FunctionDef _ _ b _ _ _ _ _ _ _=>b
 |_=> []
noncomputable def defScope(s:Stmt):Scope:=match s with
 |.FunctionDef _ _ _ _ _ _ sc _ _ _=>sc
 |_=>{ kind:=.function,names:= [],isGenerator:=false,isCoroutine:=false }
noncomputable abbrev CX0:CXT:=λ_ _ _ _ _ _=>False
noncomputable abbrev E0:XK:=λ_ _ _=>False
theorem zjA:V5 CX0 X E0:=λ_ _ _ _ _ _ _ h=>h.elim
structure Fun(K:Ah)(x qual:Str)(st:Stmt)(f:Ap)(fd:FuncData):Prop where
 ex:∃(oc:Aj)(od:Option Ap)(kV doc pm:Aj)(an:Option Ap)(cdv ct:Aj)(osl:Array (Option Aj)),
  fd=W.fnOf x qual (qd st) (defBody st) (defScope st) .none kV doc pm an cdv ct/\K.lookup f=some ⟨oc,od,.func fd,osl⟩/\W.codeIn K cdv qual=true
 kp:W.keepIn K (.ref f)=true
section
variable {P:Ar}{w:World}{K:Ah}{mg:Aq}{base:Heap}
theorem Fun.ok{x qual:Str}{st:Stmt}{f:Ap}{fd:FuncData}{N ps:Ab}{k:Nat}{sp:Sp}(F:Fun K x qual st f fd)(S:ja N ps (defScope st))(len:∀ vs H Q E,sp vs H Q E->vs.length=ps.length)
  (hbody:∀(cdv:Aj)(A:Around)(outer:List Env)(s:Am)(H:Hp)(vs:List V)(Q:VK)(E:XK),Room k (A.deeper (envOfC qual (defScope st) ⇑s f cdv))->sp vs H Q E ->
   ∃ t,PSs (Qu CX0 P w K mg base N qual (defScope st) f cdv A outer s H E).nox (defBody st) t/\t { nx:=λ_ H'=>Q .non H',rt:=Q } (start N vs) H):FnOk P w K mg base CX0 (k+1) f fd ps sp:=by
 obtain⟨oc,od,kV,doc,pm,an,cdv,ct,osl,rfl,lk,hcd⟩:=F.ex
 refine zgA lk hcd S len λA outer s H vs Q E hr hsp=>?_
 obtain⟨t,h,q⟩:=hbody cdv A outer s H vs Q E hr hsp
 exact⟨t,h.nox,q⟩
theorem Fun.binds{x qual:Str}{st:Stmt}{f:Ap}{fd:FuncData}{ps:Ab}(F:Fun K x qual st f fd)
  (h:∀(kV doc pm:Aj)(an:Option Ap)(cdv ct:Aj)(us:An),us.length=ps.length->bindArgs (W.fnOf x qual (qd st) (defBody st) (defScope st) .none kV doc pm an cdv ct) ⟨us,[]⟩=pure (ps.zip us)):Binds K fd ps []:=by
 obtain⟨oc,od,kV,doc,pm,an,cdv,ct,osl,rfl,lk,hcd⟩:=F.ex
 exact .all (h kV doc pm an cdv ct)
theorem Qz{st:Stmt}{f:Ap}{oc:Aj}{kV doc pm cdv ct:Aj}(l:K.lookup f=some ⟨oc,od,.func (W.fnOf x qual (qd st) (defBody st) (defScope st) .none kV doc pm an cdv ct),osl⟩)
  (c:W.codeIn K cdv qual=true) (k:W.keepIn K (.ref f)=true):Fun K x qual st f (W.fnOf x qual (qd st) (defBody st) (defScope st) .none kV doc pm an cdv ct):=⟨⟨oc,od,kV,doc,pm,an,cdv,ct,osl,rfl,l,c⟩,k⟩
end
section
variable {X:Cx}
theorem pv (i:Nat){pos:Pos}(hN:X.N[i]?=some x:=by rfl) (hv:Vis X.env.scope x:=by first | exact Or.inl rfl | exact Or.inr (Or.inl rfl) | exact Or.inr (Or.inr rfl)) (hd:(↥x):=by decide)
    (hcd:(x==("__classdict__" :Str))=false:=by decide):PE X (.Name x pos) (zj7 i):=zQ hN hv hd hcd
end
theorem Yp{A B:Prop}(h:B):if false=true then A else B:=by
 rw[if_neg Bool.false_ne_true]
 exact h
theorem Yq{A B:Prop}(h:A):if true=true then A else B:=by
 rw[if_pos rfl]
 exact h
def Same(H H':Hp):Prop:=∀ b o,H b=some o->H' b=some o
theorem Same.refl(H:Hp):Same H H:=λ_ _ h=>h
theorem Same.trans(a:Same H H1)(b:Same H1 H2):Same H H2:=λc o h=>b c o (a c o h)
theorem Same.free{H H':Hp}(e:Same H H'){l:Ap}(h:H' l=Option.none):H l=Option.none:=by
 cases q:H l with
 |none=>rfl
 |some o=>
  rw[e l o q]at h
  cases h
theorem Same.seq{K:Ah}{H H':Hp}{a:Ap}{xs:List V}(e:Same H H')(h:SqL K H a xs):SqL K H' a xs:=by
 rcases h with (h | ⟨o,h⟩) | h
 ·exact .inl (.inl (e _ _ h))
 ·exact .inl (.inr ⟨o,e _ _ h⟩)
 ·exact .inr h
section
variable {κ:Type}[DecidableEq κ]
noncomputable def Ju(kvs:List (κ×V))(k:κ):Option V:=(kvs.find? λkv=>decide (kv.1=k)).map (·.2)
noncomputable def Zg(kvs:List (κ×V))(k:κ)(v:V):List (κ×V) :=
 if (kvs.any λkv=>decide (kv.1=k))=true then kvs.map (λkv=>if kv.1=k then (kv.1,v) else kv) else kvs++ [(k,v)]
noncomputable def WZ(kvs:List (κ×V))(k:κ):List (κ×V):=kvs.filter λkv=>decide (kv.1≠k)
theorem vR{k:κ}(e:p.1=k):Ju (p::r) k=some p.2:=by simp[Ju,xX,e]
theorem vQ{k:κ}(e:¬ p.1=k):Ju (p::r) k=Ju r k:=by simp[Ju,xX,e]
theorem YW(k:κ):∀ kvs:List (κ×V),(kvs.any λkv=>decide (kv.1=k))=(Ju kvs k).isSome
 |[]=>rfl
 |p::r=>by
  rw[xY]
  by_cases e:p.1=k
  ·simp only[vR e,decide_eq_true e,Bool.true_or,Option.isSome_some]
  ·rw[vQ e,Xc e,Bool.false_or];exact YW k r
theorem Zm(kvs:List (κ×V))(k:κ)(v:V):(Zg kvs k v).length<=kvs.length+1:=by
 unfold Zg
 split
 ·rw[xn];omega
 ·rw[xB,xr,uh];omega
theorem RelO.isSome_eq(r:RelO o u):o.isSome=u.isSome:=by
 cases o with
 |none=>cases u with
  |none=>rfl
  |some _=>exact (show False from r).elim
 |some _=>cases u with
  |none=>exact (show False from r).elim
  |some _=>rfl
theorem KV.val(r:KV kvs vs)(k:κ):RelO (Ju kvs k) (valueAt vs k):=by
 unfold KV at r
 induction r with
 |nil=>exact True.intro
 | @cons p q ps qs h t ih=>
  obtain⟨h1,h2⟩:=h
  by_cases e:p.1=k
  ·have e':=h1.symm.trans e
   have b:valueAt (q::qs) k=some q.2:=by simp[valueAt,xX,e']
   rw[vR e,b];exact h2
  ·have e':¬ q.1=k:=λz=>e (h1.trans z)
   have b:valueAt (q::qs) k=valueAt qs k:=by simp[valueAt,xX,e']
   rw[vQ e,b];exact ih
theorem KV.any(r:KV kvs vs)(k:κ):(kvs.any λkv=>decide (kv.1=k))=vs.any λkv=>decide (kv.1=k):=by
 unfold KV at r
 induction r with
 |nil=>rfl
 |cons h t ih=>rw[xY,xY,ih,h.1]
theorem KV.repl(r:KV kvs vs)(k:κ)(ry:RelV y u) :
  KV (kvs.map λkv=>if kv.1=k then (kv.1,y) else kv) (vs.map λkv=>if kv.1=k then (kv.1,u) else kv):=by
 unfold KV at r |-
 induction r with
 |nil=>exact .nil
 | @cons p q ps qs h t ih=>
  rw[xw,xw]
  refine .cons ?_ ih
  obtain⟨h1,h2⟩:=h
  by_cases e:p.1=k
  ·rw[if_pos e,if_pos (h1.symm.trans e)];exact⟨h1,ry⟩
  ·rw[if_neg e,if_neg (λz=>e (h1.trans z))];exact⟨h1,h2⟩
theorem KV.put(r:KV kvs vs)(k:κ)(ry:RelV y u):KV (Zg kvs k y) (stored vs k u):=by
 unfold Zg stored
 rw[r.any k]
 by_cases e:(vs.any λkv=>decide (kv.1=k))=true
 ·rw[if_pos e,if_pos e];exact r.repl k ry
 ·rw[if_neg e,if_neg e];exact Paired.snoc r ⟨rfl,ry⟩
theorem KV.drop(r:KV kvs vs)(k:κ):KV (WZ kvs k) (without vs k):=by
 unfold KV at r |-
 unfold WZ without
 induction r with
 |nil=>exact .nil
 | @cons p q ps qs h t ih=>
  obtain⟨h1,h2⟩:=h
  rw[xU,xU]
  by_cases e:p.1=k
  ·have a:¬ decide (p.1≠k)=true:=by simp[e]
   have b:¬ decide (q.1≠k)=true:=by simp[h1.symm.trans e]
   rw[if_neg a,if_neg b];exact ih
  ·have e':¬ q.1=k:=λz=>e (h1.trans z)
   have a:decide (p.1≠k)=true:=by simp[e]
   have b:decide (q.1≠k)=true:=by simp[e']
   rw[if_pos a,if_pos b];exact .cons ⟨h1,h2⟩ ih
theorem KV.keys{kvs:List (κ×V)}(r:KV kvs vs):kvs.map (·.1)=vs.map (·.1):=by
 unfold KV at r
 induction r with
 |nil=>rfl
 |cons h t ih=>rw[xw,xw,ih,h.1]
theorem KV.length(r:KV kvs vs):kvs.length=vs.length:=Paired.length r
theorem zb9(kvs:List (κ×V))(k:κ):(WZ kvs k).length<=kvs.length:=List.length_filter_le _ _
end
theorem wM(r:RelV (kV k) u):(zA P w).is k u=true:=by
 cases k with
 |inl i=>obtain⟨t,e⟩:=(show ∃ t,u=Value.int i t from r);subst e;exact Ys P w i t
 |inr x=>obtain⟨t,e⟩:=(show ∃ t,u=Value.str x t from r);subst e;exact Yt P w x t
theorem VB:∀{ks:List Key}{us:An},Vals (ks.map kV) us->ItemsAre (zA P w) ks us
 |[],_,r=>by rw[List.map_nil]at r;cases r;exact .nil
 |k::ks,_,r=>by
  rw[xw]at r
  cases r with
  |cons h t=>exact .cons (wM h) (VB t)
abbrev KT(H:Hp):List (List Key×V)->List (List Key×Addr×Value)->Prop:=Paired λp q=>p.1=q.1/\H q.2.1=some (.tup (p.1.map kV))/\RelV p.2 q.2.2
theorem KT.val{H:Hp}(r:KT H kvs xs)(k:List Key):RelO (Ju kvs k) ((atKey xs k).map (·.2)):=by
 induction r with
 |nil=>exact True.intro
 | @cons p q ps qs h t ih=>
  obtain⟨h1,_,h2⟩:=h
  by_cases e:p.1=k
  ·have e':=h1.symm.trans e
   have b:atKey (q::qs) k=some q.2:=by simp[atKey,xX,e']
   rw[vR e,b];exact h2
  ·have e':¬ q.1=k:=λz=>e (h1.trans z)
   have b:atKey (q::qs) k=atKey qs k:=by simp[atKey,xX,e']
   rw[vQ e,b];exact ih
theorem KT.repl(r:KT H kvs xs)(k:List Key)(ry:RelV y u) :
  KT H (kvs.map λkv=>if kv.1=k then (kv.1,y) else kv) (xs.map (putAt k u)):=by
 induction r with
 |nil=>exact .nil
 | @cons p q ps qs h t ih=>
  rw[xw,xw]
  refine .cons ?_ ih
  obtain⟨h1,h2,h3⟩:=h
  unfold putAt
  by_cases e:p.1=k
  ·rw[if_pos e,if_pos (h1.symm.trans e)];exact⟨h1,h2,ry⟩
  ·rw[if_neg e,if_neg (λz=>e (h1.trans z))];exact⟨h1,h2,h3⟩
theorem KT.put(r:KT H kvs xs)(k:List Key)(hb:H b=some (.tup (k.map kV)))(ry:RelV y u) :
  KT H (Zg kvs k y) (storedH xs k b u):=by
 have e:(kvs.any λkv=>decide (kv.1=k))=(atKey xs k).isSome:=by
  rw[YW,(r.val k).isSome_eq,Option.isSome_map]
 unfold Zg storedH
 rw[e]
 by_cases q:(atKey xs k).isSome=true
 ·rw[if_pos q,if_pos q];exact r.repl k ry
 ·rw[if_neg q,if_neg q];exact Paired.snoc r ⟨rfl,hb,ry⟩
theorem KT.keeps(r:KT H kvs xs)(ht:∀ b ys,H b=some (.tup ys)->H' b=some (.tup ys)):KT H' kvs xs :=
 Paired.mapP r λ_ _ z=>⟨z.1,ht _ _ z.2.1,z.2.2⟩
section
variable {P:Ar}{w:World}{H:Hp}{h:Heap}{a:Ap}
theorem zgF(ok:HOk P w H h)(e:Rd H a u):ObjOk P w H h a u:=e.ok ok
theorem Qg(ok:HOk P w H h)(e:Rd H a (.dK kvs)):kvs.length<=sizeLine/\(a==sysModules)=false/\∃ vs,KV kvs vs/\h.DictOf (zA P w) a vs :=
 show ObjOk P w H h a (.dK kvs) from zgF ok e
theorem KJ(ok:HOk P w H h)(e:H a=some (.dK kvs)):kvs.length<=sizeLine/\(a==sysModules)=false/\∃ vs,KV kvs vs/\h.DictOf (zA P w) a vs:=Qg ok (.inl e)
theorem va(ok:HOk P w H h)(e:H a=some (.tup (ks.map kV))):(tupleKind (zA P w)).is h ks a:=by
 obtain⟨_,its,r,o,h1,h2,n,h3⟩:=(show ObjOk P w H h a (.tup (ks.map kV)) from ok a _ e)
 exact⟨o,its.toArray,n,h1,h2,h3,by simpa using VB r⟩
theorem Vw(ok:HOk P w H h)(e:Rd H a (.dT kvs)):kvs.length<=sizeLine/\(a==sysModules)=false /\
  ∃ xs,KT H kvs xs/\h.DictOfH (tupleKind (zA P w)) a xs:=by
 obtain⟨z,y,xs,r,o,es,ep,h1,h2,h3,h4,h5⟩:=(show ObjOk P w H h a (.dT kvs) from zgF ok e)
 refine⟨z,y,xs,r,o,es,ep,h1,h2,h3,h4,λx hx=>?_,h5⟩
 have all:∀{l:List (List Key×V)}{m:List (List Key×Addr×Value)},KT H l m->∀ x∈m,(tupleKind (zA P w)).is h x.1 x.2.1:=by
  intro l m q
  induction q with
  |nil=>intro x hx;exact nomatch hx
  | @cons p q ps qs hq t ih=>
   intro x hx
   rcases xC.mp hx with e | hx
   ·subst e
    exact va ok (by rw[<- hq.1];exact hq.2.1)
   ·exact ih x hx
 exact all r x hx
theorem zjj(ok:HOk P w H h)(e:H a=some (.dT kvs)):kvs.length<=sizeLine/\(a==sysModules)=false /\
  ∃ xs,KT H kvs xs/\h.DictOfH (tupleKind (zA P w)) a xs:=Vw ok (.inl e)
end
def Y1(H:Hp)(a:Ap)(y:V)(r:Option V):Prop :=
 (∃ kvs k,Rd H a (.dK kvs)/\y=kV k/\r=Ju kvs k)∨∃ kvs k b,Rd H a (.dT kvs)/\y=.ref b/\H b=some (.tup (k.map kV))/\r=Ju kvs k
def zi9(H:Hp)(a:Ap)(y v:V)(H':Hp):Prop :=
 (∃ kvs k,H a=some (.dK kvs)/\y=kV k/\kvs.length<sizeLine/\H'=upd H a (.dK (Zg kvs k v))) ∨
 ∃ kvs k b,H a=some (.dT kvs)/\y=.ref b/\H b=some (.tup (k.map kV))/\kvs.length<sizeLine/\H'=upd H a (.dT (Zg kvs k v))
section
variable {X:Cx}{pins:Ak}{σ:St}{H:Hp}{s:Am}{a:Ap}{y v:V}{u r:Aj}{o:Option V}{A:Around}{E:Af}
theorem Inv.big(I:Inv X pins σ H s):sysModules<⇑s:=by
 have h:=(I.mod.glob.keeps I.bk).lt
 exact Nat.lt_trans (by decide) h
theorem zaF(hu:A.units+1<cLine)(I:Inv X pins σ H s)(g:Y1 H a y (some v))(ry:RelV y u)(h:∀ w' s',Inv X pins σ H s'->RelV v w'->Q w' s') :
  wpAny (model X.prog X.w) A (getItem (.ref a) u) Q E s:=by
 rcases g with ⟨kvs,k,e,ey,l⟩ | ⟨kvs,k,b,e,ey,eb,l⟩
 ·subst ey
  obtain⟨z,hd,vs,rel,dd⟩:=Qg I.hok e
  obtain⟨w',hw,rw'⟩:=RelO.some_of (by rw[l];exact rel.val k)
  exact wpAny_getItem_of (wM ry) dd.mapOf hw (h w' _ (I.tok _) rw')
 ·subst ey
  cases (show u=Value.ref b from ry)
  obtain⟨z,hd,xs,rel,dd⟩:=Vw I.hok e
  obtain⟨w',hw,rw'⟩:=RelO.some_of (by rw[l];exact rel.val k)
  obtain⟨p,hp,hp2⟩:=uu.mp hw
  refine wpAny_getItem_heap (tupleKind_room_in1 hu) (va I.hok eb) dd hp ?_
  rw[hp2]
  exact h w' _ (I.tok _) rw'
theorem d_in(hu:A.units+1<cLine)(I:Inv X pins σ H s)(g:Y1 H a y o)(ry:RelV y u)(h:∀ s',Inv X pins σ H s'->Q (.bool o.isSome) s') :
  wpAny (model X.prog X.w) A (compareOp .In u (.ref a)) Q E s:=by
 rcases g with ⟨kvs,k,e,ey,l⟩ | ⟨kvs,k,b,e,ey,eb,l⟩
 ·subst ey
  obtain⟨z,hd,vs,rel,dd⟩:=Qg I.hok e
  refine wpAny_in_of (wM ry) hd dd.mapOf ?_
  rw[<- (rel.val k).isSome_eq,<- l]
  exact h _ (I.tok _)
 ·subst ey
  cases (show u=Value.ref b from ry)
  obtain⟨z,hd,xs,rel,dd⟩:=Vw I.hok e
  refine wpAny_in_heap (tupleKind_room_in1 hu) (va I.hok eb) hd dd ?_
  have q:=(rel.val k).isSome_eq
  rw[Option.isSome_map]at q
  rw[<- q,<- l]
  exact h _ (I.tok _)
theorem zeJ(hu:A.units+1<cLine)(I:Inv X pins σ H s)(g:Y1 H a y o)(ry:RelV y u)(h:∀ s',Inv X pins σ H s'->Q (.bool (!o.isSome)) s') :
  wpAny (model X.prog X.w) A (compareOp .NotIn u (.ref a)) Q E s:=by
 rcases g with ⟨kvs,k,e,ey,l⟩ | ⟨kvs,k,b,e,ey,eb,l⟩
 ·subst ey
  obtain⟨z,hd,vs,rel,dd⟩:=Qg I.hok e
  refine wpAny_notIn_of (wM ry) hd dd.mapOf ?_
  rw[<- (rel.val k).isSome_eq,<- l]
  exact h _ (I.tok _)
 ·subst ey
  cases (show u=Value.ref b from ry)
  obtain⟨z,hd,xs,rel,dd⟩:=Vw I.hok e
  refine wpAny_notIn_heap (tupleKind_room_in1 hu) (va I.hok eb) hd dd ?_
  have q:=(rel.val k).isSome_eq
  rw[Option.isSome_map]at q
  rw[<- q,<- l]
  exact h _ (I.tok _)
theorem Wp{t':Nat}(I:Inv X pins σ H s)(mu:Mut (H a))(hs:Heap.SameBut a s.heap h')(he:∃ q,h'.get? a=some q)(new:ObjOk X.prog X.w (upd H a ob) h' a ob) :
  Inv X pins σ (upd H a ob) { s with heap:=h',toks:=t' } :=
 I.write mu (.inl rfl) (λb q hb z=>(hs.2 b hb).trans z) he new
theorem WY{H':Hp}(z:kvs.length<=sizeLine)(hd:(a==sysModules)=false)(rel:KV kvs vs)(dd:h'.DictOf (zA P w) a vs) :
  ObjOk P w H' h' a (.dK kvs):=⟨z,hd,vs,rel,dd⟩
theorem zaJ(hu:A.units+1<cLine)(I:Inv X pins σ H s)(g:zi9 H a y v H')(ry:RelV y u)(rv:RelV v r)(h:∀ s',Inv X pins σ H' s'->Q () s') :
  wpAny (model X.prog X.w) A (setItem (.ref a) u r) Q E s:=by
 rcases g with ⟨kvs,k,e,ey,l,eH⟩ | ⟨kvs,k,b,e,ey,eb,l,eH⟩
 ·subst ey eH
  obtain⟨z,hd,vs,rel,dd⟩:=KJ I.hok e
  have hz:vs.length<=sizeLine:=by rw[<- rel.length];exact z
  have hl:(Zg kvs k v).length<=sizeLine:=by have:=Zm kvs k v;omega
  refine wpAny_setItem_pairs (wM ry) dd λh' dd' hs=>h _ ?_
  have he:∃ q,h'.get? a=some q:=let ⟨q,_,_,hq,_⟩:=dd';⟨q,hq⟩
  exact Wp I (by rw[e];exact True.intro) hs he (WY hl hd (rel.put k rv) dd')
 ·subst ey eH
  cases (show u=Value.ref b from ry)
  obtain⟨z,hd,xs,rel,dd⟩:=zjj I.hok e
  have hz:xs.length<=sizeLine:=by rw[<- Paired.length rel];exact z
  have hl:(Zg kvs k v).length<=sizeLine:=by have:=Zm kvs k v;omega
  refine wpAny_setItem_heap (tupleKind_room_in1 hu) (va I.hok eb) dd λh' dd' hs=>h _ ?_
  obtain⟨q,es,ep,hq,h2,h3,h4,_,h5⟩:=dd'
  refine Wp I (by rw[e];exact True.intro) hs ⟨q,hq⟩ ⟨hl,hd,_,(rel.put k eb rv).keeps λc ys ec=>?_,q,es,ep,hq,h2,h3,h4,h5⟩
  rw[ze (zgD ec e (λz=>nomatch z))]
  exact ec
end
section
variable {X:Cx}{pins:Ak}{σ:St}{H:Hp}{s:Am}{a:Ap}{kvs:List (Key×V)}{k:Key}{u:Aj}{A:Around}{E:Af}
theorem zjh{Q:Af}(I:Inv X pins σ H s)(e:H a=some (.dK kvs))(ry:RelV (kV k) u)(l:Ju kvs k=some v)(hm:more= []∨∃ x,more= [x])
  (h:∀ w' s',Inv X pins σ (upd H a (.dK (WZ kvs k))) s'->RelV v w'->Q w' s'):wpAny (model X.prog X.w) A (call (.builtin "dict.pop") (.ref a::u::more)) Q E s:=by
 obtain⟨z,hd,vs,rel,dd⟩:=KJ I.hok e
 obtain⟨w',hw,rw'⟩:=RelO.some_of (by rw[<- l];exact rel.val k)
 have hp:(keyPart u).isSome=true:=by
  cases k with
  |inl i=>obtain⟨t,q⟩:=(show ∃ t,u=Value.int i t from ry);subst q;rfl
  |inr x=>obtain⟨t,q⟩:=(show ∃ t,u=Value.str x t from ry);subst q;rfl
 have ha:argsOk "dict.pop" ⟨.ref a::u::more,[]⟩:=by
  rcases hm with q | ⟨x,q⟩
  ·subst q;exact PySem.F.args_dict_pop_2 _ _
  ·subst q;exact PySem.F.args_dict_pop_3 _ _ _
 refine call_meetsIn PySem.F.slot_dict_pop dd.typeIs PySem.F.entry_dict_pop ha (meets_dict_pop_there (zA X.prog X.w) a (wM ry) more hm hp)
  ⟨vs,w',dd,by rw[<- rel.length];exact z,hw,λh' dd' hs=>h w' _ ?_ rw'⟩
 have he:∃ q,h'.get? a=some q:=let ⟨q,_,_,hq,_⟩:=dd';⟨q,hq⟩
 exact Wp I (by rw[e];exact True.intro) hs he (WY (xJ (zb9 kvs k) z) hd (rel.drop k) dd')
end
def zeg(i:Expr):Prop:=∀ ov iv,subscripted i false ov iv=operate [ov,iv] (getItem ov iv)
theorem zgb{prog:Ar}{w:World}{A:Around}{E:Af}{s:Am}{env:Env}{value slice:Expr}{pos:Pos}{T id:String}{Q:Af}
  (hl:typeLookup (.type T) "__getitem__" =pure (some (.builtin id))) (hs:zeg slice)
  (h:wpAny (model prog w) A (eval value env) (λo s₁=>wpAny (model prog w) A (eval slice env) (λi s₂=>s₂.TypeIs o T/\wpAny (model prog w) A (getItem o i) Q E s₂) E s₁) E s) :
  wpAny (model prog w) A (eval (.Subscript value slice pos) env) Q E s:=by
 refine Subscript_ (Xe h (λo s₁ h₁=>Xe h₁ (λi s₂ h₂=>?_) λ_ _ x=>x) λ_ _ x=>x)
 obtain⟨hT,h₂⟩:=h₂
 unfold subscriptTail
 refine x5 ?_
 rw[getitemInPython_of_ne hT.not_modules]
 refine x5 (wpAny_specialOf hT hl ?_)
 have fin:wpAny (model prog w) A (subscripted slice false o i) (λr s₃=>wpAny (model prog w) A (letTemporaryGo value o r >>= λ_=>pure r) Q E s₃) E s₂:=by
  rw[hs o i]
  exact wpAny_operating (Xe h₂ (λr s₃ h₃=>x5 (wpAny_letTemporaryGo (x9 h₃))) λ_ _ x=>x)
 first
  |exact x9 (x5 fin)
  |exact x5 (x9 (x5 fin))
  |exact x5 fin
theorem Yg (I:Inv X pins σ H s) (g:Y1 H a y o):s.TypeIs (.ref a) "dict" :=by
 rcases g with ⟨kvs,k,e,_,_⟩ | ⟨kvs,k,b,e,_,_,_⟩
 ·obtain⟨_,_,vs,_,dd⟩:=Qg I.hok e
  exact dd.typeIs
 ·obtain⟨_,_,xs,_,dd⟩:=Vw I.hok e
  exact dd.typeIs
def zj2(td ty:TE):TE:=λσ H Q=>td σ H λx H1=>ty σ H1 λy H2=>∃ a v,x=.ref a/\Y1 H2 a y (some v)/\Q v H2
def zjL(td ty tv:TE):TS:=λD σ H=>tv σ H λv H1=>td σ H1 λx H2=>ty σ H2 λy H3=>∃ a H4,x=.ref a/\zi9 H3 a y v H4/\D.nx σ H4
section
variable {X:Cx}{o i value:Expr}{pos pos':Pos}{td ty tv:TE}
theorem zfk(hu:X.A.units+1<cLine)(ho:PE X o td)(hi:PE X i ty)(hs:zeg i):PE X (.Subscript o i pos) (zj2 td ty):=by
 cbv
 refine zgb PySem.F.slot_dict_getitem.lookup hs (thn (ho pins s σ H _ I h) λu s1 ⟨x,H1,I1,rx,q1⟩=>thn (hi pins s1 σ H1 _ I1 q1) λiv s2 ⟨y,H2,I2,ry,a,v,ex,g,q2⟩=>?_)
 subst ex
 obtain rfl:u=Value.ref a:=rx
 exact⟨Yg I2 g,zaF hu I2 g ry λw' s3 I3 rw'=>⟨v,H2,I3,rw',q2⟩⟩
theorem zfp(hu:X.A.units+1<cLine)(ho:PE X o td)(hi:PE X i ty)(hv:PE X value tv)(hs:swapsWith value (some (.Subscript o i pos')) pos.line X.env=pure false) :
  PS X (.Assign [.Subscript o i pos'] value pos) (zjL td ty tv):=by
 intro pins s σ H D I h
 refine wpAny_Assign_Subscript (thn (hv pins s σ H _ I h) λr s1 ⟨v,H1,I1,rv,q1⟩=>thn (ho pins s1 σ H1 _ I1 q1) λu s2 ⟨x,H2,I2,rx,q2⟩=>thn (hi pins s2 σ H2 _ I2 q2) λiv s3 ⟨y,H3,I3,ry,a,H4,ex,g,q3⟩=>?_) hs
 subst ex
 obtain rfl:u=Value.ref a:=rx
 exact zaJ hu I3 g ry rv λs4 I4=>⟨σ,H4,I4,q3⟩
end
theorem zb8 (h:Heap) (hb:sysModules<h.objs.size):ObjOk P w H (h.push { cls:=.type "dict",data:=.dict #[] }) h.objs.size (.dK []) :=
 ⟨ug _,Xb.mpr (Ne.symm (xk hb)),[],.nil,Heap.DictOf.new h⟩
def ziM:TE:=λ_ H Q=>∀ p,H p=none->Q (.ref p) (upd H p (.dK []))
section
variable {X:Cx}{pos:Pos}
theorem pe_dnewK:PE X (.Dict [] [] pos) ziM:=λpins s σ H Q I h=>
 wpAny_Dict_empty ⟨.ref ⇑s,_,I.laid (λ_ _ q=>x6 _ q) (xi _) (zb8 s.heap I.big),rfl,h _ (I.hok.fresh (xi _))⟩
end
noncomputable def QQ(kvs more:List (Key×V)):List (Key×V):=more.foldl (λacc kv=>Zg acc kv.1 kv.2) kvs
theorem KV.merge:∀{more:List (Key×V)}{rs:List (Key×Value)}{kvs:List (Key×V)}{vs:List (Key×Value)},KV more rs->KV kvs vs->KV (QQ kvs more) (merged vs rs):=by
 intro more rs kvs vs r
 unfold KV at r
 induction r generalizing kvs vs with
 |nil=>intro q;exact q
 | @cons p q ps qs h t ih=>
  intro r0
  have e:KV (Zg kvs p.1 p.2) (stored vs q.1 q.2):=by
   have:=r0.put p.1 h.2
   rw[<- h.1];exact this
  exact ih e
theorem Qh:∀(more kvs:List (Key×V)),(QQ kvs more).length<=kvs.length+more.length
 |[],kvs=>by show kvs.length<=kvs.length+0;omega
 |p::r,kvs=>by
  have h1:=Qh r (Zg kvs p.1 p.2)
  have h2:=Zm kvs p.1 p.2
  show (QQ (Zg kvs p.1 p.2) r).length<=_
  rw[xr];omega
structure M1(X:Cx)(o:Expr)(m:Str)(apos:Pos)(e:Expr)(cpos:Pos):Prop where
 base:attributeBase o m X.env (eval o X.env)=eval o X.env
 few:((backTo cpos (starEach [e] X.env)).all (λx=> !x.1)&&(backToKw cpos (keywordEach [] X.env)).all (λx=>x.1.isSome)
  && decide (([e]:Ag).length+([]:List Keyword).length+(if ([]:List Keyword).isEmpty then 0 else 1)<30))=true
 line:(apos.endLine==cpos.line)=true
 trees:backTo cpos (starEach [e] X.env)= [(false,eval e X.env)]
def IsD(H:Hp)(a:Ap):Prop:=(∃ kvs,Rd H a (.dK kvs))∨∃ kvs,Rd H a (.dT kvs)
theorem kS(I:Inv X pins σ H s)(d:IsD H a) :
  s.TypeIs (.ref a) "dict" /\(∀ b,Value.ref a=.ref b->∃ ob,s.heap.get? b=some ob/\ob.dict=none)/\(a==sysModules)=false:=by
 rcases d with ⟨kvs,e⟩ | ⟨kvs,e⟩
 ·obtain⟨_,hd,vs,_,dd⟩:=Qg I.hok e
  refine⟨dd.typeIs,λb q=>?_,hd⟩
  cases q
  obtain⟨ob,_,_,h1,h2,_⟩:=dd
  exact⟨ob,h1,h2.2.1⟩
 ·obtain⟨_,hd,xs,_,dd⟩:=Vw I.hok e
  refine⟨dd.typeIs,λb q=>?_,hd⟩
  cases q
  obtain⟨ob,_,_,h1,h2,_⟩:=dd
  exact⟨ob,h1,h2.2.1⟩
section
end
def ziN(td ty:TE):TE:=λσ H Q=>td σ H λx H1=>∃ a,x=.ref a/\IsD H1 a/\ty σ H1 λy H2=>∃ kvs k v,H2 a=some (.dK kvs)/\y=kV k/\Ju kvs k=some v/\Q v (upd H2 a (.dK (WZ kvs k)))
section
variable {X:Cx}{o e:Expr}{apos cpos:Pos}{td ty:TE}
theorem zcW (ho:PE X o td) (he:PE X e ty) (m:M1 X o "pop" apos e cpos):PE X (.Call (.Attribute o "pop" apos) [e] [] cpos) (ziN td ty):=by
 cbv
 refine wpAny_Call_method m.base m.few m.line PySem.F.plainAttrs_dict PySem.F.slot_dict_pop PySem.F.type_dict_pop (thn (ho pins s σ H _ I h) λu s1 ⟨x,H1,I1,rx,a,ex,d,q1⟩=>?_)
 subst ex
 obtain rfl:u=Value.ref a:=rx
 obtain⟨t1,t2,_⟩:=kS I1 d
 refine⟨t1,t2,?_⟩
 rw[m.trees]
 refine Calls.callWith_builtin rfl (Calls.evalArgs_plain (Calls.spliced_cons (thn (he pins s1 σ H1 _ I1 q1) λiv s2 ⟨y,H2,I2,ry,kvs,k,v,ea,ey,l,q2⟩=>Calls.spliced_nil ?_)))
 subst ey
 exact zjh I2 ea ry l (.inl rfl) λw' s3 I3 rw'=>⟨v,_,I3,rw',q2⟩
end
section
variable {X:Cx}{pins:Ak}{σ:St}{H:Hp}{s:Am}{a:Ap}{kvs:List (Key×V)}{A:Around}{E:Af}
theorem zb2 (I:Inv X pins σ H s) (e:Rd H a (.dK kvs)) (h:∀ p s',H p=none->Inv X pins σ (upd H p (.dK kvs)) s'->Q (.ref p) s'):wpAny (model X.prog X.w) A (call (.type "dict") [.ref a]) Q E s:=by
 obtain⟨z,hd,vs,rel,dd⟩:=Qg I.hok e
 refine kt_call_dict hd dd (by rw[<- rel.length];exact z) λh' dd' hs=>?_
 refine h _ _ (I.hok.fresh (xi _)) (I.laid (λb q hq=>?_) (xi _) (WY z (Xb.mpr (Ne.symm (xk I.big))) rel dd'))
 exact (hs.2 b (xk (x8 hq))).trans (x6 _ hq)
end
section
end
section
end
theorem zX{α β:Type}[BEq α][LawfulBEq α]:∀{l:List (α×β)}{x:α}{v:β},l.lookup x=some v->(x,v)∈l
 |[],_,_,h=>by simp at h
 | (a,b)::r,x,v,h=>by
  rw[xy]at h
  cases e:x==a with
  |true=>rw[e]at h;have e':=eq_of_beq e;subst e';cases h;exact xv
  |false=>rw[e]at h;exact xo _ (zX h)
theorem Qt{env:Env}:∀(names:List (Str×NameKind))(cs:List (Str×Addr)),
    (∀ y∈names,y.2=.free->∃ c,env.cells.lookup y.1=some c)->(∀ x c,cs.lookup x=some c->env.cells.lookup x=some c) ->
    ∃ cl,(forIn names cs λx r=>if (x.snd==NameKind.free)=true then do
                let z<-cellOf env x.fst
                pure (ForInStep.yield ((x.fst,z)::r))
              else pure (ForInStep.yield r):Sem (List (Str×Addr)))=pure cl/\(∀ x c,cl.lookup x=some c->env.cells.lookup x=some c) /\
      (∀ x,(∃ c,cs.lookup x=some c)∨(x,NameKind.free)∈names->∃ c,cl.lookup x=some c)
  |[],cs,_,h2=>⟨cs,by simp,h2,λx hx=>by
      rcases hx with h | h
      · exact h
      · cases h⟩
  | (n,k)::r,cs,h1,h2=>by
    rw[List.forIn_cons]
    by_cases hk:k=.free
    · subst hk
      obtain⟨c,hc⟩:=h1 (n,.free) xv rfl
      have e:cellOf env n=pure c:=by unfold cellOf;rw[hc]
      obtain⟨cl,e1,h3,h4⟩:=Qt r ((n,c)::cs) (λy hy=>h1 y (xo _ hy)) (λx c' hx=>by
        rw[xy]at hx
        cases q:x==n with
        |true=>rw[q]at hx;cases hx;rw[eq_of_beq q];exact hc
        |false=>rw[q]at hx;exact h2 x c' hx)
      refine⟨cl,?_,h3,λx hx=>h4 x ?_⟩
      · simp only [beq_self_eq_true, if_true, e, pure_bind]
        exact e1
      · by_cases q : x = n
        · subst q;exact .inl ⟨c,by simp⟩
        · rcases hx with ⟨c', hx⟩ | hx
          · exact .inl ⟨c',by rw[xy,Xb.mpr q];exact hx⟩
          · rcases List.mem_cons.mp hx with z | z
            · exact absurd (congrArg Prod.fst z) q
            · exact .inr z
    · have hb : (k == NameKind.free) = false := by simpa using hk
      obtain⟨cl,e1,h3,h4⟩:=Qt r cs (λy hy=>h1 y (xo _ hy)) h2
      refine⟨cl,?_,h3,λx hx=>h4 x ?_⟩
      · simp only [hb, Bool.false_eq_true, if_false, pure_bind]
        exact e1
      · rcases hx with hx | hx
        · exact .inl hx
        · rcases List.mem_cons.mp hx with z | z
          · exact absurd (congrArg Prod.snd z).symm hk
          · exact .inr z
theorem kt(h:∀ y∈sc.names,y.2=.free->∃ c,env.cells.lookup y.1=some c) :
  ∃ cl,closureFor sc env=pure cl/\(∀ x c,cl.lookup x=some c->env.cells.lookup x=some c)/\(∀ x,(x,NameKind.free)∈sc.names->∃ c,cl.lookup x=some c):=by
 obtain⟨cl,e,h1,h2⟩:=Qt sc.names [] h (λx c z=>by simp at z)
 refine⟨cl,?_,h1,λx hx=>h2 x (.inr hx)⟩
 simp only[closureFor]
 rw[bind_pure]
 exact e
def zam (X:Cx) (C:Ap) (x:Aj) (s':Am):Prop:=∃ m,s'.heap.Ns C m/\∀ h',Heap.SameBut C s'.heap h'->∀ cenv:Env,cenv.locals=C->∅ (passOn "comprehension.variables-let-go" x cenv:Sem Aj) (λ_ _=>False) X.xe { s' with heap:=h' }
noncomputable abbrev Cx.comp(X:Cx)(N':Ab)(scope:Scope)(cl:List (Str×Addr))(C:Ap)(s2:Am)(H2:Hp)(fp:List Ap):Cx :=
 { X with N:=N',env:=compEnvC scope cl C X.env,s₀:=s2,H₀:=H2,outer:=X.stack,stack:=X.stack,ex:=fp,fn:=λx=>decide (scope.names.lookup x=some .cell),pn:= [],xe:=notedBy (model X.prog X.w) X.A (compEnvC scope cl C X.env) (zam X C) }
def Cat(X:Cx)(σ:St)(C:Ap)(s2:Am)(H2:Hp)(fp:List Ap):Prop:=∃ pins,Inv X pins σ H2 s2/\(∀ b∈fp,Q4 X pins H2 b)/\⇑s2<=C
structure CSc(psc:Scope)(N:Ab)(sc:Scope)(N':Ab)(k:Nat)(ix:Ac):Prop where
 kind:sc.kind=.function
 cel:∀ y∈sc.names,y.2=.cell->sc.names.lookup y.1=some .cell
 loc:∀ y∈sc.names,y.2=.local->sc.names.lookup y.1=some .local
 fre:∀ y∈sc.names,y.2=.free->psc.names.lookup y.1=some .cell∨psc.names.lookup y.1=some .free
 len:N'.length=k+ix.length
 nd:N'.Nodup
 cap:∀(j i:Nat),ix[j]?=some i->∃ y,N'[k+j]?=some y/\N[i]?=some y/\sc.names.lookup y=some .free
noncomputable def KI(psc:Scope)(N:Ab)(sc:Scope)(N':Ab)(k:Nat)(ix:Ac):Bool :=
 decide (sc.kind=.function)&&sc.names.all (λy=>(decide (y.2≠ .cell)||decide (sc.names.lookup y.1=some .cell))&&(decide (y.2≠ .local)||decide (sc.names.lookup y.1=some .local))&&(decide (y.2≠ .free)||decide (psc.names.lookup y.1=some .cell)||decide (psc.names.lookup y.1=some .free))) &&
 decide (N'.length=k+ix.length)&&decide N'.Nodup&&(List.range ix.length).all (λj=>match N'[k+j]?,N[ix.getD j 0]? with
  |some y,some z=>decide (y=z)&&decide (sc.names.lookup y=some .free)
  |_,_=>false)
theorem CSc.of(h:KI psc N sc N' k ix=true):CSc psc N sc N' k ix:=by
 unfold KI at h
 simp only[xa,x0,xI,xN]at h
 obtain⟨⟨⟨⟨h1,h2⟩,h3⟩,h4⟩,h5⟩:=h
 refine⟨h1,λy hy e=>?_,λy hy e=>?_,λy hy e=>?_,h3,h4,λj i e=>?_⟩
 ·rcases (h2 y hy).1.1 with z | z
  ·exact absurd e z
  ·exact z
 ·rcases (h2 y hy).1.2 with z | z
  ·exact absurd e z
  ·exact z
 ·rcases (h2 y hy).2 with (z | z) | z
  ·exact absurd e z
  ·exact .inl z
  ·exact .inr z
 ·obtain⟨hj,ei⟩:=xb.mp e
  have:=h5 j (List.mem_range.mpr hj)
  have e2:ix.getD j 0=i:=by rw[xH,e];rfl
  rw[e2]at this
  split at this
  next y z ey ez=>
   simp only[xa,x0]at this
   obtain⟨rfl,hl⟩:=this
   exact⟨y,ey,ez,hl⟩
  ·cases this
noncomputable def cS(k:Nat)(ix:Ac)(σ:St):St:=List.replicate k none++ix.map λi=>(σ[i]?).join
theorem Jm{env:Env}:∀{names:List (Str×NameKind)}{x:Str},
    ((names.map λ(n,k)=>if (k==NameKind.free&&env.scope.kind==.function&&env.kindOf n==some .cell) then (n,NameKind.cell) else (n,k)).lookup x=some .cell ∨
     (names.map λ(n,k)=>if (k==NameKind.free&&env.scope.kind==.function&&env.kindOf n==some .cell) then (n,NameKind.cell) else (n,k)).lookup x=some .free)->names.lookup x=some .free∨names.lookup x=some .cell
  |[],_,h=>by simp at h
  | (n,k)::r,x,h=>by
    have ih:=@Jm env r x
    rw[xw]at h
    dsimp only at h
    by_cases hcd:(k==NameKind.free&&env.scope.kind==.function&&env.kindOf n==some .cell)=true
    · have hkf : k = .free := by
        simp only[xa]at hcd
        exact eq_of_beq hcd.1.1
      rw[if_pos hcd]at h
      cases hx:x==n with
      |true=>rw[xy,hx,hkf];exact .inl rfl
      |false=>simp only[xy,hx]at h;simp only[xy,hx];exact ih h
    · rw [if_neg hcd] at h
      cases hx:x==n with
      |true=>
        simp only[xy,hx]at h
        rw[xy,hx]
        rcases h with h | h
        · exact .inr h
        · exact .inl h
      |false=>simp only[xy,hx]at h;simp only[xy,hx];exact ih h
theorem wT{env:Env}:∀{names:List (Str×NameKind)}{x:Str},names.lookup x=some .free ->
    ((names.map λ(n,k)=>if (k==NameKind.free&&env.scope.kind==.function&&env.kindOf n==some .cell) then (n,NameKind.cell) else (n,k)).lookup x=some .cell ∨
     (names.map λ(n,k)=>if (k==NameKind.free&&env.scope.kind==.function&&env.kindOf n==some .cell) then (n,NameKind.cell) else (n,k)).lookup x=some .free)
  |[],_,h=>by simp at h
  | (n,k)::r,x,h=>by
    have ih:=@wT env r x
    rw[xw]
    dsimp only
    cases hx:x==n with
    |true=>
      rw[xy,hx]at h
      cases h
      by_cases hcd:(NameKind.free==NameKind.free&&env.scope.kind==.function&&env.kindOf n==some .cell)=true
      · rw[if_pos hcd];simp[xy,hx]
      · rw[if_neg hcd];simp[xy,hx]
    |false=>
      rw[xy,hx]at h
      by_cases hcd:(k==NameKind.free&&env.scope.kind==.function&&env.kindOf n==some .cell)=true
      · rw[if_pos hcd];simp only[xy,hx];exact ih h
      · rw[if_neg hcd];simp only[xy,hx];exact ih h
structure ClOk(X:Cx)(sc:Scope)(cl:List (Str×Addr))(C:Ap)(h4:Heap):Prop where
 src:∀ x c,cl.lookup x=some c->X.env.cells.lookup x=some c∨(C<c/\h4.IsCell c none)
 inj:∀ x y c,cl.lookup x=some c->cl.lookup y=some c->x=y
 has:∀ x,(sc.names.lookup x=some .free∨sc.names.lookup x=some .cell)->∃ c,cl.lookup x=some c
 own:∀ x c,sc.names.lookup x=some .cell->cl.lookup x=some c->C<c
 old:∀ x c,sc.names.lookup x=some .free->cl.lookup x=some c->X.env.cells.lookup x=some c
theorem z9:∀(names:List (Str×NameKind))(n:Nat)(acc:List (Str×Addr)),cellsFrom n names acc=cellsFrom n names []++acc
 |[],n,acc=>rfl
 | (x,k)::r,n,acc=>by
  unfold cellsFrom
  split
  ·rw[z9 r (n+1) ((x,n)::acc),z9 r (n+1) [(x,n)],uz];rfl
  ·exact z9 r n acc
theorem j3:∀(names:List (Str×NameKind))(n:Nat)(y:Str×Addr),y∈cellsFrom n names []->(y.1,NameKind.cell)∈names
 |[],n,y,h=>by cases h
 | (x,k)::r,n,y,h=>by
  unfold cellsFrom at h
  split at h
  next hk=>
   rw[z9]at h
   rcases xM.mp h with h | h
   ·exact xo _ (j3 r _ y h)
   ·have e:y=(x,n):=by simpa using h
    subst e
    have hk':=eq_of_beq hk
    subst hk'
    exact xv
  ·exact xo _ (j3 r _ y h)
theorem QK{β:Type}:∀(l1 l2:List (Str×β))(x:Str),(l1++l2).lookup x=(match l1.lookup x with | some v=>some v | none=>l2.lookup x)
 |[],l2,x=>rfl
 | (a,b)::l1,l2,x=>by
  rw[List.cons_append,xy,xy]
  cases x==a with
  |true=>rfl
  |false=>exact QK l1 l2 x
theorem v9{M:Model}{A:Around}{E:Af}{s:Am}{scope:Scope}{globals:Ap}{cl:List (Str×Addr)}{qual:Str}{env:Env}{builtins:Ap}{Q:Env->Am->Prop}
  (hQ:Q (newEnv scope ⇑s globals (cellsFrom (⇑s+1) scope.names cl) qual none .none (some env) builtins) { s with heap:=pushCells (s.heap.push { cls:=.type "dict",data:=.dict #[] }) scope.names }) :
  wpAny M A (newFunctionEnv scope globals cl [] qual none .none (some env) builtins) Q E s:=by
 simp only[newFunctionEnv,Option.isSome_some,if_true]
 refine x5 (wpAny_alloc ?_)
 refine x5 (wpAny_layCells _ (λname kind cells=>by cases hkc:kind==NameKind.cell<;>simp[hkc]) _ _ _ _ ?_)
 rw[show ({ s with heap:=s.heap.push { cls:=.type "dict",data:=.dict #[] } }:Am).heap.objs.size=⇑s+1 from Heap.size_push ..]
 simp only[List.forIn_nil]
 exact x5 (x9 (x9 hQ))
section
variable {X:Cx}{pins:Ak}{σ:St}{H:Hp}{s2:Am}
theorem ClOk.of(I:Inv X pins σ H s2)(S:CSc X.env.scope X.N sc N' k ix)(hcl1:∀ x c,cl.lookup x=some c->X.env.cells.lookup x=some c)(hcl2:∀ x,(x,NameKind.free)∈sc.names->∃ c,cl.lookup x=some c)
  {g:Heap} {o:Obj} (hg:⇑s2<=g.objs.size):ClOk X sc (cellsFrom (g.objs.size+1) sc.names cl) g.objs.size (pushCells (g.push o) sc.names):=by
 have ok:=cellsFrom_ok sc.names (g.push o) (g.objs.size+1) [] ⟨(λ_ _ hm=>nomatch hm),List.Pairwise.nil⟩ (by rw[Heap.size_push];exact xi _)
 rw[Heap.size_push]at ok
 rw[z9]
 have hnew:∀ x c,(cellsFrom (g.objs.size+1) sc.names []).lookup x=some c->g.objs.size<c/\(pushCells (g.push o) sc.names).IsCell c none/\(x,NameKind.cell)∈sc.names:=λx c e=>by
  have hm:=zX e
  have:=ok.empty x c hm
  exact⟨Nat.lt_of_succ_le this.2,this.1,j3 _ _ _ hm⟩
 have hold:∀ x c,cl.lookup x=some c->c<g.objs.size:=λx c e=>by
  obtain⟨v,ob,hob,_⟩:=I.cell x c (hcl1 x c e)
  exact xu (x8 hob) hg
 have hget:∀ x c,(cellsFrom (g.objs.size+1) sc.names []++cl).lookup x=some c->((cellsFrom (g.objs.size+1) sc.names []).lookup x=some c)∨((cellsFrom (g.objs.size+1) sc.names []).lookup x=none/\cl.lookup x=some c):=λx c e=>by
  rw[QK]at e
  cases q:(cellsFrom (g.objs.size+1) sc.names []).lookup x with
  |some v=>rw[q]at e;exact .inl e
  |none=>rw[q]at e;exact .inr ⟨rfl,e⟩
 have hnone:∀ x,sc.names.lookup x=some .free->(cellsFrom (g.objs.size+1) sc.names []).lookup x=none:=λx hx=>by
  cases q:(cellsFrom (g.objs.size+1) sc.names []).lookup x with
  |none=>rfl
  |some c=>
   have:=S.cel (x,.cell) (hnew x c q).2.2 rfl
   rw[hx]at this;cases this
 refine⟨λx c e=>?_,λx y c e1 e2=>?_,λx hx=>?_,λx c hx e=>?_,λx c hx e=>?_⟩
 ·rcases hget x c e with q | ⟨_,q⟩
  ·exact .inr ⟨(hnew x c q).1,(hnew x c q).2.1⟩
  ·exact .inl (hcl1 x c q)
 ·rcases hget x c e1 with q1 | ⟨_,q1⟩
  ·rcases hget y c e2 with q2 | ⟨_,q2⟩
   ·have m1:=zX q1
    have m2:=zX q2
    by_cases hxy:x=y
    ·exact hxy
    ·exfalso
     have:=ok.apart
     obtain⟨i,hi,ei⟩:=List.getElem_of_mem m1
     obtain⟨j,hj,ej⟩:=List.getElem_of_mem m2
     have pw:=List.pairwise_iff_getElem.mp this
     rcases Nat.lt_trichotomy i j with h | h | h
     ·have:=pw i j hi hj h
      rw[ei,ej]at this;exact this rfl
     ·subst h
      rw[ei]at ej
      exact hxy (congrArg Prod.fst ej)
     ·have:=pw j i hj hi h
      rw[ei,ej]at this;exact this rfl
   ·exact absurd (hold y c q2) (uS.mpr (uo (hnew x c q1).1))
  ·rcases hget y c e2 with q2 | ⟨_,q2⟩
   ·exact absurd (hold x c q1) (uS.mpr (uo (hnew y c q2).1))
   ·exact I.ok.inj x y c (hcl1 x c q1) (hcl1 y c q2)
 ·rw[QK]
  rcases hx with hx | hx
  ·rw[hnone x hx]
   exact hcl2 x (zX hx)
  ·obtain⟨c,hc⟩:=Jd hx
   rw[hc];exact⟨c,rfl⟩
 ·rcases hget x c e with q | ⟨q,_⟩
  ·exact (hnew x c q).1
  ·obtain⟨c',hc⟩:=Jd hx
   rw[hc]at q;cases q
 ·rcases hget x c e with q | ⟨_,q⟩
  ·rw[hnone x hx]at q;cases q
  ·exact hcl1 x c q
theorem Inv.child(I:Inv X pins σ H s2)(S:CSc X.env.scope X.N sc N' k ix)(hf:∀ b∈fp,Q4 X pins H b)
  (hfo:∀ b∈fp,∃ o,s2.heap.get? b=some o) {cl:List (Str×Addr)}
  {C:Ap} {s4:Am} (L:ClOk X sc cl C s4.heap) (hC:⇑s2<=C) (keep:∀ b o,s2.heap.get? b=some o->s4.heap.get? b=some o) {m0:Aq} (hns:s4.heap.Ns C m0) (ho:s4.os=s2.os) (hg:AllBare s4.gens) :
  Inv (X.comp N' sc cl C s2 H fp) [] (cS k ix σ) H s4 where
 ok:={
  mod:=I.ok.mod
  kind:=S.kind
  glob:=I.ok.glob
  blt:=I.ok.blt
  above:=hC
  inj:=L.inj
  has:=λx hx=>L.has x (Jm hx)
  cab:=λx c h e=>xJ hC (uo (L.own x c (Xh h) e))
  hd:=I.ok.hd
  frames:=I.ok.frames
  stk:=.inl rfl
  exf:=λb hb=>by
   obtain⟨f0,f1,f2,f3,f4,f5⟩:=hf b hb
   obtain⟨o,e⟩:=hfo b hb
   refine⟨xk (xu (x8 e) hC),λx c z=>?_⟩
   rcases L.src x c z with z | z
   ·exact f4 x c z
   ·exact Ne.symm (xk (Nat.lt_trans (xu (x8 e) hC) z.1))
  bs:=λb o e=>I.bs b o e
  bsz:=xJ I.ok.bsz I.sz
  noex:=λb o e hb=>by
   obtain⟨f0,f1,f2,f3,f4,f5⟩:=hf b hb
   rcases f3 with z | z
   ·exact I.ok.noex b o e z
   ·exact absurd (xu (x8 (I.ok.bs b o e).1) z) (xV _)
  exfs:=λb hb hz=>by
   obtain⟨f0,f1,f2,f3,f4,f5⟩:=hf b hb
   rcases xC.mp (I.stkSub b hz)with z | z
   ·exact f1 z
   ·exact f2 z
  funs:=I.stack
  frf:=I.stkFree }
 os:=ho
 bare:=hg
 base:=Un.kept keep
 loc:=⟨m0,hns,λi x v e1 e2 e3=>by
  unfold cS at e2
  by_cases hi:i<k
  ·rw[xc (by simpa using hi),xT,if_pos hi]at e2
   cases e2
  ·obtain⟨j,rfl⟩:∃ j,i=k+j:=⟨i-k,by omega⟩
   rw[xf (by simp),ux,Nat.add_sub_cancel_left,xl]at e2
   cases q:ix[j]? with
   |none=>rw[q]at e2;cases e2
   |some i0=>
    rw[q]at e2
    obtain⟨y,hy1,hy2,hy3⟩:=S.cap j i0 q
    have ey:y=x:=by
     have:(X.comp N' sc cl C s2 H fp).N[k+j]?=some y:=hy1
     rw[this]at e1;exact Option.some.inj e1
    subst ey
    have ev:σ[i0]?=some (some v):=by
     simp only[uD,Option.some.injEq]at e2
     cases r:σ[i0]? with
     |none=>rw[r]at e2;cases e2
     |some z=>rw[r]at e2;exact congrArg some e2
    obtain⟨m,hn,hl⟩:=I.loc
    have hfr:=S.fre (y,.free) (zX hy3) rfl
    have hv:Vis X.env.scope y:=.inr hfr
    obtain⟨u,r1,l1⟩:=hl i0 y v hy2 ev hv
    refine⟨u,r1,.inr ⟨wT hy3,?_⟩⟩
    obtain⟨c,hc⟩:=L.has y (.inl hy3)
    refine⟨c,hc,?_⟩
    have hc':=L.old y c hy3 hc
    rcases l1 with ⟨hk,_⟩ | ⟨_,c',hc2,z⟩
    ·have hk':X.env.scope.names.lookup y=some .local:=hk
     rcases hfr with w | w
     ·rw[hk']at w;cases w
     ·rw[hk']at w;cases w
    ·rw[hc']at hc2;cases hc2
     obtain⟨ob,hob,hd⟩:=z
     exact⟨ob,keep _ _ hob,hd⟩⟩
 cell:=λx c e=>by
  rcases L.src x c e with e | e
  ·obtain⟨v,ob,hob,hd⟩:=I.cell x c e
   exact⟨v,ob,keep _ _ hob,hd⟩
  ·exact⟨none,e.2⟩
 free:=I.hok.fresh hC
 freeC:=λx c e=>by
  rcases L.src x c e with e | e
  ·exact I.freeC x c e
  ·exact I.hok.fresh (xJ hC (uo e.1))
 pin:=λp hp=>by cases hp
 hok:=I.hok.kept keep
 len:=by
  rw[S.len];unfold cS;simp
theorem Inv.back(I:Inv X pins σ H s2)(hf:∀ b∈fp,Q4 X pins H b)(J:Inv (X.comp N' sc cl C s2 H fp) pl σc H5 s5):Inv X pins σ H5 s5 :=
 I.call' J.os J.base J.hok J.bare λb hb=>by
  obtain⟨f0,f1,f2,f3,f4,f5⟩:=hf b hb
  exact⟨f3,f1,f4,f5⟩
end
section
variable {X:Cx}{pins:Ak}{σ:St}{H:Hp}{s:Am}
theorem Inv.track{o:HO}(I:Inv X pins σ H s)(ha:X.s₀.heap.objs.size<=a)(hn:H a=none)(hL:a≠X.env.locals)(hc:∀ x c,X.env.cells.lookup x=some c->c≠a)(hp:∀ p∈X.pn++pins,p.1≠a)
  (new:ObjOk X.prog X.w (upd H a o) s.heap a o):Inv X pins σ (upd H a o) s where
 ok:=I.ok
 os:=I.os
 bare:=I.bare
 base:={
  keep:=I.base.keep
  slot:=I.base.slot
  free:=λb ob e n hx=>by
   rw[ze (xk (xu (x8 e) ha))]
   exact I.base.free b ob e n hx
  there:=I.base.there
  tups:=λb xs e=>by
   have:=I.base.tups b xs e
   rw[ze (zJ this hn)];exact this
  frzs:=λb ob u e=>by
   have:=I.base.frzs b ob u e
   rw[ze (zJ this hn)];exact this
  tbls:=λb ps e=>by
   obtain⟨mo,this⟩:=I.base.tbls b ps e
   exact⟨mo,by rw[ze (zJ this hn)];exact this⟩ }
 loc:=I.loc
 cell:=I.cell
 free:=by rw[ze (Ne.symm hL)];exact I.free
 freeC:=λx c e=>by rw[ze (hc x c e)];exact I.freeC x c e
 pin:=λp h=>by
  obtain⟨e,n,r⟩:=I.pin p h
  exact⟨e,by rw[ze (hp p h)];exact n,r⟩
 hok:=λb u q=>by
  by_cases hb:b=a
  ·subst hb;rw[zg]at q;cases q;exact new
  ·rw[ze hb]at q
   exact (I.hok b u q).stay (λc v _ r=>r) (λc r=>by rw[ze (zJ r hn)];exact r) λc xs r=>by rw[ze (zJ r hn)];exact r
 len:=I.len
end
def PF(X:Cx)(ifs:Ag)(t:TT):Prop :=
 ∀(pins:Ak)(s:Am)(σ:St)(H:Hp)(Q:Bool->Hp->Prop),Inv X pins σ H s->t σ H Q ->
  ∅ (forIn ifs true λc r=>if r=true then do let ok<-isTrue c X.env (eval c X.env);pure (ForInStep.yield ok) else pure (ForInStep.yield r)) (TP X pins σ Q) X.xe s
def zj6:TT:=λ_ H Q=>Q true H
theorem pf_nil:PF X [] zj6:=λ_ _ _ H _ I h=>wpAny_tests_nil ⟨H,I,h⟩
theorem zh2(h:PT X c t):PF X [c] t:=λpins s σ H Q I hw=>wpAny_tests_one (h pins s σ H Q I hw)
theorem y8{e target iter:Expr}{ifs:Ag}{act:Sem Unit}(hlp:∀(R:Result->Am->Prop)(s:Am)(I:Nat->Am->Prop)(n:Nat),(∀ n s,I n s->wpAny (model prog w) A ((compTurn e 0 it acc env).onRaise (λx=>do noteFrame x env;theTreesLotGoes x)) (λfin s'=>match fin with
   |.done f=>R (.ok f) s'
   |.again c'=>c'=Code.compLoop e 0 it acc env/\∃ m,m<n/\I m s') (λe s'=>R (.error e) s') s)->I n s->codeAny (model prog w) A (.compLoop e 0 it acc env) R s)
  (heq:compTurn e 0 it acc env=(do
   standAt iter.pos
   match<-pyNext it with
   |none=>pure (.done .next)
   |some v=>
    letOwnedTupleGo target it v
    assign target env v
    let mut ok:=true
    for c in ifs do
     if ok then ok<-isTrue c env (eval c env)
    if ok then act
    again (.compLoop e 0 it acc env))) (I:Nat->Am->Prop)
  (turn:∀ n s,I n s->wpAny (model prog w) A (pyNext it) (λr s₁=>match r with
   |none=>R (.ok .next) s₁
   |some v=>wpAny (model prog w) A (letOwnedTupleGo target it v) (λ_ s₁=>wpAny (model prog w) A (assign target env v) (λ_ s₂=>
     wpAny (model prog w) A (forIn ifs true λc r=>if r=true then do let ok<-isTrue c env (eval c env);pure (ForInStep.yield ok) else pure (ForInStep.yield r)) (λok s₃=>
      if ok=true then wpAny (model prog w) A act (λ_ s₅=>∃ m,m<n/\I m s₅) (notedBy (model prog w) A env λe s'=>R (.error e) s') s₃
      else ∃ m,m<n/\I m s₃) (notedBy (model prog w) A env λe s'=>R (.error e) s') s₂) (notedBy (model prog w) A env λe s'=>R (.error e) s') s₁) (notedBy (model prog w) A env λe s'=>R (.error e) s') s₁) (notedBy (model prog w) A env λe s'=>R (.error e) s') s)
  (n:Nat) (h:I n s):codeAny (model prog w) A (.compLoop e 0 it acc env) R s:=by
 refine hlp R s I n (λn s hI=>?_) h
 refine wpAny_noted ?_
 rw[heq]
 refine x5 (wpAny_standAt (x5 (Xe (turn n s hI) (λr s₁ h₁=>?_) λ_ _ f=>f)))
 cases r with
 |none=>exact x9 h₁
 |some v=>
  refine x5 (Xe h₁ (λ_ s₂ h₂=>?_) λ_ _ f=>f)
  refine x5 (Xe h₂ (λ_ s₂ h₂=>x5 (Xe h₂ (λok s₃ h₃=>?_) λ_ _ f=>f)) λ_ _ f=>f)
  cases ok with
  |false=>exact x9 ⟨rfl,h₃⟩
  |true=>exact x5 (Xe h₃ (λ_ s₅ h₅=>x9 ⟨rfl,h₅⟩) λ_ _ f=>f)
structure Acc(α β:Type) where
 a0:α
 add:α->β->α
 len:α->Nat
 ho:α->HO
def yc{α β:Type}(ac:Acc α β)(k:Nat)(ix:Ac)(g:TG)(tt:TT)(te:St->Hp->(β->Hp->Prop)->Prop)(σ:St)(J:It)(H1:Hp)(Q:α->Hp->Prop):Prop :=
 ∃ W:Nat->Nat->α->Hp->Prop,(∃ m,W 0 m ac.a0 H1)/\∀ i m ys H,W i m ys H->ac.len ys<sizeLine /\
  ((J.stop i H/\Q ys H)∨(J.go i H/\∃ N:α->Hp->Prop,(∀ ys' H',N ys' H'->∃ m',m'<m/\W (i+1) m' ys' H')/\∀ x H',J.yld i H x H'->g x (cS k ix σ) H' λσ2 H2=>σ2.drop k=(cS k ix σ).drop k/\tt σ2 H2 λb H3=>
   if b=true then te σ2 H3 λy H4=>N (ac.add ys y) H4 else N ys H3))
noncomputable abbrev zek:Acc (List V) V:=⟨[],λys y=>ys++ [y],List.length,.lst⟩
noncomputable abbrev zej:Acc (List (Key×V)) (Key×V):=⟨[],λys y=>Zg ys y.1 y.2,List.length,.dK⟩
def VT(k:Nat)(ix:Ac)(wi:TI)(g:St->TG)(tt:St->TT)(te:St->TE):TE:=λσ H Q=>
 wi σ H λJ H1=>yc zek k ix (g σ) (tt σ) (te σ) σ J H1 λys H2=>∀ p,H2 p=none->Q (.ref p) (upd H2 p (.lst ys))
def YJ(tk tv:TE):St->Hp->(Key×V->Hp->Prop)->Prop:=λσ H Q=>tk σ H λx H1=>tv σ H1 λy H2=>∃ k,x=kV k/\Q (k,y) H2
def wA(k:Nat)(ix:Ac)(wi:TI)(g:St->TG)(tt:St->TT)(te:St->St->Hp->(Key×V->Hp->Prop)->Prop):TE:=λσ H Q=>
 wi σ H λJ H1=>yc zej k ix (g σ) (tt σ) (te σ) σ J H1 λys H2=>∀ p,H2 p=none->Q (.ref p) (upd H2 p (.dK ys))
structure zgS(P:Ar)(w:World){α β γ:Type}(ac:Acc α β)(OK:α->Obj->Prop)(RB:β->γ->Prop)(o0:Obj)(na:Sem Aj)(st:Ap->γ->Sem Unit):Prop where
 new:∀(A:Around)(E:Af)(s:Am)(Q:Af),Q (.ref ⇑s) { s with heap:=s.heap.push o0 }->wpAny (model P w) A na Q E s
 z0:OK ac.a0 o0
 live:o0.isFreed=false
 cell:∀ a o,OK a o->∀ v,o.data≠ .cell v
 st:∀(A:Around)(E:Af)(s:Am)(Q:Unit->Am->Prop)(D:Ap)(a:α)(o:Obj)(y:β)(b:γ),OK a o->ac.len a<sizeLine->RB y b->s.heap.get? D=some o ->
  (∀ h' o' t',Heap.SameBut D s.heap h'->h'.get? D=some o'->OK (ac.add a y) o'->Q () { s with heap:=h',toks:=t' })->wpAny (model P w) A (st D b) Q E s
 ok:∀(H:Hp)(h:Heap)(D:Ap)(a:α)(o:Obj),OK a o->ac.len a<=sizeLine->sysModules<D->h.get? D=some o->ObjOk P w H h D (ac.ho a)
def PEv(X:Cx){β γ:Type}(RB:β->γ->Prop)(st:Ap->γ->Sem Unit)(act:Ap->Env->Sem Unit)(te:St->Hp->(β->Hp->Prop)->Prop):Prop:=∀(D:Ap)(pins:Ak)(s:Am)(σ:St)(H:Hp)(Q:β->Hp->Prop)(R:Unit->Am->Prop),Inv X pins σ H s->te σ H Q ->
 (∀ y b s' H',Inv X pins σ H' s'->RB y b->Q y H'->∅ (st D b) R X.xe s')->∅ (act D X.env) R X.xe s
section
variable {X:Cx}{pins:Ak}{σ:St}{H:Hp}{s2:Am}
theorem Vs{α β γ:Type}{ac:Acc α β}{OK:α->Obj->Prop}{RB:β->γ->Prop}{o0:Obj}{na:Sem Aj}{sto:Ap->γ->Sem Unit}{act:Ap->Env->Sem Unit}{e tg iter:Expr}{ifs:Ag}{scope:Scope}{N':Ab}{k:Nat}{ix:Ac}{g:TG}{tt:TT}{te:St->Hp->(β->Hp->Prop)->Prop}{cl:List (Str×Addr)}{it:Ap}{fp:List Ap}{tn:Nat->Heap->Prop}{J:It}
  {Q:α->Hp->Prop} {RR:Aj->Ap->Result->Am->Prop} {E:Af} (AK:zgS X.prog X.w ac OK RB o0 na sto)
  (hlp:∀(it acc:Aj)(env:Env)(R:Result->Am->Prop)(s:Am)(I:Nat->Am->Prop)(n:Nat),(∀ n s,I n s->∅ ((compTurn e 0 it acc env).onRaise (λx=>do noteFrame x env;theTreesLotGoes x)) (λfin s'=>match fin with
   |.done f=>R (.ok f) s'
   |.again c'=>c'=Code.compLoop e 0 it acc env/\∃ m,m<n/\I m s') (λe s'=>R (.error e) s') s)->I n s->codeAny (model X.prog X.w) X.A (.compLoop e 0 it acc env) R s)
  (heq:∀ it D env,compTurn e 0 it (.ref D) env=(do
   standAt iter.pos
   match<-pyNext it with
   |none=>pure (.done .next)
   |some v=>
    letOwnedTupleGo tg it v
    assign tg env v
    let mut ok:=true
    for c in ifs do
     if ok then ok<-isTrue c env (eval c env)
    if ok then act D env
    again (.compLoop e 0 it (.ref D) env)))
  (hstart:∀(R:Result->Am->Prop)(s:Am)(it acc:Aj)(env:Env),codeAny (model X.prog X.w) X.A (.compLoop e 0 it acc env) R s->∅ (pyIter it) (λit' s'=>codeAny (model X.prog X.w) X.A (.compLoop e 0 it' acc env) R s') (notedBy (model X.prog X.w) X.A env λx s'=>R (.error x) s') s ->
   codeAny (model X.prog X.w) X.A (.compStart e 0 it acc env) R s) (hcalm:X.calm=true)
  (S:CSc X.env.scope X.N scope N' k ix)
  (hg:∀ cl C s2 H2 fp,Cat X σ C s2 H2 fp->PG ⋯ tg g) (ht:∀ cl C s2 H2 fp,Cat X σ C s2 H2 fp->PF ⋯ ifs tt) (he:∀ cl C s2 H2 fp,Cat X σ C s2 H2 fp->PEv ⋯ RB sto act te)
  (I2:Inv X pins σ H s2) (T:vS X.prog X.w X.K tg J fp it tn) (st2:tn 0 s2.heap) (f2:∀ b∈fp,Q4 X pins H b) (hR:yc ac k ix g tt te σ J H Q)
  (hcl1:∀ x c,cl.lookup x=some c->X.env.cells.lookup x=some c) (hcl2:∀ x,(x,NameKind.free)∈scope.names->∃ c,cl.lookup x=some c)
  (herr:∀(D C:Ap)(x:Aj)(s':Am),zam X C x s'->RR (.ref D) C (.error x) s')
  (fin:∀(D C:Ap)(ys:α)(H5:Hp)(s5:Am)(m:Aq),Inv X pins σ (upd H5 D (ac.ho ys)) s5->Q ys H5->H5 D=none->s5.heap.Ns C m->C≠D->⇑s2<=C->upd H5 D (ac.ho ys) C=none ->
   RR (.ref D) C (.ok .next) s5) :
  ∅ na (λacc s₃=>∅ (newFunctionEnv scope X.env.globals cl [] X.env.qual none .none (some X.env)) (λcenv s₄=>
   codeAny (model X.prog X.w) X.A (.compStart e 0 (.ref it) acc { cenv with scope:=relabel scope X.env }) (RR acc cenv.locals) s₄) E s₃) E s2:=by
 refine AK.new _ _ _ _ (v9 ?_)
 dsimp only
 generalize hH2:s2.heap.push o0=G2
 have hC:G2.objs.size=⇑s2+1:=by rw[<- hH2,Heap.size_push]
 have hDC:⇑s2≠G2.objs.size:=by rw[hC];exact xk (uL _)
 have hCle:⇑s2<=G2.objs.size:=by rw[hC];exact uP _
 have cat:Cat X σ G2.objs.size s2 H fp:=⟨pins,I2,f2,hCle⟩
 have L:=ClOk.of I2 S hcl1 hcl2 (g:=G2) (o:={ cls:=.type "dict",data:=.dict #[] }) hCle
 have below:∀ b,b<⇑s2->b≠G2.objs.size/\b≠⇑s2:=λb hb=>⟨by rw[hC];exact xk (Nat.lt_succ_of_lt hb),xk hb⟩
 have old:∀ b o,s2.heap.get? b=some o->(pushCells (G2.push { cls:=.type "dict",data:=.dict #[] }) scope.names).get? b=some o:=λb o e=>pushCells_keeps _ _ b o (x6 _ (hH2 ▸ x6 _ e))
 have hacc:(pushCells (G2.push { cls:=.type "dict",data:=.dict #[] }) scope.names).get? ⇑s2=some o0:=pushCells_keeps _ _ _ _ (x6 _ (hH2 ▸ Xa _ AK.live))
 have hns₁:(pushCells (G2.push { cls:=.type "dict",data:=.dict #[] }) scope.names).Ns G2.objs.size _:=(Heap.Ns.new G2 (.type "dict")).keeps (pushCells_keeps _ _)
 generalize pushCells (G2.push { cls:=.type "dict",data:=.dict #[] }) scope.names=h₁ at L old hacc hns₁ |-
 generalize cellsFrom (G2.objs.size+1) scope.names cl=cl2 at L |-
 have st1:tn 0 h₁:=T.keep _ _ _ st2 λb _ o e=>old b o e
 have hfo:∀ b∈fp,∃ o,s2.heap.get? b=some o:=λb hb=>let ⟨o,e,_⟩:=T.obj _ _ st2 b hb;⟨o,e⟩
 have Ic:Inv (X.comp N' scope cl2 G2.objs.size s2 H fp) [] (cS k ix σ) H { s2 with heap:=h₁ } :=
  I2.child S f2 hfo L hCle old hns₁ rfl I2.bare
 -- the accumulator D,as a pin
 have dfs:⇑s2∉(X.comp N' scope cl2 G2.objs.size s2 H fp).fs:=λhz=>by
  rcases xC.mp (I2.stkSub _ hz)with z | z
  ·exact absurd I2.lt (by rw[<- z];exact xV _)
  ·exact I2.nofs (xi _) z
 have dcell:∀ x c,cl2.lookup x=some c->c≠⇑s2:=λx c e=>by
  rcases L.src x c e with e | e
  ·obtain⟨v,ob,hob,_⟩:=I2.cell x c e
   exact xk (x8 hob)
  ·exact Ne.symm (xk (Nat.lt_of_le_of_lt hCle e.1))
 have dpin:∀(ys:α)(ob:Obj)(σ':St)(H':Hp)(s':Am),Inv (X.comp N' scope cl2 G2.objs.size s2 H fp) [] σ' H' s'->OK ys ob->s'.heap.get? ⇑s2=some ob->H' ⇑s2=none ->
   Inv (X.comp N' scope cl2 G2.objs.size s2 H fp) [(⇑s2,ob)] σ' H' s':=λys ob σ' H' s' I' ok e hn=>I'.pins_of λp hp=>by
  have e':p=(⇑s2,ob):=by simpa using hp
  subst e'
  exact⟨e,hn,hDC,dfs,λv z=>AK.cell _ _ ok v z⟩
 have fpc:∀(ob:Obj)(H':Hp),(∀ b∈fp,H' b=none)->∀ b∈fp,Q4 (X.comp N' scope cl2 G2.objs.size s2 H fp) [(⇑s2,ob)] H' b:=λob H' hn b hb=>by
  obtain⟨f0,f1,f2',f3,f4,f5⟩:=f2 b hb
  obtain⟨o,e⟩:=hfo b hb
  have hb2:=below b (x8 e)
  refine⟨hn b hb,hb2.1,λhz=>?_,.inl hb,λx c z=>?_,λp hp=>?_⟩
  ·rcases xC.mp (I2.stkSub b hz)with z | z
   ·exact f1 z
   ·exact f2' z
  ·rcases L.src x c z with z | z
   ·exact f4 x c z
   ·exact Ne.symm (xk (Nat.lt_trans (xu (x8 e) hCle) z.1))
  ·have e':p=(⇑s2,ob):=by simpa using hp
   subst e'
   exact Ne.symm hb2.2
 obtain⟨W,⟨m0,w0⟩,turn⟩:=hR
 have loop:codeAny (model X.prog X.w) X.A (.compLoop e 0 (.ref it) (.ref ⇑s2) (compEnvC scope cl2 G2.objs.size X.env)) (RR (.ref ⇑s2) G2.objs.size)
   { s2 with heap:=h₁ }:=by
  have hxe:∀ x s',(X.comp N' scope cl2 G2.objs.size s2 H fp).xe x s'->notedBy (model X.prog X.w) X.A (compEnvC scope cl2 G2.objs.size X.env) (λe s'=>RR (.ref ⇑s2) G2.objs.size (.error e) s') x s':=λx s' h=>
   Xe h (λ_ s'' q=>herr _ _ _ _ q) λ_ s'' q=>herr _ _ _ _ q
  have thnX:∀{τ:Type}{m:Sem τ}{Q1:τ->Am->Prop}{Q2:τ->Am->Prop}{s':Am},∅ m Q1 (X.comp N' scope cl2 G2.objs.size s2 H fp).xe s'->(∀ v s'',Q1 v s''->Q2 v s'')->∅ m Q2 (notedBy (model X.prog X.w) X.A (compEnvC scope cl2 G2.objs.size X.env) (λe s'=>RR (.ref ⇑s2) G2.objs.size (.error e) s')) s':=λh k=>Xe h k hxe
  refine y8 (hlp _ _ _) (heq _ _ _) (λn s'=>∃ i ys ob H',Inv (X.comp N' scope cl2 G2.objs.size s2 H fp) [(⇑s2,ob)] (cS k ix σ) H' s'/\OK ys ob/\tn i s'.heap/\(∀ b∈fp,H' b=none)/\W i n ys H') ?_ m0
   ⟨0,_,o0,H,dpin _ _ _ _ _ Ic AK.z0 hacc (I2.hok.fresh (xi _)),AK.z0,st1,λb hb=>(f2 b hb).1,w0⟩
  rintro n s3 ⟨i,ys,ob,H3,I3,rv,st3,fr3,w3⟩
  obtain⟨hlen,hw⟩:=turn i n ys H3 w3
  have hDn:H3 ⇑s2=none:=(I3.pin (⇑s2,ob) (by simp)).2.1
  have hDe:s3.heap.get? ⇑s2=some ob:=(I3.pin (⇑s2,ob) (by simp)).1
  rcases hw with ⟨stop,q⟩ | ⟨go,N,hN,step⟩
  ·refine thn (T.done (X.comp N' scope cl2 G2.objs.size s2 H fp) rfl rfl rfl hcalm i _ s3 _ H3 _ I3 (fpc _ _ fr3) st3 stop) λr s4 ⟨hr,I4⟩=>?_
   subst hr
   have hDe4:s4.heap.get? ⇑s2=some ob:=(I4.pin (⇑s2,ob) (by simp)).1
   have Ib:Inv X pins σ H3 s4:=I2.back f2 I4
   have hz:ac.len ys<=sizeLine:=uo hlen
   obtain⟨m',hn',_⟩:=I4.loc
   have It:=Ib.track I2.sz hDn (Ne.symm (xk I2.lt)) (λx c e=>by
    obtain⟨v,ob,hob,_⟩:=I2.cell x c e
    exact xk (x8 hob)) (λp hp=>xk (x8 (I2.pin p hp).1)) (AK.ok _ _ _ _ _ rv hz I2.big hDe4)
   exact fin _ _ ys H3 s4 m' It q hDn hn' (Ne.symm hDC) hCle (by rw[ze (Ne.symm hDC)];exact I4.free)
  ·refine thn (T.item (X.comp N' scope cl2 G2.objs.size s2 H fp) rfl rfl rfl hcalm i _ s3 _ H3 _ I3 (fpc _ _ fr3) st3 go) λr s4 ⟨u,hr,h4⟩=>?_
   subst hr
   refine thn h4 λ_ s5 ⟨x,H5,I5,r5,y5,st5,fr5⟩=>?_
   have I5':=I5.pinned (fpc ob H5 fr5) (T.obj _ _ st5)
   refine thnX (hg _ _ _ _ _ cat _ s5 _ H5 x u _ I5' r5 (step x H5 y5)) λ_ s6 ⟨σ6,H6,I6,hσ,q6⟩=>?_
   refine thnX (ht _ _ _ _ _ cat _ s6 σ6 H6 _ I6 q6) λok s7 ⟨H7,I7,q7⟩=>?_
   have wk:∀{pl:Ak}{H':Hp}{s':Am},Inv (X.comp N' scope cl2 G2.objs.size s2 H fp) pl σ6 H' s'->Inv (X.comp N' scope cl2 G2.objs.size s2 H fp) pl (cS k ix σ) H' s':=λ{pl H' s'} I'=>
    I'.weak (by rw[Ic.len,I'.len]) λj v ev=>by
     by_cases hj:j<k
     ·unfold cS at ev
      rw[xc (by simpa using hj),xT,if_pos hj]at ev
      cases ev
     ·obtain⟨j',rfl⟩:∃ j',j=k+j':=⟨j-k,by omega⟩
      rw[<- List.getElem?_drop,hσ,List.getElem?_drop]
      exact ev
   have itk:∀{σ':St}{H':Hp}{s':Am},Inv (X.comp N' scope cl2 G2.objs.size s2 H fp) ([(⇑s2,ob)]++vw fp s5.heap) σ' H' s'->tn (i+1) s'.heap/\∀ b∈fp,H' b=none:=λ{σ' H' s'} I'=>
    ⟨T.keep _ _ _ st5 λb hb o e=>(I'.pin (b,o) (xz _ (xz _ (qP hb e)))).1,λb hb=>by
     obtain⟨o,e,_⟩:=T.obj _ _ st5 b hb
     exact (I'.pin (b,o) (xz _ (xz _ (qP hb e)))).2.1⟩
   cases ok with
   |false=>
    rw[if_neg (by decide)]at q7 |-
    obtain⟨m',hm,w7⟩:=hN _ _ q7
    obtain⟨t7,f7⟩:=itk I7
    exact⟨m',hm,i+1,ys,ob,H7,wk I7.unpinned,rv,t7,f7,w7⟩
   |true=>
    rw[if_pos rfl]at q7 |-
    refine thnX (he _ _ _ _ _ cat ⇑s2 _ s7 σ6 H7 _ _ I7 q7 λy b s8 H8 I8 r8 n8q=>?_) λ_ _ q=>q
    obtain⟨m',hm,w8⟩:=hN _ _ n8q
    obtain⟨t8,f8⟩:=itk I8
    have I8':Inv (X.comp N' scope cl2 G2.objs.size s2 H fp) [(⇑s2,ob)] σ6 H8 s8:=I8.unpinned
    have e8:s8.heap.get? ⇑s2=some ob:=(I8'.pin (⇑s2,ob) (by simp)).1
    have n8:H8 ⇑s2=none:=(I8'.pin (⇑s2,ob) (by simp)).2.1
    refine AK.st _ _ s8 _ _ ys ob y b rv hlen r8 e8 λh' o' t' sb e9 ok9=>?_
    have I8n:Inv (X.comp N' scope cl2 G2.objs.size s2 H fp) [] σ6 H8 s8:=I8'.pins_of λp hp=>by cases hp
    have I9:Inv (X.comp N' scope cl2 G2.objs.size s2 H fp) [] σ6 H8 { s8 with heap:=h',toks:=t' } :=
     I8n.turned (λb o hb e=>(sb.2 b hb).trans e) n8 hDC (.inr (xi _)) (λx c e=>dcell x c e) (λp hp=>by cases hp)
    refine⟨m',hm,i+1,_,o',H8,wk (dpin _ _ _ _ _ I9 ok9 e9 n8),ok9,?_,f8,w8⟩
    exact T.keep _ _ _ t8 λb hb o e=>(sb.2 b (by
     obtain⟨o',e'⟩:=hfo b hb
     exact (below b (x8 e')).2)).trans e
 exact hstart _ _ _ _ _ loop (T.self X.A 0 _ _ _ st1 loop)
noncomputable abbrev zjs (ys:An) (n:Nat):Obj:={ cls:=.type "list",data:=.seq ys.toArray n }
theorem zap:zgS P w zek (λys o=>∃ its n,Vals ys its/\o=zjs its n) RelV (zjs [] 0) (newList []) (λD b=>do let _<-call (.builtin "list.append") [.ref D,b]) where
 new A E s Q h:=wpAny_newObj_type h
 z0:=⟨[],0,.nil,rfl⟩
 live:=rfl
 cell a o h v z:=by
  obtain⟨its,n,_,rfl⟩:=h
  cases z
 st A E s Q D a o y b h hl r e k:=by
  obtain⟨its,n,rv,rfl⟩:=h
  refine x5 (call_meets F.slot_list_append ⟨_,e,rfl⟩ F.entry_list_append (F.args_list_append_2 _ _) (PySem.list_append D its.toArray n b (by
   have:=rv.length
   have hl':a.length<sizeLine:=hl
   rw[xq];omega)) ⟨e,x9 ?_⟩)
  have q9:=PySem.IsL.update e (·.push b)
  rw[show its.toArray.push b=(its++ [b]).toArray by simp]at q9
  exact k _ _ _ ⟨by simp[Heap.update],λc hc=>Xf s.heap _ (Ne.symm hc)⟩ q9 ⟨its++ [b],_,rv.append (.cons r .nil),rfl⟩
 ok H h D a o hk hz _ e:=by
  obtain⟨its,n,rv,rfl⟩:=hk
  exact⟨hz,its,n,rv,e⟩
theorem zao:zgS P w zej (λys o=>∃ vs,KV ys vs/\o.IsDictOf (zA P w) vs) (λ(y:Key×V) (b:Aj×Value)=>RelV (kV y.1) b.1/\RelV y.2 b.2) { cls:=.type "dict",data:=.dict #[] } newDict (λD b=>holding [b.1,b.2] (dictSet D b.1 b.2)) where
 new A E s Q h:=wpAny_newObj_type h
 z0:=by
  refine⟨[],.nil,?_⟩
  exact⟨#[],0,⟨rfl,rfl,rfl⟩,rfl,λ_ he=>by simp at he,Pairs.nil,List.nodup_nil⟩
 live:=rfl
 cell a o h v z:=by
  obtain⟨vs,_,es,ep,_,hd,_⟩:=h
  rw[hd]at z;cases z
 st A E s Q D a o y b h hl r e k:=by
  obtain⟨vs,rv,hd⟩:=h
  refine Xd (wpAny_dictSet_pairs (wM r.1) (Heap.dictOf_iff.mpr ⟨o,e,hd⟩) (λh' dd sb=>?_) (by rw[<- rv.length];exact uo hl))
  obtain⟨o',e',r'⟩:=Heap.dictOf_iff.mp dd
  exact k h' o' _ sb e' ⟨_,rv.put y.1 r.2,r'⟩
 ok H h D a o hk hz hb e:=by
  obtain⟨vs,rv,hd⟩:=hk
  exact⟨hz,Xb.mpr (uA hb),vs,rv,Heap.dictOf_iff.mpr ⟨o,e,hd⟩⟩
theorem j4(I:Inv X pins σ H s)(S:CSc X.env.scope X.N scope N' k ix) :
  ∃ cl,closureFor scope X.env=pure cl/\(∀ x c,cl.lookup x=some c->X.env.cells.lookup x=some c)/\(∀ x,(x,NameKind.free)∈scope.names->∃ c,cl.lookup x=some c) :=
 kt λy hy e=>by
  rcases S.fre y hy e with z | z
  ·exact I.ok.has _ (.inl z)
  ·exact I.ok.has _ (.inr z)
theorem Inv.letgo(I2:Inv X pins σ H s2)(I5:Inv X pins σ5 H5 s5)(hCs:⇑s2<=C)(hCn:H5 C=none)(hs:∀ b,b≠C->h'.get? b=s5.heap.get? b):Inv X pins σ5 H5 { s5 with heap:=h' } :=
 I5.turned (λb o hb e=>(hs b hb).trans e) hCn (Ne.symm (xk (xu I2.lt hCs))) (.inr (xJ I2.sz hCs))
  (λx c e=>by
   obtain⟨v,ob,hob,_⟩:=I2.cell x c e
   exact xk (xu (x8 hob) hCs))
  (λp hp=>xk (xu (x8 (I2.pin p hp).1) hCs))
end
section
variable {X:Cx}{elt tg iter:Expr}{ifs:Ag}{scope:Scope}{pos:Pos}{N':Ab}{k:Nat}{ix:Ac}{g:St->TG}{tt:St->TT}{te:St->TE}{wi:TI}
theorem Kt:compTurn (.ListComp elt [⟨tg,iter,ifs,0⟩] scope pos) 0 it (.ref D) env=(do
   standAt iter.pos
   match<-pyNext it with
   |none=>pure (.done .next)
   |some v=>
    letOwnedTupleGo tg it v
    assign tg env v
    let mut ok:=true
    for c in ifs do
     if ok then ok<-isTrue c env (eval c env)
    if ok then (do let _<-call (.builtin "list.append") [.ref D,<- eval elt env])
    again (.compLoop (.ListComp elt [⟨tg,iter,ifs,0⟩] scope pos) 0 it (.ref D) env)):=compTurn_list elt tg iter ifs scope pos it (.ref D) env
theorem zc3 {te:TE}(he:PE X elt te):PEv X RelV (λD b=>do let _<-call (.builtin "list.append") [.ref D,b]) (λD env=>do let _<-call (.builtin "list.append") [.ref D,<- eval elt env]) te:=λD pins s σ H Q R I h k=>
 x5 (Xe (he pins s σ H Q I h) (λb s' ⟨y,H',I',r,q⟩=>k y b s' H' I' r q) λ_ _ z=>z)
theorem Vu(hcalm:X.calm=true)(S:CSc X.env.scope X.N scope N' k ix)
  {pins:Ak} {σ:St} {H:Hp} {s2:Am} {cl:List (Str×Addr)} {it:Ap} {fp:List Ap} {tn:Nat->Heap->Prop} {J:It} {Q:List V->Hp->Prop} {RR:Aj->Ap->Result->Am->Prop} {E:Af}
  (hg:∀ cl C s2 H2 fp,Cat X σ C s2 H2 fp->PG ⋯ tg (g σ)) (ht:∀ cl C s2 H2 fp,Cat X σ C s2 H2 fp->PF ⋯ ifs (tt σ)) (he:∀ cl C s2 H2 fp,Cat X σ C s2 H2 fp->PE ⋯ elt (te σ))
  (I2:Inv X pins σ H s2) (T:vS X.prog X.w X.K tg J fp it tn) (st2:tn 0 s2.heap) (f2:∀ b∈fp,Q4 X pins H b) (hR:yc zek k ix (g σ) (tt σ) (te σ) σ J H Q)
  (hcl1:∀ x c,cl.lookup x=some c->X.env.cells.lookup x=some c) (hcl2:∀ x,(x,NameKind.free)∈scope.names->∃ c,cl.lookup x=some c)
  (herr:∀(D C:Ap)(x:Aj)(s':Am),zam X C x s'->RR (.ref D) C (.error x) s')
  (fin:∀(D C:Ap)(ys:List V)(H5:Hp)(s5:Am)(m:Aq),Inv X pins σ (upd H5 D (.lst ys)) s5->Q ys H5->H5 D=none->s5.heap.Ns C m->C≠D->⇑s2<=C->upd H5 D (.lst ys) C=none->RR (.ref D) C (.ok .next) s5) :
  ∅ (newList []) (λacc s₃=>∅ (newFunctionEnv scope X.env.globals cl [] X.env.qual none .none (some X.env)) (λcenv s₄=>
   codeAny (model X.prog X.w) X.A (.compStart (.ListComp elt [⟨tg,iter,ifs,0⟩] scope pos) 0 (.ref it) acc { cenv with scope:=relabel scope X.env }) (RR acc cenv.locals) s₄) E s₃) E s2 :=
 Vs zap (act:=λD env=>do let _<-call (.builtin "list.append") [.ref D,<- eval elt env]) (λit acc env R s I n h h0=>codeAny_loop rfl I h n h0) (λ_ _ _=>Kt) (λR s it acc env h0 h=>codeAny_compStart_list h0 h) hcalm S hg ht (λcl C s2 H2 fp c=>zc3 (he cl C s2 H2 fp c)) I2 T st2 f2 hR hcl1 hcl2 herr fin
theorem zfj(hcalm:X.calm=true)(S:CSc X.env.scope X.N scope N' k ix)(hi:PI X tg iter wi)
  (hg:∀ σ cl C s2 H2 fp,Cat X σ C s2 H2 fp->PG ⋯ tg (g σ)) (ht:∀ σ cl C s2 H2 fp,Cat X σ C s2 H2 fp->PF ⋯ ifs (tt σ)) (he:∀ σ cl C s2 H2 fp,Cat X σ C s2 H2 fp->PE ⋯ elt (te σ))
  (hs:∀ x,foldedSetIterable iter X.env x=pure x:=by intro _;rfl):PE X (.ListComp elt [⟨tg,iter,ifs,0⟩] scope pos) (VT k ix wi g tt te):=by
 cbv
 obtain⟨cl,ecl,hcl1,hcl2⟩:=j4 I S
 rw[eval_ListComp]
 refine wpAny_comprehension_free rfl hs ecl S.kind S.loc (thn (hi pins s σ H _ I h) λv s1 h1=>thn h1 λitv s2 h2=>?_)
 obtain⟨it,fp,tn,J,H2,e,I2,T,st2,f2,hR⟩:=h2
 subst e
 refine Vu hcalm S (hg σ) (ht σ) (he σ) I2 T st2 f2 hR hcl1 hcl2 (λD C x s' h=>h) ?_
 intro D C ys H5 s5 m I5 q hD hn hCD hCs hCn
 exact⟨m,hn,λh' hs'=>⟨.ref D,upd H5 D (.lst ys),I2.letgo I5 hCs hCn hs'.2,rfl,q D hD⟩⟩
theorem zfq{pos' spos:Pos}(hN:X.N.Nodup)(hi':X.N[i]?=some x)(hx:Loc X.env.scope x)(hcalm:X.calm=true)(S:CSc X.env.scope X.N scope N' k ix)(hi:PI X tg iter wi)
  (hg:∀ σ cl C s2 H2 fp,Cat X σ C s2 H2 fp->PG ⋯ tg (g σ)) (ht:∀ σ cl C s2 H2 fp,Cat X σ C s2 H2 fp->PF ⋯ ifs (tt σ)) (he:∀ σ cl C s2 H2 fp,Cat X σ C s2 H2 fp->PE ⋯ elt (te σ))
  (hsw:swapsWith (.ListComp elt [⟨tg,iter,ifs,0⟩] scope pos) (some (.Name x pos')) spos.line X.env=pure true)
  (hs:∀ x,foldedSetIterable iter X.env x=pure x:=by intro _;rfl) (hf:X.fn x=true∨X.env.scope.names.lookup x=some .local:=by first | exact .inl rfl | exact .inr rfl | assumption) :
  PS X (.Assign [.Name x pos'] (.ListComp elt [⟨tg,iter,ifs,0⟩] scope pos) spos) (yR (VT k ix wi g tt te) (W4 i)):=by
 intro pins s σ H D' I h
 obtain⟨cl,ecl,hcl1,hcl2⟩:=j4 I S
 rw[exec_Assign_Name_used _ _ _ _ hsw]
 refine x5 (wpAny_standAt (x5 ?_))
 refine x5 (Xe (wpAny_comprehension_free (Q:=λ_ s'=>SP X pins D' .next s') rfl hs ecl S.kind S.loc
  (thn (hi pins s σ H _ I h) λv s1 h1=>thn h1 λitv s2 h2=>?_)) (λ_ s' hq=>x9 (x9 hq)) λ_ _ e=>e)
 obtain⟨it,fp,tn,J,H2,e,I2,T,st2,f2,hR⟩:=h2
 subst e
 refine Vu hcalm S (hg σ) (ht σ) (he σ) I2 T st2 f2 hR hcl1 hcl2 (λD C x s' h=>h) ?_
 intro D C ys H5 s5 m I5 q hD hn hCD hCs hCn
 refine wpAny_assign_Name (wz (v:=.ref D) I5 hN hi' hx rfl (λs' I' ⟨a,sb,ha⟩=>?_) hf)
 have hCa:C≠a:=by
  rcases ha with rfl | ha
  ·exact Ne.symm (xk (xu I2.lt hCs))
  ·obtain⟨v,ob,hob,_⟩:=I2.cell x a ha
   exact Ne.symm (xk (xu (x8 hob) hCs))
 exact⟨m,hn.sameBut sb hCa,λh' hs'=>⟨_,_,I2.letgo I' hCs hCn hs'.2,q D hD⟩⟩
end
section
variable {X:Cx}{kx vx tg iter:Expr}{ifs:Ag}{scope:Scope}{pos:Pos}{N':Ab}{k:Nat}{ix:Ac}{g:St->TG}{tt:St->TT}{tk tv:St->TE}{wi:TI}
theorem zc2{tk tv:TE}(hk:PE X kx tk)(hv:PE X vx tv):PEv X (λ(y:Key×V)(b:Aj×Value)=>RelV (kV y.1) b.1/\RelV y.2 b.2) (λD b=>holding [b.1,b.2] (dictSet D b.1 b.2)) (λD env=>do
   let kv<-eval kx env
   let vv<-holding [kv] (eval vx env)
   standAt { kx.pos with endLine:=vx.pos.endLine,endCol:=vx.pos.endCol }
   holding [kv,vv] (dictSet D kv vv)) (YJ tk tv):=λD pins s σ H Q R I h kk=>
 x5 (Xe (hk pins s σ H _ I h) (λkv s1 ⟨x,H1,I1,rx,q1⟩=>x5 (Xd (Xe (hv pins s1 σ H1 _ I1 q1) (λvv s2 ⟨y,H2,I2,ry,k,ek,q2⟩=>
  x5 (wpAny_standAt (kk (k,y) (kv,vv) s2 H2 I2 ⟨by rw[<- ek];exact rx,ry⟩ q2))) λ_ _ z=>z))) λ_ _ z=>z)
theorem Vt(hcalm:X.calm=true)(S:CSc X.env.scope X.N scope N' k ix)
  {pins:Ak} {σ:St} {H:Hp} {s2:Am} {cl:List (Str×Addr)} {it:Ap} {fp:List Ap} {tn:Nat->Heap->Prop} {J:It} {Q:List (Key×V)->Hp->Prop} {RR:Aj->Ap->Result->Am->Prop} {E:Af}
  (hg:∀ cl C s2 H2 fp,Cat X σ C s2 H2 fp->PG ⋯ tg (g σ)) (ht:∀ cl C s2 H2 fp,Cat X σ C s2 H2 fp->PF ⋯ ifs (tt σ)) (hk:∀ cl C s2 H2 fp,Cat X σ C s2 H2 fp->PE ⋯ kx (tk σ)) (hv:∀ cl C s2 H2 fp,Cat X σ C s2 H2 fp->PE ⋯ vx (tv σ))
  (I2:Inv X pins σ H s2) (T:vS X.prog X.w X.K tg J fp it tn) (st2:tn 0 s2.heap) (f2:∀ b∈fp,Q4 X pins H b) (hR:yc zej k ix (g σ) (tt σ) (YJ (tk σ) (tv σ)) σ J H Q)
  (hcl1:∀ x c,cl.lookup x=some c->X.env.cells.lookup x=some c) (hcl2:∀ x,(x,NameKind.free)∈scope.names->∃ c,cl.lookup x=some c)
  (herr:∀(D C:Ap)(x:Aj)(s':Am),zam X C x s'->RR (.ref D) C (.error x) s')
  (fin:∀(D C:Ap)(ys:List (Key×V))(H5:Hp)(s5:Am)(m:Aq),Inv X pins σ (upd H5 D (.dK ys)) s5->Q ys H5->H5 D=none->s5.heap.Ns C m->C≠D->⇑s2<=C->upd H5 D (.dK ys) C=none->RR (.ref D) C (.ok .next) s5) :
  ∅ newDict (λacc s₃=>∅ (newFunctionEnv scope X.env.globals cl [] X.env.qual none .none (some X.env)) (λcenv s₄=>
   codeAny (model X.prog X.w) X.A (.compStart (.DictComp kx vx [⟨tg,iter,ifs,0⟩] scope pos) 0 (.ref it) acc { cenv with scope:=relabel scope X.env }) (RR acc cenv.locals) s₄) E s₃) E s2 :=
 Vs zao (act:=λD env=>do
   let kv<-eval kx env
   let vv<-holding [kv] (eval vx env)
   standAt { kx.pos with endLine:=vx.pos.endLine,endCol:=vx.pos.endCol }
   holding [kv,vv] (dictSet D kv vv)) (λit acc env R s I n h h0=>codeAny_loop rfl I h n h0) (λit D env=>compTurn_dict kx vx tg iter ifs scope pos it D env) (λR s it acc env h0 h=>codeAny_compStart_dict h0 h) hcalm S hg ht (λcl C s2 H2 fp c=>zc2 (hk cl C s2 H2 fp c) (hv cl C s2 H2 fp c)) I2 T st2 f2 hR hcl1 hcl2 herr fin
theorem zcT(hcalm:X.calm=true)(S:CSc X.env.scope X.N scope N' k ix)(hi:PI X tg iter wi)
  (hg:∀ σ cl C s2 H2 fp,Cat X σ C s2 H2 fp->PG ⋯ tg (g σ)) (ht:∀ σ cl C s2 H2 fp,Cat X σ C s2 H2 fp->PF ⋯ ifs (tt σ)) (hk:∀ σ cl C s2 H2 fp,Cat X σ C s2 H2 fp->PE ⋯ kx (tk σ)) (hv:∀ σ cl C s2 H2 fp,Cat X σ C s2 H2 fp->PE ⋯ vx (tv σ))
  (hs:∀ x,foldedSetIterable iter X.env x=pure x:=by intro _;rfl):PE X (.DictComp kx vx [⟨tg,iter,ifs,0⟩] scope pos) (wA k ix wi g tt (λσ=>YJ (tk σ) (tv σ))):=by
 cbv
 obtain⟨cl,ecl,hcl1,hcl2⟩:=j4 I S
 refine wpAny_comprehension_free rfl hs ecl S.kind S.loc (thn (hi pins s σ H _ I h) λv s1 h1=>thn h1 λitv s2 h2=>?_)
 obtain⟨it,fp,tn,J,H2,e,I2,T,st2,f2,hR⟩:=h2
 subst e
 refine Vt hcalm S (hg σ) (ht σ) (hk σ) (hv σ) I2 T st2 f2 hR hcl1 hcl2 (λD C x s' h=>h) ?_
 intro D C ys H5 s5 m I5 q hD hn hCD hCs hCn
 exact⟨m,hn,λh' hs'=>⟨.ref D,upd H5 D (.dK ys),I2.letgo I5 hCs hCn hs'.2,rfl,q D hD⟩⟩
theorem zc9{pos' spos:Pos}(hN:X.N.Nodup)(hi':X.N[i]?=some x)(hx:Loc X.env.scope x)(hcalm:X.calm=true)(S:CSc X.env.scope X.N scope N' k ix)(hi:PI X tg iter wi)
  (hg:∀ σ cl C s2 H2 fp,Cat X σ C s2 H2 fp->PG ⋯ tg (g σ)) (ht:∀ σ cl C s2 H2 fp,Cat X σ C s2 H2 fp->PF ⋯ ifs (tt σ)) (hk:∀ σ cl C s2 H2 fp,Cat X σ C s2 H2 fp->PE ⋯ kx (tk σ)) (hv:∀ σ cl C s2 H2 fp,Cat X σ C s2 H2 fp->PE ⋯ vx (tv σ))
  (hsw:swapsWith (.DictComp kx vx [⟨tg,iter,ifs,0⟩] scope pos) (some (.Name x pos')) spos.line X.env=pure true)
  (hs:∀ x,foldedSetIterable iter X.env x=pure x:=by intro _;rfl) (hf:X.fn x=true∨X.env.scope.names.lookup x=some .local:=by first | exact .inl rfl | exact .inr rfl | assumption) :
  PS X (.Assign [.Name x pos'] (.DictComp kx vx [⟨tg,iter,ifs,0⟩] scope pos) spos) (yR (wA k ix wi g tt (λσ=>YJ (tk σ) (tv σ))) (W4 i)):=by
 intro pins s σ H D' I h
 obtain⟨cl,ecl,hcl1,hcl2⟩:=j4 I S
 rw[exec_Assign_Name_used _ _ _ _ hsw]
 refine x5 (wpAny_standAt (x5 ?_))
 refine x5 (Xe (wpAny_comprehension_free (Q:=λ_ s'=>SP X pins D' .next s') rfl hs ecl S.kind S.loc
  (thn (hi pins s σ H _ I h) λv s1 h1=>thn h1 λitv s2 h2=>?_)) (λ_ s' hq=>x9 (x9 hq)) λ_ _ e=>e)
 obtain⟨it,fp,tn,J,H2,e,I2,T,st2,f2,hR⟩:=h2
 subst e
 refine Vt hcalm S (hg σ) (ht σ) (hk σ) (hv σ) I2 T st2 f2 hR hcl1 hcl2 (λD C x s' h=>h) ?_
 intro D C ys H5 s5 m I5 q hD hn hCD hCs hCn
 refine wpAny_assign_Name (wz (v:=.ref D) I5 hN hi' hx rfl (λs' I' ⟨a,sb,ha⟩=>?_) hf)
 have hCa:C≠a:=by
  rcases ha with rfl | ha
  ·exact Ne.symm (xk (xu I2.lt hCs))
  ·obtain⟨v,ob,hob,_⟩:=I2.cell x a ha
   exact Ne.symm (xk (xu (x8 hob) hCs))
 exact⟨m,hn.sameBut sb hCa,λh' hs'=>⟨_,_,I2.letgo I' hCs hCn hs'.2,q D hD⟩⟩
end
class Cs where
 adr:Str->Ap
variable [Cs]
noncomputable def ExO(C:Ap)(dx:Option Ap)(a:Ap):HO:=.ext λh=>∃ t,h.get? a=some { cls:=.ref C,dict:=dx,data:=.fields #[.ref t,.none,.none,.none,.bool false,.none] }
noncomputable def kK(p:Str×V):Key×V:=(.inr p.1,p.2)
noncomputable def dK(p:Str×PyData):PyData×PyData:=(.str p.1,p.2)
mutual
/-- the value v stands for the data d;no list of it lies in M -/
inductive Rep(M:Ae)(H:Hp):V->PyData->Prop
 |none:Rep M H .non .none
 |bool (b:Bool):Rep M H (.bl b) (.bool b)
 |int (i:Int):Rep M H (.int i) (.int i)
 |str (x:Str):Rep M H (.str x) (.str x)
 |list {a:Ap} {vs:List V} {ds:Aa}:H a=some (.lst vs)->¬ M a->RepL M H vs ds->Rep M H (.ref a) (.list ds)
 |tuple {a:Ap} {vs:List V} {ds:Aa}:H a=some (.tup vs)->RepL M H vs ds->Rep M H (.ref a) (.tuple ds)
 |dict {a:Ap} {kvs:List (Str×V)} {ds:Ad}:Rd H a (.dK (kvs.map kK))->¬ M a->kvs.map (·.1)=ds.map (·.1)->RepL M H (kvs.map (·.2)) (ds.map (·.2))->Rep M H (.ref a) (.dict (ds.map dK))
 |inst {a dx:Ap} {c:Str} {fs:List (Str×V)} {ds:Ad}:H a=some (.ins (Cs.adr c) dx fs)->¬ M a->fs.map (·.1)=ds.map (·.1)->RepL M H (fs.map (·.2)) (ds.map (·.2))->Rep M H (.ref a) (.dict ((.none,.str c)::ds.map dK))
 |exo {a:Ap} {dx:Option Ap} {c:Str} {fs:List (Str×V)} {ds:Ad}:H a=some (ExO (Cs.adr c) dx a)->¬ M a->(dx=none/\fs= []∨∃ d,dx=some d/\H d=some (.xd fs)/\¬ M d)->fs.map (·.1)=ds.map (·.1)->RepL M H (fs.map (·.2)) (ds.map (·.2))->Rep M H (.ref a) (.dict ((.bool true,.str c)::ds.map dK))
inductive RepL(M:Ae)(H:Hp):List V->Aa->Prop
 |nil:RepL M H [] []
 |cons {v:V} {vs:List V} {d:PyData} {ds:Aa}:Rep M H v d->RepL M H vs ds->RepL M H (v::vs) (d::ds)
end
def zjc(M:Ae)(H H':Hp):Prop:=∀ b o,¬ M b->H b=some o->H' b=some o
def TupM(H H':Hp):Prop:=∀ b xs,H b=some (.tup xs)->H' b=some (.tup xs)
structure zgU(M:Ae)(H H':Hp):Prop where
 same:zjc M H H'
 tups:TupM H H'
 stay:∀ b,H b≠none->H' b≠none
theorem Same.grow(s:Same H H'):zgU M H H' :=
 ⟨λb o _ e=>s b o e,λb xs e=>s b _ e,λb h=>by
  cases q:H b with
  |none=>exact absurd q h
  |some o=>rw[s b o q];exact λz=>nomatch z⟩
theorem Rep.go(k:∀ a o,H a=some o->¬ M a->(∀ x,o≠ .dK x)->(∀ b x,o≠ .frz b (.dK x))->H' a=some o/\¬ M' a)(t:∀ a xs,H a=some (.tup xs)->H' a=some (.tup xs))
  (dd:∀ a x,Rd H a (.dK x)->¬ M a->Rd H' a (.dK x)/\¬ M' a) {v:V} {d:PyData} (r:Rep M H v d):Rep M' H' v d :=
 Rep.rec (motive_1:=λv d _=>Rep M' H' v d) (motive_2:=λvs ds _=>RepL M' H' vs ds) .none .bool .int .str
  (λe n _ r=>let z:=k _ _ e n (λ_ z=>nomatch z) (λ_ _ z=>nomatch z);.list z.1 z.2 r) (λe _ r=>.tuple (t _ _ e) r) (λe n q _ r=>.dict (dd _ _ e n).1 (dd _ _ e n).2 q r)
  (λe n q _ r=>let z:=k _ _ e n (λ_ z=>nomatch z) (λ_ _ z=>nomatch z);.inst z.1 z.2 q r)
  (λe n x q _ r=>let z:=k _ _ e n (λ_ z=>nomatch z) (λ_ _ z=>nomatch z);.exo z.1 z.2 (x.imp id λ⟨d,w,q,m⟩=>let z:=k _ _ q m (λ_ z=>nomatch z) (λ_ _ z=>nomatch z);⟨d,w,z.1,z.2⟩) q r) .nil (λ_ _ r t=>.cons r t) r
theorem RepL.ind{H:Hp}{P:List V->Aa->Prop}(h0:P [] [])(h1:∀{v vs d ds},Rep M H v d->RepL M H vs ds->P vs ds->P (v::vs) (d::ds))(r:RepL M H vs ds):P vs ds:=by
 induction vs generalizing ds with
 |nil=>cases r;exact h0
 |cons v vs ih=>cases r with
  |cons r t=>exact h1 r t (ih t)
theorem qY{M M':Ae}(hr:∀ v d,Rep M H v d->Rep M' H' v d)(r:RepL M H vs ds):RepL M' H' vs ds:=r.ind .nil λr _ t=>.cons (hr _ _ r) t
theorem Rep.grow(g:zgU M H H')(r:Rep M H v d):Rep M H' v d :=
 r.go (λa o e n _ _=>⟨g.same _ _ n e,n⟩) g.tups λa x e n=>⟨e.imp (g.same _ _ n) λ⟨o,z⟩=>⟨o,g.same _ _ n z⟩,n⟩
theorem RepL.grow(g:zgU M H H')(r:RepL M H vs ds):RepL M H' vs ds:=qY (λ_ _=>Rep.grow g) r
theorem Rep.less(g:∀ b,M' b->H b≠ .none->M b)(r:Rep M H v d):Rep M' H v d :=
 r.go (λa o e n _ _=>⟨e,λz=>n (g _ z (by rw[e];exact λz=>nomatch z))⟩) (λ_ _ e=>e) λa x e n=>⟨e,λz=>n (g _ z (by rcases e with e | ⟨o,e⟩<;>rw[e]<;>exact λz=>nomatch z))⟩
theorem RepL.length{ds:Aa}(r:RepL M H vs ds):vs.length=ds.length:=r.ind (P:=λvs ds=>vs.length=ds.length) rfl λ_ _ ih=>congrArg (·+1) ih
theorem RepL.append{ds es:Aa}(r:RepL M H vs ds)(s:RepL M H ws es):RepL M H (vs++ws) (ds++es):=r.ind (P:=λvs ds=>RepL M H (vs++ws) (ds++es)) s λr _ ih=>.cons r ih
theorem RepL.get{H:Hp}{ds:Aa}{i:Nat}{v:V}(r:RepL M H vs ds):vs[i]?=some v->∃ d,ds[i]?=some d/\Rep M H v d :=
 r.ind (P:=λvs ds=>∀ i:Nat,vs[i]?=some v->∃ d,ds[i]?=some d/\Rep M H v d) (λ_ e=>nomatch e) (λr _ ih i e=>by
  cases i with
  |zero=>cases e;exact⟨_,rfl,r⟩
  |succ i=>exact ih i e) i
theorem RepL.get'{H:Hp}{i:Nat}{d:PyData}(r:RepL M H vs ds)(e:ds[i]?=some d):∃ v,vs[i]?=some v/\Rep M H v d:=by
 have hl:=r.length
 have hi:i<vs.length:=by rw[hl];exact (xb.mp e).1
 obtain⟨d',e',r'⟩:=r.get (i:=i) (v:=vs[i]) (by simp[hi])
 rw[e]at e';cases e'
 exact⟨vs[i],by simp[hi],r'⟩
theorem RepL.take{ds:Aa}(n:Nat)(r:RepL M H vs ds):RepL M H (vs.take n) (ds.take n):=r.ind (P:=λvs ds=>∀ n:Nat,RepL M H (vs.take n) (ds.take n)) (λn=>by simp;exact .nil) (λr _ ih n=>by
    cases n with
    |zero=>exact .nil
    |succ n=>exact .cons r (ih n)) n
theorem RepL.drop{ds:Aa}(n:Nat)(r:RepL M H vs ds):RepL M H (vs.drop n) (ds.drop n):=r.ind (P:=λvs ds=>∀ n:Nat,RepL M H (vs.drop n) (ds.drop n)) (λn=>by simp;exact .nil) (λr t ih n=>by
    cases n with
    |zero=>exact .cons r t
    |succ n=>exact ih n) n
theorem RepL.ints:∀(ns:List Int),RepL M H (ns.map V.int) (ns.map PyData.int)
 |[]=>.nil
 |n::ns=>.cons (.int n) (RepL.ints ns)
theorem Rep.reads(ok:HOk P w H h)(r:Rep M H v d):d.canLay0=true->RelV v u->∃ as,Reads h u d as :=
 Rep.rec (motive_1:=λv d _=>∀ u,d.canLay0=true->RelV v u->∃ as,Reads h u d as) (motive_2:=λvs ds _=>∀ us,PyData.canLayAll0 ds=true->Vals vs us->∃ as,ReadsAll h us ds as)
  (λu _ r=>by cases (show u=Value.none from r);exact⟨_,.none⟩) (λb u _ r=>by cases (show u=Value.bool b from r);exact⟨_,.bool b⟩) (λi u _ r=>by obtain⟨t,e⟩:=(show ∃ t,u=Value.int i t from r);cases e;exact⟨_,.int i t⟩)
  (λx u _ r=>by obtain⟨t,e⟩:=(show ∃ t,u=Value.str x t from r);cases e;exact⟨_,.str x t⟩)
  (λ{a vs ds} e n q ih u l r=>by
   cases (show u=Value.ref a from r)
   obtain⟨_,its,c,rv,ho⟩:=(show ObjOk P w H h a (.lst vs) from ok a _ e)
   obtain⟨as,z⟩:=ih _ l rv
   exact⟨_,.list ho rfl rfl (by simpa using z)⟩)
  (λ{a vs ds} e q ih u l r=>by
   cases (show u=Value.ref a from r)
   obtain⟨_,its,rv,o,ho,hc,c,hd⟩:=(show ObjOk P w H h a (.tup vs) from ok a _ e)
   obtain⟨as,z⟩:=ih _ l rv
   exact⟨_,.tuple ho hc hd (by simpa using z)⟩)
  (λ_ _ _ _ _ _ l _=>by cases l) (λ_ _ _ _ _ _ l _=>by cases l) (λ_ _ _ _ _ _ _ l _=>by cases l) (λus _ r=>by cases r;exact⟨_,.nil⟩)
  (λ_ _ i1 i2 us l r=>by
   have l':=xK.mp l
   cases r with
   |cons r rs=>
    obtain⟨as,z⟩:=i1 _ l'.1 r
    obtain⟨bs,y⟩:=i2 _ l'.2 rs
    exact⟨_,.cons z y⟩) r u
theorem RepL.reads{w:World}{H:Hp}{h:Heap}(ok:HOk P w H h){vs:List V}{ds:Aa}(r:RepL M H vs ds):PyData.canLayAll0 ds=true->Vals vs us->∃ as,ReadsAll h us ds as :=
 r.ind (P:=λvs ds=>∀ us,PyData.canLayAll0 ds=true->Vals vs us->∃ as,ReadsAll h us ds as) (λus _ r=>by cases r;exact⟨_,.nil⟩) (λq _ ih us l r=>by
  have l':=xK.mp l
  cases r with
  |cons r rs=>
   obtain⟨as,z⟩:=q.reads ok l'.1 r
   obtain⟨bs,y⟩:=ih _ l'.2 rs
   exact⟨_,.cons z y⟩) us
section
variable (X:Cx)
def wpE(e:Expr):TE:=λσ H Q=>∀(pins:Ak)(s:Am),Inv X pins σ H s->∅ (eval e X.env) (EP X pins σ Q) X.xe s
def wpT(e:Expr):TT:=λσ H Q=>∀(pins:Ak)(s:Am),Inv X pins σ H s->∅ (isTrue e X.env (eval e X.env)) (TP X pins σ Q) X.xe s
def wpW(e:Expr):TT:=λσ H Q=>∀(whole:Sem Aj)(pins:Ak)(s:Am),Inv X pins σ H s->∅ (isTrue e X.env whole) (TP X pins σ Q) X.xe s
def wpA(es:Ag):TA:=λσ H Q=>∀(pos:Pos)(pins:Ak)(s:Am),Inv X pins σ H s->∅ (spliced (backTo pos (starEach es X.env))) (AP X pins σ Q) X.xe s
def wpS(st:Stmt):TS:=λD σ H=>∀(pins:Ak)(s:Am),Inv X pins σ H s->∅ (exec st X.env) (SP X pins D) X.xe s
def wpB(st:List Stmt):TS:=λD σ H=>∀(pins:Ak)(s:Am),Inv X pins σ H s->∅ (execs st X.env) (SP X pins D) X.xe s
def wpG(tg:Expr):TG:=λv σ H Q=>∀(pins:Ak)(s:Am)(u:Aj),Inv X pins σ H s->RelV v u->∅ (assign tg X.env u) (λ_ s'=>∃ σ' H',Inv X pins σ' H' s'/\Q σ' H') X.xe s
def wpF(ifs:Ag):TT:=λσ H Q=>∀(pins:Ak)(s:Am),Inv X pins σ H s ->
 ∅ (forIn ifs true λc r=>if r=true then do let ok<-isTrue c X.env (eval c X.env);pure (ForInStep.yield ok) else pure (ForInStep.yield r)) (TP X pins σ Q) X.xe s
def wpI(tg iter:Expr):TI:=λσ H R=>∀(pins:Ak)(s:Am),Inv X pins σ H s ->
  ∅ (eval iter X.env) (λv s1=>∅ (pyIter v) (PIE X pins σ tg R) X.xe s1) X.xe s
end
section
variable {X:Cx}{e:Expr}{es:Ag}{st:Stmt}{sts:List Stmt}{tg iter:Expr}{σ:St}{H:Hp}
theorem zc:PE X e (wpE X e):=λpins s σ H Q I h=>h pins s I
theorem je:PT X e (wpT X e):=λpins s σ H Q I h=>h pins s I
theorem K9:PW X e (wpW X e):=λwh pins s σ H Q I h=>h wh pins s I
theorem jd:PA X es (wpA X es):=λpos pins s σ H Q I h=>h pos pins s I
theorem K8:PS X st (wpS X st):=λpins s σ H D I h=>h pins s I
theorem qF:PSs X sts (wpB X sts):=λpins s σ H D I h=>h pins s I
theorem yG:PG X tg (wpG X tg):=λpins s σ H v u Q I r h=>h pins s u I r
theorem Jk:PI X tg iter (wpI X tg iter):=λpins s σ H R I h=>h pins s I
theorem PE.wp(h:PE X e t)(q:t σ H Q):wpE X e σ H Q:=λpins s I=>h pins s σ H Q I q
theorem PT.wp(h:PT X e t)(q:t σ H Q):wpT X e σ H Q:=λpins s I=>h pins s σ H Q I q
theorem PW.wp(h:PW X e t)(q:t σ H Q):wpW X e σ H Q:=λwh pins s I=>h wh pins s σ H Q I q
theorem PA.wp(h:PA X es t)(q:t σ H Q):wpA X es σ H Q:=λpos pins s I=>h pos pins s σ H Q I q
theorem PS.wp(h:PS X st t)(q:t D σ H):wpS X st D σ H:=λpins s I=>h pins s σ H D I q
theorem PSs.wp(h:PSs X sts t)(q:t D σ H):wpB X sts D σ H:=λpins s I=>h pins s σ H D I q
theorem PG.wp(h:PG X tg t)(q:t v σ H Q):wpG X tg v σ H Q:=λpins s u I r=>h pins s σ H v u Q I r q
theorem PF.wp(h:PF X ifs t)(q:t σ H Q):wpF X ifs σ H Q:=λpins s I=>h pins s σ H Q I q
theorem PI.wp(h:PI X tg iter t)(q:t σ H R):wpI X tg iter σ H R:=λpins s I=>h pins s σ H R I q
theorem wpE.mono(h:wpE X e σ H Q)(k:∀ v H',Q v H'->Q' v H'):wpE X e σ H Q':=λpins s I=>thn (h pins s I) λu s' ⟨v,H',a,b,c⟩=>⟨v,H',a,b,k v H' c⟩
theorem wpA.mono(h:wpA X es σ H Q)(k:∀ v H',Q v H'->Q' v H'):wpA X es σ H Q':=λpos pins s I=>thn (h pos pins s I) λu s' ⟨v,H',a,b,c⟩=>⟨v,H',a,b,k v H' c⟩
end
def Al(M:Ae)(H:Hp):Prop:=∀ a,M a->H a≠none
inductive Ent where
 |d (x:PyData)
 |v (x:V)
noncomputable abbrev Ge:=List (Option Ent)
structure RS(M:Ae)(Γ:Ge)(σ:St)(H:Hp):Prop where
 al:Al M H
 at':∀(i:Nat)(d:PyData),Γ[i]?=some (@&d)->∃ v,σ[i]?=some (some v)/\Rep M H v d
 av:∀(i:Nat)(v:V),Γ[i]?=some (some (.v v))->σ[i]?=some (some v)
def zja(M:Ae)(H:Hp)(v:V):Ent->Prop
 |.d d=>Rep M H v d
 |.v u=>v=u
theorem RS.setE(h:RS M Γ σ H)(r:zja M H v z)(hi:i<σ.length):RS M (Γ.set i (some z)) (σ.set i (some v)) H:=⟨h.al,λj d' e=>by
 by_cases hj:j=i
 ·subst hj
  by_cases hl:j<Γ.length
  ·rw[xj hl]at e
   cases e
   exact⟨v,by rw[xj hi],r⟩
  ·rw[xD (by simpa using hl)]at e;cases e
 ·rw[xh (Ne.symm hj)]at e |-
  exact h.at' j d' e,λj d' e=>by
 by_cases hj:j=i
 ·subst hj
  by_cases hl:j<Γ.length
  ·rw[xj hl]at e
   cases e
   rw[xj hi];exact congrArg (λx=>some (some x)) r
  ·rw[xD (by simpa using hl)]at e;cases e
 ·rw[xh (Ne.symm hj)]at e |-
  exact h.av j d' e⟩
theorem RS.setV(h:RS M Γ σ H)(hi:i<σ.length):RS M (Γ.set i (some (.v v))) (σ.set i (some v)) H:=h.setE rfl hi
section
variable {X:Cx}{p:Pos}{d1 d2:PyData}
theorem zr{p:Ap}(n:H p=none):Same H (upd H p o):=λb u e=>by rw[ze (zJ e n)];exact e
theorem za4(hu:∀ n,n<=60->X.A.units+n<cLine):OpR X (compareOp .Eq) (λx y H Q=>∃ M M' d1 d2,Rep M H x d1/\Rep M' H y d2/\d1.canLay0=true/\d2.canLay0=true/\min d1.depth d2.depth<=60/\Q (.bl (PyData.eqv d1 d2)) H):=by
 intro pins s σ H x y v u Q I rx ry h
 obtain⟨M,M',d1,d2,r1,r2,c1,c2,hd,q⟩:=h
 obtain⟨as,z1⟩:=r1.reads I.hok c1 rx
 obtain⟨bs,z2⟩:=r2.reads I.hok c2 ry
 exact SeqAt.compareEq_reads z1 z2 c1 c2 (hu _ hd) ⟨.bl _,H,I,rfl,q⟩
theorem za5(hu:∀ n,n<=60->X.A.units+n<cLine):OpR X (compareOp .NotEq) (λx y H Q=>∃ M M' d1 d2,Rep M H x d1/\Rep M' H y d2/\d1.canLay0=true/\d2.canLay0=true/\min d1.depth d2.depth<=60/\Q (.bl (!PyData.eqv d1 d2)) H):=by
 intro pins s σ H x y v u Q I rx ry h
 obtain⟨M,M',d1,d2,r1,r2,c1,c2,hd,q⟩:=h
 obtain⟨as,z1⟩:=r1.reads I.hok c1 rx
 obtain⟨bs,z2⟩:=r2.reads I.hok c2 ry
 exact SeqAt.compareNe_reads z1 z2 c1 c2 (hu _ hd) ⟨.bl _,H,I,rfl,q⟩
theorem Room.u60(r:Room k A):∀ n,n<=60->A.units+n<cLine:=λn h=>by have:=r.units;omega
end
end L2
namespace PySem
open PySem.AutoSeq1 (wpAny_loadPart')
theorem YN(l:Ap)(items:Array Aj)(n:Nat)(dd:Option Ap)(sl:Array (Option Aj))(x:Int)(u:Tok)(hb1:¬ (decide (x< -(2 ^ 63))||decide (x≥2 ^ 63))=true)(hc0:¬ (items.isEmpty||x==1)=true)(hc1:¬ (decide (x<=0)||items.isEmpty)=true)(hc2:¬ (items.size:Int)*x>(2 ^ 63-1) / 8)(hc3:¬ Builtin.Tuple.tupleTooMany ((items.size:Int)*x)=true)(hsz:((List.replicate x.toNat items).foldl (·++·) #[]).size<=sizeLine) :
  Meets (Builtin.«tuple.__mul__» ⟨[.ref l,.int x u],[]⟩) (λ_ R s=>s.heap.get? l=some { cls:=.type "tuple",dict:=dd,data:=.seq items n,slots:=sl }/\R (.ok (.ret (Value.ref ⇑s))) { s with heap:=s.heap.push { cls:=Value.type "tuple",data:=Data.seq ((List.replicate x.toNat items).foldl (·++·) #[]) },toks:=s.toks }) :=
 .of_wp λprog w A R s h=>by
  obtain⟨hp,g,d,tk,os⟩:=s;obtain⟨hl,h⟩:=h
  have f1:=AutoSeq1.idx_int
  wp_walk using Xi hl
  refine wpAny_ite_false (Xc hb1) ?_
  wp_walk using Xi hl
  first | (refine wpAny_ite_false (Xc hc2) ?_;wp_walk using Xi hl) | skip
  first | (refine wpAny_ite_false (Xc (uS.mpr hsz)) ?_;wp_walk using Xi hl) | skip
  exact⟨_,rfl,h⟩
theorem YL(l:Ap)(items:Array Aj)(n:Nat)(dd:Option Ap)(sl:Array (Option Aj))(x:Int)(u:Tok)(hb1:¬ (decide (x< -(2 ^ 63))||decide (x≥2 ^ 63))=true)(hc0:(items.isEmpty||x==1)=true) :
  Meets (Builtin.«tuple.__mul__» ⟨[.ref l,.int x u],[]⟩) (λ_ R s=>s.heap.get? l=some { cls:=.type "tuple",dict:=dd,data:=.seq items n,slots:=sl }/\R (.ok (.ret (Value.ref l))) { s with heap:=s.heap,toks:=s.toks }) :=
 .of_wp λprog w A R s h=>by
  obtain⟨hp,g,d,tk,os⟩:=s;obtain⟨hl,h⟩:=h
  have f1:=AutoSeq1.idx_int
  wp_walk using Xi hl
  refine wpAny_ite_false (Xc hb1) ?_
  wp_walk using Xi hl
  exact⟨_,rfl,h⟩
theorem YM(l:Ap)(items:Array Aj)(n:Nat)(dd:Option Ap)(sl:Array (Option Aj))(x:Int)(u:Tok)(hb1:¬ (decide (x< -(2 ^ 63))||decide (x≥2 ^ 63))=true)(hc0:¬ (items.isEmpty||x==1)=true)(hc1:(decide (x<=0)||items.isEmpty)=true) :
  Meets (Builtin.«tuple.__mul__» ⟨[.ref l,.int x u],[]⟩) (λ_ R s=>s.heap.get? l=some { cls:=.type "tuple",dict:=dd,data:=.seq items n,slots:=sl }/\R (.ok (.ret (Value.ref ⇑s))) { s with heap:=s.heap.push { cls:=Value.type "tuple",data:=Data.seq #[] },toks:=s.toks }) :=
 .of_wp λprog w A R s h=>by
  obtain⟨hp,g,d,tk,os⟩:=s;obtain⟨hl,h⟩:=h
  have f1:=AutoSeq1.idx_int
  wp_walk using Xi hl
  refine wpAny_ite_false (Xc hb1) ?_
  wp_walk using Xi hl
  exact⟨_,rfl,h⟩
theorem Ji:fillsNumberSlot (.type "tuple") "mul" =pure false :=
 fillsNumberSlot_seq (id:= "tuple.__mul__") (r:=some (.builtin "tuple.__rmul__")) F.slot_tuple_mul.lookup (by decide +kernel) F.slot_tuple_rmul.lookup (by decide +kernel)
theorem v7:seqRepeat? (.type "tuple")=pure (some (.builtin "tuple.__mul__")):=by
 unfold seqRepeat?
 rw[seqSlot_of (T:= "tuple") (name:= "__mul__") (id:= "tuple.__mul__") F.slot_tuple_mul.lookup (by decide +kernel),seqSlot_of (T:= "tuple") (name:= "__rmul__") (id:= "tuple.__rmul__") F.slot_tuple_rmul.lookup (by decide +kernel)]
 rfl
theorem Wh(a:Int)(t:Tok)(l:Ap)(items:Array Aj)(n:Nat)(dd:Option Ap)(sl:Array (Option Aj)) :
  Meets (Builtin.«int.__rmul__» ⟨[.int a t,.ref l],[]⟩) (λ_ R s=>s.heap.get? l=some { cls:=.type "tuple",dict:=dd,data:=.seq items n,slots:=sl }/\R (.ok (.ret Value.notImplemented)) s) :=
 .of_wp λprog w A R s h=>by obtain⟨hp,g,d,tk,os⟩:=s;obtain⟨hl,h⟩:=h;wp_walk using Xi hl;exact⟨_,rfl,h⟩
end PySem
namespace L2
open PySem PySem.Spec PyProof.Rows
variable [Cs]
section
variable {X:Cx}
noncomputable def zjF(K:Ah):R2:=λx y H Q=>∃ l k xs,x=.ref l/\y=.int k/\SqT K H l xs/\ -(2 ^ 63)<=k/\k<2 ^ 63/\xs.length*k.toNat<=sizeLine /\
 ((xs= []∨k=1)->Q (.ref l) H)/\∀ p,H p=none->Q (.ref p) (upd H p (.tup (List.replicate k.toNat xs).flatten))
theorem zff:OpR X (binaryOp .Mult) (zjF X.K):=by
 intro pins s σ H x y v u Q I rx ry h
 obtain⟨l,k,xs,rfl,rfl,hH,h1,h2,hz,qs,q⟩:=h
 cases rx
 obtain⟨t,rfl⟩:=ry
 obtain⟨its,r,hit,hzz⟩:=I.tuple hH
 have hl:=r.length
 obtain⟨⟨cls,dd,data,sl⟩,ho,hc,n,hd⟩:=id hit
 simp only at hc hd
 subst hc hd
 have hb1:¬ (decide (k< -(2 ^ 63))||decide (k≥2 ^ 63))=true:=by
  simp only[xN,x0];omega
 have hnew:List.foldl (λx1 x2=>x1++x2) #[] (List.replicate k.toNat its.toArray)=(List.replicate k.toNat its).flatten.toArray:=by
  have:=wj its k.toNat []
  rw[List.nil_append]at this
  exact this
 refine wpAny_binaryOp_repeat_ref (T:= "tuple") (U:= "int") (by decide) ⟨_,ho,rfl⟩ (λs'=>typeIs_int s' k t) Ji F.fills_int_mul F.slot_int_rmul v7 F.slot_int_index.lookup
  (call_meets F.slot_int_rmul (typeIs_int s k t) F.entry_int_rmul (F.args_int_rmul_2 _ _) (Wh k t l its.toArray n dd sl) ⟨ho,rfl,⟨_,ho,rfl⟩,?_⟩)
 by_cases hc0:(its.toArray.isEmpty||k==1)=true
 ·refine call_meets F.slot_tuple_mul ⟨_,ho,rfl⟩ F.entry_tuple_mul (F.args_tuple_mul_2 _ _) (YL l its.toArray n dd sl k t hb1 hc0) ⟨ho,?_⟩
  refine⟨.ref l,H,I,rfl,qs ?_⟩
  simp only[xN,beq_iff_eq]at hc0
  rcases hc0 with z | z
  ·left
   have:its= []:=by simpa using z
   subst this
   exact List.eq_nil_of_length_eq_zero hl
  ·exact .inr z
 ·by_cases hc1:(decide (k<=0)||its.toArray.isEmpty)=true
  ·refine call_meets F.slot_tuple_mul ⟨_,ho,rfl⟩ F.entry_tuple_mul (F.args_tuple_mul_2 _ _) (YM l its.toArray n dd sl k t hb1 hc0 hc1) ⟨ho,?_⟩
   have e0:(List.replicate k.toNat xs).flatten= []:=by
    simp only[xN,x0]at hc1
    rcases hc1 with z | z
    ·rw[show k.toNat=0 by omega];rfl
    ·exact absurd (by simp[z]) hc0
   refine⟨.ref ⇑s,_,I.laid (λb u e=>x6 _ e) (xi _) ?_,rfl,by have:=q _ (I.hok.fresh (xi _));rw[e0]at this;exact this⟩
   exact⟨ug _,[],.nil,⟨_,Xa _ rfl,rfl,_,rfl⟩⟩
  ·have hlen:its.length*k.toNat<=sizeLine:=by rw[<- hl];exact hz
   have hk0:0<k:=by
    simp only[xN,x0]at hc1;omega
   have hm:((its.toArray.size:Int)*k)=((its.length*k.toNat:Nat):Int):=by
    rw[xq]
    have:k=(k.toNat:Int):=by omega
    rw[Int.natCast_mul,<- this]
   have hsl:(sizeLine:Nat)<=(2 ^ 63-1) / 8:=by decide
   have hc2:¬ (its.toArray.size:Int)*k>(2 ^ 63-1) / 8:=by
    rw[hm]
    have h63:((2 ^ 63-1) / 8:Int)=(((2 ^ 63-1) / 8:Nat):Int):=by decide
    rw[h63]
    intro z
    have:=Int.ofNat_lt.mp z
    omega
   have hc3:¬ Builtin.Tuple.tupleTooMany ((its.toArray.size:Int)*k)=true:=by
    unfold Builtin.Tuple.tupleTooMany
    rw[hm,x0]
    intro z
    have:=Int.ofNat_lt.mp z
    omega
   refine call_meets F.slot_tuple_mul ⟨_,ho,rfl⟩ F.entry_tuple_mul (F.args_tuple_mul_2 _ _) (YN l its.toArray n dd sl k t hb1 hc0 hc1 hc2 hc3 (by rw[hnew,xq,yC,Nat.mul_comm];exact hlen)) ⟨ho,?_⟩
   rw[hnew]
   refine⟨.ref ⇑s,_,I.laid (λb u e=>x6 _ e) (xi _) ?_,rfl,q _ (I.hok.fresh (xi _))⟩
   exact⟨by rw[yC,Nat.mul_comm];exact hz,_,r.rep k.toNat,⟨_,Xa _ rfl,rfl,_,rfl⟩⟩
theorem RepL.rep(h:RepL M H vs ds):∀ k:Nat,RepL M H (List.replicate k vs).flatten (List.replicate k ds).flatten
 |0=>.nil
 |k+1=>by rw[xW,xW,ul,ul];exact h.append (RepL.rep h k)
theorem Rep.tup_inv(r:Rep M H v (.tuple ds)):∃ a vs,v=.ref a/\H a=some (.tup vs)/\RepL M H vs ds:=by
 cases r with
 |tuple e q=>exact⟨_,_,rfl,e,q⟩
theorem Rep.lst_inv(r:Rep M H v (.list ds)):∃ a vs,v=.ref a/\H a=some (.lst vs)/\¬ M a/\RepL M H vs ds:=by
 cases r with
 |list e n q=>exact⟨_,_,rfl,e,n,q⟩
variable {p:Pos}{a b:Expr}{d:PyData}{ds:Aa}
noncomputable def zid(K:Ah):R2:=λx y H Q=>∃ a b xs ys,x=.ref a/\y=.ref b/\SqT K H a xs/\SqT K H b ys/\xs.length+ys.length<=sizeLine/\(xs= []->Q (.ref b) H)/\(ys= []->Q (.ref a) H)/\∀ p,H p=none->Q (.ref p) (upd H p (.tup (xs++ys)))
theorem zcM:OpR X (binaryOp .Add) (zid X.K):=by
 intro pins s σ H x y v u Q I rx ry h
 obtain⟨a,b,xs,ys,rfl,rfl,ha,hb,hz,q0,q1,q⟩:=h
 cases rx
 cases ry
 obtain⟨its,r,hit,_⟩:=I.tuple ha
 obtain⟨its2,r2,hit2,_⟩:=I.tuple hb
 by_cases hv:its= []
 ·obtain⟨⟨cls,dd,data,sl⟩,ho,hc,n,hd⟩:=id hit
  obtain⟨⟨cls2,dd2,data2,sl2⟩,ho2,hc2,n2,hd2⟩:=id hit2
  simp only at hc hd hc2 hd2
  subst hc hd hc2 hd2
  refine concat_meets ⟨_,ho,rfl⟩ ⟨_,ho2,rfl⟩ noFill_tuple_add seq_tuple_add PySem.F.slot_tuple_add PySem.F.entry_tuple_add (PySem.F.args_tuple_add_2 _ _)
   (tuple_addW0 a b its.toArray its2.toArray n n2 dd dd2 sl sl2 (by simp[hv])) ⟨ho,ho2,⟨.ref b,H,I,rfl,q0 ?_⟩⟩
  exact r.nil_iff.mp hv
 ·refine HT.cat_tup hit hit2 hv (λhw=>⟨.ref a,H,I,rfl,q1 (r2.nil_iff.mp hw)⟩) (λ_=>?_) (by rw[<- r.length,<- r2.length];exact hz)
  refine⟨.ref ⇑s,_,I.laid (λb u e=>x6 _ e) (xi _) ?_,rfl,q _ (I.hok.fresh (xi _))⟩
  exact⟨by rw[xB];exact hz,_,r.append r2,⟨_,Xa _ rfl,rfl,_,rfl⟩⟩
theorem V9(r:RepL M H vs ds)(h:atI ds i=some d):∃ v,atI vs i=some v/\Rep M H v d:=by
 unfold atI at h |-
 rw[r.length]
 cases e:ixN ds.length i with
 |none=>rw[e]at h;cases h
 |some j=>
  rw[e]at h
  exact r.get' h
end
noncomputable def tyD:PyData->String
 |.none=> "NoneType"
 |.bool _=> "bool"
 |.int _=> "int"
 |.str _=> "str"
 |.list _=> "list"
 |.tuple _=> "tuple"
 |.dict _=> "dict"
theorem Rep.ty {K:Ah}{v:V}(r:Rep M H v d) (hd:tyD d≠ "dict"):Q8 K H v (.type (tyD d)):=by
 cases r with
 |none=>exact .non
 |bool b=>exact .bl b
 |int i=>exact .int i
 |str x=>exact .str x
 |list e n q=>exact .lst e
 |tuple e q=>exact .tup e
 |dict _ _ _ _=>exact absurd rfl hd
 |inst _ _ _ _=>exact absurd rfl hd
 |exo _ _ _ _ _=>exact absurd rfl hd
section
variable {X:Cx}
theorem zbY:qZ X (.builtin "isinstance") (λxs H Q=>∃ x T t k,xs= [x,.ty T]/\Q8 X.K H x t/\W.kitOne X.K t (.type T)=some k/\Q (.bl k) H):=by
 intro pins s σ H xs us Q I r h
 obtain⟨x,T,t,k,rfl,ty,e,q⟩:=h
 obtain⟨u,w',rfl,rx,rc⟩:=zkb r
 cases (show w'=Value.type T from rc)
 exact zaU I rx ty e λtk=>⟨.bl k,H,I.tok tk,rfl,q⟩
variable {p:Pos}{b:Expr}
theorem zbd(bs:List Bool):(List.range bs.length).all (λi=>(bs[i]?).getD false)=bs.all id:=by
 have e:(List.range bs.length).map (λi=>(bs[i]?).getD false)=bs:=by
  apply List.ext_getElem
  ·simp
  ·intro i h1 h2
   simp[h2]
 have h:=congrArg (λl=>List.all l id) e
 rw[List.all_map]at h
 exact h
theorem zbe(bs:List Bool):(List.range bs.length).any (λi=>(bs[i]?).getD false)=bs.any id:=by
 have e:(List.range bs.length).map (λi=>(bs[i]?).getD false)=bs:=by
  apply List.ext_getElem
  ·simp
  ·intro i h1 h2
   simp[h2]
 have h:=congrArg (λl=>List.any l id) e
 rw[uR]at h
 exact h
theorem zak{bs:List Bool}(rv:Vals (bs.map V.bl) its){i:Nat}(e:its[i]?=some v):∃ b,bs[i]?=some b/\v=.bool b:=by
 have hi:=(xb.mp e).1
 have hl:=rv.length
 rw[xn]at hl
 have hb:i<bs.length:=by omega
 obtain⟨u,hu,ru⟩:=rv.get (i:=i) (x:=V.bl bs[i]) (by simp[hb])
 rw[e]at hu;cases hu
 exact⟨bs[i],by simp[hb],ru⟩
theorem zaA (hc:X.calm=true):qZ X (.builtin "all") (λxs H Q=>∃ (p:Ap) (bs:List Bool),xs= [.ref p]/\SqL X.K H p (bs.map V.bl)/\Q (.bl (bs.all id)) H):=by
 intro pins s σ H xs us Q I r h
 obtain⟨p,bs,rfl,hq,q⟩:=h
 obtain⟨u,rfl,rx⟩:=jX r
 cases rx
 obtain⟨its,rv,pl,hz⟩:=I.list hq
 have hne:p≠⇑s:=by
  obtain⟨o,n,e,_⟩:=pl
  exact xk (x8 e)
 have hl:=rv.length
 rw[xn]at hl
 refine call_all_walk (wpAny_pyIter_list pl.isList ⟨⇑s,_,_,_,_,_,λi=>(bs[i]?).getD false,rfl,Walks.list (show X.A.in1.handled=none from I.ok.hd hc) ⇑s p hne its.toArray,
  ⟨⟨_,Xa _ rfl,rfl,rfl⟩,pl.isList.at λo e=>x6 _ e⟩,λi v s' Q' E' hP hQ=>?_,λh' tk hk=>?_⟩)
 ·obtain⟨b,hb,rfl⟩:=zak rv (by simpa using hP)
  dsimp only at hQ;rw[hb]at hQ
  exact Xj hQ
 ·rw[xq,<- hl,zbd]
  refine⟨.bl _,H,I.kept λb o e=>hk b o ?_ (x6 _ e),rfl,q⟩
  intro z
  rw[List.mem_singleton]at z
  exact absurd (x8 e) (by rw[z];exact xV _)
theorem zaB (hc:X.calm=true):qZ X (.builtin "any") (λxs H Q=>∃ (p:Ap) (bs:List Bool),xs= [.ref p]/\SqL X.K H p (bs.map V.bl)/\Q (.bl (bs.any id)) H):=by
 intro pins s σ H xs us Q I r h
 obtain⟨p,bs,rfl,hq,q⟩:=h
 obtain⟨u,rfl,rx⟩:=jX r
 cases rx
 obtain⟨its,rv,pl,hz⟩:=I.list hq
 have hne:p≠⇑s:=by
  obtain⟨o,n,e,_⟩:=pl
  exact xk (x8 e)
 have hl:=rv.length
 rw[xn]at hl
 refine call_any_walk (wpAny_pyIter_list pl.isList ⟨⇑s,_,_,_,_,_,λi=>(bs[i]?).getD false,rfl,Walks.list (show X.A.in1.handled=none from I.ok.hd hc) ⇑s p hne its.toArray,
  ⟨⟨_,Xa _ rfl,rfl,rfl⟩,pl.isList.at λo e=>x6 _ e⟩,λi v s' Q' E' hP hQ=>?_,λh' tk hk=>?_⟩)
 ·obtain⟨b,hb,rfl⟩:=zak rv (by simpa using hP)
  dsimp only at hQ;rw[hb]at hQ
  exact Xj hQ
 ·rw[xq,<- hl,zbe]
  refine⟨.bl _,H,I.kept λb o e=>hk b o ?_ (x6 _ e),rfl,q⟩
  intro z
  rw[List.mem_singleton]at z
  exact absurd (x8 e) (by rw[z];exact xV _)
theorem RepL.bls:∀{vs:List V}{bs:List Bool},RepL M H vs (bs.map PyData.bool)->vs=bs.map V.bl
 |_,[],.nil=>rfl
 |_,b::bs,.cons q t=>by cases q;rw[xw,<- RepL.bls t]
theorem zav:bootBuiltins "all" =some (.builtin "all"):=by decide +kernel
theorem zaw:bootBuiltins "any" =some (.builtin "any"):=by decide +kernel
theorem Qs:bootBuiltins "list" =some (.type "list"):=by decide +kernel
theorem wJ:bootBuiltins "tuple" =some (.type "tuple"):=by decide +kernel
theorem Vk:bootBuiltins "int" =some (.type "int"):=by decide +kernel
theorem ko:bootBuiltins "bool" =some (.type "bool"):=by decide +kernel
theorem JC:bootBuiltins "set" =some (.type "set"):=by decide +kernel
end
section
noncomputable def zF(n:Nat):Aa:=(List.range n).map λ(i:Nat)=>PyData.int (i:Int)
theorem zj(n:Nat):(zF n).length=n:=by simp[zF]
theorem qi(h:(zF n)[i]?=some d):i<n/\d=.int (i:Int):=by
 unfold zF at h
 rw[xl]at h
 have hi:i<n:=by
  cases e:(List.range n)[i]? with
  |none=>rw[e]at h;cases h
  |some j=>simpa using (xb.mp e).1
 rw[ut hi]at h
 exact⟨hi,(Option.some.inj h).symm⟩
end
def zi4(X:Cx)(ts:Ag):TGs:=λvs σ H Q=>∀(pins:Ak)(s:Am)(us:An),Inv X pins σ H s->Vals vs us ->
  ∅ (assignInOrder ((assignEach ts X.env).map (·.2)) us) (λ_ s'=>∃ σ' H',Inv X pins σ' H' s'/\Q σ' H') X.xe s
theorem vt:PGs X ts (zi4 X ts):=λpins s σ H vs us Q I r h=>h pins s us I r
theorem PGs.wp(h:PGs X ts t)(q:t vs σ H Q):zi4 X ts vs σ H Q:=λpins s us I r=>h pins s σ H vs us Q I r q
section
end
theorem zha(q:ix[j]?=some i0)(h:σ[i0]?=some (some v)):(cS k ix σ)[k+j]?=some (some v):=by
 unfold cS
 rw[xf (by simp),ux,Nat.add_sub_cancel_left,xl,q]
 simp[h]
section
variable {X:Cx}{elt tg iter:Expr}{ifs:Ag}{scope:Scope}{pos:Pos}{N':Ab}{k:Nat}{ix:Ac}{σ:St}{H:Hp}{Q:VK}
def gU(X:Cx)(N':Ab)(scope:Scope)(tg:Expr)(σ0:St):TG:=λv σ H Q=>∀ cl C s2 H2 fp,Cat X σ0 C s2 H2 fp->wpG ⋯ tg v σ H Q
def fU(X:Cx)(N':Ab)(scope:Scope)(ifs:Ag)(σ0:St):TT:=λσ H Q=>∀ cl C s2 H2 fp,Cat X σ0 C s2 H2 fp->wpF ⋯ ifs σ H Q
def eU(X:Cx)(N':Ab)(scope:Scope)(elt:Expr)(σ0:St):TE:=λσ H Q=>∀ cl C s2 H2 fp,Cat X σ0 C s2 H2 fp->wpE ⋯ elt σ H Q
theorem zcU(hcalm:X.calm=true)(S:CSc X.env.scope X.N scope N' k ix)(hf:∀ x,foldedSetIterable iter X.env x=pure x:=by intro _;rfl) :
    PE X (.ListComp elt [⟨tg,iter,ifs,0⟩] scope pos) (VT k ix (wpI X tg iter) (gU X N' scope tg) (fU X N' scope ifs) (eU X N' scope elt)) :=
  zfj hcalm S Jk (λ_ cl C s2 H2 fp c pins s σ H v u Q I r h=>h cl C s2 H2 fp c pins s u I r) (λ_ cl C s2 H2 fp c pins s σ H Q I h=>h cl C s2 H2 fp c pins s I)
    (λ_ cl C s2 H2 fp c pins s σ H Q I h=>h cl C s2 H2 fp c pins s I) hf
theorem zfr{pos' spos:Pos}(hN:X.N.Nodup)(hi':X.N[i]?=some x)(hx:Loc X.env.scope x)(hcalm:X.calm=true)(S:CSc X.env.scope X.N scope N' k ix)
  (hsw:swapsWith (.ListComp elt [⟨tg,iter,ifs,0⟩] scope pos) (some (.Name x pos')) spos.line X.env=pure true) (hs:∀ x,foldedSetIterable iter X.env x=pure x:=by intro _;rfl)
  (hf:X.fn x=true∨X.env.scope.names.lookup x=some .local:=by first | exact .inl rfl | exact .inr rfl | assumption) :
  PS X (.Assign [.Name x pos'] (.ListComp elt [⟨tg,iter,ifs,0⟩] scope pos) spos) (yR (VT k ix (wpI X tg iter) (gU X N' scope tg) (fU X N' scope ifs) (eU X N' scope elt)) (W4 i)) :=
 zfq hN hi' hx hcalm S Jk (λ_ cl C s2 H2 fp c pins s σ H v u Q I r h=>h cl C s2 H2 fp c pins s u I r) (λ_ cl C s2 H2 fp c pins s σ H Q I h=>h cl C s2 H2 fp c pins s I)
  (λ_ cl C s2 H2 fp c pins s σ H Q I h=>h cl C s2 H2 fp c pins s I) hsw hs hf
end
section
end
structure Kn(P:Ar)(w:World)(K:Ah)(mg:Aq)(base:Heap)(CX:CXT)(x:Str)(k:Nat)(sp:Sp):Prop where
 ex:∃(f:Ap)(fd:FuncData)(ps:Ab),FnOk P w K mg base CX k f fd ps sp/\mg x=some (.ref f)/\W.keepIn K (.ref f)=true/\Binds K fd ps []
section
variable {X:Cx}{x:Str}{k:Nat}{CX:CXT}{E:XK}{e:Expr}{es:Ag}{p pos:Pos}
theorem zgr (kn:Kn X.prog X.w X.K X.mg X.base CX x k sp) (hr:Room k X.A) (hg:Gl X x) (hx:V5 CX X E) (h:wpA X (e::es) σ H λvs H1=>sp vs H1 Q E) (hdb:(↥x):=by decide)
    (he:starEach (e::es) X.env=(false,eval e X.env)::starEach es X.env:=by rfl) (hpl:(backTo pos (starEach es X.env)).any (·.1)=false:=by rfl):wpE X (.Call (.Name x p) (e::es) [] pos) σ H Q:=by
  obtain⟨f,fd,ps,F,hm,hk,hb⟩:=kn.ex
  refine (zfh F hr hg hm hk hb .nil hx jd hdb he hpl).wp (h.mono λvs H1 q=>?_)
  rw[xR];exact q
end
theorem yQ(h:vs.length<=N.length):(start N vs).length=N.length:=by
 unfold start;simp;omega
structure Df(K:Ah)(mg:Aq)(x:Str)(st:Stmt)(ps:Ab):Prop where
 ex:∃ f fd,Fun K x x st f fd/\mg x=some (.ref f)/\Binds K fd ps []
section
variable {P:Ar}{w:World}{K:Ah}{mg:Aq}{base:Heap}{x:Str}{st:Stmt}{N ps:Ab}{k:Nat}
theorem Df.kn(D:Df K mg x st ps)(S:ja N ps (defScope st))(len:∀ vs H Q E,sp vs H Q E->vs.length=ps.length)
  (hbody:∀(f:Ap)(cdv:Aj)(A:Around)(outer:List Env)(s:Am)(H:Hp)(vs:List V)(Q:VK)(E:XK),Room k (A.deeper (envOfC x (defScope st) ⇑s f cdv))->sp vs H Q E ->
   wpB (Qu CX0 P w K mg base N x (defScope st) f cdv A outer s H E).nox (defBody st) { nx:=λ_ H'=>Q .non H',rt:=Q } (start N vs) H):Kn P w K mg base CX0 x (k+1) sp:=by
 obtain⟨f,fd,F,hm,hb⟩:=D.ex
 exact⟨f,fd,ps,F.ok S len (λcdv A outer s H vs Q E hr h=>⟨_,qF,hbody f cdv A outer s H vs Q E hr h⟩),hm,F.kp,hb⟩
end
section
variable {X:Cx}{σ:St}{H:Hp}{D:Zf}{sts:List Stmt}{e:Expr}{pos pos':Pos}{x:Str}
theorem zkc(i:Nat)(hN:X.N.Nodup)(h:wpE X e σ H Q)(k:∀ v H',Q v H'->wpB X sts D (σ.set i (some v)) H')(hi:X.N[i]?=some x:=by rfl)(hx:Loc X.env.scope x:=by first | exact Or.inl rfl | exact Or.inr rfl)(hs:swapsWith e (some (.Name x pos')) pos.line X.env=pure false:=by rfl)
    (hf:X.fn x=true∨X.env.scope.names.lookup x=some .local:=by first | exact .inl rfl | exact .inr rfl | assumption):wpB X (.Assign [.Name x pos'] e pos::sts) D σ H :=
  (Zs (vA hN hi hx zc hs hf) qF).wp (h.mono k)
end
section
end
mutual
/-- no list within -/
noncomputable def noL:PyData->Bool
 |.list _=>false
 |.tuple ds=>ze6 ds
 |.dict _=>false
 |_=>true
noncomputable def ze6:Aa->Bool
 |[]=>true
 |d::ds=>noL d&&ze6 ds
end
theorem Rep.free(h:noL d=true)(r:Rep M H v d):Rep M' H v d :=
 Rep.rec (motive_1:=λv d _=>noL d=true->Rep M' H v d) (motive_2:=λvs ds _=>ze6 ds=true->RepL M' H vs ds) (λ_=>.none) (λb _=>.bool b) (λi _=>.int i) (λx _=>.str x) (λ_ _ _ _ h=>by simp[noL]at h) (λe _ ih h=>.tuple e (ih (by simpa [noL] using h)))
  (λ_ _ _ _ _ h=>by cases h) (λ_ _ _ _ _ h=>by cases h) (λ_ _ _ _ _ _ h=>by cases h) (λ_=>.nil) (λ_ _ i1 i2 h=>by
   rw[ze6,xa]at h
   exact .cons (i1 h.1) (i2 h.2)) r h
section
end
theorem Df.of{K:Ah}{x:Str}{st:Stmt}{ps:Ab}{f:Ap}{oc:Aj}{od an:Option Ap}{sl:Array (Option Aj)}{kV dc pm cd ct:Aj}(X:K.In h)(G:h.Ns mainGlobals mg)
  (a:PySem.W.nsIn K mainGlobals x=some (some (.ref f))) (l:K.lookup f=some ⟨oc,od,.func (PySem.W.fnOf x x (qd st) (defBody st) (defScope st) .none kV dc pm an cd ct),sl⟩) (c:PySem.W.codeIn K cd x=true) (k:PySem.W.keepIn K (.ref f)=true)
  (hb:∀(kV doc pm:Aj)(an:Option Ap)(cdv ct:Aj)(us:An),us.length=ps.length->bindArgs (PySem.W.fnOf x x (qd st) (defBody st) (defScope st) .none kV doc pm an cdv ct) ⟨us,[]⟩=pure (ps.zip us)):Df K mg x st ps :=
 ⟨f,_,Qz l c k,PySem.W.mg_of X G a,(Qz l c k).binds hb⟩
structure Dl(K:Ah)(x:Str)(st:Stmt)(fa:Ap)(p:Str):Prop where
 ex:∃ fd:FuncData,Fun K x x st fa fd/\∀(s:Am)(u:Aj),BindsTo s fd ⟨[u],[]⟩ [(p,u)]
theorem Dl.of{K:Ah}{x p:Str}{st:Stmt}{f fa:Ap}{oc:Aj}{od an:Option Ap}{sl:Array (Option Aj)}{kV dc pm cd ct:Aj}(X:K.In h)(G:h.Ns mainGlobals mg)(hfa:mg x=some (.ref fa))
  (a:PySem.W.nsIn K mainGlobals x=some (some (.ref f))) (l:K.lookup f=some ⟨oc,od,.func (PySem.W.fnOf x x (qd st) (defBody st) (defScope st) .none kV dc pm an cd ct),sl⟩) (c:PySem.W.codeIn K cd x=true) (k:PySem.W.keepIn K (.ref f)=true)
  (hb:∀(s:Am)(u:Aj),BindsTo s (PySem.W.fnOf x x (qd st) (defBody st) (defScope st) .none kV dc pm an cd ct) ⟨[u],[]⟩ [(p,u)]):Dl K x st fa p:=by
 have e:=hfa.symm.trans (PySem.W.mg_of X G a)
 cases e
 exact⟨_,Qz l c k,hb⟩
noncomputable def zae(K:Ah):Sp:=λvs H Q _=>∃(a:Ap)(ns:List Int),vs= [.ref a]/\SqL K H a (ns.map V.int)/\ns.length<=63/\∀ H',Q (.bl true) H'
theorem Fun.law{P:Ar}{w:World}{K:Ah}{mg:Aq}{base:Heap}{st:Stmt}{k:Nat}{f:Ap}(F:Fun K x x st f fd)(S:ja N [p] (defScope st))
  (hbody:∀(cdv:Aj)(A:Around)(outer:List Env)(s:Am)(H:Hp)(Q:VK)(E:XK)(a:Ap)(ns:List Int),Room k (A.deeper (envOfC x (defScope st) ⇑s f cdv))->SqL K H a (ns.map V.int)->ns.length<=63->(∀ H',Q (.bl true) H') ->
   wpB (Qu CX0 P w K mg base N x (defScope st) f cdv A outer s H E).nox (defBody st) { nx:=λ_ H'=>Q .non H',rt:=Q } (start N [.ref a]) H):FnOk P w K mg base CX0 (k+1) f fd [p] (zae K) :=
 F.ok S (λvs H Q E ⟨a,ns,e,_⟩=>by rw[e];rfl) λcdv A outer s H vs Q E hr ⟨a,ns,e,hS,hlen,kk⟩=>⟨_,qF,by subst e;exact hbody cdv A outer s H Q E a ns hr hS hlen kk⟩
theorem walkL{l:PySem.W.OpenLaw}{q:Ar}{loose:Ab}{XP:(Aq)->Heap->Prop}{YP:World->Heap->Prop}{K:Params->Ah}{st:Stmt}(hn:l.most=some 63)(hdf:d.params.defaults= [])(hk:Room k callerA)
  (hY:∀(w:World)(h:Heap),YP w h->(K w.params).In h)
  (F:∀(w:World)(mg:Aq)(fa:Ap)(h:Heap),(K w.params).In h->h.Ns mainGlobals mg->mg d.name=some (.ref fa) ->
   Dl (K w.params) "law" st fa "_law_script" /\∀ (fd:FuncData),Fun (K w.params) "law" "law" st fa fd->∀ base:Heap,FnOk l.prog w (K w.params) mg base CX0 k fa fd ["_law_script"] (zae (K w.params))) :
  PySem.W.WalkO q loose XP YP l.row.toRowW d [] (λf vs=>PySem.call f vs) :=
 L2.walk_of (n:=63) (k:=k) (x:= "_law_script") (CX:=λ_=>CX0) (sp:=λw=>zae (K w.params)) hn (by decide) hdf hk hY (λw mg fa h KX G hm=>by
  obtain⟨⟨fd,Ff,hb⟩,hF⟩:=F w mg fa h KX G hm
  exact⟨fd,hb,λbase _ _=>hF fd Ff base⟩) (λ_ _ a ns hl _ hS=>⟨a,ns,rfl,hS,hl,λ_=>rfl⟩) λ_ _ _ _ _ z=>z
def Qe(B:Heap)(l:List Env)(ea:Ap)(c:Aj)(dx:Option Ap)(fl:Aj)(h:Heap):Prop:=B.StaysIn h/\B.get? ea=none/\h.FunFrames B l /\
 ∃ oe vs T oT ts,h.get? ea=some oe/\(oe.cls=c/\oe.dict=dx)/\oe.data=.fields vs/\vs[1]?=some (.ref T)/\B.get? T=none/\T≠ea/\h.get? T=some oT/\oT.data=.fields ts/\ts[3]?=some fl
section
variable {M:Model}{A:Around}{E:Af}{s:Am}{B:Heap}{l outer:List Env}{env:Env}{ea L:Ap}{c fl:Aj}{dx:Option Ap}{Q:Unit->Am->Prop}
theorem Vx{head:Aj}{hn:Bool}(hfr:A.frames=some (env::outer))(hl:s.heap.FunFrames B (env::outer))(hf:env.frame=some L)(he:s.heap.get? ea=some oe)(hb:B.StaysIn s.heap)(hen:B.get? ea=none)(hd:oe.data=.fields vs)(h1:1<vs.size)
  (k:∀ h',Qe B (env::outer) ea oe.cls oe.dict (rawInt L) h'->s.heap.UpToSlots h'->Q () { s with heap:=h' }) :
  wpAny M A (do let a<-PySem.frameOf env;let pl<-entryPlaceOf L hn;let b<-EntryCells.newEntry head a .none (rawInt L) .none pl;setField (.ref ea) 1 b) Q E s:=by
 refine x5 (wpAny_frameOf_fun hfr hl hf λh1' so=>?_)
 refine x5 (wpAny_entryPlaceOf λpl hpl=>?_)
 have hnL:∀ b,B.get? b≠none->b∉frs (env::outer):=λb h z=>h (hl.mem z).1
 have he1:h1'.get? ea=some { oe with slots:=(h1'.get? ea).elim #[] (·.slots) }:=by
  obtain⟨sl,e⟩:=so.2.2 ea oe he
  rw[e];rfl
 generalize hoe:(({ oe with slots:=(h1'.get? ea).elim #[] (·.slots) }:Obj))=oe1 at he1
 have hd1:oe1.data=.fields vs:=by rw[<- hoe];exact hd
 have hcl:oe1.cls=oe.cls/\oe1.dict=oe.dict:=by rw[<- hoe];exact⟨rfl,rfl⟩
 have hl1:=hl.of_slotsOnly so
 have hb1:B.StaysIn h1':=λb o e=>by rw[so.2.1 b (hnL b (by rw[e];exact λz=>nomatch z))];exact hb b o e
 obtain⟨oT,ts,hT,hT3⟩:∃ (oT:Obj) (ts:Array Aj),oT={ cls:=.type "traceback",data:=.fields ts }/\ts=([head,Value.ref L,.none,rawInt L,.none]++(if pl.isEmpty then List.replicate 6 .none else pl)).toArray:=⟨_,_,rfl,rfl⟩
 have hts:ts[3]?=some (rawInt L):=by rw[hT3];simp
 have hsz:ts.size<=sizeLine+2:=by
  have:=Xg
  rw[hT3]
  rcases hpl with rfl | ⟨a,b,c,d,c9,b10,_,rfl⟩<;>simp<;>omega
 have key:wpAny M A (setField (.ref ea) 1 (.ref h1'.objs.size)) Q E { s with heap:=h1'.push oT }:=by
  have hne:=xk (x8 he1)
  have hp:∀ b o,h1'.get? b=some o->(h1'.push oT).get? b=some o:=λb o e=>x6 _ e
  refine wpAny_setField (hp _ _ he1) hd1 h1 (k _ ⟨λb o e=>?_,hen,?_,?_⟩ λb o e hnf=>?_)
  ·exact (Xf _ _ λz=>by rw[<- z,hen]at e;cases e).trans (hp _ _ (hb1 b o e))
  ·exact hl1.of_keeps λb o e hnf=>⟨o,(Xf _ _ λz=>by rw[<- z,he1]at e;cases e;exact hnf vs hd1).trans (hp _ _ e),rfl⟩
  ·refine⟨_,_,h1'.objs.size,oT,ts,Heap.get?_update_self _ (hp _ _ he1) (Obj.isFreed_of_fields (Obj.data_mapFields hd1 _)),?_,Obj.data_mapFields hd1 _,by simp[h1],?_,Ne.symm hne,?_,by rw[hT],hts⟩
   ·rw[<- hcl.1,<- hcl.2]
    obtain⟨a1,a2,a3,a4⟩:=oe1
    dsimp only at hd1
    subst hd1
    exact⟨rfl,rfl⟩
   ·cases q:B.get? h1'.objs.size with
    |none=>rfl
    |some o=>exact absurd (x8 (hb1 _ _ q)) (xV _)
   ·exact (Xf _ _ hne).trans (Xa _ (by rw[hT];rfl))
  ·obtain⟨sl,e1⟩:=so.2.2 b o e
   exact⟨sl,(Xf _ _ λz=>by rw[<- z,he1]at e1;cases e1;exact hnf vs hd1).trans (hp _ _ e1)⟩
 unfold EntryCells.newEntry newFields newObj
 rw[<- hT3]
 dsimp only
 rw[if_neg (uS.mpr hsz)]
 unfold newObjAsIs
 refine x5 (x5 (wpAny_alloc ?_))
 rw[<- hT]
 exact x9 key
theorem yM(h:Qe B l ea c dx fl s.heap)(k:∀ h',Qe B l ea c dx (fr.elim .none λf=>rawInt f) h'->s.heap.UpToSlots h'->Q () { s with heap:=h' }):wpAny M A (setFlight (.ref ea) fr) Q E s:=by
 obtain⟨hkb,hen,hl,oe,vs,T,oT,ts,he,hcls,hd,h1,hnT,hTe,hT,hdT,h3⟩:=h
 have hsz3:=(ue.mp h3).1
 have other:∀ b,b≠T->(s.heap.update T (Obj.mapFields (·.setIfInBounds 3 (fr.elim Value.none λf=>rawInt f)))).get? b=s.heap.get? b:=λb hb=>Xf _ _ (Ne.symm hb)
 have noR:∀ b o,s.heap.get? b=some o->(∀ vs,o.data≠ .fields vs)->b≠T:=λb o hb hnf q=>by
  rw[q,hT]at hb;injection hb with hb;subst hb;exact hnf ts hdT
 unfold setFlight
 refine x5 (wpAny_field he hd h1 ?_)
 rw[if_pos (show (Value.ref T !=Value.none)=true from by simp)]
 refine wpAny_setField hT hdT hsz3 (k _ ⟨λb o hbo=>(other b λq=>by rw[q,hnT]at hbo;cases hbo).trans (hkb b o hbo),hen,
  hl.of_keeps λb o hb hnf=>⟨o,(other b (noR b o hb hnf)).trans hb,rfl⟩,?_⟩ λb o hb hnf=>⟨o.slots,(other b (noR b o hb hnf)).trans hb⟩)
 exact⟨oe,vs,T,_,_,(other ea (Ne.symm hTe)).trans he,hcls,hd,h1,hnT,hTe,Heap.get?_update_self _ hT (Obj.isFreed_of_fields (Obj.data_mapFields hdT _)),Obj.data_mapFields hdT _,by simp[hsz3]⟩
end
noncomputable def CX1(P:Ar)(w:World):CXT:=λouter H s E e s'=>∃(ea:Ap)(c:Aj)(dx:Option Ap)(B h0:Heap)(H':Hp),e=.ref ea/\s'.os=s.os/\AllBare s'.gens/\Qe B outer ea c dx .none s'.heap/\h0.UpToSlots s'.heap /\
 (∀ h6,B.StaysIn h6->h0.UpToSlots h6->Un (frs outer) [] H H' s.heap h6/\HOk P w H' h6)/\E c dx H'
structure MadeX(h h':Heap)(ea:Ap)(c:Aj)(dx:Option Ap):Prop where
 keeps:∀ b o,h.get? b=some o->h'.get? b=some o
 new:h.get? ea=none
 there:∃ t,h'.get? ea=some { cls:=c,dict:=dx,data:=.fields #[.ref t,.none,.none,.none,.bool false,.none] }
theorem MadeX.of(m:Heap.MadeExcOf h h' ea c args):MadeX h h' ea c none:=⟨m.keeps,m.new,let ⟨t,e,_⟩:=m.there;⟨t,e⟩⟩
section
variable {M:Model}{A:Around}{E:Af}{s:Am}{B:Heap}{outer:List Env}{env:Env}{ea L:Ap}{c fl:Aj}{dx:Option Ap}{Q:Unit->Am->Prop}
theorem Yw(hfr:A.frames=some (env::outer))(hf:env.frame=some L)(h:Qe B (env::outer) ea c dx fl s.heap)(k:∀ h',Qe B (env::outer) ea c dx (rawInt L) h'->s.heap.UpToSlots h'->Q () { s with heap:=h' }):wpAny M A (noteFrame (.ref ea) env) Q E s:=by
 have hh:=h
 obtain⟨hkb,hen,hl,oe,vs,T,oT,ts,he,⟨hcls,h0⟩,hd,h1,hnT,hTe,hT,hdT,h3⟩:=h
 subst hcls h0
 unfold noteFrame
 simp only[hf]
 refine x5 (wpAny_field he hd h1 ?_)
 rw[if_pos (show (Value.ref T !=Value.none)=true from by simp)]
 refine x5 (wpAny_field hT hdT h3 ?_)
 by_cases hq:fl=rawInt L
 ·subst hq
  rw[if_pos (by simp)]
  exact x9 (k s.heap hh (.refl _))
 ·have other:∀ b,b≠T->(s.heap.update T (Obj.mapFields (·.setIfInBounds 3 Value.none))).get? b=s.heap.get? b:=λb hb=>Xf _ _ (Ne.symm hb)
  have noR:∀ b o,s.heap.get? b=some o->(∀ vs,o.data≠ .fields vs)->b≠T:=λb o hb hnf q=>by
   rw[q,hT]at hb;injection hb with hb;subst hb;exact hnf ts hdT
  rw[if_neg (show ¬ ((fl==rawInt L)=true) from by simpa using hq)]
  refine x5 (wpAny_setField hT hdT (ue.mp h3).1 ?_)
  refine Vx hfr (hl.of_keeps λb o hb hnf=>⟨o,(other b (noR b o hb hnf)).trans hb,rfl⟩) hf ((other ea (Ne.symm hTe)).trans he)
   (λb o hbo=>(other b λq=>by rw[q,hnT]at hbo;cases hbo).trans (hkb b o hbo)) hen hd (ue.mp h1).1
   λh' x1 x4=>k h' x1 λb o hb hnf=>x4 b o ((other b (noR b o hb hnf)).trans hb) hnf
theorem zcK(hfr:A.frames=some (env::outer))(hf:env.frame=some L)(hb:B.StaysIn h)(hl:h.FunFrames B (env::outer))(m:MadeX h s.heap ea c dx)(k:∀ h',Qe B (env::outer) ea c dx (rawInt L) h'->s.heap.UpToSlots h'->Q () { s with heap:=h' }):wpAny M A (noteFrame (.ref ea) env) Q E s:=by
 obtain⟨t,he⟩:=m.there
 unfold noteFrame
 simp only[hf]
 refine x5 (wpAny_field he rfl rfl ?_)
 rw[if_neg (by simp)]
 refine Vx hfr (hl.of_keeps λb o hb hnf=>⟨o,m.keeps b o hb,rfl⟩) hf he (λb o e=>m.keeps b o (hb b o e)) ?_ rfl (by simp) k
 cases q:B.get? ea with
 |none=>rfl
 |some o=>have:=hb _ _ q;rw[m.new]at this;cases this
end
section
variable {X:Cx}{pins:Ak}{σ:St}{H:Hp}{s:Am}
theorem Inv.flies(I:Inv X pins σ H s)(hx:X.ex= [])(hst:X.stack=X.env::X.outer)(hf:X.env.frame=some X.env.locals){h6:Heap}
  (k1:(PySem.W.hideAll s.heap (frs X.stack)).StaysIn h6) (k2:s.heap.UpToSlots h6):Un (frs X.outer) [] X.H₀ H X.s₀.heap h6/\HOk X.prog X.w H h6:=by
 have nex:∀ b,b∉X.ex:=λb z=>by rw[hx]at z;cases z
 have kk:∀ b o,s.heap.get? b=some o->b∉frs X.stack->h6.get? b=some o:=λb o e n=>k1 b o (PySem.W.hideAll_get _ e n)
 have fr:∀ b,b∈frs X.stack->∀ o,s.heap.get? b=some o->∃ sl,h6.get? b=some { o with slots:=sl }:=λb hb o e=>by
  obtain⟨_,o',e',hn⟩:=I.stack.mem hb
  rw[e]at e'
  cases e'
  exact k2 b o e hn
 have hsub:∀ b,b∈frs X.outer->b∈frs X.stack:=λb hb=>by
  rw[hst]
  unfold frs at hb |-
  rw[xZ,hf]
  exact xo _ hb
 have hsup:∀ b,b∈frs X.stack->b=X.env.locals∨b∈frs X.outer:=λb hb=>by
  rw[hst]at hb
  unfold frs at hb |-
  rw[xZ,hf]at hb
  exact xC.mp hb
 have hL:∀ b o,X.s₀.heap.get? b=some o->b≠X.env.locals:=λb o e z=>by
  have h1:=x8 e
  have h2:=I.ok.above
  rw[z]at h1
  exact absurd (xu h1 h2) (xV _)
 refine⟨⟨λb o e n hb _=>?_,λb o e n hb _=>?_,λb o e n _=>I.base.free b o e n (nex b),λb o e _=>?_,I.base.tups,I.base.frzs,I.base.tbls⟩,λa o e=>?_⟩
 ·refine kk b o (I.base.keep b o e n hb (nex b)) λz=>?_
  rcases hsup b z with z | z
  ·exact hL b o e z
  ·exact hb z
 ·obtain⟨sl,e1⟩:=I.base.slot b o e n hb (nex b)
  obtain⟨sl2,e2⟩:=fr b (hsub b hb) _ e1
  exact⟨sl2,e2⟩
 ·obtain⟨o1,e1⟩:=I.base.there b o e (nex b)
  by_cases hb:b∈frs X.stack
  ·obtain⟨sl,e2⟩:=fr b hb _ e1
   exact⟨_,e2⟩
  ·exact⟨o1,kk b o1 e1 hb⟩
 ·refine (I.hok a o e).stay (λb u hb q=>kk b u q λz=>?_) (λ_ q=>q) λ_ _ q=>q
  have hn:=I.stkFree b z
  rcases hb with hb | hb
  ·subst hb;rw[e]at hn;cases hn
  ·rw[hb]at hn;cases hn
theorem wR(I:Inv X pins σ H s)(hx:X.ex= [])(hst:X.stack=X.env::X.outer)(hf:X.env.frame=some X.env.locals){h':Heap}{ea:Ap}{c:Aj}{dx:Option Ap}
  (hm:MadeX s.heap h' ea c dx) {E:XK} (q:E c dx H) {E':Af} :
  ∅ (leaving X.env (.ref ea)) (λ_ s''=>CX1 X.prog X.w X.outer X.H₀ X.s₀ E (.ref ea) s'') E' { s with heap:=h' }:=by
 have hfr:X.A.frames=some (X.env::X.outer):=by rw[<- hst];exact I.ok.frames
 have hst':=I.stack
 rw[hst]at hst'
 unfold leaving
 refine x5 (zcK (B:=PySem.W.hideAll s.heap (frs X.stack)) hfr hf (λb o e=>PySem.W.of_hideAll _ e) (PySem.W.funFrames_hide hst' λenv he a ha=>?_) hm λh4 al4 up4=>yM al4 λh5 ⟨x1,x2,⟨_,_,x3⟩,x4⟩ up5=>?_)
 ·rw[hst];exact uE.mpr ⟨env,he,ha⟩
 ·exact⟨ea,c,dx,_,s.heap,H,rfl,I.os,I.bare,⟨x1,x2,x3,x4⟩,(Heap.UpToSlots.of_keeps hm.keeps).trans (up4.trans up5),λh6 k1 k2=>I.flies hx hst hf k1 k2,q⟩
end
theorem zh9(h g:Heap)(a:Ap)(o:Obj)(hg:g.get? a=some o):∃ h':Heap,h'.get? a=some o/\∀ b,b≠a->h'.get? b=h.get? b:=by
 have ho:∀(x y:_)(z:_),o≠⟨x,y,.freed,z⟩:=λx y z e=>by
  subst e
  unfold Heap.get? at hg
  split at hg
  ·cases hg
  next h1=>
   exact h1 _ _ _ hg
 refine⟨⟨Array.ofFn (n:=max h.objs.size (a+1)) λi=>if i.val=a then o else (h.objs[i.val]?).getD ⟨.none,none,.freed,#[]⟩,{}⟩,?_,λb hb=>?_⟩
 ·unfold Heap.get?
  rw[Array.getElem?_ofFn,dif_pos (by omega),if_pos rfl]
  obtain⟨x,y,d,z⟩:=o
  cases d<;>first | rfl | exact absurd rfl (ho _ _ _)
 ·unfold Heap.get?
  rw[Array.getElem?_ofFn]
  by_cases hl:b<max h.objs.size (a+1)
  ·rw[dif_pos hl,if_neg hb]
   cases h.objs[b]?<;>rfl
  ·rw[dif_neg hl,Array.getElem?_eq_none (xJ (Nat.le_max_left _ _) (uS.mp hl))]
section
variable {B:Heap}{env:Env}
theorem zcJ(h:env.frame=env'.frame):noteFrame x env=noteFrame x env':=by
 unfold noteFrame PySem.frameOf
 rw[h]
theorem Vy{h h' B':Heap}(hB:∀ b,B.get? b=none->B'.get? b=none):∀{l:List Env},h.FunFrames B l->(∀ b∈frs l,h'.get? b=h.get? b)->h'.FunFrames B' l
  |[],_,_=>trivial
  |env::r,⟨hk,⟨L,o,hf,hn,ho,hd⟩,hr⟩,k=>⟨hk,⟨L,o,hf,hB L hn,(k L (by unfold frs;rw[xZ,hf];exact .head _)).trans ho,hd⟩,Vy hB hr λb hb=>k b (by
      unfold frs at hb |-;rw[xZ,hf];exact .tail _ hb)⟩
end
def Up(X:Cx)(pins:Ak)(σ:St)(H:Hp)(C:Ap)(dx:Option Ap)(e:Aj)(s:Am):Prop :=
 ∃(ea:Ap)(fl:Aj)(B:Heap),e=.ref ea/\Qe B X.stack ea (.ref C) dx fl s.heap/\∀ h6,B.StaysIn h6->s.heap.UpToSlots h6->Inv X pins σ H { s with heap:=h6 }
def Sk(X:Cx):Prop:=∃ env0 outer0 L,X.stack=env0::outer0/\env0.frame=some L/\X.env.frame=some L
section
variable {X:Cx}{pins:Ak}{σ:St}{H:Hp}{s s':Am}{C:Ap}{dx:Option Ap}{e:Aj}
theorem Inv.up(I:Inv X pins σ H s)(hc:CX1 X.prog X.w X.stack H s E e s'){G:Prop}(k:∀ c dx H',E c dx H'->(∀ C,c=.ref C->Up X pins σ H' C dx e s')->G):G:=by
 obtain⟨ea,c,dx,B,h0,H',rfl,os,bare,hfl,up,hk,q⟩:=hc
 refine k c dx H' q λC e=>?_
 subst e
 exact⟨ea,.none,B,rfl,hfl,λh6 k1 k2=>by
  obtain⟨un,hok⟩:=hk h6 k1 (up.trans k2)
  exact I.call' os un hok bare λb z=>nomatch z⟩
theorem Up.comp{scope:Scope}{Cn:Ap}{s2:Am}{H2:Hp}{σ':St}(sk:Sk X)(cat:Cat X σ Cn s2 H2 fp)(u:Up (X.comp N' scope cl Cn s2 H2 fp) pins' σ' H C dx e s)
  (k:∀ pins s',Up X pins σ H C dx e s'->X.xe e s'):(X.comp N' scope cl Cn s2 H2 fp).xe e s:=by
 obtain⟨ea,fl,B,rfl,al,inv⟩:=u
 obtain⟨pins,I2,f2,hC⟩:=cat
 obtain⟨env0,outer0,L,hst,hf0,hfx⟩:=sk
 have hfr:X.A.frames=some (env0::outer0):=by rw[<- hst];exact I2.ok.frames
 have al':Qe B (env0::outer0) ea (.ref C) dx fl s.heap:=by rw[<- hst];exact al
 show ∅ (noteFrame (.ref ea) (compEnvC scope cl Cn X.env)) (λ_ s''=>zam X Cn (.ref ea) s'') (zam X Cn) s
 rw[zcJ (env':=env0) (show (compEnvC scope cl Cn X.env).frame=env0.frame from hfx.trans hf0.symm)]
 refine Yw hfr hf0 al' λh4 al4 up4=>?_
 obtain⟨g1,g2,g3,g4⟩:=al4
 have I4:=inv h4 g1 up4
 obtain⟨m,hn,_⟩:=I4.loc
 refine⟨m,hn,λh' sb cenv _=>?_⟩
 obtain⟨oC,es,ep,hoC,hdC,_⟩:=id hn
 have hCf:∀ b o vs,h4.get? b=some o->o.data=.fields vs->b≠Cn:=λb o vs e1 e2 z=>by
  subst z
  have e3:h4.get? b=some oC:=hoC
  rw[e1]at e3;cases e3
  rw[hdC]at e2;cases e2
 have hfrC:∀ b∈frs (env0::outer0),b≠Cn:=λb hb z=>by
  rw[<- hst]at hb
  obtain⟨_,o,ho,_⟩:=I2.stack.mem hb
  rw[z]at ho
  exact absurd (x8 ho) (uS.mpr hC)
 have hB':∀ b,B.get? b=none->(PySem.W.hideAll B [Cn]).get? b=none:=λb e1=>by
  cases q:(PySem.W.hideAll B [Cn]).get? b with
  |none=>rfl
  |some o=>rw[PySem.W.of_hideAll _ q]at e1;cases e1
 have hBC:(PySem.W.hideAll B [Cn]).get? Cn=none:=PySem.W.hideAll_none _ (.head _)
 obtain⟨oe,vs,T,oT,ts,he,hcls,hd,h1,hnT,hTe,hT,hdT,h3⟩:=g4
 have he':h'.get? ea=some oe:=(sb.2 ea (hCf _ _ _ he hd)).trans he
 have hT':h'.get? T=some oT:=(sb.2 T (hCf _ _ _ hT hdT)).trans hT
 have al5:Qe (PySem.W.hideAll B [Cn]) X.stack ea (.ref C) dx (rawInt L) h':=by
  rw[hst]
  exact⟨λb o e1=>(sb.2 b λz=>by rw[z,hBC]at e1;cases e1).trans (g1 b o (PySem.W.of_hideAll _ e1)),hB' _ g2,Vy hB' g3 λb hb=>sb.2 b (hfrC b hb),oe,vs,T,oT,ts,he',hcls,hd,h1,hB' _ hnT,hTe,hT',hdT,h3⟩
 unfold PySem.passOn
 refine x5 (wpAny_field he' hd h1 ?_)
 rw[if_neg (show ¬ ((Value.ref T==Value.none)=true) from by simp)]
 refine x5 (yM (s:={ s with heap:=h' }) al5 λh5 al6 up5=>wpAny_throw (k pins _ ⟨ea,_,_,rfl,al6,λh6 k1 k2=>?_⟩))
 obtain⟨h7,e7,k7⟩:=zh9 h6 h4 Cn oC hoC
 have I7:=inv h7 (λb o e1=>by
  by_cases z:b=Cn
  ·subst z
   have e2:=g1 b o e1
   have e3:h4.get? b=some oC:=hoC
   rw[e3]at e2;cases e2;exact e7
  ·exact (k7 b z).trans (k1 b o (PySem.W.hideAll_get _ e1 (by simpa using z)))) λb o e1 hnf=>by
  obtain⟨sl,e2⟩:=up4 b o e1 hnf
  by_cases z:b=Cn
  ·subst z
   have e3:h4.get? b=some oC:=hoC
   rw[e3]at e2;cases e2;exact⟨_,e7⟩
  ·obtain⟨sl2,e4⟩:=(up5.trans k2) b _ ((sb.2 b z).trans e2) hnf
   exact⟨sl2,(k7 b z).trans e4⟩
 exact I2.letgo (s5:={ s with heap:=h7 }) (I2.back f2 I7) hC I7.free λb hb=>(k7 b hb).symm
end
noncomputable abbrev bmV:An:= [.type "ValueError",.type "Exception",.type "BaseException",.type "object"]
noncomputable def mroIn(K:Ah)(C:Ap):An:=match K.lookup C with
 |some ⟨_,_,.cls cd,_⟩=>cd.mro
 |_=> []
theorem zeP {K:Ah}(X:K.In h) (q:PySem.W.excIn K C bmV "ValueError.__new__" =true) :
  ∃ bm N nm qn bs hdct sn sub ab col dd k0 k1 k2 k3 k5 mN,h.get? C=some (excClassObj nm qn C N bs bm hdct sn sub ab col dd k0 k1 k2 k3 k5 "ValueError.__new__")/\h.Ns N mN/\mN "__init__" =none/\OwnTail h bmV bm/\mroIn K C=Value.ref C::bm:=by
 unfold PySem.W.excIn at q
 unfold mroIn
 split at q
 next d0 c0 s0 e0=>
  rw[e0]
  dsimp only
  split at q
  next C1 bm z0 z1 z2 z3 n1 z5 e1 e2=>
   rw[xa,xa,xa,xa,xa]at q
   obtain⟨⟨⟨⟨⟨q1,q2⟩,q3⟩,q4⟩,q5⟩,q6⟩:=q
   have r1:=eq_of_beq q1
   have r2:n1= "ValueError.__new__" :=eq_of_beq q2
   have r3:c0.hasDel=false:=by simpa using q3
   have r6:PySem.W.nsIn K c0.ns "__init__" =some none:=eq_of_beq q6
   subst r1 r2
   have r5:s0=#[z0,z1,z2,z3,some (.builtin "ValueError.__new__"),z5]:=by
    cases s0 with
    |mk l=>exact congrArg Array.mk e2
   cases c0 with
   |mk a1 a2 a3 a4 a5 a6 a7 a8 a9 a10 a11=>
    dsimp only at e1 r3 q5 r6
    subst e1 r3 r5
    exact⟨_,_,_,_,_,_,_,_,_,_,_,_,_,_,_,_,_,X _ _ e0,.of_isNs (PySem.W.isNs_of_in X q5),PySem.W.nsMap_none_of_in X q5 r6,PySem.W.tail_of_in X q4,rfl⟩
  ·cases q
 ·cases q
structure zbH(X:Cx)(x:Str)(C:Ap):Prop where
 gl:Gl X x
 mg:X.mg x=some (.ref C)
 ex:PySem.W.excIn X.K C bmV "ValueError.__new__" =true
 d:(↥x)
section
variable {X:Cx}{x:Str}{C:Ap}{np cpos pos cp:Pos}{z:Str}{cj:Nat}{σ:St}{H:Hp}{D:Zf}
theorem zcn (T:OwnTail h bmV bm):bm.contains (.type "BaseException")=true:=(T.hasType (by decide +kernel))
theorem zec(k:zbH X x C)(hcalm:X.calm=true)
  (h:∀ pins s,Inv X pins σ H s->∀ h' ea,MadeX s.heap h' ea (.ref C) none->X.xe (.ref ea) { s with heap:=h' }) :
  wpS X (.Raise (some (.Call (.Name x np) [.Constant (.str z) cj cp] [] cpos)) none pos) D σ H:=λpins s I=>by
 obtain⟨bm,N,nm,qn,bs,hdct,sn,sub,ab,col,dd,k0,k1,k2,k3,k5,mN,hC,hN,hi,T,_⟩:=zeP I.mod.kin k.ex
 refine wpAny_Raise_call_subT (C:=C) (nm:=nm) (q:=qn) (N:=N) (bs:=bs) (bm:=bm) (hdct:=hdct) (sn:=sn) (sub:=sub) (ab:=ab) (col:=col) (dd:=dd) (k0:=k0) (k1:=k1) (k2:=k2) (k3:=k3) (k5:=k5) (mN:=mN) PySem.F.excBase_ValueError (zcn T) (I.ok.hd hcalm) rfl hi (j6 I k.gl k.mg ⟨rfl,?_⟩ k.d)
 refine Calls.evalArgs_plain ?_
 have hz:wpE X (.Constant (.str z) cj cp) σ H λv H'=>v=.str z/\H'=H:=pe_str.wp ⟨rfl,rfl⟩
 have hA:wpA X [.Constant (.str z) cj cp] σ H λvs H'=>vs= [.str z]/\H'=H:=(zt zc pa_nil rfl).wp (hz.mono λv H' ⟨e1,e2⟩=>⟨by rw[e1],e2⟩)
 refine Xe (hA cpos pins s I) (λvs s1 hq=>?_) λ_ _ y=>y
 obtain⟨ws,H1,I1,r,e,eH⟩:=hq
 subst eH
 have hlen:vs.length=1:=by rw[<- r.length,e];rfl
 exact⟨rfl,by have:=Xg;show vs.length<=sizeLine;omega,I1.bk _ _ hC,hN.keeps I1.bk,T.keeps I1.bk,λh' ea hm=>h pins s1 I1 h' ea (.of hm)⟩
end
section
end
section
end
section
variable {X:Cx}{pins:Ak}{σ:St}{H:Hp}{s s':Am}{e:Aj}
theorem zd9{E:XK}{Q:VK}{e:Expr}{es:Ag}{p pos:Pos}(kn:Kn X.prog X.w X.K X.mg X.base CX x k sp)(hr:Room k X.A)(hg:Gl X x)
  (hx:∀ pins H s e s',Inv X pins σ H s->CX X.stack H s E e s'->X.xe e s') (h:wpA X (e::es) σ H λvs H1=>sp vs H1 Q E) (hdb:(↥x))
  (he:starEach (e::es) X.env=(false,eval e X.env)::starEach es X.env) (hpl:(backTo pos (starEach es X.env)).any (·.1)=false):wpE X (.Call (.Name x p) (e::es) [] pos) σ H Q:=λpins s I=>by
 obtain⟨f,fd,ps,F,hm,hk,hb⟩:=kn.ex
 refine Xk (j6 I hg hm ?_ hdb)
 refine PySem.W.callWith_K I.ok.mod.kin hk (thn (h pos pins s I) λus s1 ⟨vs,H1,I1,r,q⟩=>⟨I1.kIn,?_⟩) he hpl
 have hl:us.length=ps.length:=by rw[<- r.length];exact F.len _ _ _ _ q
 have hb':=hb s1 us I1.kIn (by simpa using hl)
 rw[xR]at hb'
 refine wpAny_call (Xl (F.run X.A X.stack s1 H1 ⟨us,[]⟩ us vs Q E hr I1.env0 hb' r q) λr s' hq=>?_)
 cases r with
 |error e=>exact hx pins H1 s1 e s' I1 hq
 |ok fl=>
  cases fl with
  |ret u=>exact I1.after hq
  |next=>exact False.elim hq
  |brk=>exact False.elim hq
  |cont=>exact False.elim hq
theorem zbC{E:XK}{Q:VK}{p pos:Pos}(kn:Kn X.prog X.w X.K X.mg X.base CX x k sp)(hr:Room k X.A)(hg:Gl X x)
  (hx:∀ pins H s e s',Inv X pins σ H s->CX X.stack H s E e s'->X.xe e s') (h:sp [] H Q E) (hdb:(↥x)):wpE X (.Call (.Name x p) [] [] pos) σ H Q:=λpins s I=>by
 obtain⟨f,fd,ps,F,hm,hk,hb⟩:=kn.ex
 refine Xk (j6 I hg hm ?_ hdb)
 refine PySem.W.callWith_K0 I.kIn hk ?_
 have hl:=F.len _ _ _ _ h
 have hb':=hb s [] I.kIn (by simpa using hl)
 rw[xR]at hb'
 refine wpAny_call (Xl (F.run X.A X.stack s H ⟨[],[]⟩ [] [] Q E hr I.env0 hb' .nil h) λr s' hq=>?_)
 cases r with
 |error e=>exact hx pins H s e s' I hq
 |ok fl=>
  cases fl with
  |ret u=>exact I.after hq
  |next=>exact False.elim hq
  |brk=>exact False.elim hq
  |cont=>exact False.elim hq
end
section
end
section
variable {prog:Ar}{w:World}{A:Around}{E:Af}{s:Am}
theorem zdG{Q:An->Am->Prop}(hl:s.heap.IsList l (x::xs).toArray)(hh:A.handled=none)(hz:(x::xs).length<=sizeLine)
  (k:∀ (h2:Heap) (tk:Nat),(∀ b o,s.heap.get? b=some o->h2.get? b=some o)->Q [x,.ref h2.objs.size] { s with heap:=h2.push { cls:=.type "list",data:=.seq xs.toArray },toks:=tk }) :
  wpAny (model prog w) A (unpackItems (.ref l) 2 (some 1)) Q E s:=by
 obtain⟨ol,hol,hcl,hdl⟩:=id hl
 have hlt:=x8 hol
 have hne:l≠⇑s:=xk hlt
 unfold unpackItems notIterableAtAll
 refine x5 (x5 (wpAny_specialOf hl.typeIs PySem.F.slot_list_iter.lookup (x9 ?_)))
 simp only[uv,if_false]
 refine x5 (Xd (wpAny_pyIter_list hl ?_))
 refine x5 (Xd (PySem.W.kun_draw hne 1 0 _ _ ⟨_,Xa _ rfl,rfl,rfl⟩ (hl.push _) (by simp) λh1 it1 sb1=>?_))
 have hl1:=(hl.push _).extBut sb1.extBut hne
 obtain⟨oi,hoi,_⟩:=id it1
 obtain⟨o1,ho1,_⟩:=id hl1
 have hfst:(((x::xs).toArray.toList.drop 0).take 1)= [x]:=rfl
 rw[hfst]
 rw[if_neg (show ¬ ([x].length<1) by simp)]
 refine x5 (Xd (PySem.W.kun_collect (s:={ s with heap:=h1 }) (T:= "list_iterator") (.inr (.inr (.inl rfl))) (Walks.list (A:=A.in1) hh ⇑s l hne (x::xs).toArray) (λj u st=>st.1.typeIs) (k:=1) (by simp) ⟨it1,hl1⟩ (x8 hoi) (x8 ho1) (λh2 tk hk=>?_) (by simpa using hz)))
 have hdr:(x::xs).toArray.toList.drop 1=xs:=rfl
 rw[hdr]
 rw[if_neg (by omega)]
 have keep:∀ b o,s.heap.get? b=some o->h2.get? b=some o:=λb o e=>by
  have hb:b≠⇑s:=xk (x8 e)
  exact hk b o hb (sb1.extBut b o hb (x6 _ e))
 have h0:xs.length-(2-1-1)=xs.length:=by omega
 rw[h0,ub,uM]
 refine x5 (wpAny_newList (x9 ?_) (by simp at hz;omega))
 exact k h2 tk keep
theorem zbl{Q:An->Am->Prop}(hl:IsTup s.heap l (x::xs).toArray)(hh:A.handled=none)(hz:(x::xs).length<=sizeLine)
  (k:∀ (h2:Heap) (tk:Nat),(∀ b o,s.heap.get? b=some o->h2.get? b=some o)->Q [x,.ref h2.objs.size] { s with heap:=h2.push { cls:=.type "list",data:=.seq xs.toArray },toks:=tk }) :
  wpAny (model prog w) A (unpackItems (.ref l) 2 (some 1)) Q E s:=by
 obtain⟨ol,hol,_⟩:=id hl
 have hlt:=x8 hol
 have hne:l≠⇑s:=xk hlt
 unfold unpackItems notIterableAtAll
 refine x5 (x5 (wpAny_specialOf hl.typeIs PySem.F.slot_tuple_iter.lookup (x9 ?_)))
 simp only[uv,if_false]
 refine x5 (Xd (iter_tuple hl ?_))
 refine x5 (Xd (draw_tuple hne 1 0 _ _ ⟨_,Xa _ rfl,rfl,rfl⟩ (hl.push _) (by simp) λh1 it1 sb1=>?_))
 have hl1:=(hl.push _).extBut sb1.extBut hne
 obtain⟨oi,hoi,_⟩:=id it1
 obtain⟨o1,ho1,_⟩:=id hl1
 have hfst:(((x::xs).toArray.toList.drop 0).take 1)= [x]:=rfl
 rw[hfst]
 rw[if_neg (show ¬ ([x].length<1) by simp)]
 refine x5 (Xd (PySem.W.kun_collect (s:={ s with heap:=h1 }) (T:= "tuple_iterator") (.inr (.inr (.inr rfl))) (Walks.tuple (A:=A.in1) hh ⇑s l hne (x::xs).toArray) (λj u st=>st.1.typeIs) (k:=1) (by simp) ⟨it1,hl1⟩ (x8 hoi) (x8 ho1) (λh2 tk hk=>?_) (by simpa using hz)))
 have hdr:(x::xs).toArray.toList.drop 1=xs:=rfl
 rw[hdr]
 rw[if_neg (by omega)]
 have keep:∀ b o,s.heap.get? b=some o->h2.get? b=some o:=λb o e=>by
  have hb:b≠⇑s:=xk (x8 e)
  exact hk b o hb (sb1.extBut b o hb (x6 _ e))
 have h0:xs.length-(2-1-1)=xs.length:=by omega
 rw[h0,ub,uM]
 refine x5 (wpAny_newList (x9 ?_) (by simp at hz;omega))
 exact k h2 tk keep
end
section
end
section
variable {X:Cx}
def zgB(K:Ah)(i j:Nat):TG:=λv σ H Q=>∃ l y ys,v=.ref l/\(SqL K H l (y::ys)∨SqT K H l (y::ys))/\∀ p,H p=none->Q ((σ.set i (some y)).set j (some (.ref p))) (upd H p (.lst ys))
theorem zfm{k:Nat}{px py ps pos:Pos}(hc:X.calm=true)(hN:X.N.Nodup)(hi:X.N[i]?=some x)(hx:Loc X.env.scope x)(hfx:X.fn x=true∨X.env.scope.names.lookup x=some .local)(hj:X.N[j]?=some y)(hy:Loc X.env.scope y)(hfy:X.fn y=true∨X.env.scope.names.lookup y=some .local) :
  PG X (.Tuple [.Name x px,.Starred (.Name y py) ps] k pos) (zgB X.K i j):=by
 intro pins s σ H v u Q I r h
 obtain⟨l,z,zs,rfl,hq,q⟩:=h
 cases r
 have fin:∀ {w:Aj} {ws:An} {h2:Heap} {tk:Nat},RelV z w->Vals zs ws->zs.length+1<=sizeLine->(∀ b o,s.heap.get? b=some o->h2.get? b=some o)->∅ (assignInOrder ((assignEach [.Name x px,.Starred (.Name y py) ps] X.env).map (·.2)) [w,.ref h2.objs.size]) (λ_ s'=>∃ σ' H',Inv X pins σ' H' s'/\Q σ' H') X.xe { s with heap:=h2.push { cls:=.type "list",data:=.seq ws.toArray },toks:=tk }:=λ{w ws h2 tk} r1 r2 hz keep=>by
  have I2:=I.kept (t':=tk) keep
  have I3:=I2.lnew (t':=tk) r2 (by omega)
  refine assignInOrder_cons (wpAny_assign_Name (Jp I3 hN hi hx r1 (λs4 I4=>?_) hfx))
  refine assignInOrder_cons (wpAny_assign_Name (Jp (v:=.ref h2.objs.size) I4 hN hj hy rfl (λs5 I5=>?_) hfy))
  exact assignInOrder_nil ⟨_,_,I5,q _ I2.fresh⟩
 rw[assign_Tuple]
 refine x5 (wpAny_standAt ?_)
 unfold unpack
 rcases hq with hq | hq
 ·obtain⟨its,rv,pl,hz⟩:=I.list hq
  cases rv with
  |cons r1 r2=>
   rename_i w ws
   exact x5 (Xd (zdG (x:=w) (xs:=ws) pl.isList (I.ok.hd hc) (by have:=r2.length;simp at hz |-;omega) λh2 tk keep=>fin r1 r2 (by simpa using hz) keep))
 ·obtain⟨its,rv,pl,hz⟩:=I.tuple hq
  cases rv with
  |cons r1 r2=>
   rename_i w ws
   exact x5 (Xd (zbl (x:=w) (xs:=ws) pl (I.ok.hd hc) (by have:=r2.length;simp at hz |-;omega) λh2 tk keep=>fin r1 r2 (by simpa using hz) keep))
def zjo(K:Ah)(n:Nat)(t:TGs):TG:=λv σ H Q=>∃ a xs,v=.ref a/\SqL K H a xs/\xs.length=n/\t xs σ H Q
theorem zfn(hc:X.calm=true)(h:PGs X es t)(hn:(assignEach es X.env).length=n)(hst:(assignEach es X.env).findIdx? (·.1)=none):PG X (.Tuple es k pos) (zjo X.K n t):=by
 intro pins s σ H v u Q I r hw
 obtain⟨a,xs,e1,hq,hl,hw⟩:=hw
 subst e1
 cases r
 obtain⟨its,rv,pl,hz⟩:=I.list hq
 rw[assign_Tuple]
 refine x5 (wpAny_standAt ?_)
 unfold unpack
 have hsz:(assignEach es X.env).length=its.toArray.size:=by rw[hn,<- hl,rv.length,xq]
 rw[hst,hsz]
 refine x5 (Xd (PySem.W.kun_itemsOf (I.ok.hd hc) pl.isList λh' hx=>?_))
 have I1:=I.kept (t':=s.toks) λb o e=>hx b o (xk (x8 e)) e
 exact h pins _ σ H xs _ Q I1 (by simpa using rv) hw
end
end L2
namespace L3
open PySem PySem.Spec PyProof.Rows L2
inductive OV where
 |d (x:PyData)
 |l (xs:List OV)
 |t (xs:List OV)
 |m (kvs:Ad)
 |o (c:Str) (ns:Ab) (xs:List OV)
noncomputable abbrev Gv:=List (Option OV)
mutual
noncomputable def OV.view:OV->PyData
 |.d x=>x
 |.l xs=>.list (OV.views xs)
 |.t xs=>.tuple (OV.views xs)
 |.m kvs=>.dict (kvs.map dK)
 |.o c ns xs=>.dict ((.none,.str c)::(ns.zip (OV.views xs)).map dK)
noncomputable def OV.views:List OV->Aa
 |[]=> []
 |x::xs=>x.view::OV.views xs
end
theorem OV.views_d(xs:Aa):OV.views (xs.map .d)=xs:=by
 induction xs with
 |nil=>rfl
 |cons x xs ih=>simp[OV.views,OV.view,ih]
theorem OV.views_map(xs:List OV):OV.views xs=xs.map OV.view:=by
 induction xs with
 |nil=>rfl
 |cons x xs ih=>simp[OV.views,ih]
variable [Cs]
mutual
/-- v stands for the value;its own lists lie at A -/
inductive OR(M:Ae)(H:Hp):V->OV->List Ap->Prop
 |d {v:V} {x:PyData}:Rep M H v x->OR M H v (.d x) []
 |l {a:Ap} {vs:List V} {xs:List OV} {A:List Ap}:H a=some (.lst vs)->ORL M H vs xs A->OR M H (.ref a) (.l xs) (a::A)
 |t {a:Ap} {vs:List V} {xs:List OV} {A:List Ap}:H a=some (.tup vs)->ORL M H vs xs A->OR M H (.ref a) (.t xs) A
 |m {a:Ap} {kvs:List (Str×V)} {ds:Ad}:H a=some (.dK (kvs.map kK))->kvs.map (·.1)=ds.map (·.1)->RepL M H (kvs.map (·.2)) (ds.map (·.2))->OR M H (.ref a) (.m ds) [a]
 |o {a dx:Ap} {c:Str} {fs:List (Str×V)} {ns:Ab} {xs:List OV} {A:List Ap}:H a=some (.ins (Cs.adr c) dx fs)->fs.map (·.1)=ns->ORL M H (fs.map (·.2)) xs A->OR M H (.ref a) (.o c ns xs) (a::A)
inductive ORL(M:Ae)(H:Hp):List V->List OV->List Ap->Prop
 |nil:ORL M H [] [] []
 |cons {v:V} {vs:List V} {x:OV} {xs:List OV} {A B:List Ap}:OR M H v x A->ORL M H vs xs B->ORL M H (v::vs) (x::xs) (A++B)
end
abbrev zG:Ae:=λ_=>False
theorem ORL.ind{H:Hp}{P:List V->List OV->List Ap->Prop}(h0:P [] [] [])(h1:∀{v vs x xs A B},OR M H v x A->ORL M H vs xs B->P vs xs B->P (v::vs) (x::xs) (A++B)){vs:List V}{os:List OV}(r:ORL M H vs os A):P vs os A:=by
 induction vs generalizing os A with
 |nil=>cases r;exact h0
 |cons v vs ih=>cases r with
  |cons r t=>exact h1 r t (ih t)
theorem OV.views_len(xs:List OV):(OV.views xs).length=xs.length:=by rw[OV.views_map,xn]
theorem ORL.length{M:Ae}{H:Hp}{os:List OV}(r:ORL M H vs os A):vs.length=os.length:=r.ind (P:=λvs os _=>vs.length=os.length) rfl λ_ _ ih=>congrArg (·+1) ih
theorem zgt{α β:Type}:∀{ns:List α}{xs:List β},ns.length=xs.length->(ns.zip xs).map (·.1)=ns:=λ{ns xs} h=>by rw[List.map_fst_zip (Nat.le_of_eq h)]
theorem zgu{α β:Type}:∀{ns:List α}{xs:List β},ns.length=xs.length->(ns.zip xs).map (·.2)=xs:=λ{ns xs} h=>by rw[List.map_snd_zip (Nat.le_of_eq h.symm)]
theorem OR.go(hr:∀ v d,Rep M H v d->Rep M' H' v d)(ht:∀ b xs,H b=some (.tup xs)->H' b=some (.tup xs)){v:V}{o:OV}(h:∀ a∈A,H' a=H a)(r:OR M H v o A):OR M' H' v o A :=
 OR.rec (motive_1:=λv o A _=>(∀ a∈A,H' a=H a)->OR M' H' v o A) (motive_2:=λvs os A _=>(∀ a∈A,H' a=H a)->ORL M' H' vs os A) (λr _=>.d (hr _ _ r)) (λe _ ih h=>.l (by rw[h _ xv];exact e) (ih λa ha=>h a (xo _ ha))) (λe _ ih h=>.t (ht _ _ e) (ih h))
  (λe k r h=>.m (by rw[h _ xv];exact e) k (qY hr r)) (λe k _ ih h=>.o (by rw[h _ xv];exact e) k (ih λa ha=>h a (xo _ ha))) (λ_=>.nil)
  (λ_ _ i1 i2 h=>.cons (i1 λa ha=>h a (uj _ ha)) (i2 λa ha=>h a (xz _ ha))) r h
theorem ORL.go{M M':Ae}{H H':Hp}(hr:∀ v d,Rep M H v d->Rep M' H' v d)(ht:∀ b xs,H b=some (.tup xs)->H' b=some (.tup xs))(h:∀ a∈A,H' a=H a)(r:ORL M H v o A):ORL M' H' v o A :=
 r.ind (P:=λv o A=>(∀ a∈A,H' a=H a)->ORL M' H' v o A) (λ_=>.nil) (λr _ ih h=>.cons (r.go hr ht λa ha=>h a (uj _ ha)) (ih λa ha=>h a (xz _ ha))) h
theorem OR.rep(hm:∀ b,M' b->M b){v:V}{o:OV}(h:∀ a∈A,¬ M' a)(r:OR M H v o A):Rep M' H v o.view :=
 OR.rec (motive_1:=λv o A _=>(∀ a∈A,¬ M' a)->Rep M' H v o.view) (motive_2:=λvs os A _=>(∀ a∈A,¬ M' a)->RepL M' H vs (OV.views os)) (λr _=>r.less λb hb _=>hm b hb) (λe _ ih h=>.list e (h _ xv) (ih λa ha=>h a (xo _ ha))) (λe _ ih h=>.tuple e (ih h))
  (λe k r h=>.dict (.inl e) (h _ xv) k (qY (λ_ _ x=>x.less λb hb _=>hm b hb) r))
  (λ{a dx c fs ns xs A} e k r ih h=>by
   have hl:ns.length=(OV.views xs).length:=by rw[OV.views_len,<- r.length,<- k,xn,xn]
   refine .inst e (h _ xv) (by rw[zgt hl];exact k) ?_
   rw[zgu hl]
   exact ih λa ha=>h a (xo _ ha)) (λ_=>.nil)
  (λ_ _ i1 i2 h=>.cons (i1 λa ha=>h a (uj _ ha)) (i2 λa ha=>h a (xz _ ha))) r h
theorem OR.weak{v:V}{o:OV}(r:OR M H v o A):Rep zG H v o.view:=r.rep (λ_ h=>h.elim) λ_ _ h=>h
theorem OR.laid{v:V}{o:OV}(r:OR M H v o A):∀ a∈A,∃ vs,H a=some vs :=
 OR.rec (motive_1:=λ_ _ A _=>∀ a∈A,∃ vs,H a=some vs) (motive_2:=λ_ _ A _=>∀ a∈A,∃ vs,H a=some vs) (λ_ _ h=>by cases h) (λe _ ih=>List.forall_mem_cons.mpr ⟨⟨_,e⟩,ih⟩) (λ_ _ ih=>ih) (λe _ _=>List.forall_mem_cons.mpr ⟨⟨_,e⟩,λ_ h=>by cases h⟩) (λe _ _ ih=>List.forall_mem_cons.mpr ⟨⟨_,e⟩,ih⟩) (λ_ h=>by cases h)
  (λ_ _ i1 i2 a h=>(xM.mp h).elim (i1 a) (i2 a)) r
theorem ORL.data(r:RepL M H vs ds):ORL M H vs (ds.map .d) []:=r.ind (P:=λvs ds=>ORL M H vs (ds.map .d) []) .nil λr _ ih=>.cons (.d r) ih
noncomputable abbrev Fp:=Nat->List Ap
noncomputable def fset(F:Fp)(i:Nat)(A:List Ap):Fp:=λj=>if j=i then A else F j
theorem zh:fset F i A i=A:=by unfold fset;rw[if_pos rfl]
theorem zi(h:j≠i):fset F i A j=F j:=by unfold fset;rw[if_neg h]
def MM(M0:Ae)(F:Fp):Ae:=λa=>M0 a∨∃ i,a∈F i
noncomputable abbrev Nu:=List (Option V)
structure RS(M0:Ae)(F:Fp)(Γ:Gv)(ν:Nu)(H:Hp):Prop where
 al0:∀ a,M0 a->H a≠none
 dis0:∀ i a,a∈F i->¬ M0 a
 nd:∀ i,(F i).Nodup
 dis:∀ i j a,a∈F i->a∈F j->i=j
 at':∀ i o,Γ[i]?=some (some o)->∃ v,ν[i]?=some (some v)/\OR (MM M0 F) H v o (F i)
 emp:∀ i,(∀ o,Γ[i]?≠some (some o))->F i= []
 len:ν.length=Γ.length
structure Stp(F:Fp)(H:Hp)(F':Fp)(H':Hp):Prop where
 keep:∀ b o,H b=some o->(∀ i,b∉F i)->H' b=some o/\∀ i,b∉F' i
 tups:∀ b xs,H b=some (.tup xs)->H' b=some (.tup xs)
 stay:∀ b,H b≠none->H' b≠none
theorem Stp.refl(F:Fp)(H:Hp):Stp F H F H:=⟨λ_ _ e n=>⟨e,n⟩,λ_ _ e=>e,λ_ h=>h⟩
theorem Stp.trans(a:Stp F H F1 H1)(b:Stp F1 H1 F2 H2):Stp F H F2 H2 :=
 ⟨λc o e n=>let ⟨e1,n1⟩:=a.keep c o e n;b.keep c o e1 n1,λc xs e=>b.tups c xs (a.tups c xs e),λc h=>b.stay c (a.stay c h)⟩
theorem Stp.same(s:Same H H'):Stp F H F H':=⟨λb o e n=>⟨s b o e,n⟩,λb xs e=>s b _ e,λb h=>by
 cases q:H b with
 |none=>exact absurd q h
 |some o=>rw[s b o q];exact λz=>nomatch z⟩
section
variable {M0:Ae}{F F':Fp}{Γ:Gv}{ν:Nu}{H H':Hp}
theorem RS.laidF(r:RS M0 F Γ ν H)(h:a∈F i):∃ vs,H a=some vs:=by
 by_cases q:∃ o,Γ[i]?=some (some o)
 ·obtain⟨o,q⟩:=q
  obtain⟨v,_,z⟩:=r.at' i o q
  exact z.laid a h
 ·rw[r.emp i λo e=>q ⟨o,e⟩]at h;cases h
theorem RS.al(r:RS M0 F Γ ν H):Al (MM M0 F) H:=λa h=>by
 rcases h with h | ⟨i,h⟩
 ·exact r.al0 a h
 ·obtain⟨vs,e⟩:=r.laidF h
  rw[e];exact λz=>nomatch z
theorem zn(s:Stp F H F' H')(h0:∀ a,M0 a->H a≠none)(r:Rep (MM M0 F) H v d):Rep (MM M0 F') H' v d:=by
 have go:∀ b o,H b=some o->¬ MM M0 F b->H' b=some o/\¬ MM M0 F' b:=λb o e n=>by
  obtain⟨e',n'⟩:=s.keep b _ e λi h=>n (.inr ⟨i,h⟩)
  refine⟨e',?_⟩
  rintro (h | ⟨i,h⟩)
  ·exact n (.inl h)
  ·exact n' i h
 exact r.go (λa o e n _ _=>go a o e n) s.tups λa x e n=>by
  rcases e with e | ⟨o,e⟩
  ·exact⟨.inl (go a _ e n).1,(go a _ e n).2⟩
  ·exact⟨.inr ⟨o,(go a _ e n).1⟩,(go a _ e n).2⟩
theorem vD(s:Stp F H F' H')(h0:∀ a,M0 a->H a≠none)(r:RepL (MM M0 F) H vs ds):RepL (MM M0 F') H' vs ds:=qY (λ_ _=>zn s h0) r
theorem RS.same(r:RS M0 F Γ ν H)(s:Same H H'):RS M0 F Γ ν H' where
 al0 a h:=by
  have:=r.al0 a h
  cases q:H a with
  |none=>exact absurd q this
  |some o=>rw[s a o q];exact λz=>nomatch z
 dis0:=r.dis0
 nd:=r.nd
 dis:=r.dis
 at' i o e:=by
  obtain⟨v,e1,q⟩:=r.at' i o e
  exact⟨v,e1,q.go (λv d x=>x.grow s.grow) (λb xs e=>s b _ e) λa ha=>by
   obtain⟨vs,z⟩:=q.laid a ha
   rw[z,s a _ z]⟩
 emp:=r.emp
 len:=r.len
theorem RS.put{o:OV}{v:V}(r:RS M0 F Γ ν H)(s:Stp F H (fset F i A) H')(hF:∀ j,j≠i->∀ a∈F j,H' a=H a)
  (hm:∀ a,M0 a->H' a≠none) (hA0:∀ a∈A,¬ M0 a) (hAn:A.Nodup) (hAd:∀ j,j≠i->∀ a∈A,a∉F j) (hi:i<Γ.length)
  (q:OR (MM M0 (fset F i A)) H' v o A):RS M0 (fset F i A) (Γ.set i (some o)) (ν.set i (some v)) H' where
 al0:=hm
 dis0 j a h:=by
  by_cases hj:j=i
  ·subst hj;rw[zh]at h;exact hA0 a h
  ·rw[zi hj]at h;exact r.dis0 j a h
 nd j:=by
  by_cases hj:j=i
  ·subst hj;rw[zh];exact hAn
  ·rw[zi hj];exact r.nd j
 dis j k a h1 h2:=by
  by_cases hj:j=i
  ·by_cases hk:k=i
   ·rw[hj,hk]
   ·subst hj;rw[zh]at h1;rw[zi hk]at h2;exact absurd h2 (hAd k hk a h1)
  ·by_cases hk:k=i
   ·subst hk;rw[zh]at h2;rw[zi hj]at h1;exact absurd h1 (hAd j hj a h2)
   ·rw[zi hj]at h1;rw[zi hk]at h2;exact r.dis j k a h1 h2
 at' j p e:=by
  by_cases hj:j=i
  ·subst hj
   rw[xj hi]at e
   cases e
   refine⟨v,by rw[xj (by rw[r.len];exact hi)],?_⟩
   rw[zh];exact q
  ·rw[xh (Ne.symm hj)]at e |-
   obtain⟨u,e1,z⟩:=r.at' j p e
   refine⟨u,e1,?_⟩
   rw[zi hj]
   exact z.go (λv d x=>zn s r.al0 x) s.tups (hF j hj)
 emp j h:=by
  by_cases hj:j=i
  ·subst hj
   rw[xj hi]at h
   exact absurd rfl (h o)
  ·rw[zi hj]
   refine r.emp j λp e=>h p ?_
   rw[xh (Ne.symm hj)];exact e
 len:=by rw[xS,xS];exact r.len
theorem RS.setD(r:RS M0 F Γ ν H)(q:Rep (MM M0 F) H v d)(hi:i<Γ.length):∃ F',RS M0 F' (Γ.set i (@&d)) (ν.set i (some v)) H/\Stp F H F' H:=by
 have s:Stp F H (fset F i []) H:=⟨λb o e n=>⟨e,λj=>by
  by_cases hj:j=i
  ·subst hj;rw[zh];exact λz=>nomatch z
  ·rw[zi hj];exact n j⟩,λ_ _ e=>e,λ_ h=>h⟩
 exact⟨_,r.put s (λ_ _ _ _=>rfl) r.al0 (λ_ h=>nomatch h) .nil (λ_ _ _ h=>nomatch h) hi (.d (zn s r.al0 q)),s⟩
noncomputable def W2(F:Fp)(n:Nat):Fp:=λj=>if j<n then F j else []
theorem yv(h:j<n):W2 F n j=F j:=by unfold W2;rw[if_pos h]
theorem KN(h:¬ j<n):W2 F n j= []:=by unfold W2;rw[if_neg h]
theorem qO(h:a∈W2 F n j):j<n/\a∈F j:=by
 unfold W2 at h
 split at h
 ·exact⟨by assumption,h⟩
 ·cases h
theorem Za(h:∀ j a,a∈F' j->∃ k,a∈F k):Stp F H F' H:=⟨λb o e n=>⟨e,λj hj=>let ⟨k,hk⟩:=h j b hj;n k hk⟩,λ_ _ e=>e,λ_ h=>h⟩
theorem RS.cut(r:RS M0 F Γ ν H)(n:Nat):RS M0 (W2 F n) (Γ.take n) (ν.take n) H/\Stp F H (W2 F n) H:=by
 have s:Stp F H (W2 F n) H:=Za λj a h=>⟨j,(qO h).2⟩
 refine⟨⟨r.al0,λj a h=>r.dis0 j a (qO h).2,λj=>?_,λj k a h1 h2=>r.dis j k a (qO h1).2 (qO h2).2,λj o e=>?_,λj h=>?_,?_⟩,s⟩
 ·by_cases hj:j<n
  ·rw[yv hj];exact r.nd j
  ·rw[KN hj];exact .nil
 ·have hj:j<n:=by
   by_cases hj:j<n
   ·exact hj
   ·rw[xD (by rw[xP];omega)]at e;cases e
  rw[xQ hj]at e |-
  obtain⟨v,e1,q⟩:=r.at' j o e
  exact⟨v,e1,by rw[yv hj];exact q.go (λ_ _ x=>zn s r.al0 x) s.tups λ_ _=>rfl⟩
 ·by_cases hj:j<n
  ·rw[yv hj]
   refine r.emp j λo e=>h o ?_
   rw[xQ hj];exact e
  ·exact KN hj
 ·rw[xP,xP,r.len]
theorem RS.ext(r:RS M0 F Γ ν H)(k:Nat):RS M0 F (Γ++List.replicate k none) (ν++List.replicate k none) H:=by
 have get:∀{α:Type}(l:List (Option α))(j:Nat)(o:α),(l++List.replicate k none)[j]?=some (some o)->l[j]?=some (some o):=λ{α} l j o e=>by
  by_cases hj:j<l.length
  ·rw[xc hj]at e;exact e
  ·rw[xf (by omega),xT]at e
   split at e<;>cases e
 have put:∀{α:Type}(l:List (Option α))(j:Nat)(o:α),l[j]?=some (some o)->(l++List.replicate k none)[j]?=some (some o):=λ{α} l j o e=>by
  rw[xc (xb.mp e).1];exact e
 exact⟨r.al0,r.dis0,r.nd,r.dis,λj o e=>let ⟨v,e1,q⟩:=r.at' j o (get _ _ _ e);⟨v,put _ _ _ e1,q⟩,λj h=>r.emp j λo e=>h o (put _ _ _ e),by simp[r.len]⟩
theorem jT{α:Type}(l:List (Option α))(x:α):(l++List.replicate 1 none).set l.length (some x)=l++ [some x]:=by
 rw[uy _ _ (xi _)];simp
theorem RS.newO(r:RS M0 F Γ ν H)(n:H p=none)(q:RepL (MM M0 F) H vs ds) :
  RS M0 (fset F Γ.length [p]) (Γ++ [some (.l (ds.map .d))]) (ν++ [some (.ref p)]) (upd H p (.lst vs))/\Stp F H (fset F Γ.length [p]) (upd H p (.lst vs)):=by
 have hp:∀ i,p∉F i:=λi h=>by
  obtain⟨vs,e⟩:=r.laidF h
  rw[n]at e;cases e
 have he:=r.emp _ λo e=>by
  rw[xD (xi _)]at e;cases e
 have s:Stp F H (fset F Γ.length [p]) (upd H p (.lst vs)):=⟨λb o e nb=>⟨zr n b o e,λj h=>by
  by_cases hj:j=Γ.length
  ·subst hj;rw[zh]at h
   have e':b=p:=by simpa using h
   subst e';rw[n]at e;cases e
  ·rw[zi hj]at h;exact nb j h⟩,λb xs e=>zr n b _ e,λb h=>by
   by_cases e:b=p
   ·subst e;exact absurd n h
   ·rw[ze e];exact h⟩
 have r1:=(r.ext 1).put s (λj _ a ha=>ze (λe=>hp j (by rw[<- e];exact ha)))
  (λa h=>s.stay a (r.al0 a h)) (λa ha h=>by
   have e:a=p:=by simpa using ha
   subst e;exact r.al0 a h n) (xA.mpr ⟨(λz=>nomatch z),.nil⟩) (λj _ a ha=>by
   have e:a=p:=by simpa using ha
   subst e;exact hp j) (by simp) (.l zg (ORL.data (vD s r.al0 q)))
 rw[jT]at r1
 have e2:(ν++List.replicate 1 none).set Γ.length (some (V.ref p))=ν++ [some (V.ref p)]:=by rw[<- r.len,jT]
 rw[e2]at r1
 exact⟨r1,s⟩
theorem RS.move(r:RS M0 F (Γ++ [some o]) (ν++ [some v]) H)(hi:i<Γ.length):∃ F',RS M0 F' (Γ.set i (some o)) (ν.set i (some v)) H/\Stp F H F' H:=by
 have hl:ν.length=Γ.length:=by have:=r.len;simp at this;exact this
 have hni:=uA hi
 let F':Fp:=λj=>if j=i then F Γ.length else if j<Γ.length then F j else []
 have hFi:F' i=F Γ.length:=by show (if i=i then _ else _)=_;rw[if_pos rfl]
 have hFj:∀ j,j≠i->j<Γ.length->F' j=F j:=λj h1 h2=>by show (if j=i then _ else _)=_;rw[if_neg h1,if_pos h2]
 have hFo:∀ j,j≠i->¬ j<Γ.length->F' j= []:=λj h1 h2=>by show (if j=i then _ else _)=_;rw[if_neg h1,if_neg h2]
 have sub:∀ j a,a∈F' j->(j=i/\a∈F Γ.length)∨(j≠i/\j<Γ.length/\a∈F j):=λj a h=>by
  by_cases h1:j=i
  ·subst h1;rw[hFi]at h;exact .inl ⟨rfl,h⟩
  ·by_cases h2:j<Γ.length
   ·rw[hFj j h1 h2]at h;exact .inr ⟨h1,h2,h⟩
   ·rw[hFo j h1 h2]at h;cases h
 have s:Stp F H F' H:=Za λj a h=>by
  rcases sub j a h with ⟨_,h⟩ | ⟨_,_,h⟩
  ·exact⟨_,h⟩
  ·exact⟨_,h⟩
 refine⟨F',⟨r.al0,λj a h=>?_,λj=>?_,λj k a h1 h2=>?_,λj p e=>?_,λj h=>?_,by simp[hl]⟩,s⟩
 ·rcases sub j a h with ⟨_,h⟩ | ⟨_,_,h⟩
  ·exact r.dis0 _ a h
  ·exact r.dis0 _ a h
 ·by_cases h1:j=i
  ·subst h1;rw[hFi];exact r.nd _
  ·by_cases h2:j<Γ.length
   ·rw[hFj j h1 h2];exact r.nd _
   ·rw[hFo j h1 h2];exact .nil
 ·rcases sub j a h1 with ⟨e1,z1⟩ | ⟨n1,l1,z1⟩
  ·rcases sub k a h2 with ⟨e2,z2⟩ | ⟨n2,l2,z2⟩
   ·rw[e1,e2]
   ·have:=r.dis _ _ a z1 z2;omega
  ·rcases sub k a h2 with ⟨e2,z2⟩ | ⟨n2,l2,z2⟩
   ·have:=r.dis _ _ a z1 z2;omega
   ·exact r.dis _ _ a z1 z2
 ·by_cases hj:j=i
  ·subst hj
   rw[xj hi]at e
   cases e
   obtain⟨u,e1,q⟩:=r.at' Γ.length o (by rw[xf (xi _)];simp)
   rw[xf (by omega),hl]at e1
   simp at e1
   subst e1
   refine⟨v,by rw[xj (by omega)],?_⟩
   rw[hFi];exact q.go (λ_ _ x=>zn s r.al0 x) s.tups λ_ _=>rfl
  ·rw[xh (Ne.symm hj)]at e |-
   have hjl:=(xb.mp e).1
   obtain⟨u,e1,q⟩:=r.at' j p (by rw[xc hjl];exact e)
   rw[xc (by omega)]at e1
   exact⟨u,e1,by rw[hFj j hj hjl];exact q.go (λ_ _ x=>zn s r.al0 x) s.tups λ_ _=>rfl⟩
 ·by_cases hj:j=i
  ·subst hj;rw[xj hi]at h;exact absurd rfl (h o)
  ·by_cases h2:j<Γ.length
   ·rw[hFj j hj h2]
    refine r.emp j λp e=>h p ?_
    rw[xc h2]at e
    rw[xh (Ne.symm hj)];exact e
   ·exact hFo j hj h2
theorem RS.dropD(r:RS M0 F (Γ++ [some o]) (ν++ [some v]) H):∃ F',RS M0 F' Γ ν H/\Stp F H F' H/\Rep (MM M0 F') H v o.view:=by
 have hl:ν.length=Γ.length:=by have:=r.len;simp at this;exact this
 obtain⟨r1,s⟩:=r.cut Γ.length
 have e1:(Γ++ [some o]).take Γ.length=Γ:=by simp
 have e2:(ν++ [some v]).take Γ.length=ν:=by rw[<- hl];simp
 rw[e1,e2]at r1
 refine⟨_,r1,s,?_⟩
 obtain⟨u,e,q⟩:=r.at' Γ.length o (by rw[xf (xi _)];simp)
 rw[xf (by omega),hl]at e
 simp at e
 subst e
 refine q.rep (λb hb=>?_) (λa ha hb=>?_)
 ·rcases hb with hb | ⟨j,hb⟩
  ·exact .inl hb
  ·exact .inr ⟨j,(qO hb).2⟩
 ·rcases hb with hb | ⟨j,hb⟩
  ·exact r.dis0 _ a ha hb
  ·have:=r.dis _ _ a ha (qO hb).2
   have:=(qO hb).1
   omega
theorem RS.frz(r:RS M0 F Γ ν H)(e:Γ[i]?=some (some o)):∃ F' v,ν[i]?=some (some v)/\RS M0 F' (Γ.set i (some (.d o.view))) ν H/\Stp F H F' H/\Rep (MM M0 F') H v o.view:=by
 obtain⟨v,ev,q⟩:=r.at' i o e
 have hi:=(xb.mp e).1
 have s:Stp F H (fset F i []) H:=Za λj a h=>by
  by_cases hj:j=i
  ·subst hj;rw[zh]at h;cases h
  ·rw[zi hj]at h;exact⟨j,h⟩
 have hq:Rep (MM M0 (fset F i [])) H v o.view:=q.rep (λb hb=>by
  rcases hb with hb | ⟨j,hb⟩
  ·exact .inl hb
  ·by_cases hj:j=i
   ·subst hj;rw[zh]at hb;cases hb
   ·rw[zi hj]at hb;exact .inr ⟨j,hb⟩) (λa ha hb=>by
  rcases hb with hb | ⟨j,hb⟩
  ·exact r.dis0 _ a ha hb
  ·by_cases hj:j=i
   ·subst hj;rw[zh]at hb;cases hb
   ·rw[zi hj]at hb;exact hj (r.dis _ _ a hb ha))
 have r1:=r.put s (λ_ _ _ _=>rfl) r.al0 (λ_ h=>nomatch h) .nil (λ_ _ _ h=>nomatch h) hi (.d hq)
 have e2:ν.set i (some v)=ν:=by
  apply ua
  intro j
  by_cases hj:i=j
  ·subst hj;rw[xj (xb.mp ev).1,ev]
  ·rw[xh hj]
 rw[e2]at r1
 exact⟨_,v,ev,r1,s,hq⟩
theorem RS.mut{xs xs':List OV}{vs:List V}(r:RS M0 F Γ ν H)(e:Γ[i]?=some (some (.l xs)))(ev:ν[i]?=some (some (.ref a)))
  (h:∀ us A,H a=some (.lst us)->ORL (MM M0 F) H us xs A->F i=a::A->∃ A',(∀ b∈A',b∈A)/\A'.Nodup/\ORL (MM M0 F) H vs xs' A') :
  ∃ F',RS M0 F' (Γ.set i (some (.l xs'))) ν (upd H a (.lst vs))/\Stp F H F' (upd H a (.lst vs)):=by
 obtain⟨v,ev',q⟩:=r.at' i _ e
 rw[ev]at ev';cases ev'
 have hi:=(xb.mp e).1
 generalize hA:F i=Ai at q
 cases q with
 |l ea qa=>
  rename_i us A
  obtain⟨A',sub,nd',q'⟩:=h us A ea qa hA
  have nd:=r.nd i
  rw[hA]at nd
  have hnA:=(xA.mp nd).1
  have inF:∀ b,b∈(a::A')->b∈F i:=λb hb=>by
   rw[hA]
   rcases xC.mp hb with z | z
   ·rw[z];exact xv
   ·exact xo _ (sub b z)
  have s:Stp F H (fset F i (a::A')) (upd H a (.lst vs)):=⟨λb o eb nb=>⟨by rw[ze (λz=>nb i (by rw[hA,z];exact xv))];exact eb,λj hj=>by
   by_cases z:j=i
   ·subst z;rw[zh]at hj;exact nb j (inF b hj)
   ·rw[zi z]at hj;exact nb j hj⟩,λb xs eb=>by rw[ze (zgD eb ea (by intro z;cases z))];exact eb,λb hb=>by
   by_cases z:b=a
   ·subst z;rw[zg];exact λw=>nomatch w
   ·rw[ze z];exact hb⟩
  have r1:=r.put s (λj hj b hb=>by
    rw[ze]
    intro z
    subst z
    exact hj (r.dis j i b hb (by rw[hA];exact xv))) (λb hb=>s.stay b (r.al0 b hb)) (λb hb=>r.dis0 i b (inF b hb)) (xA.mpr ⟨λz=>hnA (sub a z),nd'⟩)
   (λj hj b hb hbj=>hj (r.dis j i b hbj (inF b hb))) hi (.l zg (q'.go (λ_ _ x=>zn s r.al0 x) s.tups λb hb=>by
    rw[ze];intro z;subst z;exact hnA (sub b hb)))
  have e2:ν.set i (some (V.ref a))=ν:=by
   apply ua
   intro j
   by_cases hj:i=j
   ·subst hj;rw[xj (xb.mp ev).1,ev]
   ·rw[xh hj]
  rw[e2]at r1
  exact⟨_,r1,s⟩
end
theorem ORL.snoc{M:Ae}{H:Hp}{v:V}{d:PyData}(q:Rep M H v d){os:List OV}(r:ORL M H vs os A):ORL M H (vs++ [v]) (os++ [OV.d d]) A:=r.ind (P:=λvs os A=>ORL M H (vs++ [v]) (os++ [OV.d d]) A) (.cons (.d q) .nil) λr _ ih=>.cons r ih
theorem ORL.setD{M:Ae}{H:Hp}{v:V}{d:PyData}(q:Rep M H v d){os:List OV}{j:Nat}{x:PyData}(r:ORL M H vs os A):os[j]?=some (.d x)->ORL M H (vs.set j v) (os.set j (OV.d d)) A :=
 r.ind (P:=λvs os A=>∀ j:Nat,os[j]?=some (.d x)->ORL M H (vs.set j v) (os.set j (OV.d d)) A) (λ_ e=>nomatch e) (λr t ih j e=>by
  cases j with
  |zero=>cases e;cases r;exact .cons (.d q) t
  |succ j=>exact .cons r (ih j e)) j
theorem ORL.get{M:Ae}{H:Hp}{os:List OV}{j:Nat}{x:PyData}(r:ORL M H vs os A):os[j]?=some (.d x)->∃ v,vs[j]?=some v/\Rep M H v x :=
 r.ind (P:=λvs os A=>∀ j:Nat,os[j]?=some (.d x)->∃ v,vs[j]?=some v/\Rep M H v x) (λ_ e=>nomatch e) (λr t ih j e=>by
  cases j with
  |zero=>cases e;cases r with
   |d r=>exact⟨_,rfl,r⟩
  |succ j=>exact ih j e) j
noncomputable abbrev St:=L2.St
structure Exc where
 cls:Str
 pay:PyData
inductive R(α:Type) where
 |ok (a:α)
 |exc (x:Exc) (Γ:Gv)
 |bad
noncomputable def R.bind{α β:Type}(r:R α)(f:α->R β):R β:=match r with
 |.ok a=>f a
 |.exc x Γ=>.exc x Γ
 |.bad=>.bad
noncomputable abbrev EM(α:Type):=Gv->R (α×Gv)
inductive FV where
 |dat (x:PyData)
 |own (i:Nat)
noncomputable def derf(Γ:Gv):FV->Option PyData
 |.dat x=>some x
 |.own i=>match Γ[i]? with
  |some (some o)=>some o.view
  |_=>none
noncomputable def derS(Γ:Gv):FV->Option PyData
 |.dat x=>some x
 |.own i=>match Γ[i]? with
  |some (@&x)=>some x
  |_=>none
noncomputable def leaves:List OV->Option (Aa)
 |[]=>some []
 |.d x::r=>(leaves r).map (x::·)
 |.l _::_=>none
 |.t _::_=>none
 |.m _::_=>none
 |.o _ _ _::_=>none
theorem zcA(xs:Aa):leaves (xs.map .d)=some xs:=by
 induction xs with
 |nil=>rfl
 |cons x r ih=>simp[leaves,ih]
noncomputable def derL(Γ:Gv):FV->Option (Aa)
 |.dat (.list xs)=>some xs
 |.own i=>match Γ[i]? with
  |some (some (.l xs))=>leaves xs
  |some (@&(.list xs))=>some xs
  |_=>none
 |_=>none
abbrev XPT:=Exc->Gv->Fp->Nu->St->Hp->Prop
def Sees(mp:Ac)(ν:Nu)(σ:St):Prop:=∀(s i:Nat)(v:V),mp[s]?=some i->ν[i]?=some (some v)->σ[s]?=some (some v)
def EPost{α:Type}(M0:Ae)(F:Fp)(ν:Nu)(σ:St)(H:Hp)(XP:XPT)(P:Fp->Gv->Hp->α->Prop)(r:R (α×Gv)):Prop:=match r with
 |.ok (a,Γ')=>∀ F' H',RS M0 F' Γ' ν H'->Stp F H F' H'->P F' Γ' H' a
 |.exc x Γ'=>∀ F' H',RS M0 F' Γ' ν H'->Stp F H F' H'->XP x Γ' F' ν σ H'
 |.bad=>False
section
variable {α:Type}{M0:Ae}{F:Fp}{ν:Nu}{σ:St}{H:Hp}{XP:XPT}
theorem EPost.mono(h:EPost M0 F ν σ H XP P r)(k:∀ F' Γ' H' a,RS M0 F' Γ' ν H'->Stp F H F' H'->P F' Γ' H' a->P' F' Γ' H' a):EPost M0 F ν σ H XP P' r:=by
 cases r with
 |ok a=>exact λF' H' rs s=>k F' _ H' _ rs s (h F' H' rs s)
 |exc x Γ'=>exact h
 |bad=>exact h
theorem EPost.seq{r:R (α×Gv)}(h:EPost M0 F ν σ H XP P (r.bind k)) :
  EPost M0 F ν σ H XP (λF1 Γ1 H1 a=>EPost M0 F1 ν σ H1 XP P (k (a,Γ1))) r:=by
 cases r with
 |ok a=>
  obtain⟨a,Γ1⟩:=a
  intro F1 H1 rs1 s1
  have h':EPost M0 F ν σ H XP P (k (a,Γ1)):=h
  revert h'
  generalize k (a,Γ1)=r2
  intro h'
  cases r2 with
  |ok b=>exact λF' H' rs s=>h' F' H' rs (s1.trans s)
  |exc x Γ'=>exact λF' H' rs s=>h' F' H' rs (s1.trans s)
  |bad=>exact h'
 |exc x Γ'=>exact h
 |bad=>exact h
theorem EPost.step(h:EPost M0 F ν σ H XP P r)(s1:Stp F H F1 H1):EPost M0 F1 ν σ H1 XP P r:=by
 cases r with
 |ok b=>exact λF' H' rs s=>h F' H' rs (s1.trans s)
 |exc x Γ'=>exact λF' H' rs s=>h F' H' rs (s1.trans s)
 |bad=>exact h
end
def FOk(M0:Ae)(F:Fp)(ν:Nu)(H:Hp)(v:V):FV->Prop
 |.dat x=>Rep (MM M0 F) H v x
 |.own i=>ν[i]?=some (some v)
section
variable {M0:Ae}{F F':Fp}{Γ:Gv}{ν:Nu}{H H':Hp}{v:V}{u:FV}{x:PyData}
theorem FOk.stp(h:FOk M0 F ν H v u)(s:Stp F H F' H')(h0:∀ a,M0 a->H a≠none):FOk M0 F' ν H' v u:=by
 cases u with
 |dat x=>exact zn s h0 h
 |own i=>exact h
theorem FOk.weak(h:FOk M0 F ν H v u)(rs:RS M0 F Γ ν H)(e:derf Γ u=some x):Rep zG H v x:=by
 cases u with
 |dat y=>cases e;exact Rep.less (λ_ z _=>z.elim) h
 |own i=>
  dsimp only [derf]at e
  split at e
  next o q=>
   cases e
   obtain⟨w,e1,r⟩:=rs.at' i o q
   have h':=h
   rw[h']at e1;cases e1
   exact r.weak
  ·cases e
theorem FOk.strong(h:FOk M0 F ν H v u)(rs:RS M0 F Γ ν H)(e:derS Γ u=some x):Rep (MM M0 F) H v x:=by
 cases u with
 |dat y=>cases e;exact h
 |own i=>
  dsimp only [derS]at e
  split at e
  next y q=>
   cases e
   obtain⟨w,e1,r⟩:=rs.at' i _ q
   have h':=h
   rw[h']at e1;cases e1
   generalize F i=A at r
   cases r with
   |d r=>exact r
  ·cases e
theorem ORL.leaf{vs:List V}{os:List OV}(r:ORL M H vs os A):leaves os=some ds->RepL M H vs ds/\A= [] :=
 r.ind (P:=λvs os A=>∀ ds,leaves os=some ds->RepL M H vs ds/\A= []) (λ_ e=>by cases e;exact⟨.nil,rfl⟩) (λ{_ _ x xs _ _} r _ ih ds e=>by
  cases r with
  |d r=>
   unfold leaves at e
   cases q:leaves xs with
   |none=>rw[q]at e;cases e
   |some ys=>
    rw[q]at e;cases e
    obtain⟨h1,h2⟩:=ih _ q
    exact⟨.cons r h1,by rw[h2];rfl⟩
  |_=>cases e) ds
theorem FOk.list(h:FOk M0 F ν H v u)(rs:RS M0 F Γ ν H)(e:derL Γ u=some ds):∃ a vs,v=.ref a/\H a=some (.lst vs)/\RepL (MM M0 F) H vs ds:=by
 unfold derL at e
 split at e
 ·cases e
  obtain⟨a,vs,rfl,e1,_,r⟩:=Rep.lst_inv h
  exact⟨a,vs,rfl,e1,r⟩
 next i=>
  have h':=h
  split at e
  next q=>
   obtain⟨w,e1,r⟩:=rs.at' i _ q
   rw[h']at e1;cases e1
   generalize F i=A at r
   cases r with
   |l ea qa=>exact⟨_,_,rfl,ea,(ORL.leaf qa e).1⟩
  next q=>
   cases e
   obtain⟨w,e1,r⟩:=rs.at' i _ q
   rw[h']at e1;cases e1
   generalize F i=A at r
   cases r with
   |d r=>
    obtain⟨a,vs,rfl,e1,_,r⟩:=Rep.lst_inv r
    exact⟨a,vs,rfl,e1,r⟩
  ·cases e
 ·cases e
end
def SE(X:Cx)(XP:XPT)(mp:Ac)(e:Expr)(f:EM FV):Prop:=∀(M0:Ae)(F:Fp)(Γ:Gv)(ν:Nu)(σ:St)(H:Hp)(Q:VK),RS M0 F Γ ν H->Sees mp ν σ ->
 EPost M0 F ν σ H XP (λF' Γ' H' u=>∀ v,FOk M0 F' ν H' v u->Q v H') (f Γ)->wpE X e σ H Q
def SN(X:Cx)(XP:XPT)(mp:Ac)(e:Expr)(f:EM (Aa)):Prop:=∀(M0:Ae)(F:Fp)(Γ:Gv)(ν:Nu)(σ:St)(H:Hp)(Q:VK),RS M0 F Γ ν H->Sees mp ν σ ->
 EPost M0 F ν σ H XP (λF' Γ' H' ds=>∀ vs p,RepL (MM M0 F') H' vs ds->H' p=none->Q (.ref p) (upd H' p (.lst vs))) (f Γ)->wpE X e σ H Q
def ST(X:Cx)(XP:XPT)(mp:Ac)(e:Expr)(f:EM Bool):Prop:=∀(M0:Ae)(F:Fp)(Γ:Gv)(ν:Nu)(σ:St)(H:Hp)(Q:Bool->Hp->Prop),RS M0 F Γ ν H->Sees mp ν σ ->
 EPost M0 F ν σ H XP (λF' Γ' H' b=>Q b H') (f Γ)->wpT X e σ H Q
def SW(X:Cx)(XP:XPT)(mp:Ac)(e:Expr)(f:EM Bool):Prop:=∀(M0:Ae)(F:Fp)(Γ:Gv)(ν:Nu)(σ:St)(H:Hp)(Q:Bool->Hp->Prop),RS M0 F Γ ν H->Sees mp ν σ ->
 EPost M0 F ν σ H XP (λF' Γ' H' b=>Q b H') (f Γ)->wpW X e σ H Q
section
variable {X:Cx}{XP:XPT}{mp:Ac}{a b e:Expr}{pos p:Pos}{fa fb:EM FV}{ta:EM Bool}{na:EM (Aa)}
section
variable {β:Type}{M0:Ae}{F:Fp}{Γ:Gv}{ν:Nu}{σ:St}{H:Hp}{P:Fp->Gv->Hp->β->Prop}
theorem SE.run{Q:VK}{k:FV×Gv->R (β×Gv)}(ha:SE X XP mp a fa)(rs:RS M0 F Γ ν H)(hs:Sees mp ν σ)(h:EPost M0 F ν σ H XP P ((fa Γ).bind k))
  (kk:∀ F1 Γ1 H1 u v,RS M0 F1 Γ1 ν H1->Stp F H F1 H1->FOk M0 F1 ν H1 v u->EPost M0 F1 ν σ H1 XP P (k (u,Γ1))->Q v H1):wpE X a σ H Q :=
 ha M0 F Γ ν σ H Q rs hs (h.seq.mono λF1 Γ1 H1 u rs1 s1 h1 v hv=>kk F1 Γ1 H1 u v rs1 s1 hv h1)
theorem SN.run{Q:VK}{k:Aa×Gv->R (β×Gv)}(ha:SN X XP mp a na)(rs:RS M0 F Γ ν H)(hs:Sees mp ν σ)(h:EPost M0 F ν σ H XP P ((na Γ).bind k))
  (kk:∀ F1 Γ1 H1 ds vs p,RS M0 F1 Γ1 ν H1->Stp F H F1 H1->RepL (MM M0 F1) H1 vs ds->H1 p=none->EPost M0 F1 ν σ H1 XP P (k (ds,Γ1))->Q (.ref p) (upd H1 p (.lst vs))):wpE X a σ H Q :=
 ha M0 F Γ ν σ H Q rs hs (h.seq.mono λF1 Γ1 H1 u rs1 s1 h1 vs p r n=>kk F1 Γ1 H1 u vs p rs1 s1 r n h1)
theorem ST.run{Q:Bool->Hp->Prop}{k:Bool×Gv->R (β×Gv)}(ha:ST X XP mp a ta)(rs:RS M0 F Γ ν H)(hs:Sees mp ν σ)(h:EPost M0 F ν σ H XP P ((ta Γ).bind k))
  (kk:∀ F1 Γ1 H1 u,RS M0 F1 Γ1 ν H1->Stp F H F1 H1->EPost M0 F1 ν σ H1 XP P (k (u,Γ1))->Q u H1):wpT X a σ H Q :=
 ha M0 F Γ ν σ H Q rs hs (h.seq.mono λF1 Γ1 H1 u rs1 s1 h1=>kk F1 Γ1 H1 u rs1 s1 h1)
end
noncomputable def fNew(n:EM (Aa)):EM FV:=λΓ=>(n Γ).bind λ(ds,Γ1)=>.ok (.dat (.list ds),Γ1)
theorem SN.se(h:SN X XP mp a na):SE X XP mp a (fNew na):=λM0 F Γ ν σ H Q rs hs hp=>
 h.run rs hs hp λF1 Γ1 H1 ds vs p rs1 s1 r n h1=>by
  have s2:Same H1 (upd H1 p (.lst vs)):=zr n
  exact h1 F1 _ (rs1.same s2) (.same s2) _ (Rep.list zg (λz=>rs1.al p z n) (r.grow s2.grow))
noncomputable def fVar(i:Nat):EM FV:=λΓ=>match Γ[i]? with
 |some (@&x)=>.ok (.dat x,Γ)
 |some (some (.l _))=>.ok (.own i,Γ)
 |some (some (.t _))=>.ok (.own i,Γ)
 |some (some (.m _))=>.ok (.own i,Γ)
 |some (some (.o _ _ _))=>.ok (.own i,Γ)
 |_=>.bad
theorem ziu {s i:Nat}(hN:X.N[s]?=some x) (hv:Vis X.env.scope x) (hm:mp[s]?=some i) (hd:(↥x)) (hcd:(x==("__classdict__" :Str))=false) :
  SE X XP mp (.Name x pos) (fVar i):=by?
 unfold fVar at hp
 split at hp
 next y q=>
  obtain⟨v,e1,r⟩:=rs.at' i _ q
  generalize hA:F i=A at r
  cases r with
  |d r=>exact (zQ hN hv hd hcd).wp ⟨v,hs s i v hm e1,hp F H rs (.refl F H) v r⟩
 next y q=>
  obtain⟨v,e1,r⟩:=rs.at' i _ q
  exact (zQ hN hv hd hcd).wp ⟨v,hs s i v hm e1,hp F H rs (.refl F H) v e1⟩
 next y q=>
  obtain⟨v,e1,r⟩:=rs.at' i _ q
  exact (zQ hN hv hd hcd).wp ⟨v,hs s i v hm e1,hp F H rs (.refl F H) v e1⟩
 next y q=>
  obtain⟨v,e1,r⟩:=rs.at' i _ q
  exact (zQ hN hv hd hcd).wp ⟨v,hs s i v hm e1,hp F H rs (.refl F H) v e1⟩
 next y _ _ q=>
  obtain⟨v,e1,r⟩:=rs.at' i _ q
  exact (zQ hN hv hd hcd).wp ⟨v,hs s i v hm e1,hp F H rs (.refl F H) v e1⟩
 ·exact hp.elim
noncomputable def fFrz(i:Nat):EM FV:=λΓ=>match Γ[i]? with
 |some (some o)=>.ok (.dat o.view,Γ.set i (some (.d o.view)))
 |_=>.bad
theorem zin {s i:Nat}(hN:X.N[s]?=some x) (hv:Vis X.env.scope x) (hm:mp[s]?=some i) (hd:(↥x)) (hcd:(x==("__classdict__" :Str))=false) :
  SE X XP mp (.Name x pos) (fFrz i):=by?
 unfold fFrz at hp
 split at hp
 next o q=>
  obtain⟨F',v,e1,rs1,s1,r⟩:=rs.frz q
  exact (zQ hN hv hd hcd).wp ⟨v,hs s i v hm e1,hp F' H rs1 s1 v r⟩
 ·exact hp.elim
noncomputable def fC(x:PyData):EM FV:=λΓ=>.ok (.dat x,Γ)
theorem zio{i j}:SE X XP mp (.Constant (.int i) j pos) (fC (.int i)):=λM0 F Γ ν σ H Q rs hs hp=>pe_int.wp (hp F H rs (.refl F H) _ (Rep.int i))
theorem zfC{x j}:SE X XP mp (.Constant (.bool x) j pos) (fC (.bool x)):=λM0 F Γ ν σ H Q rs hs hp=>pe_bl.wp (hp F H rs (.refl F H) _ (Rep.bool x))
theorem zis{x j}:SE X XP mp (.Constant (.str x) j pos) (fC (.str x)):=λM0 F Γ ν σ H Q rs hs hp=>pe_str.wp (hp F H rs (.refl F H) _ (Rep.str x))
theorem zfI (hg:Gl X x) (hm:∃ t,X.mg x=some (.int i t)) (hd:(↥x)):SE X XP mp (.Name x pos) (fC (.int i)):=by?
 obtain⟨t,hm⟩:=hm
 exact (K4 (v:=.int i) hg hm ⟨t,rfl⟩ hd).wp (hp F H rs (.refl F H) _ (Rep.int i))
theorem zfJ (hg:Gl X x) (hm:∃ t,X.mg x=some (.str i t)) (hd:(↥x)):SE X XP mp (.Name x pos) (fC (.str i)):=by?
 obtain⟨t,hm⟩:=hm
 exact (K4 (v:=.str i) hg hm ⟨t,rfl⟩ hd).wp (hp F H rs (.refl F H) _ (Rep.str i))
def OpS(X:Cx)(f:Aj->Aj->Sem Aj)(g:PyData->PyData->Option PyData):Prop:=∀ x y z,g x y=some z->∃ r:R2,OpR X f r/\∀(M:Ae)(H:Hp)(v u:V)(Q:VK),
 Al M H->Rep M H v x->Rep M H u y->(∀ w H',Same H H'->Rep M H' w z->Q w H')->r v u H Q
noncomputable def fBin(g:PyData->PyData->Option PyData)(fa fb:EM FV):EM FV:=λΓ=>(fa Γ).bind λ(u,Γ1)=>(fb Γ1).bind λ(w,Γ2)=>match derS Γ2 u,derS Γ2 w with
 |some x,some y=>match g x y with
  |some z=>.ok (.dat z,Γ2)
  |none=>.bad
 |_,_=>.bad
theorem zim(ho:OpS X (binaryOp op) g)(ha:SE X XP mp a fa)(hb:SE X XP mp b fb):SE X XP mp (.BinOp a op b pos) (fBin g fa fb):=by?
 have key:=ho
 refine (vp (r:=λv u H Q=>∃ M x y z,g x y=some z/\Al M H/\Rep M H v x/\Rep M H u y/\∀ w H',Same H H'->Rep M H' w z->Q w H') ?_ zc zc).wp
  (ha.run rs hs hp λF1 Γ1 H1 u v rs1 s1 o1 h1=>hb.run rs1 hs h1 λF2 Γ2 H2 w v2 rs2 s2 o2 h2=>?_)
 ·rintro pins s σ H x y v u Q I rx ry ⟨M,dx,dy,dz,e,al,r1,r2,k⟩
  obtain⟨r,hr,hh⟩:=ho dx dy dz e
  exact hr pins s σ H x y v u Q I rx ry (hh M H x y Q al r1 r2 k)
 ·dsimp only at h2
  split at h2
  next x y e1 e2=>
   split at h2
   next z e3=>
    exact⟨MM M0 F2,x,y,z,e3,rs2.al,(o1.stp s2 rs1.al0).strong rs2 e1,o2.strong rs2 e2,λw' H3 s3 r3=>h2 F2 H3 (rs2.same s3) (.same s3) w' r3⟩
   ·exact h2.elim
  ·exact h2.elim
def Wv(X:Cx)(op:CmpOp)(g:PyData->PyData->Option Bool):Prop:=∀ x y z,g x y=some z->∃ r:R2,OpR X (compareOp op) r/\∀(H:Hp)(v u:V)(Q:VK),
 Rep zG H v x->Rep zG H u y->Q (.bl z) H->r v u H Q
noncomputable def fCmp(g:PyData->PyData->Option Bool)(fa fb:EM FV):EM Bool:=λΓ=>(fa Γ).bind λ(u,Γ1)=>(fb Γ1).bind λ(w,Γ2)=>match derf Γ2 u,derf Γ2 w with
 |some x,some y=>match g x y with
  |some z=>.ok (z,Γ2)
  |none=>.bad
 |_,_=>.bad
noncomputable def fB(t:EM Bool):EM FV:=λΓ=>(t Γ).bind λ(b,Γ1)=>.ok (.dat (.bool b),Γ1)
theorem Z6(ho:Wv X op g):OpR X (compareOp op) (λv u H Q=>∃ x y z,g x y=some z/\Rep zG H v x/\Rep zG H u y/\Q (.bl z) H):=by
 rintro pins s σ H x y v u Q I rx ry ⟨dx,dy,dz,e,r1,r2,k⟩
 obtain⟨r,hr,hh⟩:=ho dx dy dz e
 exact hr pins s σ H x y v u Q I rx ry (hh H x y Q r1 r2 k)
section
variable {M0:Ae}{F:Fp}{Γ:Gv}{ν:Nu}{σ:St}{H:Hp}{β:Type}{P:Fp->Gv->Hp->β->Prop}
theorem KH{Q:VK}(ha:SE X XP mp a fa)(hb:SE X XP mp b fb)(rs:RS M0 F Γ ν H)(hs:Sees mp ν σ)(hp:EPost M0 F ν σ H XP P ((fCmp g fa fb Γ).bind k))
  (kk:∀ F2 Γ2 H2 z,RS M0 F2 Γ2 ν H2->Stp F H F2 H2->EPost M0 F2 ν σ H2 XP P (k (z,Γ2))->Q (.bl z) H2) :
  wpE X a σ H λv H1=>wpE X b σ H1 λu H2=>∃ x y z,g x y=some z/\Rep zG H2 v x/\Rep zG H2 u y/\Q (.bl z) H2:=by
 have hp':EPost M0 F ν σ H XP P ((fa Γ).bind λ(u,Γ1)=>(fb Γ1).bind λ(w,Γ2)=>(match derf Γ2 u,derf Γ2 w with
  |some x,some y=>match g x y with
   |some z=>R.ok (z,Γ2)
   |none=>.bad
  |_,_=>.bad).bind k):=by
  have e:((fCmp g fa fb Γ).bind k)=((fa Γ).bind λ(u,Γ1)=>(fb Γ1).bind λ(w,Γ2)=>(match derf Γ2 u,derf Γ2 w with
   |some x,some y=>match g x y with
    |some z=>R.ok (z,Γ2)
    |none=>.bad
   |_,_=>.bad).bind k):=by
   unfold fCmp
   cases fa Γ with
   |ok a=>
    obtain⟨a,Γ1⟩:=a
    simp only[R.bind]
    cases fb Γ1<;>rfl
   |exc x y=>rfl
   |bad=>rfl
  rw[<- e];exact hp
 refine ha.run rs hs hp' λF1 Γ1 H1 u v rs1 s1 o1 h1=>hb.run rs1 hs h1 λF2 Γ2 H2 w v2 rs2 s2 o2 h2=>?_
 dsimp only at h2
 split at h2
 next x y e1 e2=>
  split at h2
  next z e3=>
   exact⟨x,y,z,e3,(o1.stp s2 rs1.al0).weak rs2 e1,o2.weak rs2 e2,kk F2 Γ2 H2 z rs2 (s1.trans s2) h2⟩
  ·exact h2.elim
 ·exact h2.elim
end
theorem R.bind_ok{α:Type}(r:R α):r.bind .ok=r:=by cases r<;>rfl
theorem yL(ho:Wv X op g)(ha:SE X XP mp a fa)(hb:SE X XP mp b fb)(hm:behindInMarks op b=false):SE X XP mp (.Compare a [op] [b] pos) (fB (fCmp g fa fb)):=λM0 F Γ ν σ H Q rs hs hp=>
 (zfi (Z6 ho) zc zc hm).wp (KH ha hb rs hs hp λF2 Γ2 H2 z rs2 s2 h2=>h2 F2 H2 rs2 (.refl _ _) _ (Rep.bool z))
theorem yP(ho:Wv X op g)(ha:SE X XP mp a fa)(hb:SE X XP mp b fb)(hm:behindInMarks op b=false):ST X XP mp (.Compare a [op] [b] pos) (fCmp g fa fb):=λM0 F Γ ν σ H Q rs hs hp=>
 (zfs (Z6 ho) zc zc hm).wp (KH (k:=.ok) (Q:=λv H'=>∃ k,v=.bl k/\Q k H') ha hb rs hs (by rw[R.bind_ok];exact hp) λF2 Γ2 H2 z rs2 s2 h2=>⟨z,rfl,h2 F2 H2 rs2 (.refl _ _)⟩)
end
noncomputable def truD:PyData->Option Bool
 |.none=>some false
 |.bool b=>some b
 |.int i=>some (i !=0)
 |.list xs=>some (!xs.isEmpty)
 |.tuple xs=>some (!xs.isEmpty)
 |_=>none
theorem Yn(r:RepL M H vs ds):(!vs.isEmpty)= !ds.isEmpty:=by cases r<;>rfl
theorem zaf{K:Ah}{H:Hp}{v:V}(r:Rep M H v x)(e:truD x=some k):zei K v H k:=by
 cases r with
 |none=>cases e;rfl
 |bool b=>cases e;rfl
 |int i=>cases e;rfl
 |str x=>cases e
 |list ea n q=>cases e;exact .inl ⟨_,SqL.of ea,(Yn q).symm⟩
 |tuple ea q=>cases e;exact .inr (.inl ⟨_,SqT.of ea,(Yn q).symm⟩)
 |dict _ _ _ _=>cases e
 |inst _ _ _ _=>cases e
 |exo _ _ _ _ _=>cases e
section
variable {X:Cx}{XP:XPT}{mp:Ac}{a b c e:Expr}{es:Ag}{pos p p2:Pos}{fa fb fc:EM FV}{ta tb:EM Bool}
noncomputable def fTru(fa:EM FV):EM Bool:=λΓ=>(fa Γ).bind λ(u,Γ1)=>match (derf Γ1 u).bind truD with
 |some k=>.ok (k,Γ1)
 |none=>.bad
theorem zdE(ha:SE X XP mp a fa)(he:∀ whole,isTrue a X.env whole=(do let v<-whole;standAt a.pos;holding [v] (truthy v))):ST X XP mp a (fTru fa):=λM0 F Γ ν σ H Q rs hs hp=>
 (YA zc he).wp (ha.run rs hs hp λF1 Γ1 H1 u v rs1 s1 o1 h1=>by
  dsimp only at h1
  split at h1
  next k ek=>
   cases ex:derf Γ1 u with
   |none=>rw[ex]at ek;cases ek
   |some x=>
    rw[ex]at ek
    exact⟨k,zaf (o1.weak rs1 ex) ek,h1 F1 H1 rs1 (.refl _ _)⟩
  ·exact h1.elim)
noncomputable def fNotT(ta:EM Bool):EM Bool:=λΓ=>(ta Γ).bind λ(b,Γ1)=>.ok (!b,Γ1)
theorem ziL(h:ST X XP mp a ta):ST X XP mp (.UnaryOp .Not a pos) (fNotT ta):=λM0 F Γ ν σ H Q rs hs hp=>
 (zh8 je).wp (h.run rs hs hp λF1 Γ1 H1 b rs1 s1 h1=>h1 F1 H1 rs1 (.refl _ _))
theorem SW.st(h:SW X XP mp a ta):ST X XP mp a ta:=λM0 F Γ ν σ H Q rs hs hp pins s I=>h M0 F Γ ν σ H Q rs hs hp _ pins s I
theorem zgd(h:ST X XP mp a ta):SW X XP mp (.BoolOp .And [a] pos) ta:=λM0 F Γ ν σ H Q rs hs hp=>(zft je).wp (h M0 F Γ ν σ H Q rs hs hp)
theorem zge(h:ST X XP mp a ta):SW X XP mp (.BoolOp .Or [a] pos) ta:=λM0 F Γ ν σ H Q rs hs hp=>(zib je).wp (h M0 F Γ ν σ H Q rs hs hp)
noncomputable def fAndT(ta tb:EM Bool):EM Bool:=λΓ=>(ta Γ).bind λ(b,Γ1)=>if b then tb Γ1 else .ok (false,Γ1)
noncomputable def fOrT(ta tb:EM Bool):EM Bool:=λΓ=>(ta Γ).bind λ(b,Γ1)=>if b then .ok (true,Γ1) else tb Γ1
theorem zdH(ha:ST X XP mp a ta)(hb:SW X XP mp (.BoolOp .And (b::es) pos) tb):SW X XP mp (.BoolOp .And (a::b::es) pos) (fAndT ta tb):=λM0 F Γ ν σ H Q rs hs hp=>
 (zia je K9).wp (ha.run rs hs hp λF1 Γ1 H1 b rs1 s1 h1=>by
  cases b with
  |true=>exact Yq (hb M0 F1 Γ1 ν σ H1 Q rs1 hs h1)
  |false=>exact Yp (h1 F1 H1 rs1 (.refl _ _)))
theorem zgJ(ha:ST X XP mp a ta)(hb:SW X XP mp (.BoolOp .Or (b::es) pos) tb):SW X XP mp (.BoolOp .Or (a::b::es) pos) (fOrT ta tb):=λM0 F Γ ν σ H Q rs hs hp=>
 (zjD je K9).wp (ha.run rs hs hp λF1 Γ1 H1 b rs1 s1 h1=>by
  cases b with
  |true=>exact Yq (h1 F1 H1 rs1 (.refl _ _))
  |false=>exact Yp (hb M0 F1 Γ1 ν σ H1 Q rs1 hs h1))
noncomputable def fAndV(fa fb:EM FV):EM FV:=λΓ=>(fa Γ).bind λ(u,Γ1)=>match derf Γ1 u with
 |some (.bool true)=>fb Γ1
 |some (.bool false)=>.ok (.dat (.bool false),Γ1)
 |_=>.bad
noncomputable def fOrV(fa fb:EM FV):EM FV:=λΓ=>(fa Γ).bind λ(u,Γ1)=>match derf Γ1 u with
 |some (.bool true)=>.ok (.dat (.bool true),Γ1)
 |some (.bool false)=>fb Γ1
 |_=>.bad
theorem zdm{op}(h:SE X XP mp a fa):SE X XP mp (.BoolOp op [a] pos) fa:=λM0 F Γ ν σ H Q rs hs hp=>(zh1 zc).wp (h M0 F Γ ν σ H Q rs hs hp)
theorem zdi(ha:SE X XP mp a fa)(hb:SE X XP mp (.BoolOp .And (b::es) pos) fb):SE X XP mp (.BoolOp .And (a::b::es) pos) (fAndV fa fb):=λM0 F Γ ν σ H Q rs hs hp=>
 (zh0 zc zc).wp (ha.run rs hs hp λF1 Γ1 H1 u v rs1 s1 o1 h1=>by
  dsimp only at h1
  split at h1
  next ex=>
   cases o1.weak rs1 ex
   exact⟨true,rfl,Yq (hb M0 F1 Γ1 ν σ H1 Q rs1 hs h1)⟩
  next ex=>
   cases o1.weak rs1 ex
   exact⟨false,rfl,Yp (h1 F1 H1 rs1 (.refl _ _) _ (Rep.bool false))⟩
  ·exact h1.elim)
theorem zgG(ha:SE X XP mp a fa)(hb:SE X XP mp (.BoolOp .Or (b::es) pos) fb):SE X XP mp (.BoolOp .Or (a::b::es) pos) (fOrV fa fb):=λM0 F Γ ν σ H Q rs hs hp=>
 (zjB zc zc).wp (ha.run rs hs hp λF1 Γ1 H1 u v rs1 s1 o1 h1=>by
  dsimp only at h1
  split at h1
  next ex=>
   cases o1.weak rs1 ex
   exact⟨true,rfl,Yq (h1 F1 H1 rs1 (.refl _ _) _ (Rep.bool true))⟩
  next ex=>
   cases o1.weak rs1 ex
   exact⟨false,rfl,Yp (hb M0 F1 Γ1 ν σ H1 Q rs1 hs h1)⟩
  ·exact h1.elim)
theorem zgm:UnR X (unaryOp .Not) (λx H Q=>∃ k,zei X.K x H k/\Q (.bl (!k)) H):=by
 intro pins s σ H x v Q I rx h
 obtain⟨k,hk,q⟩:=h
 exact not_of (thn (zdL pins s σ H x v _ I rx ⟨k,hk,q⟩) λb s' ⟨H',I',q'⟩=>⟨.bl (!b),H',I',rfl,q'⟩)
theorem ziq(ha:SE X XP mp a fa):SE X XP mp (.UnaryOp .Not a pos) (fB (fNotT (fTru fa))):=by?
 refine (zgE zgm zc).wp (ha.run (k:=λ(u,Γ1)=>match (derf Γ1 u).bind truD with
  |some k=>R.ok (FV.dat (.bool (!k)),Γ1)
  |none=>.bad) (P:=λF' Γ' H' u=>∀(v:V),FOk M0 F' ν H' v u->Q v H') rs hs ?_ λF1 Γ1 H1 u v rs1 s1 o1 h1=>?_)
 ·have e:fB (fNotT (fTru fa)) Γ=(fa Γ).bind λ(u,Γ1)=>match (derf Γ1 u).bind truD with
   |some k=>.ok (.dat (.bool (!k)),Γ1)
   |none=>.bad:=by
   unfold fB fNotT fTru
   cases fa Γ with
   |ok a=>
    obtain⟨u,Γ1⟩:=a
    simp only[R.bind]
    cases (derf Γ1 u).bind truD<;>rfl
   |exc x y=>rfl
   |bad=>rfl
  rw[<- e];exact hp
 ·dsimp only at h1
  split at h1
  next k ek=>
   cases ex:derf Γ1 u with
   |none=>rw[ex]at ek;cases ek
   |some x=>
    rw[ex]at ek
    exact⟨k,zaf (o1.weak rs1 ex) ek,h1 F1 H1 rs1 (.refl _ _) _ (Rep.bool (!k))⟩
  ·exact h1.elim
noncomputable def fIf(t:EM Bool)(fa fb:EM FV):EM FV:=λΓ=>(t Γ).bind λ(b,Γ1)=>if b then fa Γ1 else fb Γ1
theorem zjN(hc:ST X XP mp c ta)(ha:SE X XP mp a fa)(hb:SE X XP mp b fb):SE X XP mp (.IfExp c a b pos) (fIf ta fa fb):=λM0 F Γ ν σ H Q rs hs hp=>
 (zcY je zc zc).wp (hc.run rs hs hp λF1 Γ1 H1 b rs1 s1 h1=>by
  cases b with
  |true=>exact Yq (ha M0 F1 Γ1 ν σ H1 Q rs1 hs h1)
  |false=>exact Yp (hb M0 F1 Γ1 ν σ H1 Q rs1 hs h1))
noncomputable def fChain(g g':PyData->PyData->Option Bool)(fa fb fc:EM FV):EM Bool:=λΓ=>(fa Γ).bind λ(u,Γ1)=>(fb Γ1).bind λ(w,Γ2)=>match derf Γ2 u,derf Γ2 w with
 |some x,some y=>match g x y with
  |some true=>(fc Γ2).bind λ(t,Γ3)=>match derf Γ3 w,derf Γ3 t with
   |some y,some z=>match g' y z with
    |some k=>.ok (k,Γ3)
    |none=>.bad
   |_,_=>.bad
  |some false=>.ok (false,Γ2)
  |none=>.bad
 |_,_=>.bad
theorem R.bind_assoc{α β γ:Type}(r:R α)(f:α->R β)(g:β->R γ):(r.bind f).bind g=r.bind λa=>(f a).bind g:=by cases r<;>rfl
section
variable {M0:Ae}{F:Fp}{Γ:Gv}{ν:Nu}{σ:St}{H:Hp}{β:Type}{P:Fp->Gv->Hp->β->Prop}
theorem Vq{Q:VK}(ha:SE X XP mp a fa)(hb:SE X XP mp b fb)(hc:SE X XP mp c fc)(rs:RS M0 F Γ ν H)(hs:Sees mp ν σ)(hp:EPost M0 F ν σ H XP P ((fChain g g' fa fb fc Γ).bind k))
  (kk:∀ F2 Γ2 H2 z,RS M0 F2 Γ2 ν H2->EPost M0 F2 ν σ H2 XP P (k (z,Γ2))->Q (.bl z) H2) :
  Kp (λv u H Q=>∃ x y z,g x y=some z/\Rep zG H v x/\Rep zG H u y/\Q (.bl z) H) (λv u H Q=>∃ x y z,g' x y=some z/\Rep zG H v x/\Rep zG H u y/\Q (.bl z) H) (wpE X a) (wpE X b) (wpE X c) σ H Q:=by
 unfold fChain at hp
 rw[R.bind_assoc]at hp
 refine ha.run rs hs hp λF1 Γ1 H1 u v rs1 s1 o1 h1=>?_
 dsimp only at h1
 rw[R.bind_assoc]at h1
 refine hb.run rs1 hs h1 λF2 Γ2 H2 w v2 rs2 s2 o2 h2=>?_
 dsimp only at h2
 split at h2
 next x y e1 e2=>
  split at h2
  next e3=>
   refine⟨x,y,true,e3,(o1.stp s2 rs1.al0).weak rs2 e1,o2.weak rs2 e2,true,rfl,Yq ?_⟩
   rw[R.bind_assoc]at h2
   refine hc.run rs2 hs h2 λF3 Γ3 H3 t v3 rs3 s3 o3 h3=>?_
   dsimp only at h3
   split at h3
   next y' z e4 e5=>
    split at h3
    next kz e6=>
     exact⟨y',z,kz,e6,(o2.stp s3 rs2.al0).weak rs3 e4,o3.weak rs3 e5,kk F3 Γ3 H3 kz rs3 h3⟩
    ·exact h3.elim
   ·exact h3.elim
  next e3=>
   exact⟨x,y,false,e3,(o1.stp s2 rs1.al0).weak rs2 e1,o2.weak rs2 e2,false,rfl,Yp (kk F2 Γ2 H2 false rs2 h2)⟩
  ·exact h2.elim
 ·exact h2.elim
end
theorem zdj(ho:Wv X op g)(ho':Wv X op' g')(ha:SE X XP mp a fa)(hb:SE X XP mp b fb)(hc:SE X XP mp c fc)(hm:lastMarks [op,op'] [b,c]=false) :
  SE X XP mp (.Compare a [op,op'] [b,c] pos) (fB (fChain g g' fa fb fc)):=λM0 F Γ ν σ H Q rs hs hp=>
 (zcS (Z6 ho) (Z6 ho') zc zc zc hm).wp (Vq ha hb hc rs hs hp λF2 Γ2 H2 z rs2 h2=>h2 F2 H2 rs2 (.refl _ _) _ (Rep.bool z))
theorem zdD(ho:Wv X op g)(ho':Wv X op' g')(ha:SE X XP mp a fa)(hb:SE X XP mp b fb)(hc:SE X XP mp c fc)(hm:lastMarks [op,op'] [b,c]=false) :
  ST X XP mp (.Compare a [op,op'] [b,c] pos) (fChain g g' fa fb fc):=λM0 F Γ ν σ H Q rs hs hp=>
 (zdb (Z6 ho) (Z6 ho') zc zc zc hm).wp (Vq (k:=.ok) ha hb hc rs hs (by rw[R.bind_ok];exact hp) λF2 Γ2 H2 z rs2 h2=>⟨z,rfl,h2 F2 H2 rs2 (.refl _ _)⟩)
inductive FOks(M0:Ae)(F:Fp)(ν:Nu)(H:Hp):List V->List FV->Prop
 |nil:FOks M0 F ν H [] []
 |cons {v:V} {vs:List V} {u:FV} {us:List FV}:FOk M0 F ν H v u->FOks M0 F ν H vs us->FOks M0 F ν H (v::vs) (u::us)
noncomputable def derSs(Γ:Gv):List FV->Option (Aa)
 |[]=>some []
 |u::us=>match derS Γ u,derSs Γ us with
  |some x,some xs=>some (x::xs)
  |_,_=>none
theorem FOks.strong{M0:Ae}{F:Fp}{Γ:Gv}{ν:Nu}{H:Hp}(rs:RS M0 F Γ ν H):∀{vs:List V}{us:List FV}{ds:Aa},FOks M0 F ν H vs us->derSs Γ us=some ds->RepL (MM M0 F) H vs ds
 |_,_,_,.nil,e=>by cases e;exact .nil
 |_,_,_,.cons h t,e=>by
  unfold derSs at e
  split at e
  next e1 e2=>
   cases e
   exact .cons (h.strong rs e1) (FOks.strong rs t e2)
  ·cases e
theorem FOks.length{M0:Ae}{F:Fp}{ν:Nu}{H:Hp}:∀{vs:List V}{us:List FV},FOks M0 F ν H vs us->vs.length=us.length
 |_,_,.nil=>rfl
 |_,_,.cons _ t=>by rw[xr,xr,FOks.length t]
def SL(X:Cx)(XP:XPT)(mp:Ac)(es:Ag)(f:EM (List FV)):Prop:=∀(M0:Ae)(F:Fp)(Γ:Gv)(ν:Nu)(σ:St)(H:Hp)(Q:List V->Hp->Prop),RS M0 F Γ ν H->Sees mp ν σ ->
 EPost M0 F ν σ H XP (λF' Γ' H' us=>∀ vs,FOks M0 F' ν H' vs us->Q vs H') (f Γ)->wpA X es σ H Q
theorem SL.run{β:Type}{M0:Ae}{F:Fp}{Γ:Gv}{ν:Nu}{σ:St}{H:Hp}{P:Fp->Gv->Hp->β->Prop}{fl:EM (List FV)}{Q:List V->Hp->Prop}{k:List FV×Gv->R (β×Gv)}(ha:SL X XP mp es fl)(rs:RS M0 F Γ ν H)(hs:Sees mp ν σ)(h:EPost M0 F ν σ H XP P ((fl Γ).bind k))
  (kk:∀ F1 Γ1 H1 us vs,RS M0 F1 Γ1 ν H1->Stp F H F1 H1->FOks M0 F1 ν H1 vs us->EPost M0 F1 ν σ H1 XP P (k (us,Γ1))->Q vs H1):wpA X es σ H Q :=
 ha M0 F Γ ν σ H Q rs hs (h.seq.mono λF1 Γ1 H1 u rs1 s1 h1 v hv=>kk F1 Γ1 H1 u v rs1 s1 hv h1)
noncomputable def fNil:EM (List FV):=λΓ=>.ok ([],Γ)
noncomputable def fCons(fa:EM FV)(fl:EM (List FV)):EM (List FV):=λΓ=>(fa Γ).bind λ(u,Γ1)=>(fl Γ1).bind λ(us,Γ2)=>.ok (u::us,Γ2)
theorem ziA:SL X XP mp [] fNil:=λM0 F Γ ν σ H Q rs hs hp=>pa_nil.wp (hp F H rs (.refl _ _) [] .nil)
theorem zfT{fl:EM (List FV)}(ha:SE X XP mp a fa)(hl:SL X XP mp es fl)(hst:starEach (a::es) X.env=(false,eval a X.env)::starEach es X.env):SL X XP mp (a::es) (fCons fa fl):=λM0 F Γ ν σ H Q rs hs hp=>
 (zt zc jd hst).wp (ha.run rs hs hp λF1 Γ1 H1 u v rs1 s1 o1 h1=>hl.run rs1 hs h1 λF2 Γ2 H2 us vs rs2 s2 o2 h2=>h2 F2 H2 rs2 (.refl _ _) _ (.cons (o1.stp s2 rs1.al0) o2))
theorem sz6{n:Nat}(h:n<=1000000):n<=sizeLine:=by have:=Xg;omega
noncomputable def fTup(fl:EM (List FV)):EM FV:=λΓ=>(fl Γ).bind λ(us,Γ1)=>match derSs Γ1 us with
 |some ds=>if us.length<=1000000 then .ok (.dat (.tuple ds),Γ1) else .bad
 |none=>.bad
noncomputable def fLst(fl:EM (List FV)):EM (Aa):=λΓ=>(fl Γ).bind λ(us,Γ1)=>match derSs Γ1 us with
 |some ds=>if us.length<=1000000 then .ok (ds,Γ1) else .bad
 |none=>.bad
theorem zit{fl:EM (List FV)}{x1}(h:SL X XP mp es fl):SE X XP mp (.Tuple es x1 pos) (fTup fl):=λM0 F Γ ν σ H Q rs hs hp=>
 (zc1 jd).wp (h.run rs hs hp λF1 Γ1 H1 us vs rs1 s1 o1 h1=>by
  dsimp only at h1
  split at h1
  next ds e=>
   split at h1
   next hz=>
    exact⟨by rw[o1.length];exact sz6 hz,λp n=>h1 F1 _ (rs1.same (zr n)) (.same (zr n)) _ (Rep.tuple zg ((o1.strong rs1 e).grow (zr n).grow))⟩
   ·exact h1.elim
  ·exact h1.elim)
theorem ziD{fl:EM (List FV)}(h:SL X XP mp es fl):SN X XP mp (.List es pos) (fLst fl):=λM0 F Γ ν σ H Q rs hs hp=>
 (zc0 jd).wp (h.run rs hs hp λF1 Γ1 H1 us vs rs1 s1 o1 h1=>by
  dsimp only at h1
  split at h1
  next ds e=>
   split at h1
   next hz=>
    exact⟨by rw[o1.length];exact sz6 hz,λp n=>h1 F1 H1 rs1 (.refl _ _) vs p (o1.strong rs1 e) n⟩
   ·exact h1.elim
  ·exact h1.elim)
noncomputable def itemF(Γ:Gv)(u:FV)(i:Int):Option PyData:=match u with
 |.dat (.list xs)=>atI xs i
 |.dat (.tuple xs)=>atI xs i
 |.own k=>match Γ[k]? with
  |some (some (.l xs))=>match atI xs i with
   |some (.d x)=>some x
   |_=>none
  |some (@&(.list xs))=>atI xs i
  |_=>none
 |_=>none
theorem zem{α:Type}{xs:List α}{i:Int}{x:α}(h:atI xs i=some x):∃ j,ixN xs.length i=some j/\xs[j]?=some x:=by
 unfold atI at h
 cases e:ixN xs.length i with
 |none=>rw[e]at h;cases h
 |some j=>rw[e]at h;exact⟨j,rfl,h⟩
theorem zg1{α:Type}{xs:List α}{i:Int}{x:α}{j:Nat}(h:ixN xs.length i=some j)(h2:xs[j]?=some x):atI xs i=some x:=by
 unfold atI;rw[h];exact h2
theorem FOk.item{M0:Ae}{F:Fp}{Γ:Gv}{ν:Nu}{H:Hp}{v:V}{u:FV}{i:Int}{x:PyData}{K:Ah}(h:FOk M0 F ν H v u)(rs:RS M0 F Γ ν H)(e:itemF Γ u i=some x) :
  ∃ l vs w,v=.ref l/\(SqL K H l vs∨SqT K H l vs)/\atI vs i=some w/\Rep (MM M0 F) H w x:=by
 unfold itemF at e
 split at e
 ·obtain⟨a,vs,rfl,e1,_,r⟩:=Rep.lst_inv h
  obtain⟨w,ew,rw'⟩:=V9 r e
  exact⟨a,vs,w,rfl,.inl (SqL.of e1),ew,rw'⟩
 ·obtain⟨a,vs,rfl,e1,r⟩:=Rep.tup_inv h
  obtain⟨w,ew,rw'⟩:=V9 r e
  exact⟨a,vs,w,rfl,.inr (SqT.of e1),ew,rw'⟩
 next k=>
  have h':=h
  split at e
  next q=>
   split at e
   next y eo=>
    cases e
    obtain⟨w,e1,r⟩:=rs.at' k _ q
    rw[h']at e1;cases e1
    generalize F k=A at r
    cases r with
    |l ea qa=>
     obtain⟨j,ej,exj⟩:=zem eo
     obtain⟨w,ew,r⟩:=qa.get exj
     rw[<- qa.length]at ej
     exact⟨_,_,w,rfl,.inl (SqL.of ea),zg1 ej ew,r⟩
   ·cases e
  next q=>
   obtain⟨w,e1,r⟩:=rs.at' k _ q
   rw[h']at e1;cases e1
   generalize F k=A at r
   cases r with
   |d r=>
    obtain⟨a,vs,rfl,e1,_,r⟩:=Rep.lst_inv r
    obtain⟨w,ew,rw'⟩:=V9 r e
    exact⟨a,vs,w,rfl,.inl (SqL.of e1),ew,rw'⟩
  ·cases e
 ·cases e
noncomputable def fIx(fa fb:EM FV):EM FV:=λΓ=>(fa Γ).bind λ(u,Γ1)=>(fb Γ1).bind λ(w,Γ2)=>match derf Γ2 w with
 |some (.int i)=>match itemF Γ2 u i with
  |some x=>.ok (.dat x,Γ2)
  |none=>.bad
 |_=>.bad
theorem zjO(ha:SE X XP mp a fa)(hb:SE X XP mp b fb)(hx:Wl b):SE X XP mp (.Subscript a b pos) (fIx fa fb):=λM0 F Γ ν σ H Q rs hs hp=>
 (zcZ (ix_list.or zhE) zc zc hx).wp (ha.run rs hs hp λF1 Γ1 H1 u v rs1 s1 o1 h1=>hb.run rs1 hs h1 λF2 Γ2 H2 w v2 rs2 s2 o2 h2=>by
  dsimp only at h2
  split at h2
  next i e1=>
   split at h2
   next x e2=>
    obtain⟨l,vs,z,rfl,hq,ez,rz⟩:=(o1.stp s2 rs1.al0).item rs2 e2
    cases o2.weak rs2 e1
    rcases hq with hq | hq
    ·exact .inl ⟨l,vs,i,z,rfl,rfl,hq,ez,h2 F2 H2 rs2 (.refl _ _) z rz⟩
    ·exact .inr ⟨l,vs,i,z,rfl,rfl,hq,ez,h2 F2 H2 rs2 (.refl _ _) z rz⟩
   ·exact h2.elim
  ·exact h2.elim)
noncomputable def kA{α:Type}(xs:List α)(lo hi:Option Int):List α:=(xs.drop (HT.sIx xs.length 0 lo)).take (HT.sIx xs.length xs.length hi-HT.sIx xs.length 0 lo)
theorem zde(r:RepL M H vs ds)(lo hi:Option Int):RepL M H (we vs lo hi) (kA ds lo hi):=by
 unfold we kA
 rw[r.length]
 exact (r.drop _).take _
def SOp(X:Cx)(XP:XPT)(mp:Ac)(e:Option Expr)(f:EM (Option Int)):Prop:=∃ t:TO,PO X e t/\∀(M0:Ae)(F:Fp)(Γ:Gv)(ν:Nu)(σ:St)(H:Hp)(Q:Option Int->Hp->Prop),RS M0 F Γ ν H->Sees mp ν σ ->
 EPost M0 F ν σ H XP (λF' Γ' H' b=>Q b H') (f Γ)->t σ H Q
noncomputable def zhu:EM (Option Int):=λΓ=>.ok (none,Γ)
noncomputable def zht(fa:EM FV):EM (Option Int):=λΓ=>(fa Γ).bind λ(u,Γ1)=>match derf Γ1 u with
 |some (.int i)=>.ok (some i,Γ1)
 |_=>.bad
theorem zf0:SOp X XP mp none zhu:=⟨_,yI,λM0 F Γ ν σ H Q rs hs hp=>hp F H rs (.refl _ _)⟩
theorem zf1(ha:SE X XP mp a fa):SOp X XP mp (some a) (zht fa):=⟨_,yJ zc,λM0 F Γ ν σ H Q rs hs hp=>ha.run rs hs hp λF1 Γ1 H1 u v rs1 s1 o1 h1=>by
 dsimp only at h1
 split at h1
 next i e1=>
  cases o1.weak rs1 e1
  exact⟨i,rfl,h1 F1 H1 rs1 (.refl _ _)⟩
 ·exact h1.elim⟩
noncomputable def zeQ(fa fb:EM FV):EM (Aa):=λΓ=>(fa Γ).bind λ(u,Γ1)=>(fb Γ1).bind λ(w,Γ2)=>match derL Γ2 u,derL Γ2 w with
 |some xs,some ys=>if xs.length+ys.length<=1000000 then .ok (xs++ys,Γ2) else .bad
 |_,_=>.bad
theorem ziC(ha:SE X XP mp a fa)(hb:SE X XP mp b fb):SN X XP mp (.BinOp a .Add b pos) (zeQ fa fb):=λM0 F Γ ν σ H Q rs hs hp=>
 (vp zhS zc zc).wp (ha.run rs hs hp λF1 Γ1 H1 u v rs1 s1 o1 h1=>hb.run rs1 hs h1 λF2 Γ2 H2 w v2 rs2 s2 o2 h2=>by
  dsimp only at h2
  split at h2
  next xs ys e1 e2=>
   split at h2
   next hz=>
    obtain⟨l,vs,rfl,el,rl⟩:=(o1.stp s2 rs1.al0).list rs2 e1
    obtain⟨l2,vs2,rfl,el2,rl2⟩:=o2.list rs2 e2
    exact⟨l,l2,vs,vs2,rfl,rfl,el,el2,by rw[rl.length,rl2.length];exact sz6 hz,λp n=>h2 F2 H2 rs2 (.refl _ _) _ p (rl.append rl2) n⟩
   ·exact h2.elim
  ·exact h2.elim)
structure BiK(X:Cx)(x:Str)(val:Aj):Prop where
 gl:Gl X x
 mg:X.mg x=none
 bt:bootBuiltins x=some val
 n:x≠ "__name__"
 d:(↥x)
noncomputable def lenD:PyData->Option Nat
 |.list xs=>some xs.length
 |.tuple xs=>some xs.length
 |_=>none
noncomputable def f1(g:PyData->Option PyData)(fa:EM FV):EM FV:=λΓ=>(fa Γ).bind λ(u,Γ1)=>match (derf Γ1 u).bind g with
 |some y=>.ok (.dat y,Γ1)
 |none=>.bad
def wH(X:Cx)(f:Aj)(g:PyData->Option PyData):Prop:=∀ x z,g x=some z->noL z=true/\∃ r,qZ X f r/\∀(H:Hp)(v:V)(Q:VK),
 Rep zG H v x->(∀ w,Rep zG H w z->Q w H)->r [v] H Q
theorem y6(ho:wH X f g):qZ X f (λvs H Q=>∃ v x z,vs= [v]/\g x=some z/\Rep zG H v x/\∀ w,Rep zG H w z->Q w H):=by
 rintro pins s σ H xs us Q I r ⟨v,x,z,rfl,e,rv,k⟩
 obtain⟨_,r',hr,hh⟩:=ho x z e
 exact hr pins s σ H [v] us Q I r (hh H v Q rv k)
theorem zce{Q:VK}(hz:∀ x z,g x=some z->noL z=true)(ha:SE X XP mp a fa)(rs:RS M0 F Γ ν H)(hs:Sees mp ν σ)(hst:a⁻¹)
  (hp:EPost M0 F ν σ H XP (λF' Γ' H' u=>∀ v,FOk M0 F' ν H' v u->Q v H') (f1 g fa Γ)):wpA X [a] σ H λvs H1=>∃ v x z,vs= [v]/\g x=some z/\Rep zG H1 v x/\∀ w,Rep zG H1 w z->Q w H1 :=
 (zt zc pa_nil hst).wp (ha.run rs hs hp λF1 Γ1 H1 u v rs1 s1 o1 h1=>by
  dsimp only at h1
  split at h1
  next y ey=>
   cases ex:derf Γ1 u with
   |none=>rw[ex]at ey;cases ey
   |some x=>
    rw[ex]at ey
    exact⟨v,x,y,rfl,ey,o1.weak rs1 ex,λw rw'=>h1 F1 H1 rs1 (.refl _ _) w (Rep.free (hz x y ey) rw')⟩
  ·exact h1.elim)
theorem zac{id:String}(ho:wH X (.builtin id) g)(B:BiK X x (.builtin id))(ha:SE X XP mp a fa)(hst:a⁻¹):SE X XP mp (.Call (.Name x p) [a] [] pos) (f1 g fa):=λM0 F Γ ν σ H Q rs hs hp=>
 (Jj (y6 ho) B.gl B.mg B.bt jd B.n B.d hst rfl).wp (zce (λx z e=>(ho x z e).1) ha rs hs hst hp)
theorem zjQ{id:String}(ho:wH X (.type id) g)(B:BiK X x (.type id))(ha:SE X XP mp a fa)(hst:a⁻¹):SE X XP mp (.Call (.Name x p) [a] [] pos) (f1 g fa):=λM0 F Γ ν σ H Q rs hs hp=>
 (jS (y6 ho) B.gl B.mg B.bt jd B.n B.d hst rfl).wp (zce (λx z e=>(ho x z e).1) ha rs hs hst hp)
noncomputable def gLen(x:PyData):Option PyData:=(lenD x).map λn=>.int n
theorem zhk:wH X (.builtin "len") gLen:=λx z e=>by
 cases x with
 |list xs=>cases e;exact⟨rfl,_,j2,λH v Q r k=>by
   obtain⟨l,vs,rfl,el,_,rl⟩:=r.lst_inv
   exact⟨l,vs,rfl,.inl (SqL.of el),by rw[rl.length];exact k _ (.int _)⟩⟩
 |tuple xs=>cases e;exact⟨rfl,_,j2,λH v Q r k=>by
   obtain⟨l,vs,rfl,el,rl⟩:=r.tup_inv
   exact⟨l,vs,rfl,.inr (SqT.of el),by rw[rl.length];exact k _ (.int _)⟩⟩
 |_=>cases e
noncomputable def gInt:PyData->Option PyData
 |.int i=>some (.int i)
 |.bool b=>some (.int (if b then 1 else 0))
 |_=>none
theorem zhj:wH X (.type "int") gInt:=λx z e=>by
 cases x with
 |int i=>cases e;exact⟨rfl,_,Vp,λH v Q r k=>by cases r;exact .inl ⟨i,rfl,k _ (.int _)⟩⟩
 |bool b=>cases e;exact⟨rfl,_,Vp,λH v Q r k=>by cases r;exact .inr ⟨b,rfl,k _ (.int _)⟩⟩
 |_=>cases e
noncomputable def zL:Aa->Option (List Bool)
 |[]=>some []
 |.bool b::r=>(zL r).map (b::·)
 |_=>none
theorem jb(bs:List Bool):zL (bs.map .bool)=some bs:=by
 induction bs with
 |nil=>rfl
 |cons b r ih=>simp[zL,ih]
theorem Qr:∀{ds:Aa}{bs:List Bool},zL ds=some bs->ds=bs.map .bool
 |[],bs,e=>by cases e;rfl
 |.bool b::r,bs,e=>by
  unfold zL at e
  cases q:zL r with
  |none=>rw[q]at e;cases e
  |some l=>rw[q]at e;cases e;rw[Qr q];rfl
 |.none::r,bs,e=>by cases e
 |.int _::r,bs,e=>by cases e
 |.str _::r,bs,e=>by cases e
 |.list _::r,bs,e=>by cases e
 |.tuple _::r,bs,e=>by cases e
 |.dict _::r,bs,e=>by cases e
noncomputable def gAll:PyData->Option PyData
 |.list xs=>(zL xs).map λbs=>.bool (bs.all id)
 |_=>none
noncomputable def gAny:PyData->Option PyData
 |.list xs=>(zL xs).map λbs=>.bool (bs.any id)
 |_=>none
theorem zhh (hc:X.calm=true):wH X (.builtin "all") gAll:=λx z e=>by
 cases x with
 |list xs=>
  dsimp only [gAll]at e
  cases q:zL xs with
  |none=>rw[q]at e;cases e
  |some bs=>
   rw[q]at e;cases e
   exact⟨rfl,_,zaA hc,λH v Q r k=>by
    obtain⟨l,vs,rfl,el,_,rl⟩:=r.lst_inv
    rw[Qr q]at rl
    rw[rl.bls]at el
    exact⟨l,bs,rfl,SqL.of el,k _ (.bool _)⟩⟩
 |_=>cases e
theorem zhi (hc:X.calm=true):wH X (.builtin "any") gAny:=λx z e=>by
 cases x with
 |list xs=>
  dsimp only [gAny]at e
  cases q:zL xs with
  |none=>rw[q]at e;cases e
  |some bs=>
   rw[q]at e;cases e
   exact⟨rfl,_,zaB hc,λH v Q r k=>by
    obtain⟨l,vs,rfl,el,_,rl⟩:=r.lst_inv
    rw[Qr q]at rl
    rw[rl.bls]at el
    exact⟨l,bs,rfl,SqL.of el,k _ (.bool _)⟩⟩
 |_=>cases e
noncomputable def Wj(Γ:Gv)(u:FV):Option (Aa):=match u with
 |.dat (.tuple xs)=>some xs
 |u=>derL Γ u
theorem FOk.seq{K:Ah}(h:FOk M0 F ν H v u)(rs:RS M0 F Γ ν H)(e:Wj Γ u=some ds) :
  ∃ l vs,v=.ref l/\(SqL K H l vs∨SqT K H l vs)/\RepL (MM M0 F) H vs ds:=by
 unfold Wj at e
 split at e
 ·cases e
  obtain⟨a,vs,rfl,e1,r⟩:=Rep.tup_inv h
  exact⟨a,vs,rfl,.inr (SqT.of e1),r⟩
 ·obtain⟨a,vs,rfl,e1,r⟩:=h.list rs e
  exact⟨a,vs,rfl,.inl (SqL.of e1),r⟩
noncomputable def fListC(fa:EM FV):EM (Aa):=λΓ=>(fa Γ).bind λ(u,Γ1)=>match Wj Γ1 u with
 |some ds=>.ok (ds,Γ1)
 |none=>.bad
theorem zfV (B:BiK X x (.type "list")) (ha:SE X XP mp a fa) (hst:a⁻¹):SN X XP mp (.Call (.Name x p) [a] [] pos) (fListC fa):=λM0 F Γ ν σ H Q rs hs hp=>
 (jS Jc B.gl B.mg B.bt (zt zc pa_nil hst) B.n B.d hst rfl).wp (ha.run rs hs hp λF1 Γ1 H1 u v rs1 s1 o1 h1=>by
  dsimp only at h1
  split at h1
  next ds e=>
   obtain⟨l,vs,rfl,hq,r⟩:=o1.seq rs1 e
   exact⟨l,vs,rfl,hq,λp n=>h1 F1 H1 rs1 (.refl _ _) vs p r n⟩
  ·exact h1.elim)
noncomputable def fTupC(fa:EM FV):EM FV:=λΓ=>(fa Γ).bind λ(u,Γ1)=>match derL Γ1 u with
 |some ds=>.ok (.dat (.tuple ds),Γ1)
 |none=>.bad
theorem zdn (B:BiK X x (.type "tuple")) (ha:SE X XP mp a fa) (hst:a⁻¹):SE X XP mp (.Call (.Name x p) [a] [] pos) (fTupC fa):=λM0 F Γ ν σ H Q rs hs hp=>
 (jS vU B.gl B.mg B.bt (zt zc pa_nil hst) B.n B.d hst rfl).wp (ha.run rs hs hp λF1 Γ1 H1 u v rs1 s1 o1 h1=>by
  dsimp only at h1
  split at h1
  next ds e=>
   obtain⟨l,vs,rfl,el,r⟩:=o1.list rs1 e
   exact⟨l,vs,rfl,.inl ⟨SqL.of el,λp n=>h1 F1 _ (rs1.same (zr n)) (.same (zr n)) _ (Rep.tuple zg (r.grow (zr n).grow))⟩⟩
  ·exact h1.elim)
noncomputable def isiB (a T:String):Option Bool:=if (T= "int" ∨T= "bool" ∨T= "list" ∨T= "tuple" ∨T= "str")/\¬ a= "dict" then some (a==T||(a== "bool" &&T== "int")) else none
theorem zhB{K:Ah}(h:isiB (tyD x) T=some k):PySem.W.kitOne K (.type (tyD x)) (.type T)=some k:=by
 unfold isiB at h
 split at h
 next hT=>
  cases h
  rcases hT.1 with rfl | rfl | rfl | rfl | rfl<;>cases x<;>kernel_rfl
 ·cases h
theorem zhA (h:isiB (tyD x) T=some k):tyD x≠ "dict" :=by
 unfold isiB at h
 split at h
 ·rename_i hT;exact hT.2
 ·cases h
noncomputable def fIsi(T:String)(fa:EM FV):EM FV:=λΓ=>(fa Γ).bind λ(u,Γ1)=>match (derf Γ1 u).bind λx=>isiB (tyD x) T with
 |some k=>.ok (.dat (.bool k),Γ1)
 |none=>.bad
theorem vH (B:BiK X x (.builtin "isinstance")) (BT:BiK X y (.type T)) (ha:SE X XP mp a fa) (hst:starEach [a,.Name y p2] X.env=(false,eval a X.env)::starEach [.Name y p2] X.env) :
  SE X XP mp (.Call (.Name x p) [a,.Name y p2] [] pos) (fIsi T fa):=λM0 F Γ ν σ H Q rs hs hp=>
 (Jj zbY B.gl B.mg B.bt (zt zc (zt (zfg (v:=.ty T) BT.gl BT.mg BT.bt rfl BT.n BT.d) pa_nil rfl) hst) B.n B.d hst rfl).wp (ha.run rs hs hp λF1 Γ1 H1 u v rs1 s1 o1 h1=>by
  dsimp only at h1
  split at h1
  next k ek=>
   cases ex:derf Γ1 u with
   |none=>rw[ex]at ek;cases ek
   |some z=>
    rw[ex]at ek
    exact⟨v,T,_,k,rfl,(o1.weak rs1 ex).ty (zhA ek),zhB ek,h1 F1 H1 rs1 (.refl _ _) _ (Rep.bool k)⟩
  ·exact h1.elim)
open Classical in
noncomputable def binD(op:Operator)(x y:PyData):Option PyData:=match op with
 |.Add=>match x,y with
  |.int i,.int j=>some (.int (i+j))
  |.tuple a,.tuple b=>if a.length+b.length<=1000000 then some (.tuple (a++b)) else none
  |_,_=>none
 |.Sub=>match x,y with
  |.int i,.int j=>some (.int (i-j))
  |_,_=>none
 |.Mult=>match x,y with
  |.int i,.int j=>if (-(2 ^ 64)<i/\i<2 ^ 64)∨(-(2 ^ 64)<j/\j<2 ^ 64) then some (.int (i*j)) else none
  |.tuple a,.int n=>if 0<=n/\n<1000000/\a.length*n.toNat<=1000000 then some (.tuple (List.replicate n.toNat a).flatten) else none
  |_,_=>none
 |.Mod=>match x,y with
  |.int i,.int j=>if 0<j then some (.int (i % j)) else none
  |_,_=>none
 |.FloorDiv=>match x,y with
  |.int i,.int j=>if 0<j/\j<1073741824 then some (.int (i / j)) else none
  |_,_=>none
 |.Pow=>match x,y with
  |.int i,.int j=>if 0<=j/\j<=1000000/\i.natAbs<2 ^ 64 then some (.int (i ^ j.toNat)) else none
  |_,_=>none
 |.LShift=>match x,y with
  |.int i,.int j=>if 0<=j/\j<=1000000/\i.natAbs<2 ^ 64 then some (.int (i*2 ^ j.toNat)) else none
  |_,_=>none
 |.RShift=>match x,y with
  |.int i,.int j=>if 0<=j then some (.int (i / 2 ^ j.toNat)) else none
  |_,_=>none
 |.BitAnd=>match x,y with
  |.int i,.int j=>some (.int (Builtin.bitAnd i j))
  |_,_=>none
 |_=>none
theorem QD{x y z:PyData}{f:Int->Int->Option PyData}(e:(match x,y with
  |.int i,.int j=>f i j
  |_,_=>none)=some z):∃ i j,x=.int i/\y=.int j/\f i j=some z:=by
 split at e
 ·exact⟨_,_,rfl,rfl,e⟩
 ·cases e
theorem qw{α:Type}{c:Prop}{_:Decidable c}{x z:α}(e:(if c then some x else none)=some z):c/\x=z:=by
 split at e
 ·exact⟨‹_›,Option.some.inj e⟩
 ·cases e
theorem zeW{op:Operator}{x y z:PyData}{i j k:Int}{C:Int->Int->Prop}{f:Int->Int->Int}(hc:C i j)(ho:OpR X (binaryOp op) (rI C λi j=>.int (f i j))) :
  ∃ r:R2,OpR X (binaryOp op) r/\∀(M:Ae)(H:Hp)(v u:V)(Q:VK),Al M H->Rep M H v (.int i)->Rep M H u (.int j)->(∀ w H',Same H H'->Rep M H' w (.int (f i j))->Q w H')->r v u H Q :=
 ⟨_,ho,λM H v u Q _ r1 r2 k=>by cases r1;cases r2;exact⟨i,j,rfl,rfl,hc,k _ H (Same.refl H) (.int _)⟩⟩
theorem W8{op:Operator}{i j:Int}{f:Int->Int->Int}(ho:OpR X (binaryOp op) (rI0 λi j=>.int (f i j))) :
  ∃ r:R2,OpR X (binaryOp op) r/\∀(M:Ae)(H:Hp)(v u:V)(Q:VK),Al M H->Rep M H v (.int i)->Rep M H u (.int j)->(∀ w H',Same H H'->Rep M H' w (.int (f i j))->Q w H')->r v u H Q :=
 ⟨_,ho,λM H v u Q _ r1 r2 k=>by cases r1;cases r2;exact⟨i,j,rfl,rfl,k _ H (Same.refl H) (.int _)⟩⟩
theorem zg4(op:Operator):OpS X (binaryOp op) (binD op):=λx y z e=>by
 have ii:∀{f:Int->Int->Int}{C:Int->Int->Prop}(_:OpR X (binaryOp op) (rI C λi j=>.int (f i j))),(∃ i j,x=.int i/\y=.int j/\C i j/\PyData.int (f i j)=z)->∃ r:R2,OpR X (binaryOp op) r/\∀(M:Ae)(H:Hp)(v u:V)(Q:VK),Al M H->Rep M H v x->Rep M H u y->(∀ w H',Same H H'->Rep M H' w z->Q w H')->r v u H Q:=λho ⟨i,j,e1,e2,h,e3⟩=>by
  subst e1 e2 e3
  exact zeW (x:=.none) (y:=.none) (z:=.none) (k:=0) h ho
 cases op with
 |Add=>
  dsimp only [binD]at e
  split at e
  ·cases e;exact W8 Kb
  ·obtain⟨h,rfl⟩:=qw e
   exact⟨_,zcM,λM H v u Q _ q1 q2 k=>by
    obtain⟨l,vs,rfl,e,r⟩:=q1.tup_inv
    obtain⟨l2,vs2,rfl,e2,r2⟩:=q2.tup_inv
    refine⟨l,l2,vs,vs2,rfl,rfl,SqT.of e,SqT.of e2,by rw[r.length,r2.length];exact sz6 h,λz=>k _ H (Same.refl H) ?_,λz=>k _ H (Same.refl H) ?_,λp np=>k _ _ (zr np) (.tuple zg ((r.append r2).grow (zr np).grow))⟩
    ·subst z
     cases r
     exact q2
    ·subst z
     cases r2
     rw[xR];exact q1⟩
  ·cases e
 |Sub=>
  obtain⟨i,j,rfl,rfl,e⟩:=QD e
  cases e;exact W8 zhZ
 |Mult=>
  dsimp only [binD]at e
  split at e
  ·exact ii zcP ⟨_,_,rfl,rfl,(qw e :)⟩
  next n=>
   obtain⟨h,rfl⟩:=qw e
   exact⟨_,zff,λM H v u Q _ q1 q2 k=>by
    obtain⟨l,vs,rfl,e,r⟩:=q1.tup_inv
    cases q2
    refine⟨l,_,vs,rfl,rfl,SqT.of e,by omega,by omega,by rw[r.length];exact sz6 h.2.2,λhs=>k _ H (Same.refl H) ?_,λp np=>k _ _ (zr np) (.tuple zg ((r.rep _).grow (zr np).grow))⟩
    rcases hs with z | z
    ·subst z
     cases r
     have:(List.replicate n.toNat ([]:Aa)).flatten= []:=by simp
     rw[this];exact q1
    ·subst z
     have key:∀ l:Aa,(List.replicate (1:Int).toNat l).flatten=l:=λl=>by simp
     rw[key];exact q1⟩
  ·cases e
 |Mod=>exact ii zcO (let ⟨i,j,a,b,e⟩:=QD e;⟨i,j,a,b,(qw e :)⟩)
 |FloorDiv=>exact ii zfc (let ⟨i,j,a,b,e⟩:=QD e;⟨i,j,a,b,(qw e :)⟩)
 |Pow=>exact ii zhV (let ⟨i,j,a,b,e⟩:=QD e;⟨i,j,a,b,(qw e :)⟩)
 |LShift=>exact ii zhW (let ⟨i,j,a,b,e⟩:=QD e;⟨i,j,a,b,(qw e :)⟩)
 |RShift=>exact ii zhX (let ⟨i,j,a,b,e⟩:=QD e;⟨i,j,a,b,(qw e :)⟩)
 |BitAnd=>
  obtain⟨i,j,rfl,rfl,e⟩:=QD e
  cases e;exact W8 zhR
 |_=>cases e
noncomputable def lay:Nat->PyData->Bool
 |_,.none=>true
 |_,.bool _=>true
 |_,.int _=>true
 |_,.str x=>PyData.strOk x
 |n+1,.list xs=>xs.all (lay n)
 |n+1,.tuple xs=>xs.all (lay n)
 |_,_=>false
theorem j5(ih:∀ d,lay n d=true->d.canLay0=true/\d.depth<=n):∀ xs:Aa,xs.all (lay n)=true->PyData.canLayAll0 xs=true/\PyData.depthAll xs<=n
 |[],_=>⟨rfl,ug _⟩
 |x::r,h=>by
  rw[ur,xa]at h
  obtain⟨a,b⟩:=ih x h.1
  obtain⟨c,d⟩:=j5 ih r h.2
  exact⟨by simp[PyData.canLayAll0,a,c],by simp only[PyData.depthAll];omega⟩
theorem qf:∀(n:Nat)(d:PyData),lay n d=true->d.canLay0=true/\d.depth<=n
 |n,.none,_=>⟨rfl,ug _⟩
 |n,.bool _,_=>⟨rfl,ug _⟩
 |n,.int _,_=>⟨rfl,ug _⟩
 |n,.str _,h=>⟨by simpa [PyData.canLay0,lay] using h,ug _⟩
 |n+1,.list xs,h=>by
  obtain⟨a,b⟩:=j5 (qf n) xs (by simpa [lay] using h)
  exact⟨by simpa [PyData.canLay0] using a,by simp only[PyData.depth];omega⟩
 |n+1,.tuple xs,h=>by
  obtain⟨a,b⟩:=j5 (qf n) xs (by simpa [lay] using h)
  exact⟨by simpa [PyData.canLay0] using a,by simp only[PyData.depth];omega⟩
 |0,.list _,h=>by simp[lay]at h
 |0,.tuple _,h=>by simp[lay]at h
 |0,.dict _,h=>by simp[lay]at h
 |n+1,.dict _,h=>by simp[lay]at h
noncomputable def isN:PyData->Bool
 |.none=>true
 |_=>false
noncomputable def inD(x:PyData)(ys:Aa):Bool:=ys.any λy=>PyData.eqv y x
noncomputable def cmpD(op:CmpOp)(x y:PyData):Option Bool:=match op with
 |.Eq=>if lay 20 x&&lay 20 y then some (PyData.eqv x y) else none
 |.NotEq=>if lay 20 x&&lay 20 y then some (!PyData.eqv x y) else none
 |.Lt=>match x,y with
  |.int i,.int j=>some (decide (i<j))
  |_,_=>none
 |.LtE=>match x,y with
  |.int i,.int j=>some (decide (i<=j))
  |_,_=>none
 |.Gt=>match x,y with
  |.int i,.int j=>some (decide (j<i))
  |_,_=>none
 |.GtE=>match x,y with
  |.int i,.int j=>some (decide (j<=i))
  |_,_=>none
 |.In=>match y with
  |.list ys=>if lay 20 x&&ys.all (lay 20) then some (inD x ys) else none
  |.tuple ys=>if lay 20 x&&ys.all (lay 20) then some (inD x ys) else none
  |_=>none
 |.NotIn=>match y with
  |.list ys=>if lay 20 x&&ys.all (lay 20) then some (!inD x ys) else none
  |.tuple ys=>if lay 20 x&&ys.all (lay 20) then some (!inD x ys) else none
  |_=>none
 |.Is=>match y with
  |.none=>some (isN x)
  |_=>none
 |.IsNot=>match y with
  |.none=>some (!isN x)
  |_=>none
end
section
variable {X:Cx}
open Classical in
/-- is the value w equal to the data? -/
noncomputable def eqW(h:Heap)(dx:PyData)(w:Aj):Bool:=if ∃ d as,Reads h w d as/\d.canLay0=true/\PyData.eqv d dx=true then true else false
theorem zcd(r:Reads h w d as)(hl:d.canLay0=true):eqW h dx w=PyData.eqv d dx:=by
 unfold eqW
 cases e:PyData.eqv d dx with
 |true=>rw[if_pos ⟨d,as,r,hl,e⟩]
 |false=>
  rw[if_neg]
  rintro⟨d',as',r',hl',e'⟩
  have:=SeqAt.Reads.unique d d' w as as' hl r r'
  rw[<- this,e]at e';cases e'
theorem Q9:∀{us:An}{ys:Aa}{as:List Ap},ReadsAll h us ys as->ys.all (lay 20)=true->us.any (eqW h dx)=inD dx ys
 |_,_,_,.nil,_=>rfl
 |_,_,_,.cons r t,hl=>by
  rw[ur,xa]at hl
  unfold inD
  rw[xY,xY,zcd r (qf 20 _ hl.1).1,Q9 t hl.2];rfl
theorem Jg(rx:Reads s.heap v dx bs)(hx:lay 20 dx=true)(hu:∀ n,n<=60->A.units+n<cLine):∀{us:An}{ys:Aa}{as:List Ap},ReadsAll s.heap us ys as->ys.all (lay 20)=true->∀ u∈us,SeqAt.EqAt A s u v (eqW s.heap dx u)
 |_,_,_,.nil,_=>λu hu=>by cases hu
 |_,_,_,.cons r t,hl=>λu' hu'=>by
  rw[ur,xa]at hl
  rcases xC.mp hu' with rfl | hu'
  ·rw[zcd r (qf 20 _ hl.1).1]
   have h1:=qf 20 _ hl.1
   have h2:=qf 20 _ hx
   exact SeqAt.eqAt_reads _ _ _ _ _ _ _ _ r rx h1.1 h2.1 (hu _ (xJ (Nat.min_le_left _ _) (by omega)))
  ·exact Jg rx hx hu t hl.2 u' hu'
noncomputable def zjE(K:Ah)(neg:Bool):R2:=λx y H Q=>∃ M M' dx ys p vs,Rep M H x dx/\y=.ref p/\(SqL K H p vs∨SqT K H p vs)/\RepL M' H vs ys/\lay 20 dx=true/\ys.all (lay 20)=true/\Q (.bl (if neg then !inD dx ys else inD dx ys)) H
theorem zcN(hr:Room 1 X.A):OpR X (compareOp .In) (zjE X.K false):=by
 intro pins s σ H x y v u Q I rx ry h
 obtain⟨M,M',dx,ys,p,vs,r1,rfl,hq,r2,l1,l2,q⟩:=h
 cases ry
 obtain⟨bs,z1⟩:=r1.reads I.hok (qf 20 _ l1).1 rx
 have hu:=(hr.in1).u60
 rcases hq with hq | hq
 ·obtain⟨its,r,pl,hz⟩:=I.list hq
  obtain⟨as,z2⟩:=r2.reads I.hok (j5 (qf 20) _ l2).1 r
  refine SeqAt.in_listAt (eqW s.heap dx) pl.isList (λw hw=>Jg z1 l1 hu z2 l2 w (by simpa using hw)) ⟨.bl _,H,I,rfl,?_⟩
  rw[show its.toArray.any (eqW s.heap dx)=its.any (eqW s.heap dx) by simp,Q9 z2 l2]
  exact q
 ·obtain⟨its,r,pl,hz⟩:=I.tuple hq
  obtain⟨as,z2⟩:=r2.reads I.hok (j5 (qf 20) _ l2).1 r
  refine SeqAt.in_tupleAt (eqW s.heap dx) pl (λw hw=>Jg z1 l1 hu z2 l2 w (by simpa using hw)) ⟨.bl _,H,I,rfl,?_⟩
  rw[show its.toArray.any (eqW s.heap dx)=its.any (eqW s.heap dx) by simp,Q9 z2 l2]
  exact q
theorem VO(hr:Room 1 X.A):OpR X (compareOp .NotIn) (zjE X.K true):=by
 intro pins s σ H x y v u Q I rx ry h
 obtain⟨M,M',dx,ys,p,vs,r1,rfl,hq,r2,l1,l2,q⟩:=h
 cases ry
 obtain⟨bs,z1⟩:=r1.reads I.hok (qf 20 _ l1).1 rx
 have hu:=(hr.in1).u60
 rcases hq with hq | hq
 ·obtain⟨its,r,pl,hz⟩:=I.list hq
  obtain⟨as,z2⟩:=r2.reads I.hok (j5 (qf 20) _ l2).1 r
  refine SeqAt.notIn_listAt (eqW s.heap dx) pl.isList (λw hw=>Jg z1 l1 hu z2 l2 w (by simpa using hw)) ⟨.bl _,H,I,rfl,?_⟩
  rw[show its.toArray.any (eqW s.heap dx)=its.any (eqW s.heap dx) by simp,Q9 z2 l2]
  exact q
 ·obtain⟨its,r,pl,hz⟩:=I.tuple hq
  obtain⟨as,z2⟩:=r2.reads I.hok (j5 (qf 20) _ l2).1 r
  refine SeqAt.notIn_tupleAt (eqW s.heap dx) pl (λw hw=>Jg z1 l1 hu z2 l2 w (by simpa using hw)) ⟨.bl _,H,I,rfl,?_⟩
  rw[show its.toArray.any (eqW s.heap dx)=its.any (eqW s.heap dx) by simp,Q9 z2 l2]
  exact q
theorem vE(r:Rep M H v x):decide (v=.non)=isN x:=by
 cases r<;>rfl
theorem wd(hr:Room 1 X.A)(op:CmpOp):Wv X op (cmpD op):=λx y z e=>by
 have h60:=hr.u60
 have ly:∀{w},(if lay 20 x&&lay 20 y then some w else none)=some z->x.canLay0=true/\y.canLay0=true/\min x.depth y.depth<=60/\w=z:=λe=>by
  obtain⟨h,e⟩:=qw e
  rw[xa]at h
  have h1:=qf 20 _ h.1
  exact⟨h1.1,(qf 20 _ h.2).1,xJ (Nat.min_le_left _ _) (by omega),e⟩
 cases op with
 |Eq=>
  obtain⟨h1,h2,h3,rfl⟩:=ly e
  exact⟨_,za4 h60,λH v u Q r1 r2 k=>⟨_,_,_,_,r1,r2,h1,h2,h3,k⟩⟩
 |NotEq=>
  obtain⟨h1,h2,h3,rfl⟩:=ly e
  exact⟨_,za5 h60,λH v u Q r1 r2 k=>⟨_,_,_,_,r1,r2,h1,h2,h3,k⟩⟩
 |Lt=>
  dsimp only [cmpD]at e
  split at e
  ·cases e;exact⟨_,zjy,λH v u Q r1 r2 k=>by cases r1;cases r2;exact⟨_,_,rfl,rfl,k⟩⟩
  ·cases e
 |LtE=>
  dsimp only [cmpD]at e
  split at e
  ·cases e;exact⟨_,zjx,λH v u Q r1 r2 k=>by cases r1;cases r2;exact⟨_,_,rfl,rfl,k⟩⟩
  ·cases e
 |Gt=>
  dsimp only [cmpD]at e
  split at e
  ·cases e;exact⟨_,zjw,λH v u Q r1 r2 k=>by cases r1;cases r2;exact⟨_,_,rfl,rfl,k⟩⟩
  ·cases e
 |GtE=>
  dsimp only [cmpD]at e
  split at e
  ·cases e;exact⟨_,zjv,λH v u Q r1 r2 k=>by cases r1;cases r2;exact⟨_,_,rfl,rfl,k⟩⟩
  ·cases e
 |In=>
  dsimp only [cmpD]at e
  split at e
  ·obtain⟨h,rfl⟩:=qw e
   rw[xa]at h
   exact⟨_,zcN hr,λH v u Q r1 r2 k=>by
    obtain⟨l,vs,rfl,el,_,rl⟩:=r2.lst_inv
    exact⟨_,_,_,_,l,vs,r1,rfl,.inl (SqL.of el),rl,h.1,h.2,k⟩⟩
  ·obtain⟨h,rfl⟩:=qw e
   rw[xa]at h
   exact⟨_,zcN hr,λH v u Q r1 r2 k=>by
    obtain⟨l,vs,rfl,el,rl⟩:=r2.tup_inv
    exact⟨_,_,_,_,l,vs,r1,rfl,.inr (SqT.of el),rl,h.1,h.2,k⟩⟩
  ·cases e
 |NotIn=>
  dsimp only [cmpD]at e
  split at e
  ·obtain⟨h,rfl⟩:=qw e
   rw[xa]at h
   exact⟨_,VO hr,λH v u Q r1 r2 k=>by
    obtain⟨l,vs,rfl,el,_,rl⟩:=r2.lst_inv
    exact⟨_,_,_,_,l,vs,r1,rfl,.inl (SqL.of el),rl,h.1,h.2,k⟩⟩
  ·obtain⟨h,rfl⟩:=qw e
   rw[xa]at h
   exact⟨_,VO hr,λH v u Q r1 r2 k=>by
    obtain⟨l,vs,rfl,el,rl⟩:=r2.tup_inv
    exact⟨_,_,_,_,l,vs,r1,rfl,.inr (SqT.of el),rl,h.1,h.2,k⟩⟩
  ·cases e
 |Is=>
  dsimp only [cmpD]at e
  split at e
  ·cases e
   exact⟨_,zhU,λH v u Q r1 r2 k=>by cases r2;exact⟨rfl,by rw[vE r1];exact k⟩⟩
  ·cases e
 |IsNot=>
  dsimp only [cmpD]at e
  split at e
  ·cases e
   exact⟨_,zfe,λH v u Q r1 r2 k=>by
    cases r2
    refine⟨rfl,?_⟩
    rw[vE r1];exact k⟩
  ·cases e
end
mutual
inductive IT where
 |nm (s i:Nat)
 |tp (ts:ITs)
inductive ITs where
 |nil
 |cons (t:IT) (ts:ITs)
end
mutual
/-- what a store makes of the frame -/
noncomputable def tgF:IT->PyData->Gv->Option Gv
 |.nm _ i,x,Γ=>if i<Γ.length then some (Γ.set i (@&x)) else none
 |.tp ts,.tuple xs,Γ=>tgFs ts xs Γ
 |.tp ts,.list xs,Γ=>tgFs ts xs Γ
 |_,_,_=>none
noncomputable def tgFs:ITs->Aa->Gv->Option Gv
 |.nil,[],Γ=>some Γ
 |.cons t ts,x::xs,Γ=>(tgF t x Γ).bind λΓ=>tgFs ts xs Γ
 |_,_,_=>none
end
noncomputable def ITs.len:ITs->Nat
 |.nil=>0
 |.cons _ ts=>ts.len+1
theorem vN:∀{ts:ITs}{ds:Aa}{Γ Γ':Gv},tgFs ts ds Γ=some Γ'->ds.length=ts.len
 |.nil,[],_,_,_=>rfl
 |.nil,_::_,_,_,e=>by simp[tgFs]at e
 |.cons t ts,[],_,_,e=>by simp[tgFs]at e
 |.cons t ts,d::ds,Γ,Γ',e=>by
  rw[tgFs]at e
  cases q:tgF t d Γ with
  |none=>rw[q]at e;cases e
  |some Γ1=>rw[q]at e;rw[xr,vN e];rfl
theorem Kq(t:IT):∀(d:PyData)(Γ Γ':Gv),tgF t d Γ=some Γ'->Γ'.length=Γ.length:=by
 refine IT.rec (motive_1:=λt=>∀(d:PyData)(Γ Γ':Gv),tgF t d Γ=some Γ'->Γ'.length=Γ.length) (motive_2:=λts=>∀(ds:Aa)(Γ Γ':Gv),tgFs ts ds Γ=some Γ'->Γ'.length=Γ.length) ?_ ?_ ?_ ?_ t
 ·intro s i d Γ Γ' e
  rw[tgF]at e
  split at e
  ·cases e;simp
  ·cases e
 ·intro ts ih d Γ Γ' e
  cases d with
  |tuple xs=>rw[tgF]at e;exact ih _ _ _ e
  |list xs=>rw[tgF]at e;exact ih _ _ _ e
  |_=>simp[tgF]at e
 ·intro ds Γ Γ' e
  cases ds with
  |nil=>simp[tgFs]at e;rw[e]
  |cons=>simp[tgFs]at e
 ·intro t ts ih1 ih2 ds Γ Γ' e
  cases ds with
  |nil=>simp[tgFs]at e
  |cons d ds=>
   rw[tgFs]at e
   cases q:tgF t d Γ with
   |none=>rw[q]at e;cases e
   |some Γ1=>rw[q]at e;rw[ih2 _ _ _ e,ih1 _ _ _ q]
def SG(X:Cx)(mp:Ac)(kp:Nat->Prop)(tg:Expr)(t:IT):Prop:=∀(M0:Ae)(F:Fp)(Γ Γ':Gv)(ν:Nu)(σ:St)(H:Hp)(v:V)(d:PyData)(Q:St->Hp->Prop),RS M0 F Γ ν H->Sees mp ν σ->σ.length=X.N.length->Rep (MM M0 F) H v d ->
 tgF t d Γ=some Γ'->(∀ F' ν' σ',RS M0 F' Γ' ν' H->Stp F H F' H->Sees mp ν' σ'->σ'.length=X.N.length->(∀ i:Nat,kp i->ν'[i]?=ν[i]?)->(∀ s i:Nat,mp[s]?=some i->kp i->σ'[s]?=σ[s]?)->Q σ' H)->wpG X tg v σ H Q
def SGs(X:Cx)(mp:Ac)(kp:Nat->Prop)(tgs:Ag)(ts:ITs):Prop:=∀(M0:Ae)(F:Fp)(Γ Γ':Gv)(ν:Nu)(σ:St)(H:Hp)(vs:List V)(ds:Aa)(Q:St->Hp->Prop),RS M0 F Γ ν H->Sees mp ν σ->σ.length=X.N.length->RepL (MM M0 F) H vs ds ->
 tgFs ts ds Γ=some Γ'->(∀ F' ν' σ',RS M0 F' Γ' ν' H->Stp F H F' H->Sees mp ν' σ'->σ'.length=X.N.length->(∀ i:Nat,kp i->ν'[i]?=ν[i]?)->(∀ s i:Nat,mp[s]?=some i->kp i->σ'[s]?=σ[s]?)->Q σ' H)->zi4 X tgs vs σ H Q
section
variable {X:Cx}{mp:Ac}{kp:Nat->Prop}{tg:Expr}{tgs:Ag}{t:IT}{ts:ITs}{pos:Pos}
theorem Sees.set(h:Sees mp ν σ)(hn:mp.Nodup)(hm:mp[s]?=some i)(hs:s<σ.length):Sees mp (ν.set i (some v)) (σ.set s (some v)):=λs' j w e1 e2=>by
 by_cases hj:i=j
 ·subst hj
  have:s'=s:=by
   have h1:=(xb.mp e1).1
   have h2:=(xb.mp hm).1
   exact (List.getElem?_inj h1 hn).mp (by rw[e1,hm])
  subst this
  rw[xj hs]
  by_cases hl:i<ν.length
  ·rw[xj hl]at e2;rw[e2]
  ·rw[xD (by simpa using hl)]at e2;cases e2
 ·rw[xh hj]at e2
  have:s'≠s:=λz=>hj (by subst z;rw[hm]at e1;exact Option.some.inj e1)
  rw[xh (Ne.symm this)]
  exact h s' j w e1 e2
theorem zfO(hN:X.N.Nodup)(hn:mp.Nodup)(hi:X.N[s]?=some x)(hm:mp[s]?=some i)(hlo:¬ kp i)(hx:Loc X.env.scope x)(hf:X.fn x=true∨X.env.scope.names.lookup x=some .local):SG X mp kp (.Name x pos) (.nm s i) :=
 λM0 F Γ Γ' ν σ H v d Q rs hs hl r e k=>by
  rw[tgF]at e
  split at e
  next hi'=>
   cases e
   have hsl:s<σ.length:=by rw[hl];exact (xb.mp hi).1
   obtain⟨F',rs',s'⟩:=rs.setD r hi'
   refine (K5 hN hi hx hf).wp (k F' _ _ rs' s' (hs.set hn hm hsl) (by simpa using hl) (λj hj=>?_) (λs2 j e2 hj=>?_))
   ·rw[xh (λz=>hlo (by rw[z];exact hj))]
   ·rw[xh]
    intro z
    subst z
    rw[hm]at e2
    cases e2
    exact hlo hj
  ·cases e
theorem zfP:SGs X mp kp [] .nil:=λM0 F Γ Γ' ν σ H vs ds Q rs hs hl r e k=>by
 cases r with
 |nil=>
  simp[tgFs]at e
  subst e
  exact pgs_nil.wp ⟨rfl,k F ν σ rs (.refl _ _) hs hl (λ_ _=>rfl) (λ_ _ _ _=>rfl)⟩
 |cons r rr=>simp[tgFs]at e
theorem zdq(h1:SG X mp kp tg t)(h2:SGs X mp kp tgs ts)(hst:(assignEach (tg::tgs) X.env).map (·.2)=assign tg X.env::(assignEach tgs X.env).map (·.2)):SGs X mp kp (tg::tgs) (.cons t ts):=λM0 F Γ Γ' ν σ H vs ds Q rs hs hl r e k=>by
 cases r with
 |nil=>simp[tgFs]at e
 |cons r rr=>
  rename_i v vs d ds
  rw[tgFs]at e
  cases e1:tgF t d Γ with
  |none=>rw[e1]at e;cases e
  |some Γ1=>
   rw[e1]at e
   refine (zc4 yG vt hst).wp ⟨v,vs,rfl,h1 M0 F Γ Γ1 ν σ H v d _ rs hs hl r e1 λF1 ν1 σ1 rs1 s1 hs1 hl1 n1 m1=>?_⟩
   exact h2 M0 F1 Γ1 Γ' ν1 σ1 H vs ds _ rs1 hs1 hl1 (vD s1 rs.al0 rr) e λF2 ν2 σ2 rs2 s2 hs2 hl2 n2 m2=>k F2 ν2 σ2 rs2 (s1.trans s2) hs2 hl2 (λi hi=>(n2 i hi).trans (n1 i hi)) (λs i e hi=>(m2 s i e hi).trans (m1 s i e hi))
theorem zix(hc:X.calm=true)(h:SGs X mp kp tgs ts)(hl:ts.len=(assignEach tgs X.env).length)(hst:(assignEach tgs X.env).findIdx? (·.1)=none):SG X mp kp (.Tuple tgs n pos) (.tp ts):=λM0 F Γ Γ' ν σ H v d Q rs hs hl' r e k=>by
 cases d with
 |tuple ds=>
  rw[tgF]at e
  obtain⟨a,vs,rfl,ea,rr⟩:=r.tup_inv
  exact (zh4 hc vt rfl hst).wp ⟨a,vs,rfl,SqT.of ea,by rw[rr.length,vN e,hl],h M0 F Γ Γ' ν σ H vs ds Q rs hs hl' rr e k⟩
 |list ds=>
  rw[tgF]at e
  obtain⟨a,vs,rfl,ea,_,rr⟩:=r.lst_inv
  exact (zfn hc vt rfl hst).wp ⟨a,vs,rfl,SqL.of ea,by rw[rr.length,vN e,hl],h M0 F Γ Γ' ν σ H vs ds Q rs hs hl' rr e k⟩
 |_=>simp[tgF]at e
end
def JI(M0:Ae)(F:Fp)(J:It)(ds:Aa)(H1:Hp):Prop:=∀(i:Nat)(F':Fp)(H':Hp),Stp F H1 F' H'->(∀ a,M0 a->H1 a≠none) ->
 (∀ d,ds[i]?=some d->J.go i H'/\∀ x H2,J.yld i H' x H2->Same H' H2/\Rep (MM M0 F') H2 x d)/\(ds.length<=i->J.stop i H')
def SI(X:Cx)(XP:XPT)(mp:Ac)(tg iter:Expr)(f:EM (Aa)):Prop:=∀(M0:Ae)(F:Fp)(Γ:Gv)(ν:Nu)(σ:St)(H:Hp)(R:It->Hp->Prop),RS M0 F Γ ν H->Sees mp ν σ ->
 EPost M0 F ν σ H XP (λF' Γ' H' ds=>∀ J,JI M0 F' J ds H'->R J H') (f Γ)->wpI X tg iter σ H R
section
variable {X:Cx}{XP:XPT}{mp:Ac}{a b c e tg iter:Expr}{ifs:Ag}{pos p:Pos}{fa:EM FV}{ta:EM Bool}
noncomputable def fSeqL(fa:EM FV):EM (Aa):=λΓ=>(fa Γ).bind λ(u,Γ1)=>match derS Γ1 u with
 |some (.list ds)=>.ok (ds,Γ1)
 |_=>.bad
noncomputable def fSeqT(fa:EM FV):EM (Aa):=λΓ=>(fa Γ).bind λ(u,Γ1)=>match derS Γ1 u with
 |some (.tuple ds)=>.ok (ds,Γ1)
 |_=>.bad
theorem zct{F:Fp}{K:Ah}{H1:Hp}{l:Ap}(e:H1 l=some (.lst vs))(n:∀ j,l∉F j)(r:RepL (MM M0 F) H1 vs ds):JI M0 F (Itl K l) ds H1:=λi F' H' s h0=>by
 have e':=(s.keep l _ e n).1
 refine⟨λd hd=>?_,λhl=>⟨vs,SqL.of e',by rw[r.length];exact hl⟩⟩
 obtain⟨v,hv,rv⟩:=r.get' hd
 exact⟨⟨vs,v,SqL.of e',hv⟩,λx H2 ⟨e2,y⟩=>by
  subst e2
  have:=y vs (SqL.of e')
  rw[hv]at this;cases this
  exact⟨Same.refl _,zn s h0 rv⟩⟩
theorem zeY{F:Fp}{K:Ah}{H1:Hp}{l:Ap}(e:H1 l=some (.lst vs))(n:¬ MM M0 F l)(r:RepL (MM M0 F) H1 vs ds):JI M0 F (Itl K l) ds H1:=zct e (λj hj=>n (.inr ⟨j,hj⟩)) r
theorem zhF{F:Fp}{K:Ah}{H1:Hp}{l:Ap}(e:H1 l=some (.tup vs))(r:RepL (MM M0 F) H1 vs ds):JI M0 F (Itt K l) ds H1:=λi F' H' s h0=>by
 have e':=s.tups l _ e
 refine⟨λd hd=>?_,λhl=>⟨vs,SqT.of e',by rw[r.length];exact hl⟩⟩
 obtain⟨v,hv,rv⟩:=r.get' hd
 exact⟨⟨vs,v,SqT.of e',hv⟩,λx H2 ⟨e2,y⟩=>by
  subst e2
  have:=y vs (SqT.of e')
  rw[hv]at this;cases this
  exact⟨Same.refl _,zn s h0 rv⟩⟩
theorem zfR(ha:SE X XP mp iter fa):SI X XP mp tg iter (fSeqL fa):=λM0 F Γ ν σ H R rs hs hp=>
 (K6 zc).wp (ha.run rs hs hp λF1 Γ1 H1 u v rs1 s1 o1 h1=>by
  dsimp only at h1
  split at h1
  next ds eu=>
   obtain⟨l,vs,rfl,e,n,r⟩:=(o1.strong rs1 eu).lst_inv
   exact⟨l,rfl,⟨vs,SqL.of e⟩,h1 F1 H1 rs1 (.refl _ _) _ (zeY e n r)⟩
  ·exact h1.elim)
theorem ziy(ha:SE X XP mp iter fa):SI X XP mp tg iter (fSeqT fa):=λM0 F Γ ν σ H R rs hs hp=>
 (zh5 zc).wp (ha.run rs hs hp λF1 Γ1 H1 u v rs1 s1 o1 h1=>by
  dsimp only at h1
  split at h1
  next ds eu=>
   obtain⟨l,vs,rfl,e,r⟩:=(o1.strong rs1 eu).tup_inv
   exact⟨l,rfl,⟨vs,SqT.of e⟩,h1 F1 H1 rs1 (.refl _ _) _ (zhF e r)⟩
  ·exact h1.elim)
noncomputable def fRange(fa:EM FV):EM (Aa):=λΓ=>(fa Γ).bind λ(u,Γ1)=>match derf Γ1 u with
 |some (.int n)=>if -1000000<=n/\n<=1000000 then .ok (zF n.toNat,Γ1) else .bad
 |_=>.bad
theorem zcu(n:Nat)(H1:Hp):JI M0 F (Itr 0 n) (zF n) H1:=λi F' H' s h0=>by
 refine⟨λd hd=>?_,λhl=>?_⟩
 ·obtain⟨hi,rfl⟩:=qi hd
  exact⟨hi,λx H2 ⟨e,y⟩=>by subst e y;exact⟨Same.refl _,by rw[show (0:Int)+(i:Int)=i by omega];exact .int _⟩⟩
 ·show n<=i
  simpa [zj] using hl
theorem zds (B:BiK X x (.type "range")) (ex:x= "range") (ha:SE X XP mp a fa) (hst:a⁻¹):SI X XP mp tg (.Call (.Name x p) [a] [] pos) (fRange fa):=λM0 F Γ ν σ H R rs hs hp=>by
 subst ex
 exact (za8 B.gl B.mg (zt zc pa_nil hst) hst).wp (ha.run rs hs hp λF1 Γ1 H1 u v rs1 s1 o1 h1=>by
  dsimp only at h1
  split at h1
  next n eu=>
   split at h1
   next hn=>
    cases o1.weak rs1 eu
    exact⟨n,rfl,by omega,by omega,h1 F1 H1 rs1 (.refl _ _) _ (zcu n.toNat H1)⟩
   ·exact h1.elim
  ·exact h1.elim)
def SF(X:Cx)(XP:XPT)(mp:Ac)(ifs:Ag)(f:EM Bool):Prop:=∀(M0:Ae)(F:Fp)(Γ:Gv)(ν:Nu)(σ:St)(H:Hp)(Q:Bool->Hp->Prop),RS M0 F Γ ν H->Sees mp ν σ ->
 EPost M0 F ν σ H XP (λF' Γ' H' b=>Q b H') (f Γ)->wpF X ifs σ H Q
noncomputable def fYes:EM Bool:=λΓ=>.ok (true,Γ)
theorem ziv:SF X XP mp [] fYes:=λM0 F Γ ν σ H Q rs hs hp=>pf_nil.wp (hp F H rs (.refl _ _))
theorem ziw(h:ST X XP mp c ta):SF X XP mp [c] ta:=λM0 F Γ ν σ H Q rs hs hp=>(zh2 je).wp (h M0 F Γ ν σ H Q rs hs hp)
noncomputable abbrev XP0:XPT:=λ_ _ _ _ _ _=>False
noncomputable def XPc(XP:XPT)(σ:St):XPT:=λx _ _ _ _ H'=>∃ Γ F ν,XP x Γ F ν σ H'
noncomputable def mpC(mp:Ac)(n k:Nat)(ix:Ac):Ac:=(List.range k).map (n+·)++ix.map λi=>mp.getD i 0
theorem zhL(h:s<k):(mpC mp n k ix)[s]?=some (n+s):=by
 unfold mpC
 rw[xc (by simpa using h),xl,ut h];rfl
theorem zcF:(mpC mp n k ix)[k+j]?=(ix[j]?).map λi=>mp.getD i 0:=by
 unfold mpC
 rw[xf (by simp),xl]
 simp
def SNt(XP:XPT)(mp:Ac)(t:TE)(f:EM (Aa)):Prop:=∀(M0:Ae)(F:Fp)(Γ:Gv)(ν:Nu)(σ:St)(H:Hp)(Q:VK),RS M0 F Γ ν H->Sees mp ν σ ->
 EPost M0 F ν σ H XP (λF' Γ' H' ds=>∀ vs p,RepL (MM M0 F') H' vs ds->H' p=none->Q (.ref p) (upd H' p (.lst vs))) (f Γ)->t σ H Q
end
end L3
namespace L2
open PySem PySem.Spec PyProof.Rows
variable [Cs]
section
variable {X:Cx}{pins:Ak}{σ:St}{H:Hp}{s:Am}{e:Aj}
theorem y7(u:Up X pins σ H C dx e s)(hx:X.ex= [])(hst:X.stack=X.env::X.outer)(hf:X.env.frame=some X.env.locals)(hE:E' (.ref C) dx H){Ez:Af} :
  ∅ (leaving X.env e) (λ_ s''=>CX1 X.prog X.w X.outer X.H₀ X.s₀ E' e s'') Ez s:=by
 obtain⟨ea,fl,B,rfl,al,inv⟩:=u
 have I0:=inv s.heap al.1 (.refl _)
 have hfr:X.A.frames=some (X.env::X.outer):=by rw[<- hst];exact I0.ok.frames
 rw[hst]at al
 unfold leaving
 refine x5 (Yw hfr hf al λh4 al4 up4=>yM al4 λh5 ⟨x1,x2,⟨_,_,x3⟩,x4⟩ up5=>⟨ea,.ref C,dx,B,s.heap,H,rfl,I0.os,I0.bare,⟨x1,x2,x3,x4⟩,up4.trans up5,λh6 k1 k2=>?_,hE⟩)
 exact (inv h6 k1 k2).flies hx hst hf (λb o e=>W.of_hideAll _ e) (Heap.UpToSlots.of_keeps λ_ _ e=>e)
end
theorem zbB{E:XK}{σ:St}{H:Hp}{Q:VK}{r x:Str}{k i:Nat}{e:Expr}{es:Ag}{p pos:Pos}(kn:Kn X.prog X.w X.K X.mg X.base CX x k sp)(hb0:X.mg x=some (.ref b))(hr:Room k X.A)
  (hN:X.N[i]?=some r) (hv:Vis X.env.scope r) (hd:(↥r)) (hcd:(r==("__classdict__" :Str))=false) (hσ:σ[i]?=some (some (.ref b)))
  (hx:∀ pins H s e s',Inv X pins σ H s->CX X.stack H s E e s'->X.xe e s') (h:wpA X (e::es) σ H λvs H1=>sp vs H1 Q E)
  (he:starEach (e::es) X.env=(false,eval e X.env)::starEach es X.env) (hpl:(backTo pos (starEach es X.env)).any (·.1)=false):wpE X (.Call (.Name r p) (e::es) [] pos) σ H Q:=λpins s I=>by
 obtain⟨f,fd,ps,F,hm,hk,hb⟩:=kn.ex
 rw[hb0]at hm;cases hm
 refine Xk (thn (zQ hN hv hd hcd pins s σ H (λv H'=>v=.ref b/\H'=H) I ⟨_,hσ,rfl,rfl⟩) λu s1 ⟨v,H1,I1,r1,e1,e2⟩=>?_)
 subst e1 e2
 cases r1
 refine W.callWith_K I1.ok.mod.kin hk (thn (h pos pins s1 I1) λus s1 ⟨vs,H1,I1,r,q⟩=>⟨I1.kIn,?_⟩) he hpl
 have hl:us.length=ps.length:=by rw[<- r.length];exact F.len _ _ _ _ q
 have hb':=hb s1 us I1.kIn (by simpa using hl)
 rw[xR]at hb'
 refine wpAny_call (Xl (F.run X.A X.stack s1 H1 ⟨us,[]⟩ us vs Q E hr I1.env0 hb' r q) λr s' hq=>?_)
 cases r with
 |error e=>exact hx pins H1 s1 e s' I1 hq
 |ok fl=>
  cases fl with
  |ret u=>exact I1.after hq
  |next=>exact False.elim hq
  |brk=>exact False.elim hq
  |cont=>exact False.elim hq
end L2
namespace L3
open PySem PySem.Spec PyProof.Rows L2
variable [Cs]
inductive AV where
 |v (u:FV)
 |io (i:Nat)
inductive AOks(M0:Ae)(F:Fp)(ν:Nu)(H:Hp):List V->List AV->Prop
 |nil:AOks M0 F ν H [] []
 |v {v:V} {vs:List V} {u:FV} {as:List AV}:FOk M0 F ν H v u->AOks M0 F ν H vs as->AOks M0 F ν H (v::vs) (.v u::as)
 |io {v:V} {vs:List V} {i:Nat} {as:List AV}:ν[i]?=some (some v)->AOks M0 F ν H vs as->AOks M0 F ν H (v::vs) (.io i::as)
def APost(M0:Ae)(F:Fp)(ν:Nu)(σ:St)(H:Hp)(XP:XPT)(P:Fp->Gv->Nu->Hp->List AV->Prop)(r:R (List AV×Gv)):Prop:=match r with
 |.ok (as,Γ')=>∀ F' ν' H',RS M0 F' Γ' ν' H'->ν <+: ν'->Stp F H F' H'->P F' Γ' ν' H' as
 |.exc x Γ'=>∀ F' H',RS M0 F' Γ' ν H'->Stp F H F' H'->XP x Γ' F' ν σ H'
 |.bad=>False
def OPost(M0:Ae)(F:Fp)(ν:Nu)(σ:St)(H:Hp)(XP:XPT)(P:Fp->Gv->Hp->OV->V->Prop)(r:R (OV×Gv)):Prop:=match r with
 |.ok (o,Γ')=>∀ F' H' v,RS M0 F' (Γ'++ [some o]) (ν++ [some v]) H'->Stp F H F' H'->P F' Γ' H' o v
 |.exc x Γ'=>∀ F' H',RS M0 F' Γ' ν H'->Stp F H F' H'->XP x Γ' F' ν σ H'
 |.bad=>False
def SA(X:Cx)(XP:XPT)(mp:Ac)(es:Ag)(f:EM (List AV)):Prop:=∀(M0:Ae)(F:Fp)(Γ:Gv)(ν:Nu)(σ:St)(H:Hp)(Q:List V->Hp->Prop),RS M0 F Γ ν H->Sees mp ν σ ->
 APost M0 F ν σ H XP (λF' Γ' ν' H' as=>∀ vs,AOks M0 F' ν' H' vs as->Q vs H') (f Γ)->wpA X es σ H Q
def SO(X:Cx)(XP:XPT)(mp:Ac)(e:Expr)(f:EM OV):Prop:=∀(M0:Ae)(F:Fp)(Γ:Gv)(ν:Nu)(σ:St)(H:Hp)(Q:VK),RS M0 F Γ ν H->Sees mp ν σ ->
 OPost M0 F ν σ H XP (λF' Γ' H' o v=>Q v H') (f Γ)->wpE X e σ H Q
section
variable {M0:Ae}{F:Fp}{ν:Nu}{σ:St}{H:Hp}{XP:XPT}{α:Type}
theorem APost.seq{r:R (α×Gv)}(h:APost M0 F ν σ H XP P (r.bind k)):EPost M0 F ν σ H XP (λF1 Γ1 H1 a=>APost M0 F1 ν σ H1 XP P (k (a,Γ1))) r:=by
 cases r with
 |ok a=>
  obtain⟨a,Γ1⟩:=a
  intro F1 H1 rs1 s1
  have h':APost M0 F ν σ H XP P (k (a,Γ1)):=h
  revert h'
  generalize k (a,Γ1)=r2
  intro h'
  cases r2 with
  |ok b=>exact λF' ν' H' rs hn s=>h' F' ν' H' rs hn (s1.trans s)
  |exc x Γ'=>exact λF' H' rs s=>h' F' H' rs (s1.trans s)
  |bad=>exact h'
 |exc x Γ'=>exact h
 |bad=>exact h
theorem APost.mono(h:APost M0 F ν σ H XP P r)(k:∀ F' Γ' ν' H' as,RS M0 F' Γ' ν' H'->ν <+: ν'->Stp F H F' H'->P F' Γ' ν' H' as->P' F' Γ' ν' H' as):APost M0 F ν σ H XP P' r:=by
 cases r with
 |ok a=>exact λF' ν' H' rs hn s=>k F' _ ν' H' _ rs hn s (h F' ν' H' rs hn s)
 |exc x Γ'=>exact h
 |bad=>exact h
theorem OPost.seq{r:R (α×Gv)}(h:OPost M0 F ν σ H XP P (r.bind k)):EPost M0 F ν σ H XP (λF1 Γ1 H1 a=>OPost M0 F1 ν σ H1 XP P (k (a,Γ1))) r:=by
 cases r with
 |ok a=>
  obtain⟨a,Γ1⟩:=a
  intro F1 H1 rs1 s1
  have h':OPost M0 F ν σ H XP P (k (a,Γ1)):=h
  revert h'
  generalize k (a,Γ1)=r2
  intro h'
  cases r2 with
  |ok b=>exact λF' H' v rs s=>h' F' H' v rs (s1.trans s)
  |exc x Γ'=>exact λF' H' rs s=>h' F' H' rs (s1.trans s)
  |bad=>exact h'
 |exc x Γ'=>exact h
 |bad=>exact h
theorem OPost.mono(h:OPost M0 F ν σ H XP P r)(k:∀ F' Γ' H' o v,RS M0 F' (Γ'++ [some o]) (ν++ [some v]) H'->Stp F H F' H'->P F' Γ' H' o v->P' F' Γ' H' o v):OPost M0 F ν σ H XP P' r:=by
 cases r with
 |ok a=>exact λF' H' v rs s=>k F' _ H' _ v rs s (h F' H' v rs s)
 |exc x Γ'=>exact h
 |bad=>exact h
end
section
variable {X:Cx}{XP:XPT}{mp:Ac}{a b c e:Expr}{es:Ag}{pos p p2:Pos}{fa:EM FV}{na nb:EM (Aa)}{fl:EM (List AV)}{fo:EM OV}
noncomputable def fOwn(n:EM (Aa)):EM OV:=λΓ=>(n Γ).bind λ(ds,Γ1)=>.ok (.l (ds.map .d),Γ1)
theorem SN.so(h:SN X XP mp a na):SO X XP mp a (fOwn na):=λM0 F Γ ν σ H Q rs hs hp=>
 h M0 F Γ ν σ H Q rs hs (hp.seq.mono λF1 Γ1 H1 ds rs1 s1 h1 vs p r n=>by
  obtain⟨r2,s2⟩:=rs1.newO n r
  exact h1 _ _ _ r2 s2)
noncomputable def fOD(f:EM OV):EM FV:=λΓ=>(f Γ).bind λ(o,Γ1)=>.ok (.dat o.view,Γ1)
theorem SO.se(h:SO X XP mp a fo):SE X XP mp a (fOD fo):=λM0 F Γ ν σ H Q rs hs hp=>
 h M0 F Γ ν σ H Q rs hs (by
  have hp':EPost M0 F ν σ H XP (λF' Γ' H' u=>∀ v,FOk M0 F' ν H' v u->Q v H') ((fo Γ).bind λ(o,Γ1)=>.ok (.dat o.view,Γ1)):=hp
  revert hp'
  generalize fo Γ=r
  intro hp'
  cases r with
  |ok z=>
   obtain⟨o,Γ1⟩:=z
   intro F' H' v rs' s'
   obtain⟨F2,rs2,s2,r2⟩:=rs'.dropD
   exact hp' F2 H' rs2 (s'.trans s2) v r2
  |exc x y=>exact hp'
  |bad=>exact hp')
theorem FOk.ext(h:FOk M0 F ν H v u)(hn:ν <+: ν'):FOk M0 F ν' H v u:=by
 cases u with
 |dat x=>exact h
 |own i=>
  have h':=h
  obtain⟨t,rfl⟩:=hn
  show (ν++t)[i]?=_
  rw[xc (xb.mp h').1];exact h'
noncomputable def aNil:EM (List AV):=λΓ=>.ok ([],Γ)
noncomputable def aCons(fa:EM FV)(fl:EM (List AV)):EM (List AV):=λΓ=>(fa Γ).bind λ(u,Γ1)=>(fl Γ1).bind λ(as,Γ2)=>.ok (.v u::as,Γ2)
noncomputable def aIo(i:Nat)(fl:EM (List AV)):EM (List AV):=λΓ=>match Γ[i]? with
 |some (some _)=>(fl Γ).bind λ(as,Γ2)=>.ok (.io i::as,Γ2)
 |_=>.bad
noncomputable def zjd(n:EM (Aa)):EM (List AV):=λΓ=>(n Γ).bind λ(ds,Γ1)=>.ok ([.io Γ1.length],Γ1++ [some (.l (ds.map .d))])
theorem zig:SA X XP mp [] aNil:=λM0 F Γ ν σ H Q rs hs hp=>pa_nil.wp (hp F ν H rs (uN _) (.refl _ _) [] .nil)
theorem APost.tail{F:Fp}{ν:Nu}{σ:St}{H:Hp}{f:List AV->List AV}(h:APost M0 F ν σ H XP P (r.bind λ(as,Γ2)=>.ok (f as,Γ2))) :
  APost M0 F ν σ H XP (λF' Γ' ν' H' as=>P F' Γ' ν' H' (f as)) r:=by
 cases r with
 |ok a=>exact h
 |exc x Γ'=>exact h
 |bad=>exact h
theorem zfx(ha:SE X XP mp a fa)(hl:SA X XP mp es fl)(hst:starEach (a::es) X.env=(false,eval a X.env)::starEach es X.env):SA X XP mp (a::es) (aCons fa fl):=λM0 F Γ ν σ H Q rs hs hp=>
 (zt zc jd hst).wp (ha M0 F Γ ν σ H _ rs hs (hp.seq.mono λF1 Γ1 H1 u rs1 s1 h1 v o1=>
  hl M0 F1 Γ1 ν σ H1 _ rs1 hs (h1.tail.mono λF2 Γ2 ν2 H2 as rs2 hn s2 h2 vs oks=>h2 (v::vs) (.v ((o1.stp s2 rs1.al0).ext hn) oks))))
theorem zjM {s i:Nat}(hN:X.N[s]?=some x) (hv:Vis X.env.scope x) (hm:mp[s]?=some i) (hd:(↥x)) (hcd:(x==("__classdict__" :Str))=false) (hl:SA X XP mp es fl) (hst:starEach (.Name x pos::es) X.env=(false,eval (.Name x pos) X.env)::starEach es X.env) :
  SA X XP mp (.Name x pos::es) (aIo i fl):=by?
 unfold aIo at hp
 split at hp
 next o q=>
  obtain⟨v,e1,r⟩:=rs.at' i _ q
  exact (zt (zQ hN hv hd hcd) jd hst).wp ⟨v,hs s i v hm e1,hl M0 F Γ ν σ H _ rs hs (hp.tail.mono λF2 Γ2 ν2 H2 as rs2 hn s2 h2 vs oks=>h2 (v::vs) (.io (by
   obtain⟨t,rfl⟩:=hn
   rw[xc (xb.mp e1).1];exact e1) oks))⟩
 ·exact hp.elim
theorem zih(h:SN X XP mp a na)(hst:a⁻¹):SA X XP mp [a] (zjd na):=λM0 F Γ ν σ H Q rs hs hp=>
 (zt zc pa_nil hst).wp (h M0 F Γ ν σ H _ rs hs (hp.seq.mono λF1 Γ1 H1 ds rs1 s1 h1 vs p r n=>by
  obtain⟨r2,s2⟩:=rs1.newO n r
  exact h1 _ _ _ r2 (List.prefix_append _ _) s2 _ (.io (by rw[<- rs1.len];simp) .nil)))
inductive RF where
 |ok (r:OV) (outs:List (Option OV))
 |exc (x:Exc) (outs:List (Option OV))
 |xp (c a:Str) (o:OV) (outs:List (Option OV))
 |bad
noncomputable def spX(mg:Aq)(n:Nat)(run:List OV->RF):Sp:=λvs H Q E=>vs.length=n/\∃(M0:Ae)(F:Fp)(args:List OV),RS M0 F (args.map some) (vs.map some) H/\match run args with
 |.ok r outs=>∀ F' v H',RS M0 F' (outs++ [some r]) (vs.map some++ [some v]) H'->Stp F H F' H'->Q v H'
 |.exc x outs=>∀ C,mg x.cls=some (.ref C)->∀ F' H',RS M0 F' (outs++ [some (.d .none)]) (vs.map some++ [some .non]) H'->Stp F H F' H'->E (.ref C) none H'
 |.xp c a o outs=>∀ C,mg c=some (.ref C)->∀ F' v dx H',RS M0 F' (outs++ [some o]) (vs.map some++ [some v]) H'->Stp F H F' H'->H' dx=some (.xd [(a,v)])->E (.ref C) (some dx) H'
 |.bad=>False
def Ran(n:Nat)(run:List OV->RF):Prop:=∀ args,(run args≠ .bad->args.length=n)/\∀ x o,run args=.exc x o->x.pay=.none
def PxOk(X:Cx)(XP:XPT):Prop:=∀(σ:St)(pins:Ak)(H:Hp)(e:Aj)(s:Am)(x:Exc)(Γ:Gv)(F:Fp)(ν:Nu)(C:Ap),X.mg x.cls=some (.ref C)->x.pay=.none->XP x Γ F ν σ H->Up X pins σ H C none e s->X.xe e s
theorem zfv:PxOk X XP0:=λσ pins H e s x Γ F ν C h _ z=>z.elim
theorem PxOk.call(px:PxOk X XP)(σ:St)(pins:Ak)(H:Hp)(s:Am)(e:Aj)(s':Am)(E:XK)(h:∀ c dx H',E c dx H'->dx=none/\∃(x:Exc)(Γ:Gv)(F:Fp)(ν:Nu)(C:Ap),X.mg x.cls=some (.ref C)/\c=.ref C/\x.pay=.none/\XP x Γ F ν σ H')
  (I:Inv X pins σ H s) (hc:CX1 X.prog X.w X.stack H s E e s'):X.xe e s':=I.up hc λc dx H' q u=>by
 obtain⟨rfl,x,Γ,F,ν,C,h1,rfl,hy,h2⟩:=h c dx H' q
 exact px σ pins H' e s' x Γ F ν C h1 hy h2 (u C rfl)
theorem zfu(px:PxOk X XP)(sk:Sk X)(cat:Cat X σ C s2 H2 fp):PxOk ⋯ (XPc XP σ) :=
 λσ' pins' H e s x _ _ _ C0 h hy ⟨Γ,F,ν,hx⟩ u=>u.comp sk cat λpins s' u'=>px σ pins H e s' x Γ F ν C0 h hy hx u'
noncomputable abbrev EX(X:Cx)(XP:XPT)(σ:St):XK:=λc dx H'=>dx=none/\∃(x:Exc)(Γ:Gv)(F:Fp)(ν:Nu)(C:Ap),X.mg x.cls=some (.ref C)/\c=.ref C/\x.pay=.none/\XP x Γ F ν σ H'
noncomputable def toArg(Γ:Gv):AV->Option OV
 |.v u=>(derS Γ u).map .d
 |.io i=>match Γ[i]? with
  |some (some o)=>some o
  |_=>none
noncomputable def toArgs(Γ:Gv):List AV->Option (List OV)
 |[]=>some []
 |a::as=>match toArg Γ a,toArgs Γ as with
  |some o,some os=>some (o::os)
  |_,_=>none
noncomputable def ios:List AV->Ac
 |[]=> []
 |.v _::as=>ios as
 |.io i::as=>i::ios as
noncomputable def putBack:List AV->List (Option OV)->Gv->Option Gv
 |[],_,Γ=>some Γ
 |.v _::as,_::os,Γ=>putBack as os Γ
 |.io i::as,some o::os,Γ=>if i<Γ.length then putBack as os (Γ.set i (some o)) else none
 |_,_,_=>none
theorem mem_ios:i∈ios as↔∃ j:Nat,as[j]?=some (.io i):=by
 induction as with
 |nil=>simp[ios]
 |cons a as ih=>
  cases a with
  |v u=>
   rw[ios,ih]
   constructor
   ·rintro⟨j,h⟩;exact⟨j+1,by simpa using h⟩
   ·rintro⟨j,h⟩
    cases j with
    |zero=>simp at h
    |succ j=>exact⟨j,by simpa using h⟩
  |io k=>
   rw[ios,xC,ih]
   constructor
   ·rintro (rfl | ⟨j,h⟩)
    ·exact⟨0,rfl⟩
    ·exact⟨j+1,by simpa using h⟩
   ·rintro⟨j,h⟩
    cases j with
    |zero=>simp at h;exact .inl h.symm
    |succ j=>exact .inr ⟨j,by simpa using h⟩
theorem Ws:∀{as:List AV}{i j k:Nat},(ios as).Nodup->as[j]?=some (.io i)->as[k]?=some (.io i)->j=k
 |[],_,_,_,_,h,_=>by simp at h
 |.v u::as,i,j,k,nd,h1,h2=>by
  cases j with
  |zero=>simp at h1
  |succ j=>
   cases k with
   |zero=>simp at h2
   |succ k=>exact congrArg (·+1) (Ws (by rw[ios]at nd;exact nd) (by simpa using h1) (by simpa using h2))
 |.io m::as,i,j,k,nd,h1,h2=>by
  rw[ios,xA]at nd
  cases j with
  |zero=>
   cases k with
   |zero=>rfl
   |succ k=>
    simp at h1;subst h1
    exact absurd (mem_ios.mpr ⟨k,by simpa using h2⟩) nd.1
  |succ j=>
   cases k with
   |zero=>
    simp at h2;subst h2
    exact absurd (mem_ios.mpr ⟨j,by simpa using h1⟩) nd.1
   |succ k=>exact congrArg (·+1) (Ws nd.2 (by simpa using h1) (by simpa using h2))
section
variable {M0:Ae}{F:Fp}{Γ:Gv}{ν:Nu}{H:Hp}
theorem AOks.get:∀{vs:List V}{as:List AV}{args:List OV}{j:Nat}{o:OV},AOks M0 F ν H vs as->toArgs Γ as=some args->args[j]?=some o ->
  ∃ v,vs[j]?=some v/\((∃ u x,as[j]?=some (.v u)/\derS Γ u=some x/\o=.d x/\FOk M0 F ν H v u)∨∃ i,as[j]?=some (.io i)/\ν[i]?=some (some v)/\Γ[i]?=some (some o))
 |_,_,_,j,o,.nil,e,h=>by cases e;simp at h
 |_,_,_,j,o,.v (u:=u) h1 t,e,h=>by
  unfold toArgs at e
  split at e
  next o' os e1 e2=>
   cases e
   cases j with
   |zero=>
    simp at h;subst h
    simp only[toArg,uu]at e1
    obtain⟨x,ex,rfl⟩:=e1
    exact⟨_,rfl,.inl ⟨u,x,rfl,ex,rfl,h1⟩⟩
   |succ j=>
    obtain⟨v,ev,q⟩:=AOks.get (j:=j) t e2 (by simpa using h)
    exact⟨v,by simpa using ev,by simpa using q⟩
  ·cases e
 |_,_,_,j,o,.io (i:=i) h1 t,e,h=>by
  unfold toArgs at e
  split at e
  next o' os e1 e2=>
   cases e
   cases j with
   |zero=>
    simp at h;subst h
    simp only[toArg]at e1
    split at e1
    next q=>
     cases e1
     exact⟨_,rfl,.inr ⟨i,rfl,h1,q⟩⟩
    ·cases e1
   |succ j=>
    obtain⟨v,ev,q⟩:=AOks.get (j:=j) t e2 (by simpa using h)
    exact⟨v,by simpa using ev,by simpa using q⟩
  ·cases e
theorem AOks.len:∀{vs:List V}{as:List AV},AOks M0 F ν H vs as->vs.length=as.length
 |_,_,.nil=>rfl
 |_,_,.v _ t=>by rw[xr,xr,AOks.len t]
 |_,_,.io _ t=>by rw[xr,xr,AOks.len t]
theorem qA:∀{as:List AV}{args:List OV},toArgs Γ as=some args->args.length=as.length
 |[],_,e=>by cases e;rfl
 |a::as,_,e=>by
  unfold toArgs at e
  split at e
  next e1 e2=>
   cases e
   rw[xr,xr,qA e2]
  ·cases e
def cM(M0:Ae)(F:Fp)(as:List AV):Ae:=λa=>M0 a∨∃ i,i∉ios as/\a∈F i
noncomputable def cF(F:Fp)(as:List AV):Fp:=λj=>match as[j]? with
 |some (.io i)=>F i
 |_=> []
theorem zgy(h:as[j]?=some (.io i)):cF F as j=F i:=by unfold cF;rw[h]
theorem JZ{a:Ap}(h:a∈cF F as j):∃ i,as[j]?=some (.io i)/\a∈F i:=by
 unfold cF at h
 split at h
 ·rename_i i e;exact⟨i,e,h⟩
 ·cases h
theorem cMM:MM (cM M0 F as) (cF F as)=MM M0 F:=by
 funext a
 apply propext
 constructor
 ·rintro ((h | ⟨i,_,h⟩) | ⟨j,h⟩)
  ·exact .inl h
  ·exact .inr ⟨i,h⟩
  ·obtain⟨i,_,h⟩:=JZ h;exact .inr ⟨i,h⟩
 ·rintro (h | ⟨i,h⟩)
  ·exact .inl (.inl h)
  ·by_cases hi:i∈ios as
   ·obtain⟨j,hj⟩:=mem_ios.mp hi
    exact .inr ⟨j,by rw[zgy hj];exact h⟩
   ·exact .inl (.inr ⟨i,hi,h⟩)
theorem WJ{as:List AV}(rs:RS M0 F Γ ν H)(oks:AOks M0 F ν H vs as)(e:toArgs Γ as=some args)(nd:(ios as).Nodup):RS (cM M0 F as) (cF F as) (args.map some) (vs.map some) H where
 al0 a h:=by
  rcases h with h | ⟨i,_,h⟩
  ·exact rs.al0 a h
  ·exact rs.al a (.inr ⟨i,h⟩)
 dis0 j a h:=by
  obtain⟨i,hi,ha⟩:=JZ h
  rintro (h0 | ⟨i',hi',ha'⟩)
  ·exact rs.dis0 i a ha h0
  ·have:=rs.dis _ _ a ha ha'
   subst this
   exact hi' (mem_ios.mpr ⟨j,hi⟩)
 nd j:=by
  unfold cF
  split
  ·exact rs.nd _
  ·exact .nil
 dis j k a h1 h2:=by
  obtain⟨i,hi,ha⟩:=JZ h1
  obtain⟨i',hi',ha'⟩:=JZ h2
  have:=rs.dis _ _ a ha ha'
  subst this
  exact Ws nd hi hi'
 at' j o ej:=by
  rw[xl]at ej
  cases q:args[j]? with
  |none=>rw[q]at ej;cases ej
  |some o'=>
   rw[q]at ej
   have eo:o'=o:=by simpa using ej
   subst eo
   obtain⟨v,ev,h⟩:=oks.get e q
   refine⟨v,by rw[xl,ev];rfl,?_⟩
   rw[cMM]
   rcases h with ⟨u,x,ea,ex,rfl,ok⟩ | ⟨i,ea,en,eg⟩
   ·have:cF F as j= []:=by unfold cF;rw[ea]
    rw[this]
    exact .d (ok.strong rs ex)
   ·rw[zgy ea]
    obtain⟨v',ev',r⟩:=rs.at' i o' eg
    rw[en]at ev';cases ev'
    exact r
 emp j h:=by
  unfold cF
  split
  next i ea=>
   exfalso
   have hj:j<args.length:=by rw[qA e];exact (xb.mp ea).1
   exact h args[j] (by rw[xl,xg hj];rfl)
  ·rfl
 len:=by rw[xn,xn,oks.len,qA e]
theorem qG:∀{as:List AV}{outs:List (Option OV)}{Γ Γ2:Gv},putBack as outs Γ=some Γ2->(ios as).Nodup->Γ2.length=Γ.length/\(∀ i:Nat,i∉ios as->Γ2[i]?=Γ[i]?)/\∀ j i:Nat,as[j]?=some (.io i)->∃ o,outs[j]?=some (some o)/\Γ2[i]?=some (some o)/\i<Γ.length
 |[],_,Γ,_,e,_=>by
  have:some Γ=some _:=e
  cases this
  exact⟨rfl,λ_ _=>rfl,λj i h=>by simp at h⟩
 |.v u::as,[],Γ,_,e,_=>by cases e
 |.v u::as,x::os,Γ,Γ2,e,nd=>by
  obtain⟨h0,h1,h2⟩:=qG (as:=as) (Γ:=Γ) (Γ2:=Γ2) e (by rw[ios]at nd;exact nd)
  refine⟨h0,λi hi=>h1 i (by rw[ios]at hi;exact hi),λj i hj=>?_⟩
  cases j with
  |zero=>simp at hj
  |succ j=>
   obtain⟨o,a,b⟩:=h2 j i (by simpa using hj)
   exact⟨o,by simpa using a,b⟩
 |.io k::as,[],Γ,_,e,_=>by cases e
 |.io k::as,none::os,Γ,_,e,_=>by cases e
 |.io k::as,some o::os,Γ,Γ2,e,nd=>by
  rw[putBack]at e
  split at e
  next hk=>
   rw[ios,xA]at nd
   obtain⟨h0,h1,h2⟩:=qG e nd.2
   rw[xS]at h0
   refine⟨h0,λi hi=>?_,λj i hj=>?_⟩
   ·rw[ios,xC]at hi
    rw[h1 i (λz=>hi (.inr z)),xh (λz=>hi (.inl z.symm))]
   ·cases j with
    |zero=>
     have:k=i:=by simpa using hj
     subst this
     refine⟨o,rfl,?_,hk⟩
     rw[h1 k nd.1,xj hk]
    |succ j=>
     obtain⟨o',a,b,c⟩:=h2 j i (by simpa using hj)
     exact⟨o',by simpa using a,b,by simpa using c⟩
  ·cases e
open Classical in
theorem Z4{as:List AV}{outs:List (Option OV)}{r:OV}{v:V}{Γ2:Gv}{ν0:Nu}{Fc':Fp}{H':Hp}{n:Nat}(rs:RS M0 F Γ ν H)(oks:AOks M0 F ν H vs as)(e:toArgs Γ as=some args)(nd:(ios as).Nodup)
  (rc:RS (cM M0 F as) Fc' (outs++ [some r]) (vs.map some++ [some v]) H') (sc:Stp (cF F as) H Fc' H') (pb:putBack as outs Γ=some Γ2) (hν:ν0 <+: ν) (hn:ν0.length=n) :
  ∃ F',RS M0 F' (Γ2.take n++ [some r]) (ν0++ [some v]) H'/\Stp F H F' H':=by
 obtain⟨p0,p1,p2⟩:=qG pb nd
 have hol:outs.length=as.length:=by have:=rc.len;simp[oks.len]at this;omega
 obtain⟨tl,rfl⟩:=hν
 have hnl:n<=Γ.length:=by have:=rs.len;simp at this;omega
 have htl:(Γ2.take n).length=n:=by rw[xP];omega
 let F':Fp:=λi=>if i<n then (if h:∃ j:Nat,as[j]?=some (.io i) then Fc' (Classical.choose h) else F i) else if i=n then Fc' as.length else []
 have f1:∀(i j:Nat),i<n->as[j]?=some (.io i)->F' i=Fc' j:=λi j hi hj=>by
  show (if i<n then _ else _)=_
  rw[if_pos hi]
  have hex:∃ j:Nat,as[j]?=some (.io i):=⟨j,hj⟩
  rw[dif_pos hex,Ws nd (Classical.choose_spec hex) hj]
 have f2:∀(i:Nat),i<n->i∉ios as->F' i=F i:=λi hi hj=>by
  show (if i<n then _ else _)=_
  rw[if_pos hi,dif_neg]
  rintro hex
  exact hj (mem_ios.mpr hex)
 have f3:F' n=Fc' as.length:=by show (if n<n then _ else _)=_;rw[if_neg (xV _),if_pos rfl]
 have f4:∀ i,n<i->F' i= []:=λi hi=>by show (if i<n then _ else _)=_;rw[if_neg (by omega),if_neg (by omega)]
 have cls:∀ i a,a∈F' i->(∃ j,i<n/\as[j]?=some (.io i)/\a∈Fc' j)∨(i<n/\i∉ios as/\a∈F i)∨(i=n/\a∈Fc' as.length):=λi a h=>by
  by_cases hi:i<n
  ·by_cases hj:i∈ios as
   ·obtain⟨j,hj⟩:=mem_ios.mp hj
    rw[f1 i j hi hj]at h
    exact .inl ⟨j,hi,hj,h⟩
   ·rw[f2 i hi hj]at h;exact .inr (.inl ⟨hi,hj,h⟩)
  ·by_cases hj:i=n
   ·subst hj;rw[f3]at h;exact .inr (.inr ⟨rfl,h⟩)
   ·rw[f4 i (by omega)]at h;cases h
 have keepF:∀ i,i∉ios as->∀ a∈F i,H' a=H a:=λi hi a ha=>by
  obtain⟨us,ea⟩:=rs.laidF ha
  rw[ea]
  refine (sc.keep a _ ea λj hj=>?_).1
  obtain⟨i',hi',ha'⟩:=JZ hj
  have:=rs.dis _ _ a ha ha'
  subst this
  exact hi (mem_ios.mpr ⟨j,hi'⟩)
 have st:Stp F H F' H':=⟨λb o eb nb=>by
  obtain⟨e1,n1⟩:=sc.keep b o eb λj hj=>let ⟨i,_,ha⟩:=JZ hj;nb i ha
  refine⟨e1,λi hi=>?_⟩
  rcases cls i b hi with ⟨j,_,_,h⟩ | ⟨_,_,h⟩ | ⟨_,h⟩
  ·exact n1 j h
  ·exact nb i h
  ·exact n1 _ h,sc.tups,sc.stay⟩
 have sub:∀ b,MM M0 F' b->MM (cM M0 F as) Fc' b:=λb hb=>by
  rcases hb with hb | ⟨i,hb⟩
  ·exact .inl (.inl hb)
  ·rcases cls i b hb with ⟨j,_,_,h⟩ | ⟨_,hi,h⟩ | ⟨_,h⟩
   ·exact .inr ⟨j,h⟩
   ·exact .inl (.inr ⟨i,hi,h⟩)
   ·exact .inr ⟨_,h⟩
 have conv:∀{w:V}{o:OV}{A:List Ap},OR (MM (cM M0 F as) Fc') H' w o A->OR (MM M0 F') H' w o A:=λ{w o A} q=>q.go (λv d x=>x.less λb hb _=>sub b hb) (λ_ _ e=>e) λ_ _=>rfl
 have out:∀(j:Nat)(a:Ap),a∈Fc' j->¬ M0 a/\∀ i,i∉ios as->a∉F i:=λj a ha=>by
  have h:=rc.dis0 j a ha
  exact⟨λz=>h (.inl z),λi hi z=>h (.inr ⟨i,hi,z⟩)⟩
 refine⟨F',⟨λa ha=>sc.stay a (rs.al0 a ha),λi a ha=>?_,λi=>?_,λi k a h1 h2=>?_,λi o ei=>?_,λi hi=>?_,by simp[htl,hn]⟩,st⟩
 ·rcases cls i a ha with ⟨j,_,_,h⟩ | ⟨_,hi,h⟩ | ⟨_,h⟩
  ·exact (out j a h).1
  ·exact rs.dis0 i a h
  ·exact (out _ a h).1
 ·by_cases hi:i<n
  ·by_cases hj:i∈ios as
   ·obtain⟨j,hj⟩:=mem_ios.mp hj
    rw[f1 i j hi hj];exact rc.nd j
   ·rw[f2 i hi hj];exact rs.nd i
  ·by_cases hj:i=n
   ·subst hj;rw[f3];exact rc.nd _
   ·rw[f4 i (by omega)];exact .nil
 ·rcases cls i a h1 with ⟨j,hi,ej,z1⟩ | ⟨hi,ni,z1⟩ | ⟨rfl,z1⟩
  ·rcases cls k a h2 with ⟨j',hk,ej',z2⟩ | ⟨hk,nk,z2⟩ | ⟨rfl,z2⟩
   ·have:=rc.dis _ _ a z1 z2
    subst this
    rw[ej]at ej';cases ej';rfl
   ·exact absurd z2 ((out j a z1).2 k nk)
   ·have:=rc.dis _ _ a z1 z2
    subst this
    rw[xD (xi _)]at ej;cases ej
  ·rcases cls k a h2 with ⟨j',hk,ej',z2⟩ | ⟨hk,nk,z2⟩ | ⟨rfl,z2⟩
   ·exact absurd z1 ((out j' a z2).2 i ni)
   ·exact rs.dis _ _ a z1 z2
   ·exact absurd z1 ((out _ a z2).2 i ni)
  ·rcases cls k a h2 with ⟨j',hk,ej',z2⟩ | ⟨hk,nk,z2⟩ | ⟨rfl,z2⟩
   ·have:=rc.dis _ _ a z1 z2
    subst this
    rw[xD (xi _)]at ej';cases ej'
   ·exact absurd z2 ((out _ a z1).2 k nk)
   ·rfl
 ·by_cases hi:i<n
  ·rw[xc (by omega),xQ hi]at ei
   rw[xc (by omega)]
   by_cases hj:i∈ios as
   ·obtain⟨j,hj⟩:=mem_ios.mp hj
    obtain⟨o',eo,eg,_⟩:=p2 j i hj
    rw[eg]at ei
    have eoo:o'=o:=by simpa using ei
    subst eoo
    have hjl:=(xb.mp hj).1
    obtain⟨w,ew,q⟩:=rc.at' j o' (by rw[xc (by omega)];exact eo)
    rw[xc (by rw[xn,oks.len];exact hjl),xl]at ew
    have hal:j<args.length:=by rw[qA e];exact hjl
    obtain⟨v',ev',hh⟩:=oks.get e (xg hal)
    rw[ev']at ew
    have ew':v'=w:=by simpa using ew
    subst ew'
    rcases hh with ⟨u,x,ea,_⟩ | ⟨i',ea,en,_⟩
    ·rw[hj]at ea;cases ea
    ·rw[hj]at ea;cases ea
     rw[xc (by omega)]at en
     exact⟨v',en,by rw[f1 i j hi hj];exact conv q⟩
   ·rw[p1 i hj]at ei
    obtain⟨w,ew,q⟩:=rs.at' i o ei
    rw[xc (by omega)]at ew
    refine⟨w,ew,?_⟩
    rw[f2 i hi hj]
    exact q.go (λv d x=>zn st rs.al0 x) st.tups (keepF i hj)
  ·have hin:i=n:=by
    have:=(xb.mp ei).1
    simp[htl]at this;omega
   subst hin
   rw[xf (by omega),htl]at ei
   have:r=o:=by simpa using ei
   subst this
   refine⟨v,by rw[xf (by omega),hn];simp,?_⟩
   rw[f3]
   obtain⟨w,ew,q⟩:=rc.at' as.length r (by rw[xf (by omega),hol];simp)
   rw[xf (by rw[xn,oks.len];exact xi _),xn,oks.len]at ew
   have:v=w:=by simpa using ew
   subst this
   exact conv q
 ·by_cases hlt:i<n
  ·have nj:i∉ios as:=λhj=>by
    obtain⟨j,hj⟩:=mem_ios.mp hj
    obtain⟨o',eo,eg,_⟩:=p2 j i hj
    exact hi o' (by rw[xc (by omega),xQ hlt];exact eg)
   rw[f2 i hlt nj]
   refine rs.emp i λo eo=>hi o ?_
   rw[xc (by omega),xQ hlt,p1 i nj];exact eo
  ·by_cases hin:i=n
   ·subst hin
    exact absurd (by rw[xf (by omega),htl];simp) (hi r)
   ·exact f4 i (by omega)
end
noncomputable def fCall(run:List OV->RF)(fl:EM (List AV)):EM OV:=λΓ=>(fl Γ).bind λ(as,Γ1)=>match toArgs Γ1 as with
 |none=>.bad
 |some args=>if (ios as).Nodup then match run args with
  |.ok r outs=>match putBack as outs Γ1 with
   |some Γ2=>.ok (r,Γ2.take Γ.length)
   |none=>.bad
  |.exc x outs=>match putBack as outs Γ1 with
   |some Γ2=>.exc x (Γ2.take Γ.length)
   |none=>.bad
  |_=>.bad
  else .bad
theorem Z5{F:Fp}{Γ:Gv}{ν:Nu}{σ:St}{run:List OV->RF}{Q:VK}(rs:RS M0 F Γ ν H)(hrun:Ran n run)
  (hp:OPost M0 F ν σ H XP (λF' Γ' H' o v=>Q v H') (fCall run fl Γ)):APost M0 F ν σ H XP (λF1 Γ1 ν1 H1 as=>∀ vs,AOks M0 F1 ν1 H1 vs as->spX X.mg n run vs H1 Q (EX X XP σ)) (fl Γ):=by
 unfold fCall at hp
 generalize fl Γ=ra at hp
 cases ra with
 |bad=>exact hp
 |exc x y=>exact hp
 |ok z=>
  obtain⟨as,Γ1⟩:=z
  intro F1 ν1 H1 rs1 hn s1 vs oks
  simp only[R.bind]at hp
  split at hp
  ·exact hp.elim
  next args ea=>
   split at hp
   next nd=>
    have hl:vs.length=n:=by
     rw[oks.len,<- qA ea]
     refine (hrun args).1 λz=>?_
     rw[z]at hp;exact hp.elim
    refine⟨hl,cM M0 F1 as,cF F1 as,args,WJ rs1 oks ea nd,?_⟩
    split at hp
    next r outs er=>
     rw[er]
     split at hp
     next Γ2 eb=>
      intro F' v H' rc sc
      obtain⟨F2,rs2,s2⟩:=Z4 rs1 oks ea nd rc sc eb hn rs.len
      exact hp F2 H' v rs2 (s1.trans s2)
     ·exact hp.elim
    next x outs er=>
     rw[er]
     split at hp
     next Γ2 eb=>
      intro C hC F' H' rc sc
      obtain⟨F2,rs2,s2⟩:=Z4 rs1 oks ea nd rc sc eb hn rs.len
      obtain⟨F3,rs3,s3,_⟩:=rs2.dropD
      exact⟨rfl,x,_,F3,ν,C,hC,rfl,(hrun args).2 x outs er,hp F3 H' rs3 ((s1.trans s2).trans s3)⟩
     ·exact hp.elim
    ·exact hp.elim
   ·exact hp.elim
theorem zfW{run:List OV->RF}(px:PxOk X XP)(kn:Kn X.prog X.w X.K X.mg X.base (CX1 X.prog X.w) x k (spX X.mg n run))(hr:Room k X.A)(hg:Gl X x)(hrun:Ran n run)(hl:SA X XP mp (a::es) fl)
  (hdb:(↥x)) (he:starEach (a::es) X.env=(false,eval a X.env)::starEach es X.env) (hpl:(backTo pos (starEach es X.env)).any (·.1)=false):SO X XP mp (.Call (.Name x p) (a::es) [] pos) (fCall run fl):=λM0 F Γ ν σ H Q rs hs hp=>
 zd9 kn hr hg (λpins H1 s1 e s' I hx=>px.call σ pins H1 s1 e s' _ (λc dx H' q=>q) I hx) (hl M0 F Γ ν σ H _ rs hs (Z5 rs hrun hp)) hdb he hpl
theorem zdw{run:List OV->RF}(px:PxOk X XP)(kn:Kn X.prog X.w X.K X.mg X.base (CX1 X.prog X.w) x k (spX X.mg n run))(hr:Room k X.A)(hg:Gl X x)(hrun:Ran n run)
  (hdb:(↥x)):SO X XP mp (.Call (.Name x p) [] [] pos) (fCall run aNil):=by?
 have h:=Z5 (X:=X) rs hrun hp F ν H rs (uN _) (.refl _ _) [] .nil
 exact zbC kn hr hg (λpins H1 s1 e s' I hx=>px.call σ pins H1 s1 e s' _ (λc dx H' q=>q) I hx) h hdb
end
inductive FL where
 |next
 |ret (o:OV)
 |brk
 |cnt
noncomputable abbrev SM:=Gv->R (FL×Gv)
def SPost(M0:Ae)(F:Fp)(ν:Nu)(H:Hp)(XP:XPT)(mp:Ac)(N:Nat)(io:Ac)(D:Zf)(r:R (FL×Gv)):Prop:=match r with
 |.ok (.next,Γ')=>∀ F' ν' σ' H',RS M0 F' Γ' ν' H'->Stp F H F' H'->Sees mp ν' σ'->σ'.length=N->(∀ i∈io,ν'[i]?=ν[i]?)->D.nx σ' H'
 |.ok (.brk,Γ')=>∀ F' ν' σ' H',RS M0 F' Γ' ν' H'->Stp F H F' H'->Sees mp ν' σ'->σ'.length=N->(∀ i∈io,ν'[i]?=ν[i]?)->D.bk σ' H'
 |.ok (.cnt,Γ')=>∀ F' ν' σ' H',RS M0 F' Γ' ν' H'->Stp F H F' H'->Sees mp ν' σ'->σ'.length=N->(∀ i∈io,ν'[i]?=ν[i]?)->D.ct σ' H'
 |.ok (.ret o,Γ')=>∀ F' ν' v H',RS M0 F' (Γ'++ [some o]) (ν'++ [some v]) H'->Stp F H F' H'->(∀ i∈io,ν'[i]?=ν[i]?)->D.rt v H'
 |.exc x Γ'=>∀ F' ν' σ' H',RS M0 F' Γ' ν' H'->Stp F H F' H'->Sees mp ν' σ'->σ'.length=N->(∀ i∈io,ν'[i]?=ν[i]?)->XP x Γ' F' ν' σ' H'
 |.bad=>False
def SS(X:Cx)(XP:XPT)(mp:Ac)(io:Ac)(st:Stmt)(f:SM):Prop:=∀(M0:Ae)(F:Fp)(Γ:Gv)(ν:Nu)(σ:St)(H:Hp)(D:Zf),RS M0 F Γ ν H->Sees mp ν σ->σ.length=X.N.length ->
 SPost M0 F ν H XP mp X.N.length io D (f Γ)->wpS X st D σ H
def SB(X:Cx)(XP:XPT)(mp:Ac)(io:Ac)(sts:List Stmt)(f:SM):Prop:=∀(M0:Ae)(F:Fp)(Γ:Gv)(ν:Nu)(σ:St)(H:Hp)(D:Zf),RS M0 F Γ ν H->Sees mp ν σ->σ.length=X.N.length ->
 SPost M0 F ν H XP mp X.N.length io D (f Γ)->wpB X sts D σ H
section
variable {M0:Ae}{F F1:Fp}{ν ν1:Nu}{σ:St}{H H1:Hp}{XP:XPT}{mp:Ac}{N:Nat}{io:Ac}{D:Zf}{r:R (FL×Gv)}
theorem SPost.step(h:SPost M0 F ν H XP mp N io D r)(s1:Stp F H F1 H1)(hn:∀ i∈io,ν1[i]?=ν[i]?):SPost M0 F1 ν1 H1 XP mp N io D r:=by
 cases r with
 |ok z=>
  obtain⟨fl,Γ'⟩:=z
  cases fl with
  |next=>exact λF' ν' σ' H' a b c d e=>h F' ν' σ' H' a (s1.trans b) c d λi hi=>(e i hi).trans (hn i hi)
  |brk=>exact λF' ν' σ' H' a b c d e=>h F' ν' σ' H' a (s1.trans b) c d λi hi=>(e i hi).trans (hn i hi)
  |cnt=>exact λF' ν' σ' H' a b c d e=>h F' ν' σ' H' a (s1.trans b) c d λi hi=>(e i hi).trans (hn i hi)
  |ret o=>exact λF' ν' v H' a b e=>h F' ν' v H' a (s1.trans b) λi hi=>(e i hi).trans (hn i hi)
 |exc x Γ'=>exact λF' ν' σ' H' a b c d e=>h F' ν' σ' H' a (s1.trans b) c d λi hi=>(e i hi).trans (hn i hi)
 |bad=>exact h
theorem SPost.seq{α:Type}{r:R (α×Gv)}{k:α×Gv->R (FL×Gv)}(hs:Sees mp ν σ)(hl:σ.length=N)(h:SPost M0 F ν H XP mp N io D (r.bind k)):EPost M0 F ν σ H XP (λF1 Γ1 H1 a=>SPost M0 F1 ν H1 XP mp N io D (k (a,Γ1))) r:=by
 cases r with
 |ok z=>
  obtain⟨a,Γ1⟩:=z
  intro F1 H1 rs1 s1
  have h':=h
  exact h'.step s1 λ_ _=>rfl
 |exc x Γ'=>exact λF' H' rs s=>h F' ν σ H' rs s hs hl λ_ _=>rfl
 |bad=>exact h
theorem SPost.seqO{r:R (OV×Gv)}(hs:Sees mp ν σ)(hl:σ.length=N)(h:SPost M0 F ν H XP mp N io D (r.bind k)):OPost M0 F ν σ H XP (λF1 Γ1 H1 o v=>SPost M0 F1 ν H1 XP mp N io D (k (o,Γ1))) r:=by
 cases r with
 |ok z=>
  obtain⟨a,Γ1⟩:=z
  intro F1 H1 v rs1 s1
  have h':=h
  exact h'.step s1 λ_ _=>rfl
 |exc x Γ'=>exact λF' H' rs s=>h F' ν σ H' rs s hs hl λ_ _=>rfl
 |bad=>exact h
end
noncomputable def sNext:SM:=λΓ=>.ok (.next,Γ)
noncomputable def sSeq(f g:SM):SM:=λΓ=>match f Γ with
 |.ok (.next,Γ1)=>g Γ1
 |r=>r
section
variable {X:Cx}{XP:XPT}{mp io:Ac}{a b c e tg iter:Expr}{pos p p2 pos':Pos}{fa fb:EM FV}{ta:EM Bool}{na:EM (Aa)}{fo:EM OV}{st:Stmt}{sts body els:List Stmt}{f g:SM}
theorem zii:SB X XP mp io [] sNext:=λM0 F Γ ν σ H D rs hs hl hp=>pss_nil.wp (hp F ν σ H rs (.refl _ _) hs hl λ_ _=>rfl)
theorem zdo{nx:St->Hp->Prop}(hp:SPost M0 F ν H XP mp N io D (sSeq f g Γ))
  (hn:∀ F1 Γ1 ν1 σ1 H1,RS M0 F1 Γ1 ν1 H1->Sees mp ν1 σ1->σ1.length=N->SPost M0 F1 ν1 H1 XP mp N io D (g Γ1)->nx σ1 H1):SPost M0 F ν H XP mp N io { D with nx:=nx } (f Γ):=by
 unfold sSeq at hp
 generalize f Γ=r at hp
 cases r with
 |ok z=>
  obtain⟨fl,Γ'⟩:=z
  cases fl with
  |next=>exact λF' ν' σ' H' a b c d e=>hn F' Γ' ν' σ' H' a c d (hp.step b e)
  |brk=>exact hp
  |cnt=>exact hp
  |ret o=>exact hp
 |exc x Γ'=>exact hp
 |bad=>exact hp
theorem zab(h1:SS X XP mp io st f)(h2:SB X XP mp io sts g):SB X XP mp io (st::sts) (sSeq f g):=λM0 F Γ ν σ H D rs hs hl hp=>
 (Zs K8 qF).wp (h1 M0 F Γ ν σ H _ rs hs hl (zdo hp λF1 Γ1 ν1 σ1 H1 rs1 hs1 hl1 h=>h2 M0 F1 Γ1 ν1 σ1 H1 D rs1 hs1 hl1 h))
theorem zf8:SS X XP mp io (.Pass pos) sNext:=λM0 F Γ ν σ H D rs hs hl hp=>ps_pass.wp (hp F ν σ H rs (.refl _ _) hs hl λ_ _=>rfl)
noncomputable def zjK:SM:=λ_=>.bad
theorem ziH:SS X XP mp io st zjK:=λM0 F Γ ν σ H D rs hs hl hp=>hp.elim
noncomputable def fD(fa:EM FV):EM OV:=λΓ=>(fa Γ).bind λ(u,Γ1)=>match derS Γ1 u with
 |some x=>.ok (.d x,Γ1)
 |none=>.bad
theorem RS.newD(r:RS M0 F Γ ν H)(q:Rep (MM M0 F) H v x):RS M0 F (Γ++ [@&x]) (ν++ [some v]) H:=by
 have he:=r.emp _ λo e=>by
  rw[xD (xi _)]at e;cases e
 refine⟨r.al0,r.dis0,r.nd,r.dis,λj o e=>?_,λj h=>?_,by simp[r.len]⟩
 ·by_cases hj:j<Γ.length
  ·rw[xc hj]at e
   obtain⟨w,e1,z⟩:=r.at' j o e
   exact⟨w,by rw[xc (by rw[r.len];exact hj)];exact e1,z⟩
  ·have hj':j=Γ.length:=by
    have:=(xb.mp e).1
    simp at this;omega
   subst hj'
   rw[xf (xi _)]at e
   have:(OV.d x)=o:=by simpa using e
   subst this
   refine⟨v,by rw[xf (by rw[r.len];exact xi _),r.len];simp,?_⟩
   rw[he];exact .d q
 ·refine r.emp j λo e=>h o ?_
  rw[xc (xb.mp e).1];exact e
theorem SE.so(h:SE X XP mp a fa):SO X XP mp a (fD fa):=λM0 F Γ ν σ H Q rs hs hp=>
 h M0 F Γ ν σ H Q rs hs (hp.seq.mono λF1 Γ1 H1 u rs1 s1 h1 v hv=>by
  dsimp only at h1
  split at h1
  next x e=>
   exact h1 F1 H1 v (rs1.newD (hv.strong rs1 e)) (.refl _ _)
  ·exact h1.elim)
noncomputable def fMove(i:Nat):EM OV:=λΓ=>match Γ[i]? with
 |some (some o)=>.ok (o,Γ.set i none)
 |_=>.bad
theorem RS.take{M0:Ae}{F:Fp}{Γ:Gv}{ν:Nu}{H:Hp}{i:Nat}{o:OV}(r:RS M0 F Γ ν H)(e:Γ[i]?=some (some o)):∃ F' v,ν[i]?=some (some v)/\RS M0 F' (Γ.set i none++ [some o]) (ν++ [some v]) H/\Stp F H F' H:=by
 obtain⟨v,ev,q⟩:=r.at' i o e
 have hi:=(xb.mp e).1
 let F':Fp:=λj=>if j=i then [] else if j=Γ.length then F i else F j
 have g1:F' i= []:=by show (if i=i then _ else _)=_;rw[if_pos rfl]
 have g2:F' Γ.length=F i:=by show (if Γ.length=i then _ else _)=_;rw[if_neg (by omega),if_pos rfl]
 have g3:∀ j,j≠i->j≠Γ.length->F' j=F j:=λj h1 h2=>by show (if j=i then _ else _)=_;rw[if_neg h1,if_neg h2]
 have cls:∀ j a,a∈F' j->(j=Γ.length/\a∈F i)∨(j≠i/\j≠Γ.length/\a∈F j):=λj a h=>by
  by_cases h1:j=i
  ·subst h1;rw[g1]at h;cases h
  ·by_cases h2:j=Γ.length
   ·subst h2;rw[g2]at h;exact .inl ⟨rfl,h⟩
   ·rw[g3 j h1 h2]at h;exact .inr ⟨h1,h2,h⟩
 have st:Stp F H F' H:=Za λj a h=>by
  rcases cls j a h with ⟨_,h⟩ | ⟨_,_,h⟩
  ·exact⟨_,h⟩
  ·exact⟨_,h⟩
 refine⟨F',v,ev,⟨r.al0,λj a h=>?_,λj=>?_,λj k a h1 h2=>?_,λj p ej=>?_,λj h=>?_,by simp[r.len]⟩,st⟩
 ·rcases cls j a h with ⟨_,h⟩ | ⟨_,_,h⟩
  ·exact r.dis0 _ a h
  ·exact r.dis0 _ a h
 ·by_cases h1:j=i
  ·subst h1;rw[g1];exact .nil
  ·by_cases h2:j=Γ.length
   ·subst h2;rw[g2];exact r.nd _
   ·rw[g3 j h1 h2];exact r.nd _
 ·rcases cls j a h1 with ⟨e1,z1⟩ | ⟨n1,m1,z1⟩
  ·rcases cls k a h2 with ⟨e2,z2⟩ | ⟨n2,m2,z2⟩
   ·rw[e1,e2]
   ·exact absurd (r.dis _ _ a z2 z1) n2
  ·rcases cls k a h2 with ⟨e2,z2⟩ | ⟨n2,m2,z2⟩
   ·exact absurd (r.dis _ _ a z1 z2) n1
   ·exact r.dis _ _ a z1 z2
 ·have hsl:(Γ.set i none).length=Γ.length:=by simp
  by_cases hj:j<Γ.length
  ·rw[xc (by omega)]at ej
   by_cases hji:j=i
   ·subst hji;rw[xj hi]at ej;cases ej
   ·rw[xh (Ne.symm hji)]at ej
    obtain⟨w,ew,z⟩:=r.at' j p ej
    refine⟨w,by rw[xc (by rw[r.len];exact hj)];exact ew,?_⟩
    rw[g3 j hji (by omega)]
    exact z.go (λ_ _ x=>zn st r.al0 x) st.tups λ_ _=>rfl
  ·have hj':j=Γ.length:=by
    have:=(xb.mp ej).1
    simp at this;omega
   subst hj'
   rw[xf (by omega),hsl]at ej
   have:o=p:=by simpa using ej
   subst this
   refine⟨v,by rw[xf (by rw[r.len];exact xi _),r.len];simp,?_⟩
   rw[g2]
   exact q.go (λ_ _ x=>zn st r.al0 x) st.tups λ_ _=>rfl
 ·by_cases h1:j=i
  ·subst h1;exact g1
  ·by_cases h2:j=Γ.length
   ·subst h2
    exact absurd (by rw[xf (by simp)];simp) (h o)
   ·rw[g3 j h1 h2]
    refine r.emp j λp ep=>h p ?_
    rw[xc (by simpa using (xb.mp ep).1),xh (Ne.symm h1)];exact ep
theorem zfZ {s i:Nat}(hN:X.N[s]?=some x) (hv:Vis X.env.scope x) (hm:mp[s]?=some i) (hd:(↥x)) (hcd:(x==("__classdict__" :Str))=false) :
  SO X XP mp (.Name x pos) (fMove i):=by?
 unfold fMove at hp
 split at hp
 next o q=>
  obtain⟨F',v,e1,rs1,s1⟩:=rs.take q
  exact (zQ hN hv hd hcd).wp ⟨v,hs s i v hm e1,hp F' H v rs1 s1⟩
 ·exact hp.elim
noncomputable def sRet(fo:EM OV):SM:=λΓ=>(fo Γ).bind λ(o,Γ1)=>.ok (.ret o,Γ1)
theorem ziJ(h:SO X XP mp e fo):SS X XP mp io (.Return (some e) pos) (sRet fo):=λM0 F Γ ν σ H D rs hs hl hp=>
 (Ki zc).wp (h M0 F Γ ν σ H _ rs hs ((SPost.seqO hs hl hp).mono λF1 Γ1 H1 o v rs1 s1 h1=>h1 F1 ν v H1 rs1 (.refl _ _) λ_ _=>rfl))
def SOt(XP:XPT)(mp:Ac)(t:TE)(f:EM OV):Prop:=∀(M0:Ae)(F:Fp)(Γ:Gv)(ν:Nu)(σ:St)(H:Hp)(Q:VK),RS M0 F Γ ν H->Sees mp ν σ ->
 OPost M0 F ν σ H XP (λF' Γ' H' o v=>Q v H') (f Γ)->t σ H Q
theorem SNt.so(h:SNt XP mp t na):SOt XP mp t (fOwn na):=λM0 F Γ ν σ H Q rs hs hp=>
 h M0 F Γ ν σ H Q rs hs (hp.seq.mono λF1 Γ1 H1 ds rs1 s1 h1 vs p r n=>by
  obtain⟨r2,s2⟩:=rs1.newO n r
  exact h1 _ _ _ r2 s2)
theorem SNt.sd(h:SNt XP mp t na):SOt XP mp t (fD (fNew na)):=λM0 F Γ ν σ H Q rs hs hp=>
 h M0 F Γ ν σ H Q rs hs (by
  have hp':OPost M0 F ν σ H XP (λF' Γ' H' o v=>Q v H') ((na Γ).bind λ(ds,Γ1)=>.ok (.d (.list ds),Γ1)):=by
   have e:fD (fNew na) Γ=(na Γ).bind λ(ds,Γ1)=>.ok (.d (.list ds),Γ1):=by
    unfold fD fNew
    cases na Γ<;>rfl
   rw[<- e];exact hp
  exact hp'.seq.mono λF1 Γ1 H1 ds rs1 s1 h1 vs p r n=>by
   have s2:Same H1 (upd H1 p (.lst vs)):=zr n
   exact h1 F1 _ _ ((rs1.same s2).newD (Rep.list zg (λz=>rs1.al p z n) (r.grow s2.grow))) (.same s2))
noncomputable def sAsg(io:Ac)(i:Nat)(fo:EM OV):SM:=λΓ=>(fo Γ).bind λ(o,Γ1)=>if i<Γ1.length/\i∉io then .ok (.next,Γ1.set i (some o)) else .bad
theorem yO{t:TE}(hps:PS X st (yR t (W4 s)))(hn:mp.Nodup)(hm:mp[s]?=some i)(hsl:s<X.N.length)(h:SOt XP mp t fo):SS X XP mp io st (sAsg io i fo):=λM0 F Γ ν σ H D rs hs hl hp=>
 hps.wp (h M0 F Γ ν σ H _ rs hs ((SPost.seqO hs hl hp).mono λF1 Γ1 H1 o v rs1 s1 h1=>by
  dsimp only at h1
  split at h1
  next hh=>
   obtain⟨F2,rs2,s2⟩:=rs1.move hh.1
   exact h1 F2 _ _ H1 rs2 s2 (hs.set hn hm (by rw[hl];exact hsl)) (by simpa using hl) λj hj=>by
    rw[xh (λz=>hh.2 (by rw[z];exact hj))]
  ·exact h1.elim))
theorem ziG{s i:Nat}(hN:X.N.Nodup)(hi:X.N[s]?=some x)(hx:Loc X.env.scope x)(hf:X.fn x=true∨X.env.scope.names.lookup x=some .local)(hn:mp.Nodup)(hm:mp[s]?=some i)(h:SO X XP mp e fo)
  (hsw:swapsWith e (some (.Name x pos')) pos.line X.env=pure false):SS X XP mp io (.Assign [.Name x pos'] e pos) (sAsg io i fo) :=
 yO (vA hN hi hx zc hsw hf) hn hm (xb.mp hi).1 h
noncomputable def sAsgT(t:IT)(fa:EM FV):SM:=λΓ=>(fa Γ).bind λ(u,Γ1)=>match derS Γ1 u with
 |some x=>match tgF t x Γ1 with
  |some Γ2=>.ok (.next,Γ2)
  |none=>.bad
 |none=>.bad
theorem zdB{t:IT}(ha:SE X XP mp e fa)(hg:SG X mp (·∈io) tg t)(hsw:swapsWithSole [tg] e pos.line X.env=pure false)(hw:swappedStores [tg] e X.env=pure none)
  (hps:PS X (.Assign [tg] e pos) (yR (wpE X e) (wpG X tg))):SS X XP mp io (.Assign [tg] e pos) (sAsgT t fa):=λM0 F Γ ν σ H D rs hs hl hp=>
 hps.wp (ha M0 F Γ ν σ H _ rs hs ((SPost.seq hs hl hp).mono λF1 Γ1 H1 u rs1 s1 h1 v hv=>by
  dsimp only at h1
  split at h1
  next x ex=>
   split at h1
   next Γ2 et=>
    exact hg M0 F1 Γ1 Γ2 ν σ H1 v x _ rs1 hs hl (hv.strong rs1 ex) et λF2 ν2 σ2 rs2 s2 hs2 hl2 n2 m2=>h1 F2 ν2 σ2 H1 rs2 s2 hs2 hl2 n2
   ·exact h1.elim
  ·exact h1.elim))
noncomputable def sExpr(fa:EM FV):SM:=λΓ=>(fa Γ).bind λ(_,Γ1)=>.ok (.next,Γ1)
theorem zf5(ha:SE X XP mp e fa)(hsw:swapsWith e none pos.line X.env=pure false):SS X XP mp io (.Expr e pos) (sExpr fa):=λM0 F Γ ν σ H D rs hs hl hp=>
 (Jl zc hsw).wp (ha M0 F Γ ν σ H _ rs hs ((SPost.seq hs hl hp).mono λF1 Γ1 H1 u rs1 s1 h1 v hv=>h1 F1 ν σ H1 rs1 (.refl _ _) hs hl λ_ _=>rfl))
noncomputable def sIf(t:EM Bool)(f g:SM):SM:=λΓ=>(t Γ).bind λ(b,Γ1)=>if b then f Γ1 else g Γ1
theorem zjW(hc:ST X XP mp c ta)(ha:SB X XP mp io body f)(hb:SB X XP mp io els g):SS X XP mp io (.If c body els pos) (sIf ta f g):=λM0 F Γ ν σ H D rs hs hl hp=>
 (zjC je qF qF).wp (hc M0 F Γ ν σ H _ rs hs ((SPost.seq hs hl hp).mono λF1 Γ1 H1 b rs1 s1 h1=>by
  cases b with
  |true=>exact Yq (ha M0 F1 Γ1 ν σ H1 D rs1 hs hl h1)
  |false=>exact Yp (hb M0 F1 Γ1 ν σ H1 D rs1 hs hl h1)))
noncomputable def qJ(t:IT)(body:SM):Aa->Gv->R (FL×Gv)
 |[],Γ=>.ok (.next,Γ)
 |d::ds,Γ=>match tgF t d Γ with
  |none=>.bad
  |some Γ1=>match body Γ1 with
   |.ok (.next,Γ2)=>qJ t body ds Γ2
   |.ok (.cnt,Γ2)=>qJ t body ds Γ2
   |.ok (.brk,Γ2)=>.ok (.next,Γ2)
   |r=>r
noncomputable def sFor(t:IT)(src:EM (Aa))(body:SM):SM:=λΓ=>(src Γ).bind λ(ds,Γ1)=>qJ t body ds Γ1
theorem ziI{t:IT}{src:EM (Aa)}(hpo:PassesOwn (model X.prog X.w) X.A X.env X.xe)(hc:X.calm=true)(hi:SI X XP mp tg iter src)(hg:SG X mp (·∈io) tg t)(hb:SB X XP mp io body f)
  (hf:∀ x,foldedSetIterable iter X.env x=pure x):SS X XP mp io (.For tg iter body [] pos) (sFor t src f):=λM0 F Γ ν σ H D rs hs hl hp=>by
 refine (zc8 hpo hc Jk yG qF hf).wp (hi M0 F Γ ν σ H _ rs hs ((SPost.seq hs hl hp).mono λF1 Γ1 H1 ds rs1 s1 h1 J hJ=>?_))
 dsimp only at h1
 refine⟨λi m σ' H'=>m=ds.length-i/\i<=ds.length/\∃ F' Γ' ν',RS M0 F' Γ' ν' H'/\Stp F1 H1 F' H'/\Sees mp ν' σ'/\σ'.length=X.N.length/\SPost M0 F' ν' H' XP mp X.N.length io D (qJ t f (ds.drop i) Γ'),⟨ds.length,by simp,ug _,F1,Γ1,ν,rs1,.refl _ _,hs,hl,h1⟩,?_⟩
 rintro i m σ' H' ⟨rfl,hil,F',Γ',ν',rs',st',hs',hl',hp'⟩
 obtain⟨jgo,jst⟩:=hJ i F' H' st' rs1.al0
 by_cases hlt:i<ds.length
 ·obtain⟨go,yl⟩:=jgo ds[i] (by simp[hlt])
  rw[List.drop_eq_getElem_cons hlt,qJ]at hp'
  refine .inr ⟨go,λσ2 H2=>∃ F2 Γ2 ν2,RS M0 F2 Γ2 ν2 H2/\Stp F1 H1 F2 H2/\Sees mp ν2 σ2/\σ2.length=X.N.length/\SPost M0 F2 ν2 H2 XP mp X.N.length io D (qJ t f (ds.drop (i+1)) Γ2),λσ2 H2 h=>⟨ds.length-(i+1),by omega,rfl,hlt,h⟩,λx H2 hy=>?_⟩
  obtain⟨s2,rx⟩:=yl x H2 hy
  cases et:tgF t ds[i] Γ' with
  |none=>rw[et]at hp';exact hp'.elim
  |some Γ2=>
   rw[et]at hp'
   dsimp only at hp'
   refine hg M0 F' Γ' Γ2 ν' σ' H2 x ds[i] _ (rs'.same s2) hs' hl' rx et λF3 ν3 σ3 rs3 s3 hs3 hl3 n3 m3=>?_
   have sA:=(Stp.same s2).trans s3
   refine hb M0 F3 Γ2 ν3 σ3 H2 _ rs3 hs3 hl3 ?_
   cases ef:f Γ2 with
   |bad=>rw[ef]at hp';exact hp'.elim
   |exc xx yy=>
    rw[ef]at hp'
    exact hp'.step sA n3
   |ok z=>
    obtain⟨fl,Γ4⟩:=z
    rw[ef]at hp'
    cases fl with
    |next=>exact λF4 ν4 σ4 H4 a b c d e=>⟨F4,Γ4,ν4,a,(st'.trans sA).trans b,c,d,hp'.step (sA.trans b) λi hi=>(e i hi).trans (n3 i hi)⟩
    |cnt=>exact λF4 ν4 σ4 H4 a b c d e=>⟨F4,Γ4,ν4,a,(st'.trans sA).trans b,c,d,hp'.step (sA.trans b) λi hi=>(e i hi).trans (n3 i hi)⟩
    |brk=>exact λF4 ν4 σ4 H4 a b c d e=>hp' F4 ν4 σ4 H4 a (sA.trans b) c d λi hi=>(e i hi).trans (n3 i hi)
    |ret o=>exact λF4 ν4 v4 H4 a b e=>hp' F4 ν4 v4 H4 a (sA.trans b) λi hi=>(e i hi).trans (n3 i hi)
 ·have e:i=ds.length:=by omega
  subst e
  rw[uM,qJ]at hp'
  exact .inl ⟨jst (xi _),hp' F' ν' σ' H' rs' (.refl _ _) hs' hl' λ_ _=>rfl⟩
theorem vn{M0:Ae}{F:Fp}{Γ:Gv}{ν:Nu}{H:Hp}{i:Nat}{xs:List OV}(rs:RS M0 F Γ ν H)(e:Γ[i]?=some (some (.l xs))):∃ a vs A,ν[i]?=some (some (.ref a))/\H a=some (.lst vs)/\ORL (MM M0 F) H vs xs A/\F i=a::A/\A.Nodup:=by
 obtain⟨v,ev,q⟩:=rs.at' i _ e
 have nd:=rs.nd i
 generalize hA:F i=A at q
 rw[hA]at nd
 cases q with
 |l ea qa=>exact⟨_,_,_,ev,ea,qa,rfl,(xA.mp nd).2⟩
theorem zcG{M0:Ae}{F:Fp}{Γ:Gv}{ν:Nu}{H:Hp}{i:Nat}{xs xs':List OV}{a:Ap}{vs vs':List V}(rs:RS M0 F Γ ν H)(e:Γ[i]?=some (some (.l xs)))(en:ν[i]?=some (some (.ref a)))(eh:H a=some (.lst vs))
  (h:∀ A,ORL (MM M0 F) H vs xs A->ORL (MM M0 F) H vs' xs' A):∃ F',RS M0 F' (Γ.set i (some (.l xs'))) ν (upd H a (.lst vs'))/\Stp F H F' (upd H a (.lst vs')) :=
 rs.mut e en λus A eu qa eF=>by
  rw[eh]at eu;cases eu
  have nd:=rs.nd i
  rw[eF]at nd
  exact⟨A,λ_ h=>h,(xA.mp nd).2,h A qa⟩
noncomputable def isOwn(Γ:Gv)(i:Nat):Bool:=match Γ[i]? with
 |some (some (.l _))=>true
 |_=>false
theorem Yo{Γ:Gv}{i:Nat}(h:isOwn Γ i=true):∃ xs,Γ[i]?=some (some (.l xs)):=by
 unfold isOwn at h
 split at h
 ·rename_i xs e;exact⟨xs,e⟩
 ·cases h
structure NmK(X:Cx)(mp:Ac)(s i:Nat)(x:Str):Prop where
 hN:X.N[s]?=some x
 hv:Vis X.env.scope x
 hm:mp[s]?=some i
 hd:(↥x)
 hcd:(x==("__classdict__" :Str))=false
noncomputable def sApp(i:Nat)(fa:EM FV):SM:=λΓ=>if isOwn Γ i then (fa Γ).bind λ(u,Γ1)=>match derS Γ1 u,Γ1[i]? with
 |some x,some (some (.l xs))=>if xs.length<1000000 then .ok (.next,Γ1.set i (some (.l (xs++ [.d x])))) else .bad
 |_,_=>.bad
 else .bad
theorem ziF{s i:Nat}{x:Str}(n:NmK X mp s i x)(ha:SE X XP mp a fa)(hst:a⁻¹)(hline:(p2.endLine==pos.line)=true) :
  SS X XP mp io (.Expr (.Call (.Attribute (.Name x p) "append" p2) [a] [] pos) pos') (sApp i fa):=λM0 F Γ ν σ H D rs hs hl hp=>by
 unfold sApp at hp
 split at hp
 next hw=>
  obtain⟨xs0,e0⟩:=Yo hw
  obtain⟨a0,vs0,A0,en0,eh0,q0,_,_⟩:=vn rs e0
  refine (Jl (zcR PySem.F.plainAttrs_list PySem.F.slot_list_append PySem.F.type_list_append VN (zQ n.hN n.hv n.hd n.hcd) (zt zc pa_nil hst) rfl (by rw[hst];rfl) hline hst rfl) rfl).wp ⟨.ref a0,hs s i _ n.hm en0,.inl ⟨rfl,_,SqL.of eh0⟩,?_⟩
  refine ha M0 F Γ ν σ H _ rs hs ((SPost.seq hs hl hp).mono λF1 Γ1 H1 u rs1 s1 h1 v hv=>?_)
  dsimp only at h1
  split at h1
  next y xs ey ex=>
   split at h1
   next hz=>
    obtain⟨a1,vs1,A1,en1,eh1,q1,_,_⟩:=vn rs1 ex
    rw[en0]at en1
    cases en1
    refine⟨a0,vs1,v,rfl,rfl,eh1,by have:=Xg;rw[q1.length];omega,?_⟩
    obtain⟨F2,rs2,s2⟩:=zcG rs1 ex en0 eh1 λA qa=>qa.snoc (hv.strong rs1 ey)
    exact h1 F2 ν σ _ rs2 s2 hs hl λ_ _=>rfl
   ·exact h1.elim
  ·exact h1.elim
 ·exact hp.elim
noncomputable def sSet(i:Nat)(fi fv:EM FV):SM:=λΓ=>(fv Γ).bind λ(u,Γ1)=>if isOwn Γ1 i then (fi Γ1).bind λ(w,Γ2)=>match derS Γ2 u,derf Γ2 w,Γ2[i]? with
 |some x,some (.int k),some (some (.l xs))=>match ixN xs.length k with
  |some j=>match xs[j]? with
   |some (.d _)=>.ok (.next,Γ2.set i (some (.l (xs.set j (.d x)))))
   |_=>.bad
  |none=>.bad
 |_,_,_=>.bad
 else .bad
theorem ziK{s i:Nat}{x:Str}(n:NmK X mp s i x)(hi:SE X XP mp b fb)(hv:SE X XP mp a fa)(hsw:swapsWithSole [.Subscript (.Name x p) b p2] a pos.line X.env=pure false)(hw:swappedStores [.Subscript (.Name x p) b p2] a X.env=pure none)
  (hps:∀{te:TE}{g:TG},PE X a te->PG X (.Subscript (.Name x p) b p2) g->PS X (.Assign [.Subscript (.Name x p) b p2] a pos) (yR te g)) (hpg:∀{to ti:TE}{t:zeh},PE X (.Name x p) to->PE X b ti->zgX X t->PG X (.Subscript (.Name x p) b p2) (zjn to ti t)) :
  SS X XP mp io (.Assign [.Subscript (.Name x p) b p2] a pos) (sSet i fb fa):=λM0 F Γ ν σ H D rs hs hl hp=>by
 refine (hps zc (hpg (zQ n.hN n.hv n.hd n.hcd) zc zdp)).wp (hv M0 F Γ ν σ H _ rs hs ((SPost.seq hs hl hp).mono λF1 Γ1 H1 u rs1 s1 h1 v ov=>?_))
 dsimp only at h1
 split at h1
 next hw=>
  obtain⟨xs0,e0⟩:=Yo hw
  obtain⟨a0,vs0,A0,en0,eh0,q0,_,_⟩:=vn rs1 e0
  refine⟨.ref a0,hs s i _ n.hm en0,?_⟩
  refine hi M0 F1 Γ1 ν σ H1 _ rs1 hs ((SPost.seq hs hl h1).mono λF2 Γ2 H2 w rs2 s2 h2 vi oi=>?_)
  dsimp only at h2
  split at h2
  next y k xs ey ek ex=>
   split at h2
   next j ej=>
    split at h2
    next z ez=>
     obtain⟨a1,vs1,A1,en1,eh1,q1,_,_⟩:=vn rs2 ex
     rw[en0]at en1
     cases en1
     cases oi.weak rs2 ek
     refine⟨a0,vs1,k,j,rfl,rfl,eh1,by rw[q1.length];exact ej,?_⟩
     obtain⟨F3,rs3,s3⟩:=zcG rs2 ex en0 eh1 λA qa=>qa.setD ((ov.stp s2 rs1.al0).strong rs2 ey) ez
     exact h2 F3 ν σ _ rs3 s3 hs hl λ_ _=>rfl
    ·exact h2.elim
   ·exact h2.elim
  ·exact h2.elim
 ·exact h1.elim
end
end L3
namespace L2
open PySem PySem.Spec PyProof.Rows
variable [Cs]
section
variable {X:Cx}{pins:Ak}{σ:List (Option V)}{H:Hp}{s:Am}{h':Heap}
theorem Inv.turnedL{ch:List Ap}(I:Inv X pins σ H s)(k:∀ b o,b∉ch->s.heap.get? b=some o->h'.get? b=some o)(there:∀ b o,b∈ch->s.heap.get? b=some o->∃ o',h'.get? b=some o')(hf:∀ b∈ch,Q4 X pins H b):Inv X pins σ H { s with heap:=h',toks:=t' }:=by
 have nit:∀ b u,H b=some u->b∉ch:=λb u e z=>by rw[(hf b z).1]at e;cases e
 refine I.step (λb hb=>?_) (λb o _ _ hc e _=>k b o hc e) (λb o _ _ hc e _=>⟨o.slots,k b o hc e⟩) (λ_ _ _ _ n=>n)
  (λb o hc e=>⟨o,k b o hc e⟩) (λ_ _ e=>e) (λ_ _ _ e=>e) (λb ps e=>⟨#[],by rw[e];simp⟩) (λm hm=>?_) (λb u e=>?_) I.bare
 ·obtain⟨f0,f1,f2,f3,f4,f5⟩:=hf b hb
  exact⟨f3,f1,f4,f5⟩
 ·obtain⟨o,es,ep,ho,r⟩:=hm
  exact⟨o,es,ep,k _ o (λz=>(hf _ z).2.1 rfl) ho,r⟩
 ·refine (I.hok b u e).stay (λc v hc q=>k c v ?_ q) (λ_ q=>q) λ_ _ q=>q
  rcases hc with z | z
  ·rw[z];exact nit b u e
  ·exact nit c _ z
end
noncomputable def Ite(K:Ah)(a:Ap):It :=
 ⟨λi H=>∃ xs x,SqL K H a xs/\xs[i]?=some x,λi H x H'=>∃ p y,H p=none/\H'=upd H p (.tup [.int i,y])/\x=.ref p/\∀ xs,SqL K H a xs->xs[i]?=some y,λi H=>∃ xs,SqL K H a xs/\xs.length<=i⟩
theorem zbp{K:Ah}{elts:Ag}{x1:Nat}{pos:Pos}(a e it:Ap)(hei:e≠it):vS P w K (.Tuple elts x1 pos) (Ite K a) [e,it] e (λi h=>(∃ old,IsEnum h e it i old)/\h.IsListIter it a i) where
 mem:=by simp
 obj:=λi h st b hb=>by
  obtain⟨⟨old,he⟩,hit⟩:=st
  rcases xC.mp hb with rfl | hb
  ·exact⟨_,he,λv z=>by cases z⟩
  ·have eb:b=it:=by simpa using hb
   subst eb
   obtain⟨o,e,c,d⟩:=hit
   exact⟨o,e,λv z=>by rw[d]at z;cases z⟩
 keep:=λi h h' st k=>by
  obtain⟨⟨old,he⟩,hit⟩:=st
  exact⟨⟨old,k e (by simp) _ he⟩,hit.at λo q=>k it (by simp) o q⟩
 item:=by
  intro X hP hw hK hc i pins s σ H E I hf st hg
  subst hP hw hK
  obtain⟨⟨old,he⟩,hit⟩:=st
  obtain⟨xs,x,hq,hx⟩:=hg
  obtain⟨its,rv,p,hz⟩:=I.list hq
  obtain⟨u,hu,ru⟩:=rv.get hx
  have helt:e<⇑s:=x8 he
  have hilt:it<⇑s:=by obtain⟨_,q,_⟩:=hit;exact x8 q
  refine wpAny_pyNext_enum_item he hit p.isList (by simpa using hu) hei λh1 ho hit1 hT hsz hk=>⟨.ref ⇑s,rfl,wpAny_letOwnedTupleGo_enum ho λh2 he2 hs2=>?_⟩
  have keep2:∀ b o,b≠e->b≠it->s.heap.get? b=some o->h2.get? b=some o:=λb o h1' h2' q=>(hs2.2 b h1').trans (hk b o h1' h2' q)
  have hit2:h2.IsListIter it a (i+1):=hit1.at λo q=>(hs2.2 it (Ne.symm hei)).trans q
  have I1:Inv X pins σ H { s with heap:=h2,toks:=s.toks+1 }:=I.turnedL (λb o hb q=>keep2 b o (λz=>hb (by simp[z])) (λz=>hb (by simp[z])) q) (λb o hb q=>by
   rcases xC.mp hb with rfl | hb
   ·exact⟨_,he2⟩
   ·have eb:b=it:=by simpa using hb
    subst eb
    obtain⟨o',q',_⟩:=hit2
    exact⟨o',q'⟩) hf
  have hTn:H ⇑s=none:=I.hok.fresh (xi _)
  have hT2:h2.get? ⇑s=some { cls:=.type "tuple",data:=.seq #[.int i s.toks,u] }:=(hs2.2 _ (uA helt)).trans hT
  have I2:Inv X pins σ (upd H ⇑s (.tup [.int i,x])) { s with heap:=h2,toks:=s.toks+1 }:=I1.track I.sz hTn (Ne.symm (xk I.lt)) (λy c q=>by
    obtain⟨v,ob,hob,_⟩:=I.cell y c q
    exact xk (x8 hob)) (λq hq'=>xk (x8 (I.pin q hq').1))
   ⟨by show 2<=sizeLine;decide,[.int i s.toks,u],.cons ⟨_,rfl⟩ (.cons ru .nil),⟨_,hT2,rfl,_,rfl⟩⟩
  refine⟨.ref ⇑s,_,I2,rfl,⟨_,x,hTn,rfl,rfl,λys hy=>by rw[I.list_inj hy hq];exact hx⟩,⟨⟨u,by simpa using he2⟩,hit2⟩,λb hb=>?_⟩
  rw[ze]
  ·exact (hf b hb).1
  ·rcases xC.mp hb with rfl | hb
   ·exact xk helt
   ·have eb:b=it:=by simpa using hb
    subst eb;exact xk hilt
 done:=by
  intro X hP hw hK hc i pins s σ H E I hf st hg
  subst hP hw hK
  obtain⟨⟨old,he⟩,hit⟩:=st
  obtain⟨xs,hq,hx⟩:=hg
  obtain⟨its,rv,p,hz⟩:=I.list hq
  obtain⟨f0,f1,f2,f3,f4,f5⟩:=hf it (by simp)
  have hl:=rv.length
  exact wpAny_pyNext_enum_end (I.ok.hd hc) he hit p.isList (by simp;omega) λh1 eb=>⟨rfl,I.turned (λb o hb q=>eb b o hb q) f0 f1 f3 f4 f5⟩
 self:=λ_ _ _ _ _ st h=>by
  obtain⟨⟨old,he⟩,_⟩:=st
  exact wpAny_pyIter_enum he h
theorem boot_enumW:bootBuiltins "enumerate" =some (.type "enumerate"):=by decide +kernel
section
variable {X:Cx}
def zjp(K:Ah)(tl:TE):TI:=λσ H R=>tl σ H λx H1=>∃ a,x=.ref a/\(∃ xs,SqL K H1 a xs)/\R (Ite K a) H1
theorem zfo {elts:Ag}{x1:Nat}{pt:Pos}{l:Expr}{p pos:Pos}(hg:Gl X "enumerate") (hm:X.mg "enumerate" =none) (hst:l⁻¹) :
  PI X (.Tuple elts x1 pt) (.Call (.Name "enumerate" p) [l] [] pos) (zjp X.K (wpE X l)):=by
 intro pins s σ H R I h
 have h':zdJ (wpE X l) ziP σ H (λvs H1=>∃ v,vs= [v]/\∃ a,v=.ref a/\(∃ xs,SqL X.K H1 a xs)/\R (Ite X.K a) H1):=wpE.mono h λv H1 q=>⟨v,rfl,q⟩
 refine Call_ (QH I hg hm boot_enumW (PyProof.Rows.callWith_type1 (thn ((zt zc pa_nil hst) pos pins s σ H _ I h') λus s1 ⟨vs,H1,I1,r1,q1⟩=>?_) hst rfl))
 obtain⟨v,rfl,a,rfl,⟨xs,hq⟩,q⟩:=q1
 obtain⟨u,rfl,ru⟩:=jX r1
 cases ru
 obtain⟨its,rv,pl,hz⟩:=I1.list hq
 refine call_enumerate_list pl.isList λh1 he hit hsz hk=>?_
 refine wpAny_pyIter_enum he ?_
 have I2:Inv X pins σ H1 { s1 with heap:=h1 }:=I1.kept hk
 refine⟨⇑s1+1,[⇑s1+1,⇑s1],_,_,H1,rfl,I2,zbp a _ _ (Nat.succ_ne_self _),⟨⟨_,he⟩,hit⟩,λb hb=>?_,q⟩
 rcases xC.mp hb with rfl | hb
 ·exact I1.fpOk (uP _) (I1.hok.fresh (uP _))
 ·have eb:b=⇑s1:=by simpa using hb
  subst eb
  exact I1.fpOk (xi _) (I1.hok.fresh (xi _))
end
end L2
namespace L3
open PySem PySem.Spec PyProof.Rows L2
variable [Cs]
noncomputable def z7(ds:Aa):Aa:=ds.zipIdx.map λp=>PyData.tuple [.int p.2,p.1]
theorem Z7{i:Nat}(h:(z7 ds)[i]?=some d):∃ x,ds[i]?=some x/\d=.tuple [.int i,x]:=by
 unfold z7 at h
 rw[xl,List.getElem?_zipIdx]at h
 cases e:ds[i]? with
 |none=>rw[e]at h;cases h
 |some x=>rw[e]at h;simp at h;exact⟨x,rfl,h.symm⟩
theorem zaM(ds:Aa):(z7 ds).length=ds.length:=by simp[z7]
noncomputable def fEnum(fa:EM FV):EM (Aa):=λΓ=>(fa Γ).bind λ(u,Γ1)=>match derS Γ1 u with
 |some (.list ds)=>.ok (z7 ds,Γ1)
 |_=>.bad
theorem zeX{F:Fp}{K:Ah}{H1:Hp}{l:Ap}(e:H1 l=some (.lst vs))(n:¬ MM M0 F l)(r:RepL (MM M0 F) H1 vs ds):JI M0 F (Ite K l) (z7 ds) H1:=λi F' H' s h0=>by
 have e':=(s.keep l _ e λj hj=>n (.inr ⟨j,hj⟩)).1
 refine⟨λd hd=>?_,λhl=>⟨vs,SqL.of e',by rw[zaM]at hl;rw[r.length];exact hl⟩⟩
 obtain⟨x,hx,rfl⟩:=Z7 hd
 obtain⟨v,hv,rv⟩:=r.get' hx
 refine⟨⟨vs,v,SqL.of e',hv⟩,λz H2 ⟨p,y,np,e2,ez,hy⟩=>?_⟩
 subst e2 ez
 have:=hy vs (SqL.of e')
 rw[hv]at this;cases this
 exact⟨zr np,.tuple zg (.cons (.int _) (.cons ((zn s h0 rv).grow (zr np).grow) .nil))⟩
section
variable {X:Cx}{XP:XPT}{mp:Ac}{a:Expr}{p pos:Pos}{fa:EM FV}
theorem zfQ (B:BiK X x (.type "enumerate")) (ex:x= "enumerate") (ha:SE X XP mp a fa) (hst:a⁻¹):SI X XP mp (.Tuple elts x1 pt) (.Call (.Name x p) [a] [] pos) (fEnum fa):=λM0 F Γ ν σ H R rs hs hp=>by
 subst ex
 exact (zfo B.gl B.mg hst).wp (ha.run rs hs hp λF1 Γ1 H1 u v rs1 s1 o1 h1=>by
  dsimp only at h1
  split at h1
  next ds eu=>
   obtain⟨l,vs,rfl,e,n,r⟩:=(o1.strong rs1 eu).lst_inv
   exact⟨l,rfl,⟨vs,SqL.of e⟩,h1 F1 H1 rs1 (.refl _ _) _ (zeX e n r)⟩
  ·exact h1.elim)
end
end L3
namespace L2
open PySem PySem.Spec PyProof.Rows
variable [Cs]
structure zi7(M:Ae)(H:Hp)(b c:Ap)(cells:List Int)(i l t s:Int):Prop where
 mb:M b
 hb:H b=some (.lst [.ref c,.int i,.int l,.int t,.int s])
 hc:Rep M H (.ref c) (.list (cells.map PyData.int))
 hi:0<=i
def BoxAt(M:Ae)(H:Hp)(b:Ap):Prop:=∃ c cells i l t s,zi7 M H b c cells i l t s
theorem BoxAt.lst(B:BoxAt M H b):∃ xs,H b=some (.lst xs):=let ⟨_,_,_,_,_,_,B⟩:=B;⟨_,B.hb⟩
noncomputable def zdA(K:Ah):Sp:=λvs H Q _=>∃(a:Ap)(ns:List Int),vs= [.ref a]/\SqL K H a (ns.map V.int)/\ns.length<=63/\∀ b H',Same H H'->H b=none->H' b≠none->BoxAt (λa=>a=b) H' b->Q (.ref b) H'
section
end
theorem Vi{n i:Nat}(e:(List.replicate n none:Ge)[i]?=some (some z)):False:=by
 rw[xT]at e
 split at e
 ·cases e
 ·cases e
theorem RS.blank{M:Ae}(n:Nat)(al:Al M H):RS M (List.replicate n none) σ H:=⟨al,λi d e=>(Vi e).elim,λi d e=>(Vi e).elim⟩
section
variable {X:Cx}{H:Hp}{D:Zf}{sts:List Stmt}{p pos pos' p2:Pos}{x:Str}{k:Nat}{Q:VK}
theorem zi3 {ns:List Int}{N:Ab}(hN:X.N.Nodup) (kb:Kn X.prog X.w X.K X.mg X.base CX0 "_law_box" k (zdA X.K)) (hr:Room k X.A) (hS:SqL X.K H a (ns.map V.int)) (hlen:ns.length<=63)
  (kk:∀ b σ' H',Same H H'->H b=none->BoxAt (λa=>a=b) H' b->RS (λa=>a=b) ((List.replicate X.N.length none).set 1 (some (.v (.ref b)))) σ' H'->σ'.length=X.N.length->wpB X sts D σ' H')
  (hNe:X.N=N) (h0:N[0]?=some ("_law_script" :Str)) (hi:X.N[1]?=some x:=by rfl) (hv0:Vis X.env.scope "_law_script" :=by first | exact Or.inl rfl | exact Or.inr (Or.inl rfl) | exact Or.inr (Or.inr rfl)) (hx:Loc X.env.scope x:=by first | exact Or.inl rfl | exact Or.inr rfl)
  (hf:X.fn x=true∨X.env.scope.names.lookup x=some .local:=by first | exact .inl rfl | exact .inr rfl | assumption) (hg:Gl X "_law_box" :=by rfl)
  (hs:starEach [.Name "_law_script" p2] X.env= [(false,eval (.Name "_law_script" p2) X.env)]:=by rfl) (hpl:(backTo p (starEach [] X.env)).any (·.1)=false:=by rfl) {p3:Pos} :
  wpB X (.Assign [.Name x pos'] (.Call (.Name "_law_box" p3) [.Name "_law_script" p2] [] p) pos::sts) D (start N [.ref a]) H:=by
 have hl:1<N.length:=by rw[<- hNe];exact (xb.mp hi).1
 have hst:(start N [V.ref a]).length=N.length:=yQ (by simp;omega)
 refine zkc 1 (Q:=λv H'=>∃ b,v=.ref b/\Same H H'/\H b=none/\BoxAt (λa=>a=b) H' b) hN (zgr kb hr hg zjA ((zt (zQ (by rw[hNe];exact h0) hv0) pa_nil hs).wp ⟨.ref a,by simp[start],a,ns,rfl,hS,hlen,λb H' s' nb _ hB=>⟨b,rfl,s',nb,hB⟩⟩) (by decide) hs hpl) (λv H1 ⟨b,ev,s1,nb,hB⟩=>?_) hi hx rfl hf
 subst ev
 refine kk b _ H1 s1 nb hB ((RS.blank X.N.length (λc hc=>?_)).setV (by rw[hst];exact hl)) (by rw[xS,hst,hNe])
 subst hc
 obtain⟨xs,hx⟩:=hB.lst
 rw[hx]
 exact λz=>nomatch z
end
section
end
end L2
namespace L3
open PySem PySem.Spec PyProof.Rows L2
variable [Cs]
noncomputable def QF:Aa->Option (List Int)
 |[]=>some []
 |.int b::r=>(QF r).map (b::·)
 |_=>none
theorem kR(ns:List Int):QF (ns.map .int)=some ns:=by
 induction ns with
 |nil=>rfl
 |cons b r ih=>simp[QF,ih]
section
end
section
variable {X:Cx}{XP:XPT}{mp:Ac}{a:Expr}{p2 pos:Pos}{fa:EM FV}
noncomputable def KM(fa:EM FV)(fl fh:EM (Option Int)):EM FV:=λΓ=>(fa Γ).bind λ(u,Γ1)=>(fl Γ1).bind λ(lo,Γ2)=>(fh Γ2).bind λ(hi,Γ3)=>match derS Γ3 u with
 |some (.tuple ds)=>if HT.sIx ds.length 0 lo=0/\HT.sIx ds.length ds.length hi=ds.length then .bad else .ok (.dat (.tuple (kA ds lo hi)),Γ3)
 |_=>.bad
theorem zfD{lo hi:Option Expr}(ha:SE X XP mp a fa)(hl:SOp X XP mp lo fl)(hh:SOp X XP mp hi fh):SE X XP mp (.Subscript a (.Slice lo hi none p2) pos) (KM fa fl fh):=by?
 obtain⟨tl,pl,kl⟩:=hl
 obtain⟨th,ph,kh⟩:=hh
 refine (vq ziB zc pl ph).wp (ha.run rs hs hp λF1 Γ1 H1 u v rs1 s1 o1 h1=>?_)
 refine kl M0 F1 Γ1 ν σ H1 _ rs1 hs (h1.seq.mono λF2 Γ2 H2 lo rs2 s2 h2=>?_)
 refine kh M0 F2 Γ2 ν σ H2 _ rs2 hs (h2.seq.mono λF3 Γ3 H3 hi rs3 s3 h3=>?_)
 dsimp only at h3
 split at h3
 next ds e=>
  split at h3
  ·exact h3.elim
  next hw=>
   have o3:=((o1.stp s2 rs1.al0).stp s3 rs2.al0)
   obtain⟨l,vs,rfl,el,rl⟩:=(o3.strong rs3 e).tup_inv
   exact⟨l,vs,rfl,SqT.of el,by rw[rl.length];exact hw,λp n=>h3 F3 _ (rs3.same (zr n)) (.same (zr n)) _ (Rep.tuple zg ((zde rl lo hi).grow (zr n).grow))⟩
 ·exact h3.elim
end
end L3
namespace Tab
open PySem PySem.SetTable
section
noncomputable def dedup{K:Type}[DecidableEq K](ks:List K):List K:=ks.foldl PyProof.Rows.step_dedup []
section
variable {K:Type}[DecidableEq K]
theorem zbm(σ:List K)(v k:K):(PyProof.Rows.step_dedup σ v).any (·==k)=(σ.any (·==k)||decide (k=v)):=by
 unfold PyProof.Rows.step_dedup
 by_cases e:k=v
 ·subst e;split<;>simp_all
 ·have:(v==k)=false:=by simpa using λh:v=k=>e h.symm
  split<;>simp[this,e]
theorem Jo(σ:List K)(v:K):(PyProof.Rows.step_dedup σ v).length=if σ.any (·==v) then σ.length else σ.length+1:=by
 unfold PyProof.Rows.step_dedup;split<;>simp
theorem WX{ks:List K}{i:Nat}{k:K}(h:ks[i]?=some k):dedup (ks.take (i+1))=PyProof.Rows.step_dedup (dedup (ks.take i)) k:=by
 unfold dedup
 rw[uf,h,List.foldl_append];rfl
theorem dedup_len(l:List K):(dedup l).length<=l.length:=by
 suffices H:∀(l acc:List K),(l.foldl PyProof.Rows.step_dedup acc).length<=acc.length+l.length by simpa [dedup] using H l []
 intro l
 induction l with
 |nil=>simp
 |cons x l ih=>
  intro acc
  have:=ih (PyProof.Rows.step_dedup acc x)
  rw[Jo]at this
  rw[List.foldl_cons,xr]
  split at this<;>omega
end
end
section
end
section
end
section
end
end Tab
namespace L2
open PySem PySem.Spec PyProof.Rows
variable [Cs]
section
end
end L2
namespace L3
open PySem PySem.Spec PyProof.Rows L2
variable [Cs]
section
end
end L3
namespace L2
open PySem PySem.Spec PyProof.Rows
section
end
variable [Cs]
section
end
end L2
namespace L3
open PySem PySem.Spec PyProof.Rows L2
variable [Cs]
section
end
section
end
section
end
theorem ORL.snocO(q:OR M H v o B):∀{vs:List V}{os:List OV}{A:List Ap},ORL M H vs os A->ORL M H (vs++ [v]) (os++ [o]) (A++B)
 |_,_,_,.nil=>by simpa using ORL.cons q .nil
 |_,_,_,.cons r t=>by rw[uz];exact .cons r (ORL.snocO q t)
section
end
section
end
section
end
inductive IW where
 |v (s i:Nat)
 |c (n:Int)
noncomputable def wD(Γ:Gv):IW->Option PyData
 |.v _ i=>match Γ[i]? with
  |some (@&x)=>some x
  |_=>none
 |.c n=>some (.int n)
def WOk(X:Cx)(mp:Ac)(a:Expr)(w:IW):Prop:=∀(M0:Ae)(F:Fp)(Γ:Gv)(ν:Nu)(σ:St)(H:Hp)(x:PyData),RS M0 F Γ ν H->Sees mp ν σ->wD Γ w=some x->∃ v,Rep (MM M0 F) H v x/\∀ Q:VK,Q v H->wpE X a σ H Q
section
variable {X:Cx}{mp:Ac}{c e:Expr}{p:Pos}
theorem zke(n:NmK X mp s i x):WOk X mp (.Name x p) (.v s i):=λM0 F Γ ν σ H y rs hs e=>by
 dsimp only [wD]at e
 split at e
 next z q=>
  cases e
  obtain⟨v,e1,r⟩:=rs.at' i _ q
  generalize F i=A at r
  cases r with
  |d r=>exact⟨v,r,λQ hq=>(zQ n.hN n.hv n.hd n.hcd).wp ⟨v,hs s i v n.hm e1,hq⟩⟩
 ·cases e
theorem zkd:WOk X mp (.Constant (.int n) j p) (.c n):=λM0 F Γ ν σ H y rs hs e=>by
 cases e
 exact⟨.int n,.int n,λQ hq=>pe_int.wp hq⟩
end
noncomputable def sRaise(x:Str):SM:=λΓ=>.exc ⟨x,.none⟩ Γ
def zjb(X:Cx)(XP:XPT):Prop:=∀(x:Exc)(Γ:Gv)(F:Fp)(ν:Nu)(σ:St)(H:Hp),x.pay=.none->XP x Γ F ν σ H->∀ C,X.mg x.cls=some (.ref C)->∀ pins s,Inv X pins σ H s->∀ h' ea,MadeX s.heap h' ea (.ref C) none->X.xe (.ref ea) { s with heap:=h' }
section
variable {X:Cx}{XP:XPT}{mp io:Ac}{x:Str}{C:Ap}{np cpos pos cp:Pos}{z:Str}{cj:Nat}
theorem zdC(k:zbH X x C)(hcalm:X.calm=true)(rz:zjb X XP):SS X XP mp io (.Raise (some (.Call (.Name x np) [.Constant (.str z) cj cp] [] cpos)) none pos) (sRaise x):=λM0 F Γ ν σ H D rs hs hl hp=>
 zec k hcalm λpins s I h' ea hm=>rz ⟨x,.none⟩ Γ F ν σ H rfl (hp F ν σ H rs (.refl _ _) hs hl λ_ _=>rfl) C k.mg pins s I h' ea hm
end
section
end
section
end
section
end
end L3
namespace L2
open PySem PySem.Spec PyProof.Rows
section
variable {β:Type}
noncomputable def zq(ds:List (Str×β))(x:Str):Option β:=(ds.find? λp=>decide (p.1=x)).map (·.2)
noncomputable def zy(ds:List (Str×β))(x:Str)(y:β):List (Str×β):=if (ds.any λp=>decide (p.1=x))=true then ds.map (λp=>if p.1=x then (p.1,y) else p) else ds++ [(x,y)]
noncomputable def Vv(ds:List (Str×β))(x:Str):List (Str×β):=ds.filter λp=>decide (p.1≠x)
noncomputable def zf(ds more:List (Str×β)):List (Str×β):=more.foldl (λacc p=>zy acc p.1 p.2) ds
theorem wO(ds:List (Str×β))(x:Str)(y:β):(zy ds x y).length<=ds.length+1:=by
 unfold zy
 split
 ·rw[xn];omega
 ·rw[xB,xr,uh];omega
end
theorem inr_eq:((Sum.inr x:Key)=Sum.inr y)↔x=y:=⟨λh=>by injection h,λh=>by rw[h]⟩
theorem Jv(x:Str):∀(ks:List (Str×V)),Ju (ks.map kK) (.inr x)=zq ks x
 |[]=>rfl
 |p::r=>by
  have ih:=Jv x r
  unfold Ju zq at *
  rw[xw,xX,xX]
  by_cases h:p.1=x
  ·rw[decide_eq_true (show (kK p).1=Sum.inr x from inr_eq.mpr h),decide_eq_true h];rfl
  ·rw[Xc (show ¬ (kK p).1=Sum.inr x from λz=>h (inr_eq.mp z)),Xc h];exact ih
theorem zbM(x:Str):∀(ks:List (Str×V)),((ks.map kK).any λp=>decide (p.1=(.inr x:Key)))=ks.any λp=>decide (p.1=x)
 |[]=>rfl
 |p::r=>by
  rw[xw,xY,xY,zbM x r]
  congr 1
  exact decide_eq_decide.mpr inr_eq
theorem yK(ks:List (Str×V))(x:Str)(v:V):Zg (ks.map kK) (.inr x) v=(zy ks x v).map kK:=by
 unfold Zg zy
 rw[zbM]
 split
 ·rw[xF,xF]
  refine uB λp _=>?_
  show (if (kK p).1=Sum.inr x then _ else _)=kK (if p.1=x then _ else _)
  by_cases h:p.1=x
  ·rw[if_pos (show (kK p).1=Sum.inr x from inr_eq.mpr h),if_pos h];rfl
  ·rw[if_neg (show ¬ (kK p).1=Sum.inr x from λz=>h (inr_eq.mp z)),if_neg h]
 ·rw[xG];rfl
theorem Yh(x:Str):∀(ks:List (Str×V)),WZ (ks.map kK) (.inr x)=(Vv ks x).map kK
 |[]=>rfl
 |p::r=>by
  have ih:=Yh x r
  unfold WZ Vv at *
  rw[xw,xU,xU]
  by_cases h:p.1=x
  ·rw[if_neg (by simp[kK,h]),if_neg (by simp[h])];exact ih
  ·rw[if_pos (by simp[kK,inr_eq,h]),if_pos (by simp[h]),xw,ih]
theorem VG:∀(more ks:List (Str×V)),QQ (ks.map kK) (more.map kK)=(zf ks more).map kK
 |[],ks=>rfl
 |p::r,ks=>by
  show QQ (Zg (ks.map kK) (.inr p.1) p.2) (r.map kK)=_
  rw[yK,VG r];rfl
variable [Cs]
inductive KR(M:Ae)(H:Hp):List (Str×V)->Ad->Prop
 |nil:KR M H [] []
 |cons {x:Str} {v:V} {d:PyData} {ks:List (Str×V)} {ds:Ad}:Rep M H v d->KR M H ks ds->KR M H ((x,v)::ks) ((x,d)::ds)
section
variable {M M':Ae}{H H':Hp}
theorem KR.of:∀{ks:List (Str×V)}{ds:Ad},ks.map (·.1)=ds.map (·.1)->RepL M H (ks.map (·.2)) (ds.map (·.2))->KR M H ks ds
 |[],[],_,_=>.nil
 |[],_::_,h,_=>by simp at h
 |_::_,[],h,_=>by simp at h
 | (x,v)::ks,(y,d)::ds,h,r=>by
  simp only[xw,List.cons.injEq]at h
  obtain⟨rfl,h⟩:=h
  simp only[xw]at r
  cases r with
  |cons r t=>exact .cons r (KR.of h t)
theorem KR.keys:∀{ks:List (Str×V)}{ds:Ad},KR M H ks ds->ks.map (·.1)=ds.map (·.1)
 |_,_,.nil=>rfl
 |_,_,.cons _ t=>by rw[xw,xw,t.keys]
theorem KR.vals:∀{ks:List (Str×V)}{ds:Ad},KR M H ks ds->RepL M H (ks.map (·.2)) (ds.map (·.2))
 |_,_,.nil=>.nil
 |_,_,.cons r t=>.cons r t.vals
theorem KR.length(h:KR M H ks ds):ks.length=ds.length:=by have:=congrArg List.length h.keys;simpa using this
theorem KR.map(hr:∀ v d,Rep M H v d->Rep M' H' v d):∀{ks:List (Str×V)}{ds:Ad},KR M H ks ds->KR M' H' ks ds
 |_,_,.nil=>.nil
 |_,_,.cons r t=>.cons (hr _ _ r) (t.map hr)
theorem KR.any(x:Str):∀{ks:List (Str×V)}{ds:Ad},KR M H ks ds->(ks.any λp=>decide (p.1=x))=ds.any λp=>decide (p.1=x)
 |_,_,.nil=>rfl
 |_,_,.cons _ t=>by rw[xY,xY,t.any x]
theorem KR.repl(r:Rep M H v d):∀{ks:List (Str×V)}{ds:Ad},KR M H ks ds->KR M H (ks.map λp=>if p.1=x then (p.1,v) else p) (ds.map λp=>if p.1=x then (p.1,d) else p)
 |_,_,.nil=>.nil
 |_,_,.cons (x:=y) q t=>by
  rw[xw,xw]
  by_cases h:y=x
  ·rw[if_pos h,if_pos h];exact .cons r (t.repl r)
  ·rw[if_neg h,if_neg h];exact .cons q (t.repl r)
theorem KR.append:∀{ks ks':List (Str×V)}{ds ds':Ad},KR M H ks ds->KR M H ks' ds'->KR M H (ks++ks') (ds++ds')
 |_,_,_,_,.nil,s=>s
 |_,_,_,_,.cons r t,s=>.cons r (t.append s)
theorem KR.put(x:Str)(h:KR M H ks ds)(r:Rep M H v d):KR M H (zy ks x v) (zy ds x d):=by
 unfold zy
 rw[h.any x]
 split
 ·exact h.repl r
 ·exact h.append (.cons r .nil)
theorem KR.drop(x:Str):∀{ks:List (Str×V)}{ds:Ad},KR M H ks ds->KR M H (Vv ks x) (Vv ds x)
 |_,_,.nil=>.nil
 |_,_,.cons (x:=y) q t=>by
  unfold Vv
  rw[xU,xU]
  by_cases h:y=x
  ·rw[if_neg (by simp[h]),if_neg (by simp[h])];exact t.drop x
  ·rw[if_pos (by simp[h]),if_pos (by simp[h])];exact .cons q (t.drop x)
theorem KR.merge:∀{more:List (Str×V)}{md:Ad}{ks:List (Str×V)}{ds:Ad},KR M H more md->KR M H ks ds->KR M H (zf ks more) (zf ds md)
 |_,_,_,_,.nil,h=>h
 |_,_,_,_,.cons (x:=x) r t,h=>by
  have:=KR.merge t (h.put x r)
  exact this
theorem KR.val(x:Str):∀{ks:List (Str×V)}{ds:Ad},KR M H ks ds->(zq ks x).isSome=(zq ds x).isSome/\∀ d,zq ds x=some d->∃ v,zq ks x=some v/\Rep M H v d
 |_,_,.nil=>⟨rfl,λd e=>by cases e⟩
 |_,_,.cons (x:=y) (v:=v) q t=>by
  have ih:=t.val x
  unfold zq at *
  rw[xX,xX]
  by_cases h:y=x
  ·rw[decide_eq_true (show (y,v).1=x from h)]
   exact⟨rfl,λd e=>by cases e;exact⟨v,rfl,q⟩⟩
  ·rw[Xc (show ¬ (y,v).1=x from h)];exact ih
theorem KR.get:∀{ks:List (Str×V)}{ds:Ad}{i:Nat}{p:Str×PyData},KR M H ks ds->ds[i]?=some p->∃ v,ks[i]?=some (p.1,v)/\Rep M H v p.2
 |_,_,_,_,.nil,e=>by simp at e
 |_,_,0,_,.cons r _,e=>by simp at e;subst e;exact⟨_,rfl,r⟩
 |_,_,i+1,p,.cons _ t,e=>by
  obtain⟨v,h1,h2⟩:=KR.get t (by simpa using e)
  exact⟨v,by simpa using h1,h2⟩
theorem Rep.dict_inv(r:Rep M H v (.dict kv)):∃ a,v=.ref a/\¬ M a/\((∃ ks ds,Rd H a (.dK (ks.map kK))/\kv=ds.map dK/\KR M H ks ds)∨(∃ dx c fs ds,H a=some (.ins (Cs.adr c) dx fs)/\kv=(.none,.str c)::ds.map dK/\KR M H fs ds)∨∃ dx c fs ds,H a=some (ExO (Cs.adr c) dx a)/\(dx=Option.none/\fs= []∨∃ d,dx=some d/\H d=some (.xd fs)/\¬ M d)/\kv=(.bool true,.str c)::ds.map dK/\KR M H fs ds):=by
 cases r with
 |dict e n k q=>exact⟨_,rfl,n,.inl ⟨_,_,e,rfl,.of k q⟩⟩
 |inst e n k q=>exact⟨_,rfl,n,.inr (.inl ⟨_,_,_,_,e,rfl,.of k q⟩)⟩
 |exo e n x k q=>exact⟨_,rfl,n,.inr (.inr ⟨_,_,_,_,e,x,rfl,.of k q⟩)⟩
end
noncomputable def unD:Ao->Option (Ad)
 |[]=>some []
 | (.str x,d)::r=>(unD r).map ((x,d)::·)
 |_=>none
theorem zR(ds:Ad):unD (ds.map dK)=some ds:=by
 induction ds with
 |nil=>rfl
 |cons p r ih=>simp[unD,dK,ih]
section
variable {X:Cx}{pins:Ak}{σ:St}{H:Hp}{s:Am}{a b:Ap}{kvs more:List (Key×V)}{A:Around}{E:Af}
theorem zb4{Q:Af}(I:Inv X pins σ H s)(e:H a=some (.dK kvs))(e2:Rd H b (.dK more))(hab:a≠b)(hl:kvs.length+more.length<=sizeLine)
  (h:∀ s',Inv X pins σ (upd H a (.dK (QQ kvs more))) s'->Q .none s'):wpAny (model X.prog X.w) A (call (.builtin "dict.update") [.ref a,.ref b]) Q E s:=by
 obtain⟨z,hd,vs,rel,dd⟩:=KJ I.hok e
 obtain⟨z2,hd2,ws,rel2,dd2⟩:=Qg I.hok e2
 refine call_meetsIn PySem.F.slot_dict_update dd.typeIs PySem.F.entry_dict_update (PySem.F.args_dict_update_2 _ _) (meets_dict_update (zA X.prog X.w) a b hab hd2) ⟨vs,ws,dd,dd2,by rw[<- rel.length,<- rel2.length];exact hl,λh' dd' _ hs=>h _ ?_⟩
 have he:∃ q,h'.get? a=some q:=let ⟨q,_,_,hq,_⟩:=dd';⟨q,hq⟩
 exact Wp I (by rw[e];exact True.intro) hs he (WY (xJ (Qh more kvs) hl) hd (rel2.merge rel) dd')
end
def zj3(td te:TE):TE:=λσ H Q=>td σ H λx H1=>∃ a,x=.ref a/\IsD H1 a/\te σ H1 λy H2=>∃ b kvs more,y=.ref b/\H2 a=some (.dK kvs)/\Rd H2 b (.dK more)/\a≠b/\kvs.length+more.length<=sizeLine/\Q .non (upd H2 a (.dK (QQ kvs more)))
section
variable {X:Cx}{o e:Expr}{apos cpos:Pos}{td te:TE}
theorem zfl (ho:PE X o td) (he:PE X e te) (m:M1 X o "update" apos e cpos):PE X (.Call (.Attribute o "update" apos) [e] [] cpos) (zj3 td te):=by
 cbv
 refine wpAny_Call_method m.base m.few m.line PySem.F.plainAttrs_dict PySem.F.slot_dict_update PySem.F.type_dict_update (thn (ho pins s σ H _ I h) λu s1 ⟨x,H1,I1,rx,a,ex,d,q1⟩=>?_)
 subst ex
 obtain rfl:u=Value.ref a:=rx
 obtain⟨t1,t2,_⟩:=kS I1 d
 refine⟨t1,t2,?_⟩
 rw[m.trees]
 refine Calls.callWith_builtin rfl (Calls.evalArgs_plain (Calls.spliced_cons (thn (he pins s1 σ H1 _ I1 q1) λiv s2 ⟨y,H2,I2,ry,b,kvs,more,ey,e1,e2,hab,hl,q2⟩=>Calls.spliced_nil ?_)))
 subst ey
 obtain rfl:iv=Value.ref b:=ry
 exact zb4 I2 e1 e2 hab hl λs3 I3=>⟨.non,_,I3,rfl,q2⟩
theorem zaC:qZ X (.type "dict") (λxs H Q=>∃ a kvs,xs= [V.ref a]/\Rd H a (.dK kvs)/\∀ p,H p=none->Q (.ref p) (upd H p (.dK kvs))):=by
 intro pins s σ H xs us Q I r h
 obtain⟨a,kvs,rfl,e,q⟩:=h
 obtain⟨u,rfl,rx⟩:=jX r
 cases rx
 exact zb2 I e λp s' hp I'=>⟨.ref p,_,I',rfl,q p hp⟩
end
noncomputable def Zd(ss:Ab):Ab:=ss.mergeSort λa b=> !decide (b.cps.toList<a.cps.toList)
theorem QV(ss:Ab):(Zd ss).Perm ss:=List.mergeSort_perm _ _
theorem zbk(ss:Ab):(Zd ss).length=ss.length:=(QV ss).length_eq
theorem Str.ext'{a b:Str}(h:a.cps.toList=b.cps.toList):a=b:=by
 cases a with
 |mk x=>
  cases b with
  |mk y=>
   have:x=y:=by
    cases x;cases y
    exact congrArg Array.mk h
   rw[this]
theorem zdz(ss:Ab):(Zd ss).Pairwise (λa b=>¬ b.cps.toList<a.cps.toList):=by
 have h:=List.pairwise_mergeSort (le:=λa b:Str=> !decide (b.cps.toList<a.cps.toList)) (by
  intro a b c h1 h2
  simp only[uH,decide_eq_false_iff_not]at *
  exact List.le_trans h1 h2) (by
  intro a b
  simp only[xN,uH,decide_eq_false_iff_not]
  exact List.le_total _ _) ss
 exact h.imp λ{a b} h=>by simpa using h
theorem wU:∀(p:Str)(l:Ab),risingS p l=true->(p::l).Pairwise (λa b=>¬ b.cps.toList<a.cps.toList)
 |p,[],_=>by simp
 |p,x::r,h=>by
  unfold risingS at h
  rw[xa,uH,ltCps_eq,decide_eq_false_iff_not]at h
  have ih:=wU x r h.2
  refine List.pairwise_cons.mpr ⟨λy hy=>?_,ih⟩
  rcases xC.mp hy with rfl | hy
  ·exact h.1
  ·exact List.le_trans h.1 (List.rel_of_pairwise_cons ih hy)
theorem zdy{ss ms:Ab}(hp:ms.Perm ss)(hs:sortedS ms=true):ms=Zd ss:=by
 have h1:ms.Pairwise (λa b=>¬ b.cps.toList<a.cps.toList):=by
  cases ms with
  |nil=>exact .nil
  |cons x r=>exact wU x r hs
 exact List.Perm.eq_of_pairwise (λa b _ _ h1 h2=>Str.ext' (List.le_antisymm h1 h2)) h1 (zdz ss) (hp.trans (QV ss).symm)
theorem StrsAre.of:∀{ss:Ab}{us:An},Vals (ss.map V.str) us->StrsAre us ss
 |[],_,.nil=>.nil
 |n::ns,_,.cons ⟨t,e⟩ r=>by subst e;exact .cons n t (StrsAre.of r)
theorem Vals.ofStrs:∀{us:An}{ss:Ab},StrsAre us ss->Vals (ss.map V.str) us
 |_,_,.nil=>.nil
 |_,_,.cons n t r=>.cons ⟨t,rfl⟩ (Vals.ofStrs r)
section
end
section
variable {prog:Ar}{w:World}{A:Around}{E:Af}{s:Am}
open PySem.W in
theorem yf{Q:An->Am->Prop}(hh:A.handled=none)(lo:(d==sysModules)=false)(hm:s.heap.DictAt (zA prog w) d kvs ep)(hsz:kvs.length<=sizeLine)
  (h:∀(vs:Array Aj)(h':Heap)(tk:Nat),ItemsOf (λi v=>∃ k x,kvs[i]?=some (k,x)/\(zA prog w).is k v=true) vs kvs.length->(∀ b o,s.heap.get? b=some o->h'.get? b=some o)->⇑s<h'.objs.size->Q vs.toList { s with heap:=h',toks:=tk }) :
  wpAny (model prog w) A (collect (.ref d)) Q E s:=by
 have hds:=hm.lt_size
 have key:∀ R:Result->Am->Prop,(∀ h' tk acc' c',(∀ b o,b≠⇑s->(s.heap.push (seqObj "list" #[] 0)).get? b=some o->h'.get? b=some o)->h'.get? ⇑s=some { cls:=.type "list",dict:=none,data:=.seq acc' c',slots:=#[] }->ItemsOf (λi v=>∃ k x,kvs[i]?=some (k,x)/\(zA prog w).is k v=true) acc' kvs.length->R (.ok (.ret (.ref ⇑s))) { s with heap:=h',toks:=tk }) ->
   codeAny (model prog w) A (.builtin "proto.collect" ⟨[.ref d],[]⟩) R s:=λR hR=>by
  refine codeAny_builtin entry_proto_collect' ?_
  show wpAny _ _ (do again (.builtin "list.__iadd__" ⟨[<- newList [],.ref d],[]⟩)) _ _ s
  refine x5 (wpAny_newList (x9 ⟨Code.quiet_builtin _ (by decide +kernel),codeAny_builtin entry_list_iadd' ?_⟩))
  show wpAny _ _ (Builtin.List.listExtendWith (.ref ⇑s) (.ref d) (.ref ⇑s)) _ _ { s with heap:=s.heap.push (seqObj "list" #[] 0) }
  rw[Around.under_plainId (show plainId "list.__iadd__" =true by decide +kernel)]
  exact kdl_extend (s:={ s with heap:=s.heap.push (seqObj "list" #[] 0) }) (kdl_dict (knd:=zA prog w) (kvs:=kvs) (ep:=ep) lo) hh (hm.push _) ⇑s (uA hds) (uA hds) (.ref ⇑s) 0 (Xa _ rfl) (λh' tk acc' c' k1 k2 k3=>hR h' tk acc' c' k1 k2 k3) hsz
 unfold collect
 refine x5 (wpAny_runValue (key _ λh' tk acc' c' k1 k2 k3=>?_))
 show wpAny (model prog w) A (do
   let o<-load ⇑s
   match o.data with
   |.seq xs _=>pure xs.toList
   |_=>unsupported "internal:collect") Q E { s with heap:=h',toks:=tk }
 refine x5 (wpAny_load k2 ?_)
 exact x9 (h acc' h' tk k3 (λb o e=>k1 b o (xk (x8 e)) (x6 _ e)) (x8 k2))
end
theorem KZ(h:(zA P w).is k u=true):RelV (kV k) u:=by
 rcases zI h with ⟨i,t,rfl,rfl⟩ | ⟨x,t,rfl,rfl⟩
 ·exact⟨t,rfl⟩
 ·exact⟨t,rfl⟩
section
variable {X:Cx}
theorem ye (hcalm:X.calm=true):qZ X (.builtin "sorted") (λxs H Q=>∃ (p:Ap) (ks:List (Str×V)),xs= [.ref p]/\Rd H p (.dK (ks.map kK))/\ks.length<64/\∀ l,H l=none->Q (.ref l) (upd H l (.lst ((Zd (ks.map (·.1))).map V.str)))):=by
 intro pins s σ H xs us Q I r h
 obtain⟨p,ks,rfl,hq,h64,q⟩:=h
 obtain⟨u,rfl,rx⟩:=jX r
 cases rx
 obtain⟨z,hd,vs0,rel,dd⟩:=Qg I.hok hq
 obtain⟨ep,hat⟩:=dd.dictAt
 have hlen:vs0.length=ks.length:=by rw[<- rel.length,xn]
 refine Calls.call_function_entry kind_sorted plain_sorted entry_sorted (args_sorted1 _) ?_
 unfold Builtin.«sorted»
 refine x5 (m:=checkCount "sorted" 1 1 _) (x9 ?_)
 refine x5 (yf (by exact I.ok.hd hcalm) hd hat (by rw[<- rel.length];exact z) λvs h' tk hi hk hlt=>?_)
 have hS:StrsAre vs.toList (ks.map (·.1)):=by
  refine StrsAre.of ?_
  have hsz:vs.size=ks.length:=by rw[hi.1,hlen]
  have key:∀(l:List (Str×V))(us:An),us.length=l.length->(∀(j:Nat)(v:Aj),us[j]?=some v->∃(x:Str)(y:V),l[j]?=some (x,y)/\RelV (.str x) v)->Vals ((l.map (·.1)).map V.str) us:=by
   intro l
   induction l with
   |nil=>
    intro us h1 _
    cases us with
    |nil=>exact .nil
    |cons _ _=>simp at h1
   |cons p l ih=>
    intro us h1 h2
    cases us with
    |nil=>simp at h1
    |cons u us=>
     obtain⟨x,y,e1,e2⟩:=h2 0 u rfl
     simp at e1
     subst e1
     exact .cons e2 (ih us (by simpa using h1) λj v hj=>by simpa using h2 (j+1) v (by simpa using hj))
  refine key ks vs.toList (by simpa using hsz) λj v hj=>?_
  obtain⟨k,x,e1,e2⟩:=hi.2 j v (by simpa using hj)
  have hkj:((ks.map kK).map (·.1))[j]?=some k:=by rw[rel.keys,xl,e1];rfl
  rw[xF,xl]at hkj
  cases eq:ks[j]? with
  |none=>rw[eq]at hkj;cases hkj
  |some p=>
   rw[eq]at hkj
   have ek:(Sum.inr p.1:Key)=k:=by simpa [kK] using hkj
   subst ek
   exact⟨p.1,p.2,rfl,KZ e2⟩
 have hl64:vs.toList.length<64:=by
  have:vs.size=ks.length:=by rw[hi.1,hlen]
  simp[this];omega
 refine x5 (wpAny_newList ?_ (by have:=Xg;omega))
 have hoL:(h'.push (seqObj "list" vs.toList.toArray 0)).get? h'.objs.size=some (seqObj "list" vs.toList.toArray 0):=Xa _ rfl
 show wpAny _ _ _ _ _ { s with heap:=h'.push (seqObj "list" vs.toList.toArray 0),toks:=tk }
 refine x5 (Xd (wpAny_call_entry slot_list_sort ⟨_,hoL,rfl⟩ entry_list_sort (list_sort_treeK strKind_oneLt hoL hS.keysOf (λv₁ v₂ rest e=>keyKind_strs (by rw[<- e];exact hS)) hl64 λst' a1 a2=>⟨_,rfl,?_⟩) (args_list_sort _)))
 obtain⟨ss',b1,b2,b3⟩:=sorted_out_str hS a1 a2
 have e:=zdy b2 b3
 subst e
 have hold:∀ b o,s.heap.get? b=some o->(sortedHeap (h'.push (seqObj "list" vs.toList.toArray 0)) h'.objs.size vs.toList ((arrOf st').map (·.2))).get? b=some o:=λb o e=>by
  have e2:=hk b o e
  have e3:=x6 (seqObj "list" vs.toList.toArray 0) e2
  rw[sortedHeap_old (xk (x8 e2)) (x8 e3)];exact e3
 have hle:=uo hlt
 obtain⟨c',ec⟩:=sortedHeap_at hoL
 refine x9 ⟨_,rfl,⟨.ref h'.objs.size,_,I.laid hold hle (show ObjOk X.prog X.w _ _ _ (.lst ((Zd (ks.map (·.1))).map V.str)) from ⟨?_,((arrOf st').map (·.2)).toList,c',Vals.ofStrs b1,?_⟩),rfl,q _ (I.hok.fresh hle)⟩⟩
 ·rw[xn,zbk,xn]
  have:=Xg
  omega
 ·rw[ec]
end
section
variable {X:Cx}{pins:Ak}{σ:St}{H:Hp}{s:Am}{a:Ap}{kvs:List (Key×V)}
theorem Inv.ghost(I:Inv X pins σ H s)(e:H a=some o)(hn:∀ xs,o≠ .tup xs)(hno:∀ b,o≠ .own b)(hnt:∀ ps,o≠ .tbl ps)(hf:∀ ob u,X.H₀ a≠some (.frz ob u))(new:ObjOk X.prog X.w (upd H a o') s.heap a o'):Inv X pins σ (upd H a o') s where
 ok:=I.ok
 os:=I.os
 bare:=I.bare
 base:={
  keep:=I.base.keep
  slot:=I.base.slot
  free:=λb ob e' n hx=>by
   have:=I.base.free b ob e' n hx
   rw[ze (λz=>by subst z;rw[e]at this;cases this)];exact this
  there:=I.base.there
  tups:=λb xs e'=>by
   have:=I.base.tups b xs e'
   rw[ze (λz=>by subst z;rw[e]at this;exact hn xs (Option.some.inj this))];exact this
  frzs:=λb ob u e'=>by
   rw[ze (λz=>by subst z;exact hf ob u e')];exact I.base.frzs b ob u e'
  tbls:=λb ps e'=>by
   obtain⟨mo,this⟩:=I.base.tbls b ps e'
   exact⟨mo,by rw[ze (λz=>by subst z;rw[e]at this;exact hnt _ (Option.some.inj this))];exact this⟩ }
 loc:=I.loc
 cell:=I.cell
 free:=by rw[ze (λz=>by have:=I.free;rw[z,e]at this;cases this)];exact I.free
 freeC:=λx c e'=>by
  have:=I.freeC x c e'
  rw[ze (λz=>by rw[z,e]at this;cases this)];exact this
 pin:=λp h=>by
  obtain⟨e1,n,r⟩:=I.pin p h
  exact⟨e1,by rw[ze (λz=>by rw[z,e]at n;cases n)];exact n,r⟩
 hok:=λb u q=>by
  by_cases hb:b=a
  ·subst hb;rw[zg]at q;cases q;exact new
  ·rw[ze hb]at q
   exact (I.hok b u q).stay (λc v _ r=>r) (λc r=>by rw[ze (λz=>by subst z;rw[e]at r;exact hno _ (Option.some.inj r))];exact r) λc xs r=>by rw[ze (λz=>by subst z;rw[e]at r;exact hn _ (Option.some.inj r))];exact r
 len:=I.len
def Fz(X:Cx)(H Hf:Hp)(a:Ap)(o:Obj)(kvs:List (Key×V)):Prop:=Hf a=some (.frz o (.dK kvs))/\(Hf=H∨(H a=some (.dK kvs)/\Hf=upd H a (.frz o (.dK kvs))/\∀ ob u,X.H₀ a≠some (.frz ob u)))
theorem Inv.freeze(I:Inv X pins σ H s)(e:Rd H a (.dK kvs)):∃ o Hf,s.heap.get? a=some o/\Fz X H Hf a o kvs/\Inv X pins σ Hf s:=by
 rcases e with e | ⟨o,e⟩
 ·obtain⟨z,hd,vs,rel,ob,es,ep,h1,h2⟩:=KJ I.hok e
  have hf:∀ ob u,X.H₀ a≠some (.frz ob u):=λob u q=>by
   have:=I.base.frzs a ob u q
   rw[e]at this;cases this
  refine⟨ob,upd H a (.frz ob (.dK kvs)),h1,⟨zg,.inr ⟨e,rfl,hf⟩⟩,I.ghost e (λ_ z=>nomatch z) (λ_ z=>nomatch z) (λ_ z=>nomatch z) hf ⟨h1,z,hd,vs,rel,ob,es,ep,h1,h2⟩⟩
 ·obtain⟨h1,_⟩:=(show ObjOk X.prog X.w H s.heap a (.frz o (.dK kvs)) from I.hok a _ e)
  exact⟨o,H,h1,⟨e,.inl rfl⟩,I⟩
theorem Inv.thaw{H':Hp}(I:Inv X pins σ H s)(e:H a=some (.frz o (.dK kvs)))(hf:∀ ob u,X.H₀ a≠some (.frz ob u)):Inv X pins σ (upd H a (.dK kvs)) s:=by
 obtain⟨_,z,hd,vs,rel,dd⟩:=(show ObjOk X.prog X.w H s.heap a (.frz o (.dK kvs)) from I.hok a _ e)
 exact I.ghost e (λ_ z=>nomatch z) (λ_ z=>nomatch z) (λ_ z=>nomatch z) hf ⟨z,hd,vs,rel,dd⟩
theorem zd8(h:wpE X e σ H λv H'=>Q v H'∨∃ a kvs o,H' a=some (.frz o (.dK kvs))/\(∀ ob u,X.H₀ a≠some (.frz ob u))/\Q v (upd H' a (.dK kvs))):wpE X e σ H Q:=λpins s I=>
 thn (h pins s I) λu s' ⟨v,H',I',r,q⟩=>by
  rcases q with q | ⟨a,kvs,o,e,hf,q⟩
  ·exact⟨v,H',I',r,q⟩
  ·exact⟨v,_,I'.thaw (H':=H') e hf,r,q⟩
end
noncomputable def zeO(o:Obj):Nat:=match o.data with
 |.dict _ ep=>ep
 |_=>0
theorem kM(ok:HOk P w H h)(e:H a=some (.frz o (.dK kvs))):∃ vs,KV kvs vs/\h.DictAt (zA P w) a vs (zeO o):=by
 obtain⟨h1,z,hd,vs,rel,ob,es,ep,h2,h3,h4,h5⟩:=(show ObjOk P w H h a (.frz o (.dK kvs)) from ok a _ e)
 rw[h1]at h2;cases h2
 have:zeO o=ep:=by unfold zeO;rw[h4]
 exact⟨vs,rel,o,es,h1,h3,by rw[this];exact h4,h5⟩
section
end
noncomputable def Iti(a:Ap)(o:Obj)(kvs:List (Key×V)):It :=
 ⟨λi H=>H a=some (.frz o (.dK kvs))/\i<kvs.length,λi H x H'=>∃ p t,kvs[i]?=some p/\x=.ref t/\H t=none/\H'=upd H t (.tup [kV p.1,p.2]),λi H=>H a=some (.frz o (.dK kvs))/\kvs.length<=i⟩
theorem Ks{K:Ah}(htg:∃ es n p,tg=.Tuple es n p)(a it:Ap)(o:Obj)(kvs:List (Key×V)):vS P w K tg (Iti a o kvs) [it] it (λi h=>∃ ok ov,IsItemIter h it a i kvs.length (zeO o) ok ov) where
 mem:=by simp
 obj:=λi h st b hb=>by
  have e:b=it:=by simpa using hb
  subst e
  obtain⟨ok,ov,st⟩:=st
  exact⟨_,st,λv z=>by
   have z':Data.fields _=Data.cell v:=z
   cases z'⟩
 keep:=λi h h' ⟨ok,ov,st⟩ k=>⟨ok,ov,k it (by simp) _ st⟩
 item:=by
  intro X hP hw hK hc i pins s σ H E I hf st hg
  subst hP hw hK
  obtain⟨es,n,p,rfl⟩:=htg
  obtain⟨ok,ov,st⟩:=st
  obtain⟨hq,hx⟩:=hg
  obtain⟨vs,rel,dat⟩:=kM I.hok hq
  obtain⟨f0,f1,f2,f3,f4,f5⟩:=hf it (by simp)
  have hl:=rel.length
  rw[hl]at st
  have hxi:vs[i]?=some (vs[i].1,vs[i].2):=by rw[xg (by omega)]
  refine wpAny_pyNext_items_item st dat hxi λkey h1 hk st1 ht hz kp=>⟨_,rfl,wpAny_letOwnedTupleGo_items st1 λh2 st2 sb=>?_⟩
  have hpair:∀{l:List (Key×V)}{m:List (Key×Value)},KV l m->∀(j:Nat)(hj:j<l.length)(hj2:j<m.length),l[j].1=m[j].1/\RelV l[j].2 m[j].2:=by
   intro l m r
   unfold KV at r
   induction r with
   |nil=>intro j hj;simp at hj
   |cons h t ih=>
    intro j hj hj2
    cases j with
    |zero=>exact h
    |succ j=>exact ih j (by simpa using hj) (by simpa using hj2)
  obtain⟨e1,e2⟩:=hpair rel i hx (by omega)
  have hitn:it≠⇑s:=xk (x8 st)
  have old:∀ b o,b≠it->s.heap.get? b=some o->h2.get? b=some o:=λb o hb e=>(sb.2 b hb).trans (kp b o hb e)
  have hnew:h2.get? ⇑s=some { cls:=.type "tuple",data:=.seq #[key,vs[i].2] }:=(sb.2 _ (Ne.symm hitn)).trans ht
  have fresh:H ⇑s=none:=I.hok.fresh (xi _)
  have I1:Inv X pins σ H { s with heap:=h2 }:=I.turned old f0 f1 f3 f4 f5
  have I2:Inv X pins σ (upd H ⇑s (.tup [kV (kvs[i]'hx).1,(kvs[i]'hx).2])) { s with heap:=h2 }:=I1.track I.sz fresh (Ne.symm (xk I.lt)) (λx c e=>by
   obtain⟨v,ob,hob,_⟩:=I.cell x c e
   exact xk (x8 hob)) (λp hp=>xk (x8 (I.pin p hp).1)) ⟨by rw[Xg];simp,[key,vs[i].2],.cons (by rw[e1];exact KZ hk) (.cons e2 .nil),_,hnew,rfl,_,rfl⟩
  refine⟨.ref ⇑s,_,I2,rfl,⟨kvs[i],_,by simp[hx],rfl,fresh,rfl⟩,⟨key,vs[i].2,by rw[hl];exact st2⟩,λb hb=>?_⟩
  have e:b=it:=by simpa using hb
  subst e
  rw[ze hitn];exact f0
 done:=by
  intro X hP hw hK hc i pins s σ H E I hf st hg
  subst hP hw hK
  obtain⟨ok,ov,st⟩:=st
  obtain⟨hq,hx⟩:=hg
  obtain⟨vs,rel,dat⟩:=kM I.hok hq
  obtain⟨f0,f1,f2,f3,f4,f5⟩:=hf it (by simp)
  have hl:=rel.length
  rw[hl]at st
  exact wpAny_pyNext_items_end (I.ok.hd hc) st dat (xD (by omega)) λh' eb=>⟨rfl,I.turned (λb o hb e=>eb b o hb e) f0 f1 f3 f4 f5⟩
 self:=λ_ _ _ _ _ ⟨ok,ov,st⟩ h=>W.kcp_self st h
section
variable {X:Cx}{tg o:Expr}{apos cpos:Pos}
def zhz(X:Cx)(tl:TE):TI:=λσ H R=>tl σ H λx H1=>∃ a kvs,x=.ref a/\Rd H1 a (.dK kvs)/\∀ o Hf,Fz X H1 Hf a o kvs->R (Iti a o kvs) Hf
theorem zc6 (htg:∃ es n p,tg=.Tuple es n p) (hl:PE X o tl) (hb:attributeBase o "items" X.env (eval o X.env)=eval o X.env) (hline:(apos.endLine==cpos.line)=true):PI X tg (.Call (.Attribute o "items" apos) [] [] cpos) (zhz X tl):=by
 intro pins s σ H R I h
 refine wpAny_Call_method0_late hb hline (thn (hl pins s σ H _ I h) λu s1 ⟨x,H1,I1,rx,a,kvs,ex,hr,q⟩=>?_)
 subst ex
 obtain rfl:u=Value.ref a:=rx
 obtain⟨t1,t2,hd⟩:=kS I1 (.inl ⟨kvs,hr⟩)
 refine⟨_,_,PySem.F.plainAttrs_dict,PySem.F.slot_dict_items,PySem.F.type_dict_items,t1,t2,?_⟩
 obtain⟨z,_,vs0,rel0,dd0⟩:=Qg I1.hok hr
 refine Calls.callWith_builtin rfl (PySem.evalArgs_none ?_)
 refine call_meetsIn PySem.F.slot_dict_items t1 PySem.F.entry_dict_items (PySem.F.args_dict_items_1 _) (meets_dict_items (zA X.prog X.w) a hd) ⟨⟨vs0,dd0⟩,?_⟩
 obtain⟨o,Hf,ho,fz,If⟩:=I1.freeze hr
 have Ik:=If.kept (h':=s1.heap.push { cls:=.type "dict_items",data:=.fields #[.ref a] }) (t':=s1.toks) λb o e=>x6 _ e
 obtain⟨vs,rel,dat⟩:=kM Ik.hok fz.1
 refine wpAny_pyIter_items ⟨_,Xa _ rfl,rfl,rfl⟩ dat ?_
 refine⟨_,[_],_,_,Hf,rfl,Ik.kept λb o e=>x6 _ e,Ks htg a _ o kvs,?_,λb hb=>?_,q o Hf fz⟩
 ·rw[rel.length];exact⟨.none,.none,Xa _ rfl⟩
 ·have e:b=(s1.heap.push { cls:=.type "dict_items",data:=.fields #[.ref a] }).objs.size:=by simpa using hb
  subst e
  exact Ik.fpOk (xi _) (Ik.hok.fresh (xi _))
end
end L2
namespace L3
open PySem PySem.Spec PyProof.Rows L2
variable [Cs]
def Eqv(H H':Hp):Prop:=∀ b o,H b=some o->H' b=some o∨∃ kvs,(o=.dK kvs∨∃ ob,o=.frz ob (.dK kvs))/\Rd H' b (.dK kvs)
section
variable {M0 M:Ae}{F F':Fp}{Γ:Gv}{ν:Nu}{H H' Hf:Hp}{X:Cx}{a:Ap}{o:Obj}{kvs:List (Key×V)}
theorem Eqv.refl(H:Hp):Eqv H H:=λ_ _ e=>.inl e
theorem Eqv.rd(h:Eqv H H')(r:Rd H b (.dK kvs)):Rd H' b (.dK kvs):=by
 rcases r with e | ⟨ob,e⟩
 ·rcases h b _ e with z | ⟨k,z | ⟨ob,z⟩,r⟩
  ·exact .inl z
  ·cases z;exact r
  ·cases z
 ·rcases h b _ e with z | ⟨k,z | ⟨ob',z⟩,r⟩
  ·exact .inr ⟨_,z⟩
  ·cases z
  ·cases z;exact r
theorem Eqv.of(h:Eqv H H'){o:HO}(e:H b=some o)(h1:∀ kvs,o≠ .dK kvs)(h2:∀ ob kvs,o≠ .frz ob (.dK kvs)):H' b=some o:=by
 rcases h b _ e with z | ⟨k,z | ⟨ob,z⟩,r⟩
 ·exact z
 ·exact absurd z (h1 k)
 ·exact absurd z (h2 ob k)
theorem Eqv.stay(h:Eqv H H')(n:H b≠none):H' b≠none:=by
 cases q:H b with
 |none=>exact absurd q n
 |some o=>
  rcases h b _ q with z | ⟨k,_,z | ⟨ob,z⟩⟩<;>rw[z]<;>exact λw=>nomatch w
theorem Rep.eqv(h:Eqv H H'){v:V}{d:PyData}(r:Rep M H v d):Rep M H' v d:=r.go (λa o e n q1 q2=>⟨h.of e q1 q2,n⟩) (λa xs e=>h.of e (λ_ z=>nomatch z) (λ_ _ z=>nomatch z)) λa x e n=>⟨h.rd e,n⟩
theorem RS.eqv(r:RS M0 F Γ ν H)(h:Eqv H H')(hF:∀ i,∀ a∈F i,H' a=H a):RS M0 F Γ ν H' :=
 ⟨λa ha=>h.stay (r.al0 a ha),r.dis0,r.nd,r.dis,λi o e=>let ⟨v,e1,q⟩:=r.at' i o e;⟨v,e1,q.go (λ_ _ x=>Rep.eqv h x) (λb xs e=>h.of e (λ_ z=>nomatch z) (λ_ _ z=>nomatch z)) (hF i)⟩,r.emp,r.len⟩
theorem zcj(z:Fz X H Hf a o kvs):Eqv H Hf:=by
 obtain⟨e,rfl | ⟨e1,rfl,_⟩⟩:=z
 ·exact .refl _
 ·intro b u eb
  by_cases hb:b=a
  ·subst hb
   rw[e1]at eb;cases eb
   exact .inr ⟨kvs,.inl rfl,.inr ⟨o,zg⟩⟩
  ·exact .inl (by rw[ze hb];exact eb)
theorem YK(e:H a=some (.frz o (.dK kvs))):Eqv H (upd H a (.dK kvs)):=λb u eb=>by
 by_cases hb:b=a
 ·subst hb
  rw[e]at eb;cases eb
  exact .inr ⟨kvs,.inr ⟨o,rfl⟩,.inl zg⟩
 ·exact .inl (by rw[ze hb];exact eb)
theorem zdK{H'f:Hp}(e:H a=some (.dK kvs))(s:Stp F (upd H a (.frz o (.dK kvs))) F' H'f)(hn:∀ i,a∉F i):Stp F H F' (upd H'f a (.dK kvs)):=by
 have ka:=s.keep a _ zg hn
 refine⟨λb u eb nb=>?_,λb xs eb=>?_,λb hb=>?_⟩
 ·by_cases hb:b=a
  ·subst hb
   rw[e]at eb;cases eb
   exact⟨zg,ka.2⟩
  ·rw[ze hb]
   exact s.keep b u (by rw[ze hb];exact eb) nb
 ·have hb:b≠a:=λz=>by subst z;rw[e]at eb;cases eb
  rw[ze hb]
  exact s.tups b xs (by rw[ze hb];exact eb)
 ·by_cases z:b=a
  ·subst z;rw[zg];exact λw=>nomatch w
  ·rw[ze z]
   exact s.stay b (by rw[ze z];exact hb)
end
def Jf(M0:Ae)(F:Fp)(i:Nat):Ae:=λa=>M0 a∨a∈F i
section
variable {M0:Ae}{F F':Fp}{Γ Γ':Gv}{ν:Nu}{H H':Hp}{i:Nat}
theorem Jh(h:F3 i= []):MM (Jf M0 F i) F3=MM M0 (fset F3 i (F i)):=by
 funext a
 apply propext
 constructor
 ·rintro ((h1 | h1) | ⟨j,h1⟩)
  ·exact .inl h1
  ·exact .inr ⟨i,by rw[zh];exact h1⟩
  ·refine .inr ⟨j,?_⟩
   rw[zi (λz=>by subst z;rw[h]at h1;cases h1)];exact h1
 ·rintro (h1 | ⟨j,h1⟩)
  ·exact .inl (.inl h1)
  ·by_cases z:j=i
   ·subst z;rw[zh]at h1;exact .inl (.inr h1)
   ·rw[zi z]at h1;exact .inr ⟨j,h1⟩
theorem yA:fset (fset F i []) i (F i)=F:=by
 funext j
 by_cases z:j=i
 ·subst z;rw[zh]
 ·rw[zi z,zi z]
theorem RS.hide(r:RS M0 F Γ ν H):RS (Jf M0 F i) (fset F i []) (Γ.set i none) ν H:=by
 have hm:MM (Jf M0 F i) (fset F i [])=MM M0 F:=by rw[Jh zh,yA]
 have sub:∀ j a,a∈fset F i [] j->j≠i/\a∈F j:=λj a h=>by
  by_cases z:j=i
  ·subst z;rw[zh]at h;cases h
  ·rw[zi z]at h;exact⟨z,h⟩
 refine⟨λa h=>?_,λj a h=>?_,λj=>?_,λj k a h1 h2=>r.dis _ _ a (sub _ _ h1).2 (sub _ _ h2).2,λj o e=>?_,λj h=>?_,by rw[xS];exact r.len⟩
 ·rcases h with h | h
  ·exact r.al0 a h
  ·exact r.al a (.inr ⟨i,h⟩)
 ·obtain⟨h1,h2⟩:=sub j a h
  rintro (z | z)
  ·exact r.dis0 j a h2 z
  ·exact h1 (r.dis _ _ a h2 z)
 ·by_cases z:j=i
  ·subst z;rw[zh];exact .nil
  ·rw[zi z];exact r.nd j
 ·by_cases z:j=i
  ·subst z
   by_cases hl:j<Γ.length
   ·rw[xj hl]at e;cases e
   ·rw[xD (by simpa using hl)]at e;cases e
  ·rw[xh (Ne.symm z)]at e
   rw[hm,zi z]
   exact r.at' j o e
 ·by_cases z:j=i
  ·subst z;exact zh
  ·rw[zi z]
   refine r.emp j λo e=>h o ?_
   rw[xh (Ne.symm z)];exact e
theorem RS.unhide(r:RS M0 F Γ ν H)(e:Γ[i]?=some (some o))(r':RS (Jf M0 F i) F' Γ' ν H')(e':Γ'[i]?=some none)(s:Stp (fset F i []) H F' H'):RS M0 (fset F' i (F i)) (Γ'.set i (some o)) ν H'/\Stp F H (fset F' i (F i)) H':=by
 have hi':i<Γ'.length:=(xb.mp e').1
 have hFi:=r'.emp i λo z=>by rw[e']at z;cases z
 have hm:MM (Jf M0 F i) F'=MM M0 (fset F' i (F i)):=Jh hFi
 have kp:∀ a∈F i,H' a=H a/\∀ j,a∉F' j:=λa ha=>by
  obtain⟨u,eu⟩:=r.laidF ha
  obtain⟨k1,k2⟩:=s.keep a u eu λj hj=>by
   by_cases z:j=i
   ·subst z;rw[zh]at hj;cases hj
   ·rw[zi z]at hj;exact z (r.dis _ _ a hj ha)
  exact⟨by rw[k1,eu],k2⟩
 have cls:∀ j a,a∈fset F' i (F i) j->(j=i/\a∈F i)∨(j≠i/\a∈F' j):=λj a h=>by
  by_cases z:j=i
  ·subst z;rw[zh]at h;exact .inl ⟨rfl,h⟩
  ·rw[zi z]at h;exact .inr ⟨z,h⟩
 have s0:MM (Jf M0 F i) (fset F i [])=MM M0 F:=by rw[Jh zh,yA]
 refine⟨⟨λa h=>r'.al0 a (.inl h),λj a h=>?_,λj=>?_,λj k a h1 h2=>?_,λj p ep=>?_,λj h=>?_,by rw[xS];exact r'.len⟩,⟨λb u eb nb=>?_,s.tups,s.stay⟩⟩
 ·rcases cls j a h with ⟨_,h⟩ | ⟨_,h⟩
  ·exact r.dis0 i a h
  ·exact λz=>r'.dis0 j a h (.inl z)
 ·by_cases z:j=i
  ·subst z;rw[zh];exact r.nd _
  ·rw[zi z];exact r'.nd j
 ·rcases cls j a h1 with ⟨z1,h1⟩ | ⟨z1,h1⟩<;>rcases cls k a h2 with ⟨z2,h2⟩ | ⟨z2,h2⟩
  ·rw[z1,z2]
  ·exact absurd h2 ((kp a h1).2 k)
  ·exact absurd h1 ((kp a h2).2 j)
  ·exact r'.dis _ _ a h1 h2
 ·by_cases z:j=i
  ·subst z
   rw[xj hi']at ep
   cases ep
   obtain⟨v,ev,q⟩:=r.at' j _ e
   refine⟨v,ev,?_⟩
   rw[zh,<- hm]
   exact q.go (λw d x=>zn s (λa h=>(r.hide).al0 a h) (by rw[s0];exact x)) s.tups λa ha=>(kp a ha).1
  ·rw[xh (Ne.symm z)]at ep
   rw[<- hm,zi z]
   exact r'.at' j p ep
 ·by_cases z:j=i
  ·subst z
   rw[xj hi']at h
   exact absurd rfl (h o)
  ·rw[zi z]
   refine r'.emp j λp ep=>h p ?_
   rw[xh (Ne.symm z)];exact ep
 ·obtain⟨k1,k2⟩:=s.keep b u eb λj hj=>by
   by_cases z:j=i
   ·subst z;rw[zh]at hj;cases hj
   ·rw[zi z]at hj;exact nb j hj
  refine⟨k1,λj hj=>?_⟩
  rcases cls j b hj with ⟨_,h⟩ | ⟨_,h⟩
  ·exact nb i h
  ·exact k2 j h
end
noncomputable def noX{γ:Type}:R γ->R γ
 |.exc _ _=>.bad
 |r=>r
noncomputable def hid{γ:Type}(z:Option (Option Nat))(f:EM γ):EM γ:=λΓ=>match z with
 |none=>f Γ
 |some none=>noX (f Γ)
 |some (some i)=>match Γ[i]? with
  |some (some o)=>match f (Γ.set i none) with
   |.ok (y,Γ2)=>match Γ2[i]? with
    |some none=>.ok (y,Γ2.set i (some o))
    |_=>.bad
   |.exc x Γ2=>match Γ2[i]? with
    |some none=>.exc x (Γ2.set i (some o))
    |_=>.bad
   |.bad=>.bad
  |_=>.bad
def Wk(X:Cx)(F:Fp)(H Hf:Hp):Prop:=Hf=H∨∃ a o kvs,Fz X H Hf a o kvs/\∀ i,a∉F i
def JIw(X:Cx)(M0:Ae)(F:Fp)(J:It)(z:Aa×Option (Option Nat))(H Hf:Hp):Prop:=match z.2 with
 |none=>Hf=H/\JI M0 F J z.1 H
 |some none=>Wk X F H Hf/\JI M0 F J z.1 Hf
 |some (some i)=>Hf=H/\JI (Jf M0 F i) (fset F i []) J z.1 H
def SIw(X:Cx)(XP:XPT)(mp:Ac)(tg iter:Expr)(f:EM (Aa×Option (Option Nat))):Prop:=∀(M0:Ae)(F:Fp)(Γ:Gv)(ν:Nu)(σ:St)(H:Hp)(R:It->Hp->Prop),RS M0 F Γ ν H->Sees mp ν σ ->
 EPost M0 F ν σ H XP (λF' Γ' H' z=>∀ J Hf,JIw X M0 F' J z H' Hf->R J Hf) (f Γ)->wpI X tg iter σ H R
section
variable {X:Cx}{XP:XPT}{mp:Ac}{a b c e tg iter elt:Expr}{ifs:Ag}{pos p:Pos}{na:EM (Aa)}
noncomputable def fStd(f:EM (Aa)):EM (Aa×Option (Option Nat)):=λΓ=>(f Γ).bind λ(ds,Γ1)=>.ok ((ds,none),Γ1)
theorem zfS(h:SI X XP mp tg iter na):SIw X XP mp tg iter (fStd na):=λM0 F Γ ν σ H R rs hs hp=>
 h M0 F Γ ν σ H R rs hs (hp.seq.mono λF1 Γ1 H1 ds rs1 s1 h1 J hJ=>h1 F1 H1 rs1 (.refl _ _) J H1 ⟨rfl,hJ⟩)
noncomputable def loopG{β γ:Type}(k:Nat)(t:IT)(cond:EM Bool)(it:EM β)(add:γ->β->γ):Aa->γ->Gv->R (γ×Gv)
 |[],ys,Γ=>.ok (ys,Γ)
 |d::ds,ys,Γ=>match tgF t d (Γ++List.replicate k none) with
  |none=>.bad
  |some Γ2=>match cond Γ2 with
   |.ok (true,Γ3)=>match it Γ3 with
    |.ok (y,Γ4)=>loopG k t cond it add ds (add ys y) (Γ4.take Γ.length)
    |.exc x Γ4=>.exc x (Γ4.take Γ.length)
    |.bad=>.bad
   |.ok (false,Γ3)=>loopG k t cond it add ds ys (Γ3.take Γ.length)
   |.exc x Γ3=>.exc x (Γ3.take Γ.length)
   |.bad=>.bad
structure zbE{α β γ δ:Type}(ac:Acc α β)(ad:γ->δ->γ)(RA:(Ae)->Fp->Hp->α->γ->Prop)(RB:(Ae)->Fp->Hp->β->δ->Prop)(ln:γ->Nat):Prop where
 stp:∀{M0:Ae}{F F':Fp}{H H':Hp}{x:α}{y:γ},RA M0 F H x y->Stp F H F' H'->(∀ a,M0 a->H a≠none)->RA M0 F' H' x y
 add:∀{M0:Ae}{F:Fp}{H:Hp}{x:α}{y:γ}{u:β}{d:δ},RA M0 F H x y->RB M0 F H u d->RA M0 F H (ac.add x u) (ad y d)
 bst:∀{M0:Ae}{F F':Fp}{H H':Hp}{u:β}{d:δ},RB M0 F H u d->Stp F H F' H'->(∀ a,M0 a->H a≠none)->RB M0 F' H' u d
 len:∀{M0:Ae}{F:Fp}{H:Hp}{x:α}{y:γ},RA M0 F H x y->ac.len x=ln y
 lin:∀(y:γ)(d:δ),ln (ad y d)<=ln y+1
 eqv:∀{M0:Ae}{F:Fp}{H H':Hp}{x:α}{y:γ},RA M0 F H x y->Eqv H H'->RA M0 F H' x y
 mm:∀{M0 M0':Ae}{F F':Fp}{H:Hp}{x:α}{y:γ},MM M0 F=MM M0' F'->RA M0 F H x y->RA M0' F' H x y
theorem qj{XQ:XPT}{α β γ δ:Type}{ac:Acc α β}{add:γ->δ->γ}{RA:(Ae)->Fp->Hp->α->γ->Prop}{RB:(Ae)->Fp->Hp->β->δ->Prop}{len:γ->Nat}(AR:zbE ac add RA RB len){N':Ab}{scope:Scope}{n k:Nat}{ix:Ac}{t:IT}{cond:EM Bool}{it:EM δ}{te:St->Hp->(β->Hp->Prop)->Prop}{M0:Ae}{F1:Fp}{ν:Nu}{σ:St}{H1:Hp}{J:It}{ds:Aa}{P:Fp->Gv->Hp->γ->Prop}{Γ1:Gv}{Q:α->Hp->Prop}{c0:γ}
  (hm:∀ j i:Nat,ix[j]?=some i->∃ m,mp[i]?=some m/\m<n) (hN':N'.length=k+ix.length) (h0:RA M0 F1 H1 ac.a0 c0) (hl0:len c0=0)
  (hg:∀ cl C s2 H2 fp,Cat X σ C s2 H2 fp->SG ⋯ (mpC mp n k ix) (·<n) tg t) (hc:∀ cl C s2 H2 fp,Cat X σ C s2 H2 fp->SF ⋯ (XPc XP σ) (mpC mp n k ix) ifs cond)
  (he:∀(M0:Ae)(F:Fp)(Γ:Gv)(ν:Nu)(σ1:St)(H:Hp)(Q:β->Hp->Prop),RS M0 F Γ ν H->Sees (mpC mp n k ix) ν σ1->EPost M0 F ν σ1 H (XPc XP σ) (λF' Γ' H' d=>∀ y,RB M0 F' H' y d->Q y H') (it Γ)->te σ1 H Q)
  (hq:∀ x Γ F ν H,XQ x Γ F ν σ H->XPc XP σ x Γ F ν σ H) (rs1:RS M0 F1 Γ1 ν H1) (hs:Sees mp ν σ) (hJ:JI M0 F1 J ds H1) (hd:ds.length<=1000000) (hn:Γ1.length=n) (hp:EPost M0 F1 ν σ H1 XQ P (loopG k t cond it add ds c0 Γ1))
  (fin:∀ F' Γ' H' ys vs,RS M0 F' Γ' ν H'->RA M0 F' H' vs ys->P F' Γ' H' ys->Stp F1 H1 F' H'->Q vs H') :
  yc ac k ix (gU X N' scope tg σ) (fU X N' scope ifs σ) te σ J H1 Q:=by
 have hνn:ν.length=n:=by rw[rs1.len,hn]
 refine⟨λi m vs H=>m=ds.length-i/\i<=ds.length/\∃ F' Γ' ys,RS M0 F' Γ' ν H/\Stp F1 H1 F' H/\RA M0 F' H vs ys/\Γ'.length=n/\len ys<=i/\EPost M0 F' ν σ H XQ P (loopG k t cond it add (ds.drop i) ys Γ'),⟨ds.length,by simp,ug _,F1,Γ1,c0,rs1,.refl _ _,h0,hn,by rw[hl0];exact xi _,hp⟩,?_⟩
 rintro i m vs H ⟨rfl,hil,F',Γ',ys,rs,st,rv,hln,hyl,hp⟩
 have hsz:=Xg
 refine⟨by rw[AR.len rv];omega,?_⟩
 by_cases hlt:i<ds.length
 ·rw[List.drop_eq_getElem_cons hlt,loopG]at hp
  obtain⟨jgo,jst⟩:=hJ i F' H st rs1.al0
  obtain⟨go,yl⟩:=jgo ds[i] (by simp[hlt])
  refine .inr ⟨go,λvs' H'=>∃ F'' Γ'' ys',RS M0 F'' Γ'' ν H'/\Stp F1 H1 F'' H'/\RA M0 F'' H' vs' ys'/\Γ''.length=n/\len ys'<=i+1/\EPost M0 F'' ν σ H' XQ P (loopG k t cond it add (ds.drop (i+1)) ys' Γ''),λvs' H' h=>⟨ds.length-(i+1),by omega,rfl,hlt,h⟩,λx H2 hy=>?_⟩
  obtain⟨s2,rx⟩:=yl x H2 hy
  have rs2:=(rs.same s2).ext k
  have hcl:(cS k ix σ).length=N'.length:=by unfold cS;simp[hN']
  have hsee:Sees (mpC mp n k ix) (ν++List.replicate k none) (cS k ix σ):=λs j v e1 e2=>by
   by_cases hsk:s<k
   ·rw[zhL hsk]at e1
    cases e1
    rw[xf (by omega),xT]at e2
    split at e2<;>cases e2
   ·obtain⟨j',rfl⟩:∃ j',s=k+j':=⟨s-k,by omega⟩
    rw[zcF]at e1
    cases q:ix[j']? with
    |none=>rw[q]at e1;cases e1
    |some i0=>
     rw[q]at e1
     obtain⟨m,hm1,hm2⟩:=hm j' i0 q
     have:mp.getD i0 0=m:=by rw[xH,hm1];rfl
     have ej:m=j:=by
      have e3:some (mp.getD i0 0)=some j:=e1
      rw[this]at e3;exact Option.some.inj e3
     subst ej
     rw[xc (by omega)]at e2
     exact zha q (hs i0 m v hm1 e2)
  cases et:tgF t ds[i] (Γ'++List.replicate k none) with
  |none=>rw[et]at hp;exact hp.elim
  |some Γ2=>
   rw[et]at hp
   intro cl C s2' H2' fp cat
   refine hg cl C s2' H2' fp cat M0 F' _ Γ2 _ (cS k ix σ) H2 x ds[i] _ rs2 hsee hcl rx et λF3 ν3 σ3 rs3 s3 hs3 hl3 n3 m3=>⟨?_,λcl C s2' H2' fp cat=>?_⟩
   ·apply ua
    intro j
    rw[List.getElem?_drop,List.getElem?_drop]
    by_cases hj:j<ix.length
    ·obtain⟨m,hm1,hm2⟩:=hm j ix[j] (by simp[hj])
     refine m3 (k+j) m ?_ hm2
     rw[zcF,xg hj]
     show some (mp.getD ix[j] 0)=some m
     rw[xH,hm1];rfl
    ·have hl3':σ3.length=N'.length:=hl3
     rw[xD (by omega),xD (by omega)]
   ·have stA:=(st.trans (.same s2)).trans s3
    have back:∀{F4:Fp}{Γ4:Gv}{H4:Hp},RS M0 F4 Γ4 ν3 H4->RS M0 (W2 F4 n) (Γ4.take n) ν H4/\Stp F4 H4 (W2 F4 n) H4:=λ{F4 Γ4 H4} r4=>by
     obtain⟨r5,s5⟩:=r4.cut n
     have:ν3.take n=ν:=by
      apply ua
      intro j
      by_cases hj:j<n
      ·rw[xQ hj,n3 j hj,xc (by omega)]
      ·rw[xD (by rw[xP];omega),xD (by omega)]
     rw[this]at r5
     exact⟨r5,s5⟩
    have lenOf:∀{F4:Fp}{Γ4:Gv}{H4:Hp},RS M0 F4 Γ4 ν3 H4->(Γ4.take n).length=n:=λ{F4 Γ4 H4} r4=>by
     have h1:=r4.len
     have h2:=rs3.len
     have h3:Γ2.length=n+k:=by rw[Kq _ _ _ _ et,xB,ux,hln]
     rw[xP];omega
    refine hc cl C s2' H2' fp cat M0 F3 Γ2 ν3 σ3 H2 _ rs3 hs3 ?_
    dsimp only at hp
    cases ec:cond Γ2 with
    |bad=>rw[ec]at hp;exact hp.elim
    |exc xx yy=>
     rw[ec]at hp
     intro F4 H4 rs4 s4
     obtain⟨r5,s5⟩:=back rs4
     exact hq _ _ _ _ _ (hp _ H4 (by rw[hln];exact r5) ((((Stp.same s2).trans s3).trans s4).trans s5))
    |ok z=>
     obtain⟨bb,Γ3⟩:=z
     rw[ec]at hp
     intro F4 H4 rs4 s4
     have rvA:=AR.stp (AR.stp (AR.stp rv (.same s2) rs.al0) s3 (rs.same s2).al0) s4 rs3.al0
     cases bb with
     |false=>
      refine Yp ?_
      obtain⟨r5,s5⟩:=back rs4
      have stB:=(stA.trans s4).trans s5
      rw[hln]at hp
      exact⟨_,_,ys,r5,stB,AR.stp rvA s5 rs4.al0,lenOf rs4,by omega,hp.step ((((Stp.same s2).trans s3).trans s4).trans s5)⟩
     |true=>
      refine Yq (he M0 F4 Γ3 ν3 σ3 H4 _ rs4 hs3 ?_)
      dsimp only at hp
      cases ee:it Γ3 with
      |bad=>rw[ee]at hp;exact hp.elim
      |exc xx yy=>
       rw[ee]at hp
       intro F5 H5 rs5 s5
       obtain⟨r6,s6⟩:=back rs5
       exact hq _ _ _ _ _ (hp _ H5 (by rw[hln];exact r6) (((((Stp.same s2).trans s3).trans s4).trans s5).trans s6))
      |ok z=>
       obtain⟨u,Γ4⟩:=z
       rw[ee]at hp
       intro F5 H5 rs5 s5 v hv
       dsimp only at hp
       obtain⟨r6,s6⟩:=back rs5
       have stB:=((stA.trans s4).trans s5).trans s6
       rw[hln]at hp
       exact⟨_,_,add ys u,r6,stB,AR.add (AR.stp (AR.stp rvA s5 rs4.al0) s6 rs5.al0) (AR.bst hv s6 rs5.al0),lenOf rs5,by have:=AR.lin ys u;omega,hp.step (((((Stp.same s2).trans s3).trans s4).trans s5).trans s6)⟩
 ·have e:i=ds.length:=by omega
  subst e
  rw[uM,loopG]at hp
  obtain⟨jgo,jst⟩:=hJ _ F' H st rs1.al0
  exact .inl ⟨jst (xi _),fin F' Γ' H ys vs rs rv (hp F' H rs (.refl _ _)) st⟩
theorem zdZ{H:Hp}{a b:Ap}{o u:HO}(h:a≠b):upd (upd H a o) b u=upd (upd H b u) a o:=by
 funext c
 unfold upd
 by_cases h1:c=b
 ·rw[if_pos h1,if_neg (λz=>h (z.symm.trans h1)),if_pos h1]
 ·rw[if_neg h1]
  by_cases h2:c=a
  ·rw[if_pos h2,if_pos h2]
  ·rw[if_neg h2,if_neg h2,if_neg h1]
theorem EPost.noX{α:Type}{M0:Ae}{F:Fp}{ν:Nu}{σ:St}{H:Hp}{P:Fp->Gv->Hp->α->Prop}{r:R (α×Gv)}(h:EPost M0 F ν σ H XP P (noX r)):EPost M0 F ν σ H XP P r:=by
 cases r with
 |exc x Γ=>exact h.elim
 |ok a=>exact h
 |bad=>exact h
theorem zjf{α β γ δ:Type}{ac:Acc α β}{ad:γ->δ->γ}{RA:(Ae)->Fp->Hp->α->γ->Prop}{RB:(Ae)->Fp->Hp->β->δ->Prop}{ln:γ->Nat}(AR:zbE ac ad RA RB ln){N':Ab}{scope:Scope}{n k:Nat}{ix:Ac}{t:IT}{cond:EM Bool}{it:EM δ}{te:St->Hp->(β->Hp->Prop)->Prop}{M0:Ae}{F1:Fp}{ν:Nu}{σ:St}{H1 Hf:Hp}{J:It}{ds:Aa}{Γ1:Gv}{Q:VK}{c0:γ}
  (hm:∀ j i:Nat,ix[j]?=some i->∃ m,mp[i]?=some m/\m<n) (hN':N'.length=k+ix.length) (h0:∀ M0 F H,RA M0 F H ac.a0 c0) (hl0:ln c0=0)
  (hg:∀ cl C s2 H2 fp,Cat X σ C s2 H2 fp->SG ⋯ (mpC mp n k ix) (·<n) tg t) (hc:∀ cl C s2 H2 fp,Cat X σ C s2 H2 fp->SF ⋯ (XPc XP σ) (mpC mp n k ix) ifs cond)
  (he:∀(M0:Ae)(F:Fp)(Γ:Gv)(ν:Nu)(σ1:St)(H:Hp)(Q:β->Hp->Prop),RS M0 F Γ ν H->Sees (mpC mp n k ix) ν σ1->EPost M0 F ν σ1 H (XPc XP σ) (λF' Γ' H' d=>∀ y,RB M0 F' H' y d->Q y H') (it Γ)->te σ1 H Q)
  (rs1:RS M0 F1 Γ1 ν H1) (hs:Sees mp ν σ) (wk:Wk X F1 H1 Hf) (hJ:JI M0 F1 J ds Hf) (hd:ds.length<=1000000) (hn:Γ1.length=n)
  (hp:EPost M0 F1 ν σ H1 XP (λF' Γ' H' ys=>∀ vs p,RA M0 F' H' vs ys->H' p=none->Q (.ref p) (upd H' p (ac.ho vs))) (noX (loopG k t cond it ad ds c0 Γ1))) :
  yc ac k ix (gU X N' scope tg σ) (fU X N' scope ifs σ) te σ J Hf λys H2=>∀ p,H2 p=none->(Q (.ref p) (upd H2 p (ac.ho ys))∨∃ a kvs o,upd H2 p (ac.ho ys) a=some (.frz o (.dK kvs))/\(∀ ob u,X.H₀ a≠some (.frz ob u))/\Q (.ref p) (upd (upd H2 p (ac.ho ys)) a (.dK kvs))):=by
 have plain:Hf=H1->yc ac k ix (gU X N' scope tg σ) (fU X N' scope ifs σ) te σ J Hf λys H2=>∀ p,H2 p=none->(Q (.ref p) (upd H2 p (ac.ho ys))∨∃ a kvs o,upd H2 p (ac.ho ys) a=some (.frz o (.dK kvs))/\(∀ ob u,X.H₀ a≠some (.frz ob u))/\Q (.ref p) (upd (upd H2 p (ac.ho ys)) a (.dK kvs))):=λe=>by
  subst e
  exact qj AR hm hN' (h0 _ _ _) hl0 hg hc he (λ_ _ _ _ _ h=>⟨_,_,_,h⟩) rs1 hs hJ hd hn hp.noX λF' Γ' H' ys vs rs' rv hP st p hp'=>.inl (hP vs p rv hp')
 rcases wk with e | ⟨a,o,kvs,⟨ef,e | ⟨ea,e,hH⟩⟩,hna⟩
 ·exact plain e
 ·exact plain e
 ·subst e
  have hp2:EPost M0 F1 ν σ (upd H1 a (.frz o (.dK kvs))) XP (λF' Γ' H' ys=>∀ vs p,RA M0 F' (upd H' a (.dK kvs)) vs ys->upd H' a (.dK kvs) p=none->Q (.ref p) (upd (upd H' a (.dK kvs)) p (ac.ho vs))) (loopG k t cond it ad ds c0 Γ1):=by
   cases er:loopG k t cond it ad ds c0 Γ1 with
   |bad=>rw[er]at hp;exact hp
   |exc x y=>rw[er]at hp;exact hp.elim
   |ok z=>
    rw[er]at hp
    intro F' H' rs' s'
    have ka:=(s'.keep a _ zg hna).1
    exact hp F' _ (rs'.eqv (YK ka) λi b hb=>ze λz=>(s'.keep a _ zg hna).2 i (by rw[<- z];exact hb)) (zdK ea s' hna)
  refine qj AR hm hN' (h0 _ _ _) hl0 hg hc he (λ_ _ _ _ _ h=>⟨_,_,_,h⟩) (rs1.eqv (zcj ⟨zg,.inr ⟨ea,rfl,hH⟩⟩) λi b hb=>ze λz=>hna i (by rw[<- z];exact hb)) hs hJ hd hn hp2 λF' Γ' H' ys vs rs' rv hP st p hp'=>.inr ⟨a,kvs,o,?_,hH,?_⟩
  ·have ka:=(st.keep a _ zg hna).1
   rw[ze (λz=>by subst z;rw[ka]at hp';cases hp')];exact ka
  ·have ka:=(st.keep a _ zg hna).1
   have hpa:p≠a:=λz=>by subst z;rw[ka]at hp';cases hp'
   rw[zdZ hpa]
   exact hP vs p (AR.eqv rv (YK ka)) (by rw[ze hpa];exact hp')
theorem zjg{α β γ δ:Type}{ac:Acc α β}{ad:γ->δ->γ}{RA:(Ae)->Fp->Hp->α->γ->Prop}{RB:(Ae)->Fp->Hp->β->δ->Prop}{ln:γ->Nat}(AR:zbE ac ad RA RB ln){N':Ab}{scope:Scope}{n k:Nat}{ix:Ac}{t:IT}{cond:EM Bool}{it:EM δ}{te:St->Hp->(β->Hp->Prop)->Prop}{M0:Ae}{F1:Fp}{ν:Nu}{σ:St}{H1 Hf:Hp}{J:It}{z:Aa×Option (Option Nat)}{Γ1:Gv}{Q:VK}{c0:γ}
  (hm:∀ j i:Nat,ix[j]?=some i->∃ m,mp[i]?=some m/\m<n) (hN':N'.length=k+ix.length) (h0:∀ M0 F H,RA M0 F H ac.a0 c0) (hl0:ln c0=0)
  (hg:∀ cl C s2 H2 fp,Cat X σ C s2 H2 fp->SG ⋯ (mpC mp n k ix) (·<n) tg t) (hc:∀ cl C s2 H2 fp,Cat X σ C s2 H2 fp->SF ⋯ (XPc XP σ) (mpC mp n k ix) ifs cond)
  (he:∀(M0:Ae)(F:Fp)(Γ:Gv)(ν:Nu)(σ1:St)(H:Hp)(Q:β->Hp->Prop),RS M0 F Γ ν H->Sees (mpC mp n k ix) ν σ1->EPost M0 F ν σ1 H (XPc XP σ) (λF' Γ' H' d=>∀ y,RB M0 F' H' y d->Q y H') (it Γ)->te σ1 H Q)
  (rs1:RS M0 F1 Γ1 ν H1) (hs:Sees mp ν σ) (hJ:JIw X M0 F1 J z H1 Hf) (hd:z.1.length<=1000000) (hn:Γ1.length=n)
  (hp:EPost M0 F1 ν σ H1 XP (λF' Γ' H' ys=>∀ vs p,RA M0 F' H' vs ys->H' p=none->Q (.ref p) (upd H' p (ac.ho vs))) (hid z.2 (loopG k t cond it ad z.1 c0) Γ1)) :
  yc ac k ix (gU X N' scope tg σ) (fU X N' scope ifs σ) te σ J Hf λys H2=>∀ p,H2 p=none->(Q (.ref p) (upd H2 p (ac.ho ys))∨∃ a kvs o,upd H2 p (ac.ho ys) a=some (.frz o (.dK kvs))/\(∀ ob u,X.H₀ a≠some (.frz ob u))/\Q (.ref p) (upd (upd H2 p (ac.ho ys)) a (.dK kvs))):=by
 obtain⟨ds,z⟩:=z
 cases z with
 |none=>
  obtain⟨rfl,hJ⟩:=hJ
  exact qj AR hm hN' (h0 _ _ _) hl0 hg hc he (λ_ _ _ _ _ h=>⟨_,_,_,h⟩) rs1 hs hJ hd hn hp λF' Γ' H' ys vs rs' rv hP st p hp'=>.inl (hP vs p rv hp')
 |some z=>cases z with
  |none=>exact zjf AR hm hN' h0 hl0 hg hc he rs1 hs hJ.1 hJ.2 hd hn hp
  |some i=>
   obtain⟨rfl,hJ⟩:=hJ
   dsimp only [hid]at hp
   split at hp
   next o eo=>
    refine qj AR hm hN' (h0 _ _ _) hl0 hg hc he (λ_ _ _ _ _ h=>h) (rs1.hide) hs hJ hd (by rw[xS];exact hn) (P:=λF' Γ' H' ys=>∀ vs p,RA (Jf M0 F1 i) F' H' vs ys->H' p=none->Q (.ref p) (upd H' p (ac.ho vs))) ?_ λF' Γ' H' ys vs rs' rv hP st p hp'=>.inl (hP vs p rv hp')
    generalize loopG k t cond it ad ds c0 (Γ1.set i none)=r at hp
    cases r with
    |bad=>exact hp
    |exc x Γ2=>
     dsimp only at hp
     split at hp
     next e2=>
      intro F' H' rs' s'
      obtain⟨rs3,s3⟩:=rs1.unhide eo rs' e2 s'
      exact⟨_,_,_,hp _ H' rs3 s3⟩
     ·exact hp.elim
    |ok w=>
     obtain⟨ys,Γ2⟩:=w
     dsimp only at hp
     split at hp
     next e2=>
      intro F' H' rs' s' vs p ra hp'
      obtain⟨rs3,s3⟩:=rs1.unhide eo rs' e2 s'
      exact hp _ H' rs3 s3 vs p (AR.mm (Jh (rs'.emp i λo z=>by rw[e2]at z;cases z)) ra) hp'
     ·exact hp.elim
   ·exact hp.elim
noncomputable def itL(elt:EM FV):EM PyData:=λΓ=>(elt Γ).bind λ(u,Γ1)=>match derS Γ1 u with
 |some y=>.ok (y,Γ1)
 |none=>.bad
theorem zaq:zbE zek (λ(ys:Aa) y=>ys++ [y]) (λM0 F H vs ys=>RepL (MM M0 F) H vs ys) (λM0 F H v y=>Rep (MM M0 F) H v y) List.length where
 stp r s h0:=vD s h0 r
 add r q:=RepL.append r (.cons q .nil)
 bst r s h0:=zn s h0 r
 len r:=r.length
 lin y d:=by simp
 eqv r h:=qY (λ_ _=>Rep.eqv h) r
 mm e r:=by rw[<- e];exact r
noncomputable def zY(k:Nat)(t:IT)(cond:EM Bool)(elt:EM FV):Aa->Aa->Gv->R (Aa×Gv):=loopG k t cond (itL elt) λys y=>ys++ [y]
noncomputable def fComp(n k:Nat)(t:IT)(src:EM (Aa))(cond:EM Bool)(elt:EM FV):EM (Aa):=λΓ=>(src Γ).bind λ(ds,Γ1)=>if ds.length<=1000000/\Γ1.length=n then zY k t cond elt ds [] Γ1 else .bad
theorem zhC(he:SE Y XP mp' elt el)(rs:RS M0 F Γ ν H)(hs:Sees mp' ν σ)(hp:EPost M0 F ν σ H XP (λF' Γ' H' d=>∀ y,Rep (MM M0 F') H' y d->Q y H') (itL el Γ)):wpE Y elt σ H Q :=
 he.run rs hs hp λF1 Γ1 H1 u v rs1 s1 o1 h1=>by
  dsimp only at h1
  split at h1
  next y ey=>
   exact h1 F1 H1 rs1 (.refl _ _) v (o1.strong rs1 ey)
  ·exact h1.elim
theorem YD{N':Ab}{scope:Scope}{n k:Nat}{ix:Ac}{t:IT}{src:EM (Aa)}{cond:EM Bool}{el:EM FV}(S:CSc X.env.scope X.N scope N' k ix)(hm:∀ j i:Nat,ix[j]?=some i->∃ m,mp[i]?=some m/\m<n)
  (hi:SI X XP mp tg iter src) (hg:∀ σ cl C s2 H2 fp,Cat X σ C s2 H2 fp->SG ⋯ (mpC mp n k ix) (·<n) tg t) (hc:∀ σ cl C s2 H2 fp,Cat X σ C s2 H2 fp->SF ⋯ (XPc XP σ) (mpC mp n k ix) ifs cond) (he:∀ σ cl C s2 H2 fp,Cat X σ C s2 H2 fp->SE ⋯ (XPc XP σ) (mpC mp n k ix) elt el) :
  SNt XP mp (VT k ix (wpI X tg iter) (gU X N' scope tg) (fU X N' scope ifs) (eU X N' scope elt)) (fComp n k t src cond el):=by?
 refine hi M0 F Γ ν σ H _ rs hs (hp.seq.mono λF1 Γ1 H1 ds rs1 s1 h1 J hJ=>?_)
 dsimp only at h1
 split at h1
 next hh=>
  exact qj zaq hm S.len .nil rfl (hg σ) (hc σ) (λM0 F Γ ν σ1 H Q rs hs hp cl C s2 H2 fp c=>zhC (he σ cl C s2 H2 fp c) rs hs hp) (λ_ _ _ _ _ h=>⟨_,_,_,h⟩) rs1 hs hJ hh.1 hh.2 h1 λF' Γ' H' ys vs rs' rv hP _ p hp'=>hP vs p rv hp'
 ·exact h1.elim
theorem zfU{t:IT}{src:EM (Aa)}{cond:EM Bool}{el:EM FV}(hcalm:X.calm=true)(S:CSc X.env.scope X.N scope N' k ix)(hm:∀ j i:Nat,ix[j]?=some i->∃ m,mp[i]?=some m/\m<n)
  (hi:SI X XP mp tg iter src) (hg:∀ σ cl C s2 H2 fp,Cat X σ C s2 H2 fp->SG ⋯ (mpC mp n k ix) (·<n) tg t) (hc:∀ σ cl C s2 H2 fp,Cat X σ C s2 H2 fp->SF ⋯ (XPc XP σ) (mpC mp n k ix) ifs cond) (he:∀ σ cl C s2 H2 fp,Cat X σ C s2 H2 fp->SE ⋯ (XPc XP σ) (mpC mp n k ix) elt el)
  (hf:∀ x,foldedSetIterable iter X.env x=pure x):SN X XP mp (.ListComp elt [⟨tg,iter,ifs,0⟩] scope pos) (fComp n k t src cond el):=λM0 F Γ ν σ H Q rs hs hp=>
 (zcU hcalm S hf).wp (YD S hm hi hg hc he M0 F Γ ν σ H Q rs hs hp)
def SD(X:Cx)(XP:XPT)(mp:Ac)(e:Expr)(f:EM (Ad)):Prop:=∀(M0:Ae)(F:Fp)(Γ:Gv)(ν:Nu)(σ:St)(H:Hp)(Q:VK),RS M0 F Γ ν H->Sees mp ν σ ->
 EPost M0 F ν σ H XP (λF' Γ' H' ds=>∀ ks p,KR (MM M0 F') H' ks ds->H' p=none->Q (.ref p) (upd H' p (.dK (ks.map kK)))) (f Γ)->wpE X e σ H Q
def SDt(XP:XPT)(mp:Ac)(t:TE)(f:EM (Ad)):Prop:=∀(M0:Ae)(F:Fp)(Γ:Gv)(ν:Nu)(σ:St)(H:Hp)(Q:VK),RS M0 F Γ ν H->Sees mp ν σ ->
 EPost M0 F ν σ H XP (λF' Γ' H' ds=>∀ ks p,KR (MM M0 F') H' ks ds->H' p=none->Q (.ref p) (upd H' p (.dK (ks.map kK)))) (f Γ)->t σ H Q
theorem KR.stp(h:KR (MM M0 F) H ks ds)(s:Stp F H F' H')(h0:∀ a,M0 a->H a≠none):KR (MM M0 F') H' ks ds:=h.map λ_ _ x=>zn s h0 x
noncomputable def itD(ek ev:EM FV):EM (Str×PyData):=λΓ=>(ek Γ).bind λ(u,Γ1)=>match derf Γ1 u with
 |some (.str x)=>(ev Γ1).bind λ(w,Γ2)=>match derS Γ2 w with
  |some y=>.ok ((x,y),Γ2)
  |none=>.bad
 |_=>.bad
theorem Vb:zbE zej (λ(ys:Ad)(y:Str×PyData)=>zy ys y.1 y.2) (λM0 F H kvs ys=>∃ ks,kvs=ks.map kK/\KR (MM M0 F) H ks ys) (λM0 F H (u:Key×V) (y:Str×PyData)=>u.1=.inr y.1/\Rep (MM M0 F) H u.2 y.2) List.length where
 stp:=λ⟨ks,e,r⟩ s h0=>⟨ks,e,KR.stp r s h0⟩
 add:=λ{M0 F H x y u d} ⟨ks,e,r⟩ ⟨q1,q2⟩=>⟨zy ks d.1 u.2,by rw[e,<- yK,<- q1],r.put d.1 q2⟩
 bst:=λ⟨q1,q2⟩ s h0=>⟨q1,zn s h0 q2⟩
 len:=λ⟨ks,e,r⟩=>by rw[e];show (ks.map kK).length=_;rw[xn,r.length]
 lin y d:=wO y d.1 d.2
 eqv:=λ⟨ks,e,r⟩ h=>⟨ks,e,r.map λ_ _ x=>Rep.eqv h x⟩
 mm:=λe ⟨ks,e',r⟩=>⟨ks,e',by rw[<- e];exact r⟩
def eD(X:Cx)(N':Ab)(scope:Scope)(kx vx:Expr)(σ0:St):St->Hp->(Key×V->Hp->Prop)->Prop:=YJ (eU X N' scope kx σ0) (eU X N' scope vx σ0)
noncomputable def fCompD(n k:Nat)(t:IT)(src:EM (Aa×Option (Option Nat)))(cond:EM Bool)(ek ev:EM FV):EM (Ad):=λΓ=>(src Γ).bind λ(z,Γ1)=>if z.1.length<=1000000/\Γ1.length=n then hid z.2 (loopG k t cond (itD ek ev) (λys y=>zy ys y.1 y.2) z.1 []) Γ1 else .bad
theorem za7{kx vx:Expr}(hcalm:X.calm=true)(S:CSc X.env.scope X.N scope N' k ix)(hf:∀ x,foldedSetIterable iter X.env x=pure x) :
  PE X (.DictComp kx vx [⟨tg,iter,ifs,0⟩] scope pos) (wA k ix (wpI X tg iter) (gU X N' scope tg) (fU X N' scope ifs) (eD X N' scope kx vx)) :=
 zcT hcalm S Jk (λ_ cl C s2 H2 fp c pins s σ H v u Q I r h=>h cl C s2 H2 fp c pins s u I r) (λ_ cl C s2 H2 fp c pins s σ H Q I h=>h cl C s2 H2 fp c pins s I)
  (λ_ cl C s2 H2 fp c pins s σ H Q I h=>h cl C s2 H2 fp c pins s I) (λ_ cl C s2 H2 fp c pins s σ H Q I h=>h cl C s2 H2 fp c pins s I) hf
theorem zgz(hk:∀ cl C s2 H2 fp,Cat X σ0 C s2 H2 fp->SE ⋯ (XPc XP σ0) mp' kx ek)(hv:∀ cl C s2 H2 fp,Cat X σ0 C s2 H2 fp->SE ⋯ (XPc XP σ0) mp' vx ev){Q:Key×V->Hp->Prop}(rs:RS M0 F Γ ν H)(hs:Sees mp' ν σ)
  (hp:EPost M0 F ν σ H (XPc XP σ0) (λF' Γ' H' d=>∀ y:Key×V,(y.1=.inr d.1/\Rep (MM M0 F') H' y.2 d.2)->Q y H') (itD ek ev Γ)):eD X N' scope kx vx σ0 σ H Q:=λcl C s2 H2 fp c=>
 (hk cl C s2 H2 fp c).run rs hs hp λF1 Γ1 H1 u v rs1 s1 o1 h1=>by
  dsimp only at h1
  split at h1
  next x ex=>
   cases o1.weak rs1 ex
   intro cl C s2 H2 fp c
   refine (hv cl C s2 H2 fp c).run rs1 hs h1 λF2 Γ2 H2 w v2 rs2 s2 o2 h2=>?_
   dsimp only at h2
   split at h2
   next y ey=>
    exact⟨.inr x,rfl,h2 F2 H2 rs2 (.refl _ _) (.inr x,v2) ⟨rfl,o2.strong rs2 ey⟩⟩
   ·exact h2.elim
  ·exact h1.elim
theorem zfz{kx vx:Expr}{N':Ab}{scope:Scope}{n k:Nat}{ix:Ac}{t:IT}{src:EM (Aa×Option (Option Nat))}{cond:EM Bool}{ek ev:EM FV}(hcalm:X.calm=true)(S:CSc X.env.scope X.N scope N' k ix)(hm:∀ j i:Nat,ix[j]?=some i->∃ m,mp[i]?=some m/\m<n)
  (hi:SIw X XP mp tg iter src) (hg:∀ σ cl C s2 H2 fp,Cat X σ C s2 H2 fp->SG ⋯ (mpC mp n k ix) (·<n) tg t) (hc:∀ σ cl C s2 H2 fp,Cat X σ C s2 H2 fp->SF ⋯ (XPc XP σ) (mpC mp n k ix) ifs cond) (hk:∀ σ cl C s2 H2 fp,Cat X σ C s2 H2 fp->SE ⋯ (XPc XP σ) (mpC mp n k ix) kx ek) (hv:∀ σ cl C s2 H2 fp,Cat X σ C s2 H2 fp->SE ⋯ (XPc XP σ) (mpC mp n k ix) vx ev)
  (hf:∀ x,foldedSetIterable iter X.env x=pure x):SD X XP mp (.DictComp kx vx [⟨tg,iter,ifs,0⟩] scope pos) (fCompD n k t src cond ek ev):=λM0 F Γ ν σ H Q rs hs hp=>
 zd8 ((za7 hcalm S hf).wp (hi M0 F Γ ν σ H _ rs hs (hp.seq.mono λF1 Γ1 H1 z rs1 s1 h1 J Hf hJ=>by
  dsimp only at h1
  split at h1
  next hh=>
   exact zjg Vb hm S.len (λ_ _ _=>⟨[],rfl,.nil⟩) rfl (hg σ) (hc σ) (λM0 F Γ ν σ1 H Q rs hs hp=>zgz (hk σ) (hv σ) rs hs hp) rs1 hs hJ hh.1 hh.2 (h1.mono λF' Γ' H' ys rs' s' hP vs p ⟨ks,e,r⟩ hp'=>by rw[e];exact hP ks p r hp')
  ·exact h1.elim)))
theorem zdh{kx vx:Expr}{N':Ab}{scope:Scope}{n k:Nat}{ix:Ac}{t:IT}{src:EM (Aa)}{cond:EM Bool}{ek ev:EM FV}(S:CSc X.env.scope X.N scope N' k ix)(hm:∀ j i:Nat,ix[j]?=some i->∃ m,mp[i]?=some m/\m<n)
  (hi:SI X XP mp tg iter src) (hg:∀ σ cl C s2 H2 fp,Cat X σ C s2 H2 fp->SG ⋯ (mpC mp n k ix) (·<n) tg t) (hc:∀ σ cl C s2 H2 fp,Cat X σ C s2 H2 fp->SF ⋯ (XPc XP σ) (mpC mp n k ix) ifs cond) (hk:∀ σ cl C s2 H2 fp,Cat X σ C s2 H2 fp->SE ⋯ (XPc XP σ) (mpC mp n k ix) kx ek) (hv:∀ σ cl C s2 H2 fp,Cat X σ C s2 H2 fp->SE ⋯ (XPc XP σ) (mpC mp n k ix) vx ev) :
  SDt XP mp (wA k ix (wpI X tg iter) (gU X N' scope tg) (fU X N' scope ifs) (eD X N' scope kx vx)) (fCompD n k t (fStd src) cond ek ev):=by?
 unfold fCompD fStd at hp
 rw[R.bind_assoc]at hp
 refine hi M0 F Γ ν σ H _ rs hs (hp.seq.mono λF1 Γ1 H1 ds rs1 s1 h1 J hJ=>?_)
 simp only[R.bind,hid]at h1
 split at h1
 next hh=>
  exact qj Vb hm S.len ⟨[],rfl,.nil⟩ rfl (hg σ) (hc σ) (λM0 F Γ ν σ1 H Q rs hs hp=>zgz (hk σ) (hv σ) rs hs hp) (λ_ _ _ _ _ h=>⟨_,_,_,h⟩) rs1 hs hJ hh.1 hh.2 h1 λF' Γ' H' ys vs rs' ⟨ks,e,r⟩ hP _ p hp'=>by
   rw[e];exact hP ks p r hp'
 ·exact h1.elim
theorem zda{kx vx:Expr}{pos' spos:Pos}(hN:X.N.Nodup)(hi':X.N[i]?=some x)(hx:Loc X.env.scope x)(hcalm:X.calm=true)(S:CSc X.env.scope X.N scope N' k ix)
  (hsw:swapsWith (.DictComp kx vx [⟨tg,iter,ifs,0⟩] scope pos) (some (.Name x pos')) spos.line X.env=pure true) (hs:∀ x,foldedSetIterable iter X.env x=pure x) (hf:X.fn x=true∨X.env.scope.names.lookup x=some .local) :
  PS X (.Assign [.Name x pos'] (.DictComp kx vx [⟨tg,iter,ifs,0⟩] scope pos) spos) (yR (wA k ix (wpI X tg iter) (gU X N' scope tg) (fU X N' scope ifs) (eD X N' scope kx vx)) (W4 i)) :=
 zc9 hN hi' hx hcalm S Jk (λ_ cl C s2 H2 fp c pins s σ H v u Q I r h=>h cl C s2 H2 fp c pins s u I r) (λ_ cl C s2 H2 fp c pins s σ H Q I h=>h cl C s2 H2 fp c pins s I)
  (λ_ cl C s2 H2 fp c pins s σ H Q I h=>h cl C s2 H2 fp c pins s I) (λ_ cl C s2 H2 fp c pins s σ H Q I h=>h cl C s2 H2 fp c pins s I) hsw hs hf
end
end L3
namespace L2
open PySem PySem.Spec PyProof.Rows
variable [Cs]
def ziO(tk tv:TE):TE:=λσ H Q=>tk σ H λx H1=>tv σ H1 λy H2=>∃ k:Key,x=kV k/\∀ p,H2 p=none->Q (.ref p) (upd H2 p (.dK [(k,y)]))
theorem zcV(hk:PE X k tk)(hv:PE X v tv):PE X (.Dict [some k] [v] pos) (ziO tk tv):=by
 intro pins s σ H Q I q
 have hn:=I.hok.fresh (xi ⇑s)
 have e0:(s.heap.push { cls:=.type "dict",data:=.dict #[] }).get? ⇑s=some { cls:=.type "dict",data:=.dict #[] }:=Xa _ rfl
 have I0:Inv X pins σ H { s with heap:=s.heap.push { cls:=.type "dict",data:=.dict #[] } }:=I.kept (t':=s.toks) λb o e=>x6 _ e
 have I1:=I0.pinned (fp:= [⇑s]) (λb hb=>by
  have e:b=⇑s:=by simpa using hb
  subst e
  exact I.fpOk (xi _) hn) (λb hb=>by
  have e:b=⇑s:=by simpa using hb
  subst e
  exact⟨_,e0,λv z=>by cases z⟩)
 refine wpAny_Dict_walk (knd:=zA X.prog X.w) rfl rfl (by simp) (by simp) (pairTrees_cons_walk (thn (hk _ _ σ _ _ I1 q) λkv s2 ⟨x,H1,I2,rx,q1⟩=>thn (hv _ _ σ _ _ I2 q1) λvv s3 ⟨y,H2,I3,ry,kk,ek,q2⟩=>pairTrees_nil_walk ?_))
 have hm:=qP (fp:= [⇑s]) (by simp) e0
 obtain⟨p1,p2,_⟩:=I3.pin _ (xz _ (xz _ hm))
 have I4:Inv X pins σ H2 s3:=I3.unpinned
 subst ek
 refine⟨[(kk,vv)],⟨wM rx,rfl,True.intro⟩,⟨_,#[],0,p1,⟨rfl,rfl,rfl⟩,rfl,λ_ he=>by simp at he,Pairs.nil,List.nodup_nil⟩,λh' dd hs=>⟨.ref ⇑s,_,?_,rfl,q2 _ p2⟩⟩
 have em:merged [] [(kk,vv)]= [(kk,vv)]:=rfl
 rw[em]at dd
 have I5:Inv X pins σ H2 { s3 with heap:=h',toks:=s3.toks+ [(kv,vv)].length }:=I4.turned (it:=⇑s) (λb o hb e=>(hs.2 b hb).trans e) p2 (Ne.symm (xk I.lt)) (.inr I.sz)
  (λx c e=>by
   obtain⟨v,ob,hob,_⟩:=I.cell x c e
   exact xk (x8 hob)) (λp hp=>xk (x8 (I.pin p hp).1))
 exact I5.track I.sz p2 (Ne.symm (xk I.lt)) (λx c e=>by
   obtain⟨v,ob,hob,_⟩:=I.cell x c e
   exact xk (x8 hob)) (λp hp=>xk (x8 (I.pin p hp).1)) (WY (by show 1<=sizeLine;decide) (Xb.mpr (Ne.symm (xk I.big))) (.cons ⟨rfl,ry⟩ .nil) dd)
theorem zfd:OpR X (binaryOp .Mult) (λx y H Q=>∃ l xs k,x=.ref l/\y=.int k/\H l=some (.lst xs)/\0<=k/\k<=1000000/\xs.length=1/\∀ p,H p=none->Q (.ref p) (upd H p (.lst (List.replicate k.toNat xs).flatten))):=by
 intro pins s σ H x y v u Q I rx ry h
 obtain⟨l,xs,k,rfl,rfl,hH,h0,h1,hx,q⟩:=h
 cases rx
 obtain⟨t,rfl⟩:=ry
 obtain⟨z,its,n,r,e⟩:=(show ObjOk X.prog X.w H s.heap l (.lst xs) from I.hok l _ hH)
 have hl:its.length=1:=by rw[<- r.length,hx]
 have hsz:its.toArray.size=1:=by simpa using hl
 have hne:its.toArray.isEmpty=false:=by simp[<- List.length_eq_zero_iff,hl]
 refine wpAny_binaryOp_repeat_ref (T:= "list") (U:= "int") (by decide) ⟨_,e,rfl⟩ (λs'=>typeIs_int s' k t) noFill_list_mul F.fills_int_mul F.slot_int_rmul repeat_list F.slot_int_index.lookup
  (call_meets F.slot_int_rmul (typeIs_int s k t) F.entry_int_rmul (F.args_int_rmul_2 _ _) (int___rmul___int_list k t l its.toArray n)
   ⟨e,rfl,⟨_,e,rfl⟩,call_meets F.slot_list_mul ⟨_,e,rfl⟩ F.entry_list_mul (F.args_list_mul_2 _ _)
    (AutoListH.list___mul___list_int_3 l its.toArray n k t (by simp[Builtin.List.listFitsIndex];omega) (by rw[hsz];omega) (by rw[hsz];simp[Builtin.List.listTooLong,sizeLine];omega)) ⟨e,?_⟩⟩)
 have hnew:List.foldl (λx1 x2=>x1++x2) #[] (List.replicate (if its.toArray.isEmpty=true then 0 else k.toNat) its.toArray)=(List.replicate k.toNat its).flatten.toArray:=by
  rw[hne,if_neg (by decide)]
  have:=wj its k.toNat []
  rw[List.nil_append]at this
  exact this
 rw[hnew]
 refine⟨.ref ⇑s,_,I.laid (λb u e=>x6 _ e) (xi _) ?_,rfl,q _ (I.hok.fresh (xi _))⟩
 exact⟨by rw[yC,hx,Xg];omega,_,0,r.rep k.toNat,Xa _ rfl⟩
end L2
namespace L3
open PySem PySem.Spec PyProof.Rows L2
noncomputable def ixF:Ab->Str->Option Nat
 |[],_=>none
 |n::ns,f=>if n=f then some 0 else (ixF ns f).map (·+1)
theorem yx:∀{fs:List (Str×V)}{j:Nat},ixF (fs.map (·.1)) f=some j->(∃ v,fs[j]?=some (f,v)/\fs.lookup f=some v)/\∀ y,qz f y fs=fs.set j (f,y)
 |[],j,h=>by cases h
 | (n,v)::fs,j,h=>by
  rw[xw,ixF]at h
  split at h
  next hn=>
   cases h
   have hn':=hn
   subst hn'
   exact⟨⟨v,rfl,by simp⟩,λy=>by simp[qz]⟩
  next hn=>
   have hn':=hn
   cases e:ixF (fs.map (·.1)) f with
   |none=>rw[e]at h;cases h
   |some k=>
    rw[e]at h
    cases h
    obtain⟨⟨w,h1,h2⟩,h3⟩:=yx e
    refine⟨⟨w,by simpa using h1,?_⟩,λy=>?_⟩
    ·rw[xy,Xb.mpr (λz=>hn' z.symm)];exact h2
    ·rw[qz,if_neg hn',h3 y];rfl
theorem yz:∀{fs:List (Str×V)},ixF (fs.map (·.1)) f=none->fs.lookup f=none/\∀ y,qz f y fs=fs++ [(f,y)]
 |[],h=>⟨rfl,λy=>rfl⟩
 | (n,v)::fs,h=>by
  rw[xw,ixF]at h
  split at h
  ·cases h
  next hn=>
   have hn':=hn
   cases e:ixF (fs.map (·.1)) f with
   |some k=>rw[e]at h;cases h
   |none=>
    obtain⟨h1,h2⟩:=yz e
    refine⟨by rw[xy,Xb.mpr (λz=>hn' z.symm)];exact h1,λy=>?_⟩
    rw[qz,if_neg hn',h2 y];rfl
variable [Cs]
theorem ORL.at':∀{vs:List V}{xs:List OV}{A:List Ap}{j:Nat}{x:OV},ORL M H vs xs A->xs[j]?=some x->∃ v A1 B A2,vs[j]?=some v/\OR M H v x B/\A=A1++(B++A2) /\
  ∀(M':Ae)(H':Hp)(v':V)(x':OV)(B':List Ap),(∀ w d,Rep M H w d->Rep M' H' w d)->(∀ c xs,H c=some (.tup xs)->H' c=some (.tup xs))->(∀ b∈A1++A2,H' b=H b)->OR M' H' v' x' B'->ORL M' H' (vs.set j v') (xs.set j x') (A1++(B'++A2))
 |_,_,_,_,_,.nil,e=>by simp at e
 |_,_,_,0,x,.cons (A:=A) (B:=B) r t,e=>by
  simp at e
  subst e
  exact⟨_,[],A,B,rfl,r,rfl,λM' H' v' x' B' hr ht hk q=>ORL.cons (B:=B) q (t.go hr ht λb hb=>hk b (by simpa using hb))⟩
 |_,_,_,j+1,x,.cons (A:=A) r t,e=>by
  obtain⟨v,A1,C,A2,h1,h2,h3,h4⟩:=ORL.at' (j:=j) t (by simpa using e)
  refine⟨v,A++A1,C,A2,by simpa using h1,h2,by rw[h3];simp,λM' H' v' x' B' hr ht hk q=>?_⟩
  have:=ORL.cons (r.go hr ht λb hb=>hk b (by simp[hb])) (h4 M' H' v' x' B' hr ht (λb hb=>hk b (by simp at hb |-;rcases hb with h | h<;>simp[h])) q)
  simpa using this
section
variable {M0:Ae}{F F':Fp}{Γ:Gv}{ν:Nu}{H:Hp}{c:Str}{ns:Ab}{xs:List OV}
theorem vj(rs:RS M0 F Γ ν H)(e:Γ[i]?=some (some (.o c ns xs))):∃ a dx fs A,ν[i]?=some (some (.ref a))/\H a=some (.ins (Cs.adr c) dx fs)/\fs.map (·.1)=ns/\ORL (MM M0 F) H (fs.map (·.2)) xs A/\F i=a::A:=by
 obtain⟨v,ev,q⟩:=rs.at' i _ e
 generalize hA:F i=A at q
 cases q with
 |o ea k qa=>exact⟨_,_,_,_,ev,ea,k,qa,rfl⟩
theorem zcL(h:ν[i]?=some (some v)):ν.set i (some v)=ν:=by
 apply ua
 intro k
 by_cases hk:i=k
 ·subst hk;rw[xj (xb.mp h).1,h]
 ·rw[xh hk]
theorem RS.wrO{u:HO}{o:OV}(r:RS M0 F Γ ν H)(hi:i<Γ.length)(hv:ν[i]?=some (some v))(hb:b∈F i)(hu:∀ xs,H b≠some (.tup xs))(hsub:∀ a∈A,a∈F i)(hnd:A.Nodup)
  (q:(∀ w d,Rep (MM M0 F) H w d->Rep (MM M0 (fset F i A)) (upd H b u) w d)->(∀ c xs,H c=some (.tup xs)->upd H b u c=some (.tup xs))->OR (MM M0 (fset F i A)) (upd H b u) v o A) :
  ∃ F',RS M0 F' (Γ.set i (some o)) ν (upd H b u)/\Stp F H F' (upd H b u):=by
 have ht:∀ c xs,H c=some (.tup xs)->upd H b u c=some (.tup xs):=λc xs e=>by
  rw[ze (λz=>by subst z;exact hu xs e)];exact e
 have s:Stp F H (fset F i A) (upd H b u):=⟨λc o ec nc=>⟨by
   rw[ze (λz=>by subst z;exact nc i hb)];exact ec,λk h=>by
   by_cases hk:k=i
   ·subst hk;rw[zh]at h;exact nc _ (hsub _ h)
   ·rw[zi hk]at h;exact nc _ h⟩,ht,λc h=>by
   by_cases z:c=b
   ·subst z;rw[zg];exact λz=>nomatch z
   ·rw[ze z];exact h⟩
 have r1:=r.put s (λk hk c hc=>ze λz=>by subst z;exact hk (r.dis _ _ _ hc hb))
  (λc h=>s.stay c (r.al0 c h)) (λa ha=>r.dis0 i a (hsub a ha)) hnd (λk hk c hc h=>hk (r.dis _ _ c h (hsub c hc))) hi (q (λw d x=>zn s r.al0 x) ht)
 rw[zcL hv]at r1
 exact⟨_,r1,s⟩
theorem RS.lessO{o:OV}(r:RS M0 F Γ ν H)(hi:i<Γ.length)(hv:ν[i]?=some (some v))(hsub:∀ a∈A,a∈F i)(hnd:A.Nodup)
  (q:(∀ w d,Rep (MM M0 F) H w d->Rep (MM M0 (fset F i A)) H w d)->OR (MM M0 (fset F i A)) H v o A):RS M0 (fset F i A) (Γ.set i (some o)) ν H/\Stp F H (fset F i A) H:=by
 have s:Stp F H (fset F i A) H:=Za λk a h=>by
  by_cases hk:k=i
  ·subst hk;rw[zh]at h;exact⟨_,hsub _ h⟩
  ·rw[zi hk]at h;exact⟨_,h⟩
 have r1:=r.put s (λ_ _ _ _=>rfl) r.al0 (λa ha=>r.dis0 i a (hsub a ha)) hnd (λk hk c hc h=>hk (r.dis _ _ c h (hsub c hc))) hi (q (λw d x=>zn s r.al0 x))
 rw[zcL hv]at r1
 exact⟨r1,s⟩
end
structure Ww(X:Cx)(c f:Str):Prop where
 cl:Cls X.K (Cs.adr c)
 no:NoAttr X.K (Cs.adr c) f
noncomputable def objF(Γ:Gv)(i:Nat)(c f:Str):Option OV:=match Γ[i]? with
 |some (some (.o c' ns xs))=>if c'=c then (ixF ns f).bind λj=>xs[j]? else none
 |_=>none
section
variable {X:Cx}{XP:XPT}{mp io:Ac}{a b e:Expr}{pos p p2 p3:Pos}{fo:EM OV}{c f x:Str}{s i:Nat}{M0:Ae}{F:Fp}{Γ:Gv}{ν:Nu}{σ:St}{H:Hp}
theorem Yx(h:objF Γ i c f=some o):∃ ns xs j,Γ[i]?=some (some (.o c ns xs))/\ixF ns f=some j/\xs[j]?=some o:=by
 unfold objF at h
 split at h
 next c' ns xs e=>
  split at h
  next hc=>
   subst hc
   cases q:ixF ns f with
   |none=>rw[q]at h;cases h
   |some j=>rw[q]at h;exact⟨ns,xs,j,e,q,h⟩
  ·cases h
 ·cases h
structure FldAt(M0:Ae)(F:Fp)(Γ:Gv)(ν:Nu)(H:Hp)(i:Nat)(c f:Str)(o:OV)(v:V):Prop where
 ex:∃ a dx fs ns xs j A1 B A2,Γ[i]?=some (some (.o c ns xs))/\ν[i]?=some (some (.ref a))/\H a=some (.ins (Cs.adr c) dx fs)/\fs.map (·.1)=ns/\ixF ns f=some j/\xs[j]?=some o/\fs[j]?=some (f,v)/\OR (MM M0 F) H v o B/\F i=a::(A1++(B++A2)) /\
  ∀(M':Ae)(H':Hp)(v':V)(x':OV)(B':List Ap),(∀ w d,Rep (MM M0 F) H w d->Rep M' H' w d)->(∀ c xs,H c=some (.tup xs)->H' c=some (.tup xs))->(∀ b∈A1++A2,H' b=H b)->OR M' H' v' x' B'->ORL M' H' ((fs.set j (f,v')).map (·.2)) (xs.set j x') (A1++(B'++A2))
theorem wG(n:NmK X mp s i x)(K:Ww X c f)(rs:RS M0 F Γ ν H)(hs:Sees mp ν σ)(h:objF Γ i c f=some o)(q:∀ v,FldAt M0 F Γ ν H i c f o v->Q v H):wpE X (.Attribute (.Name x p) f p2) σ H Q:=by
 obtain⟨ns,xs,j,e,hj,hx⟩:=Yx h
 obtain⟨a,dx,fs,A,ev,ea,hk,qa,hF⟩:=vj rs e
 subst hk
 obtain⟨⟨v,h1,h2⟩,h3⟩:=yx hj
 obtain⟨v',A1,B,A2,g1,g2,g3,g4⟩:=qa.at' hx
 rw[xl,h1]at g1
 cases g1
 refine (zcX (zQ n.hN n.hv n.hd n.hcd) rfl).wp ⟨.ref a,hs s i _ n.hm ev,a,_,dx,fs,v,rfl,ea,K.cl,K.no,h2,q v ⟨a,dx,fs,_,xs,j,A1,B,A2,e,ev,ea,rfl,hj,hx,h1,g2,by rw[hF,g3],λM' H' v' x' B' hr ht hk q=>?_⟩⟩
 rw[uq]
 exact g4 M' H' v' x' B' hr ht hk q
noncomputable def fFdat(i:Nat)(c f:Str):EM FV:=λΓ=>match objF Γ i c f with
 |some (.d x)=>.ok (.dat x,Γ)
 |_=>.bad
theorem zfF(n:NmK X mp s i x)(K:Ww X c f):SE X XP mp (.Attribute (.Name x p) f p2) (fFdat i c f):=by?
 unfold fFdat at hp
 split at hp
 next y e=>
  refine wG n K rs hs e λv hv=>?_
  obtain⟨a,dx,fs,ns,xs,j,A1,B,A2,_,_,_,_,_,_,_,q,_,_⟩:=hv.ex
  cases q with
  |d q=>exact hp F H rs (.refl _ _) v q
 ·exact hp.elim
noncomputable def fFlen(i:Nat)(c f:Str):EM FV:=λΓ=>match objF Γ i c f with
 |some (.l xs)=>.ok (.dat (.int xs.length),Γ)
 |_=>.bad
theorem zfH (B:BiK X y (.builtin "len")) (n:NmK X mp s i x) (K:Ww X c f):SE X XP mp (.Call (.Name y p3) [.Attribute (.Name x p) f p2] [] pos) (fFlen i c f):=by?
 unfold fFlen at hp
 split at hp
 next ys e=>
  refine (Jj j2 B.gl B.mg B.bt (zt zc pa_nil rfl) B.n B.d rfl rfl).wp (wG n K rs hs e λv hv=>?_)
  obtain⟨a,dx,fs,ns,xs,j,A1,B,A2,_,_,_,_,_,_,_,q,_,_⟩:=hv.ex
  cases q with
  |l eb qb=>exact⟨_,_,rfl,.inl (SqL.of eb),by rw[qb.length];exact hp F H rs (.refl _ _) _ (Rep.int _)⟩
 ·exact hp.elim
noncomputable def fFtru(i:Nat)(c f:Str):EM Bool:=λΓ=>match objF Γ i c f with
 |some (.l xs)=>.ok (!xs.isEmpty,Γ)
 |_=>.bad
theorem zga(n:NmK X mp s i x)(K:Ww X c f):ST X XP mp (.Attribute (.Name x p) f p2) (fFtru i c f):=by?
 unfold fFtru at hp
 split at hp
 next ys e=>
  refine (YA zc (λ_=>rfl)).wp (wG n K rs hs e λv hv=>?_)
  obtain⟨a,dx,fs,ns,xs,j,A1,B,A2,_,_,_,_,_,_,_,q,_,_⟩:=hv.ex
  cases q with
  | @l b us _ A' eb qb=>
   have he:(!ys.isEmpty)= !us.isEmpty:=by cases qb<;>rfl
   exact⟨_,.inl ⟨_,SqL.of eb,he⟩,hp F H rs (.refl _ _)⟩
 ·exact hp.elim
noncomputable def fFlast(i:Nat)(c f:Str):EM FV:=λΓ=>match objF Γ i c f with
 |some (.l xs)=>match xs.getLast? with
  |some (.d x)=>.ok (.dat x,Γ)
  |_=>.bad
 |_=>.bad
theorem zdk(n:NmK X mp s i x)(K:Ww X c f):SE X XP mp (.Subscript (.Attribute (.Name x p) f p2) (.UnaryOp .USub (.Constant (.int 1) cj p4) p5) pos) (fFlast i c f):=by?
 unfold fFlast at hp
 split at hp
 next ys e=>
  split at hp
  next y ey=>
   refine (zcZ ix_list zc (zgE ziZ pe_int) (λ_ _=>rfl)).wp (wG n K rs hs e λv hv=>?_)
   obtain⟨a,dx,fs,ns,xs,j,A1,B,A2,_,_,_,_,_,_,_,q,_,_⟩:=hv.ex
   cases q with
   | @l b us _ A' eb qb=>
    have hl:=qb.length
    rw[List.getLast?_eq_getElem?,<- hl]at ey
    obtain⟨w,hw,rw'⟩:=qb.get ey
    have hat:atI us (-1)=some w:=by
     have hpos:0<us.length:=by have:=(xb.mp hw).1;omega
     have e1:us.dropLast++ [w]=us:=by
      have h2:us.getLast?=some w:=by rw[List.getLast?_eq_getElem?];exact hw
      have hne:us≠ []:=λz=>by rw[z]at hpos;simp at hpos
      have h3:us.getLast hne=w:=by rw[List.getLast?_eq_some_getLast hne]at h2;exact Option.some.inj h2
      rw[<- h3];exact List.dropLast_concat_getLast hne
     rw[<- e1];exact zbP _ _
    exact⟨1,rfl,b,us,-1,w,rfl,rfl,SqL.of eb,hat,hp F H rs (.refl _ _) w rw'⟩
  ·exact hp.elim
 ·exact hp.elim
theorem RS.absorb{o o':OV}{H':Hp}(r:RS M0 F (Γ++ [some o]) (ν++ [some v]) H)(hi:i<Γ.length)(hw:ν[i]?=some (some w))(hsub:∀ b∈A',b∈F i∨b∈F Γ.length)(hnd:A'.Nodup)
  (hH:∀ b u,H b=some u->b∉F i->H' b=some u) (hst:∀ b,H b≠none->H' b≠none) (ht:∀ b xs,H b=some (.tup xs)->H' b=some (.tup xs))
  (q:∀ F',F' i=A'->Stp F H F' H'->OR (MM M0 F') H' w o' A'):∃ F',RS M0 F' (Γ.set i (some o')) ν H'/\Stp F H F' H':=by
 have hl:ν.length=Γ.length:=by have:=r.len;simp at this;exact this
 have hni:=uA hi
 let F':Fp:=λj=>if j=i then A' else if j<Γ.length then F j else []
 have hFi:F' i=A':=by show (if i=i then _ else _)=_;rw[if_pos rfl]
 have hFj:∀ j,j≠i->j<Γ.length->F' j=F j:=λj h1 h2=>by show (if j=i then _ else _)=_;rw[if_neg h1,if_pos h2]
 have hFo:∀ j,j≠i->¬ j<Γ.length->F' j= []:=λj h1 h2=>by show (if j=i then _ else _)=_;rw[if_neg h1,if_neg h2]
 have cls:∀ j a,a∈F' j->(j=i/\(a∈F i∨a∈F Γ.length))∨(j≠i/\j<Γ.length/\a∈F j):=λj a h=>by
  by_cases h1:j=i
  ·subst h1;rw[hFi]at h;exact .inl ⟨rfl,hsub a h⟩
  ·by_cases h2:j<Γ.length
   ·rw[hFj j h1 h2]at h;exact .inr ⟨h1,h2,h⟩
   ·rw[hFo j h1 h2]at h;cases h
 have s:Stp F H F' H':=⟨λb u eb nb=>⟨hH b u eb (nb i),λj h=>by
  rcases cls j b h with ⟨_,h | h⟩ | ⟨_,_,h⟩
  ·exact nb _ h
  ·exact nb _ h
  ·exact nb _ h⟩,ht,hst⟩
 refine⟨F',⟨λa ha=>hst a (r.al0 a ha),λj a h=>?_,λj=>?_,λj k a h1 h2=>?_,λj p e=>?_,λj h=>?_,by simp[hl]⟩,s⟩
 ·rcases cls j a h with ⟨_,h | h⟩ | ⟨_,_,h⟩
  ·exact r.dis0 _ a h
  ·exact r.dis0 _ a h
  ·exact r.dis0 _ a h
 ·by_cases h1:j=i
  ·subst h1;rw[hFi];exact hnd
  ·by_cases h2:j<Γ.length
   ·rw[hFj j h1 h2];exact r.nd _
   ·rw[hFo j h1 h2];exact .nil
 ·rcases cls j a h1 with ⟨e1,z1⟩ | ⟨n1,l1,z1⟩
  ·rcases cls k a h2 with ⟨e2,z2⟩ | ⟨n2,l2,z2⟩
   ·rw[e1,e2]
   ·rcases z1 with z1 | z1
    ·exact absurd (r.dis _ _ a z2 z1) n2
    ·have:=r.dis _ _ a z2 z1;omega
  ·rcases cls k a h2 with ⟨e2,z2⟩ | ⟨n2,l2,z2⟩
   ·rcases z2 with z2 | z2
    ·exact absurd (r.dis _ _ a z1 z2) n1
    ·have:=r.dis _ _ a z1 z2;omega
   ·exact r.dis _ _ a z1 z2
 ·by_cases hj:j=i
  ·subst hj
   rw[xj hi]at e
   cases e
   exact⟨w,hw,by rw[hFi];exact q F' hFi s⟩
  ·rw[xh (Ne.symm hj)]at e
   have hjl:=(xb.mp e).1
   obtain⟨u,e1,z⟩:=r.at' j p (by rw[xc hjl];exact e)
   rw[xc (by omega)]at e1
   refine⟨u,e1,?_⟩
   rw[hFj j hj hjl]
   exact z.go (λ_ _ x=>zn s r.al0 x) s.tups λb hb=>by
    obtain⟨o2,eo⟩:=r.laidF hb
    rw[eo];exact hH b _ eo λh=>hj (r.dis _ _ b hb h)
 ·by_cases hj:j=i
  ·subst hj;rw[xj hi]at h;exact absurd rfl (h o')
  ·by_cases h2:j<Γ.length
   ·rw[hFj j hj h2]
    refine r.emp j λp e=>h p ?_
    rw[xc h2]at e
    rw[xh (Ne.symm hj)];exact e
   ·exact hFo j hj h2
noncomputable def setO(c:Str)(ns:Ab)(xs:List OV)(f:Str)(o:OV):OV:=match ixF ns f with
 |some j=>.o c ns (xs.set j o)
 |none=>.o c (ns++ [f]) (xs++ [o])
noncomputable def sFset(i:Nat)(c f:Str)(fo:EM OV):SM:=λΓ=>(fo Γ).bind λ(o,Γ1)=>match Γ1[i]? with
 |some (some (.o c' ns xs))=>if c'=c/\ns.length<100 then .ok (.next,Γ1.set i (some (setO c ns xs f o))) else .bad
 |_=>.bad
theorem zf7(n:NmK X mp s i x)(K:Ww X c f)(h:SO X XP mp e fo)(hsw:swapsWith e (some (.Attribute (.Name x p) f p2)) pos.line X.env=pure false):SS X XP mp io (.Assign [.Attribute (.Name x p) f p2] e pos) (sFset i c f fo):=λM0 F Γ ν σ H D rs hs hl hp=>by
 refine (zh7 (zQ n.hN n.hv n.hd n.hcd) zc hsw).wp (h M0 F Γ ν σ H _ rs hs ((SPost.seqO hs hl hp).mono λF1 Γ1 H1 o v rs1 s1 h1=>?_))
 dsimp only at h1
 split at h1
 next c' ns xs e=>
  split at h1
  next hh=>
   obtain⟨rfl,hns⟩:=hh
   have hi:=(xb.mp e).1
   have hlν:ν.length=Γ1.length:=by have:=rs1.len;simp at this;exact this
   obtain⟨a,dx,fs,A,ev,ea,hk,qa,hF⟩:=vj rs1 (by rw[xc hi];exact e)
   rw[xc (by omega)]at ev
   subst hk
   obtain⟨w,ew,qo⟩:=rs1.at' Γ1.length o (by rw[xf (xi _)];simp)
   have ewv:w=v:=by
    rw[xf (by omega),hlν]at ew
    simpa using ew.symm
   subst ewv
   have hne:∀ b,b∈F1 Γ1.length->b∉F1 i:=λb h1 h2=>by have:=rs1.dis _ _ b h1 h2;omega
   have hnd:=rs1.nd i
   rw[hF]at hnd
   obtain⟨hnA,hndA⟩:=xA.mp hnd
   refine⟨.ref a,hs s i _ n.hm ev,a,_,dx,fs,rfl,ea,K.cl,K.no,by rw[xn]at hns;omega,?_⟩
   have hH:∀ b u,H1 b=some u->b∉F1 i->upd H1 a (.ins (Cs.adr c') dx (qz f w fs)) b=some u:=λb u eb nb=>by
    rw[ze (λz=>nb (by rw[hF,z];exact xv))];exact eb
   have hst:∀ b,H1 b≠none->upd H1 a (.ins (Cs.adr c') dx (qz f w fs)) b≠none:=λb hb=>by
    by_cases z:b=a
    ·subst z;rw[zg];exact λz=>nomatch z
    ·rw[ze z];exact hb
   have ht:∀ b xs,H1 b=some (.tup xs)->upd H1 a (.ins (Cs.adr c') dx (qz f w fs)) b=some (.tup xs):=λb xs eb=>by
    rw[ze (λz=>by subst z;rw[ea]at eb;cases eb)];exact eb
   have fin:∀(A':List Ap)(ns':Ab)(xs':List OV),(∀ b∈A',b∈A∨b∈F1 Γ1.length)->A'.Nodup->setO c' (fs.map (·.1)) xs f o=.o c' ns' xs'->(qz f w fs).map (·.1)=ns' ->
     (∀ M' H',(∀ w d,Rep (MM M0 F1) H1 w d->Rep M' H' w d)->(∀ c xs,H1 c=some (.tup xs)->H' c=some (.tup xs))->(∀ b,b≠a->H' b=H1 b)->ORL M' H' ((qz f w fs).map (·.2)) xs' A')->D.nx σ (upd H1 a (.ins (Cs.adr c') dx (qz f w fs))):=λA' ns' xs' hsub hnd' hset hns' hor=>by
    obtain⟨F2,rs2,s2⟩:=rs1.absorb hi ev (λb hb=>by
     rcases xC.mp hb with rfl | hb
     ·exact .inl (by rw[hF];exact xv)
     ·rcases hsub b hb with h | h
      ·exact .inl (by rw[hF];exact xo _ h)
      ·exact .inr h) (xA.mpr ⟨λh=>by
     rcases hsub a h with h | h
     ·exact hnA h
     ·exact hne a h (by rw[hF];exact xv),hnd'⟩) hH hst ht λF' hF' s'=>.o zg hns' (hor _ _ (λ_ _ x=>zn s' rs1.al0 x) ht λb hb=>ze hb)
    rw[hset]at h1
    exact h1 F2 ν σ _ rs2 s2 hs hl λ_ _=>rfl
   cases hj:ixF (fs.map (·.1)) f with
   |some j=>
    obtain⟨⟨v0,h2,h3⟩,h4⟩:=yx hj
    have hjx:j<xs.length:=by
     rw[<- qa.length,xn];exact (xb.mp h2).1
    obtain⟨v',A1,B,A2,g1,g2,g3,g4⟩:=qa.at' (xg hjx)
    have hA2:∀ b,b∈A1++A2->b∈A:=λb hb=>by rw[g3];simp at hb |-;rcases hb with h | h<;>simp[h]
    refine fin (A1++(F1 Γ1.length++A2)) (fs.map (·.1)) (xs.set j o) (λb hb=>?_) ?_ (by unfold setO;rw[hj]) ?_ λM' H' hr ht' hk=>?_
    ·simp at hb
     rcases hb with h | h | h
     ·exact .inl (hA2 b (by simp[h]))
     ·exact .inr h
     ·exact .inl (hA2 b (by simp[h]))
    ·rw[g3]at hndA
     have n1:=xL.mp hndA
     have n2:=xL.mp n1.2.1
     refine xL.mpr ⟨n1.1,xL.mpr ⟨rs1.nd _,n2.2.1,λx hx y hy z=>?_⟩,λx hx y hy z=>?_⟩
     ·subst z;exact hne x hx (by rw[hF];exact xo _ (hA2 x (by simp[hy])))
     ·subst z
      rcases xM.mp hy with h | h
      ·exact hne x h (by rw[hF];exact xo _ (hA2 x (by simp[hx])))
      ·exact n1.2.2 x hx x (xz _ h) rfl
    ·rw[h4 w,uq]
     have e1:(fs.map (·.1))[j]?=some f:=by rw[xl,h2];rfl
     apply ua
     intro k
     by_cases hkj:j=k
     ·subst hkj;rw[xj (xb.mp e1).1,e1]
     ·rw[xh hkj]
    ·rw[h4 w,uq]
     refine g4 M' H' w o _ hr ht' (λb hb=>hk b λz=>?_) (qo.go hr ht' λb hb=>hk b λz=>?_)
     ·subst z;exact hnA (hA2 b hb)
     ·subst z;exact hne b hb (by rw[hF];exact xv)
   |none=>
    obtain⟨_,h4⟩:=yz hj
    refine fin (A++F1 Γ1.length) (fs.map (·.1)++ [f]) (xs++ [o]) (λb hb=>xM.mp hb) ?_ (by unfold setO;rw[hj]) (by rw[h4 w];simp) λM' H' hr ht' hk=>?_
    ·exact xL.mpr ⟨hndA,rs1.nd _,λx hx y hy z=>by subst z;exact hne x hy (by rw[hF];exact xo _ hx)⟩
    ·rw[h4 w,xG]
     exact ORL.snocO (qo.go hr ht' λb hb=>hk b λz=>by subst z;exact hne b hb (by rw[hF];exact xv)) (qa.go hr ht' λb hb=>hk b λz=>by subst z;exact hnA hb)
  ·exact h1.elim
 ·exact h1.elim
end
noncomputable def updF(Γ:Gv)(i:Nat)(f:Str)(o:OV):Gv:=match Γ[i]? with
 |some (some (.o c ns xs))=>Γ.set i (some (setO c ns xs f o))
 |_=>Γ
section
variable {X:Cx}{XP:XPT}{mp io:Ac}{a b e:Expr}{pos p p2 pos' p3:Pos}{kx:Nat}{c f x:Str}{s i:Nat}{M0:Ae}{F:Fp}{Γ:Gv}{ν:Nu}{σ:St}{H H':Hp}
theorem zeS(rs:RS M0 F Γ ν H)(h:objF Γ i c f=some o):∃ v,FldAt M0 F Γ ν H i c f o v:=by
 obtain⟨ns,xs,j,e,hj,hx⟩:=Yx h
 obtain⟨a,dx,fs,A,ev,ea,hk,qa,hF⟩:=vj rs e
 subst hk
 obtain⟨⟨v,h1,h2⟩,h3⟩:=yx hj
 obtain⟨v',A1,B,A2,g1,g2,g3,g4⟩:=qa.at' hx
 rw[xl,h1]at g1
 cases g1
 refine⟨v,⟨a,dx,fs,_,xs,j,A1,B,A2,e,ev,ea,rfl,hj,hx,h1,g2,by rw[hF,g3],λM' H' v' x' B' hr ht hk q=>?_⟩⟩
 rw[uq]
 exact g4 M' H' v' x' B' hr ht hk q
theorem FldAt.same(h:FldAt M0 F Γ ν H i c f o v)(h':FldAt M0 F Γ ν H' i c f o' v')(s:Same H H'):v=v':=by
 obtain⟨a,dx,fs,ns,xs,j,_,_,_,e1,e2,e3,_,e5,_,e7,_⟩:=h.ex
 obtain⟨a',dx',fs',ns',xs',j',_,_,_,e1',e2',e3',_,e5',_,e7',_⟩:=h'.ex
 rw[e1]at e1';cases e1'
 rw[e2]at e2';cases e2'
 rw[s _ _ e3]at e3';cases e3'
 rw[e5]at e5';cases e5'
 rw[e7]at e7';cases e7'
 rfl
theorem FldAt.mut{o o':OV}{b:Ap}{u:HO}(h:FldAt M0 F Γ ν H i c f o (.ref b))(rs:RS M0 F Γ ν H)(hB:∀ B,OR (MM M0 F) H (.ref b) o B->B=b::Bs)(hu:∀ xs,H b≠some (.tup xs))(hui:∀ C dx fs,H b≠some (.ins C dx fs))
  (q:∀(M':Ae)(H':Hp),H' b=some u->(∀ w d,Rep (MM M0 F) H w d->Rep M' H' w d)->(∀ b'∈Bs,b'≠b->H' b'=H b')->(∀ c xs,H c=some (.tup xs)->H' c=some (.tup xs))->OR M' H' (.ref b) o' (b::Bs)) :
  ∃ F',RS M0 F' (updF Γ i f o') ν (upd H b u)/\Stp F H F' (upd H b u):=by
 obtain⟨a,dx,fs,ns,xs,j,A1,B,A2,e1,e2,e3,e4,e5,e6,e7,e8,e9,e10⟩:=h.ex
 have eB:=hB B e8
 subst eB
 have hi:=(xb.mp e1).1
 have hba:b≠a:=λz=>by subst z;exact hui _ _ _ e3
 have hbF:b∈F i:=by rw[e9];simp
 have hnd:=rs.nd i
 have hset:updF Γ i f o'=Γ.set i (some (.o c ns (xs.set j o'))):=by
  unfold updF
  rw[e1]
  show Γ.set i (some (setO c ns xs f o'))=_
  unfold setO
  rw[e5]
 rw[hset]
 have hfs:fs.set j (f,.ref b)=fs:=by
  apply ua
  intro k
  by_cases hk:j=k
  ·subst hk;rw[xj (xb.mp e7).1,e7]
  ·rw[xh hk]
 refine rs.wrO hi e2 hbF hu (λ_ h=>h) hnd λhr ht=>?_
 rw[e9]at hnd
 have hndc:=xA.mp hnd
 have n1:=xL.mp hndc.2
 have n2:=xL.mp n1.2.1
 have hnot:∀ b',b'∈A1++A2->b'≠b:=λb' hb' z=>by
  subst z
  rcases xM.mp hb' with h | h
  ·exact n1.2.2 _ h _ (by simp) rfl
  ·exact n2.2.2 _ xv _ h rfl
 have:=e10 (MM M0 (fset F i (F i))) (upd H b u) (.ref b) o' (b::Bs) hr ht (λb' hb'=>ze (hnot b' hb')) (q _ _ zg hr (λb' _ hne=>ze hne) ht)
 rw[hfs]at this
 have e9':=e9
 generalize MM M0 (fset F i (F i))=MX at this |-
 rw[e9]
 exact .o (by rw[ze (Ne.symm hba)];exact e3) e4 this
theorem FldAt.lst(h:FldAt M0 F Γ ν H i c f (.l ys) v)(rs:RS M0 F Γ ν H)(hl:leaves ys=some ds):∃ b us,v=.ref b/\H b=some (.lst us)/\RepL (MM M0 F) H us ds /\
  ∀ us' ds',RepL (MM M0 F) H us' ds'->∃ F',RS M0 F' (updF Γ i f (.l (ds'.map .d))) ν (upd H b (.lst us'))/\Stp F H F' (upd H b (.lst us')):=by
 obtain⟨a,dx,fs,ns,xs,j,A1,B,A2,e1,e2,e3,e4,e5,e6,e7,e8,e9,e10⟩:=id h.ex
 cases e8 with
 | @l b us _ A' eb qb=>
  obtain⟨q1,q2⟩:=qb.leaf hl
  subst q2
  refine⟨b,us,rfl,eb,q1,λus' ds' r'=>h.mut rs (λB q=>?_) (λxs z=>by rw[eb]at z;cases z) (λC dx fs z=>by rw[eb]at z;cases z) λM' H' hb hr _ _=>.l hb (ORL.data (qY hr r'))⟩
  cases q with
  | @l _ us2 _ A2 eb2 qb2=>
   rw[(qb2.leaf hl).2]
inductive IZ where
 |w (w:IW)
 |p (a b:IW)
noncomputable def zD(Γ:Gv):IZ->Option PyData
 |.w w=>wD Γ w
 |.p a b=>match wD Γ a,wD Γ b with
  |some x,some y=>some (.tuple [x,y])
  |_,_=>none
def ZOk(X:Cx)(mp:Ac)(a:Expr)(z:IZ):Prop:=∀(M0:Ae)(F:Fp)(Γ:Gv)(ν:Nu)(σ:St)(H:Hp)(x:PyData),RS M0 F Γ ν H->Sees mp ν σ->zD Γ z=some x->∀ Q:VK,(∀ v H',Same H H'->Rep (MM M0 F) H' v x->Q v H')->wpE X a σ H Q
theorem zkg(h:WOk X mp a w):ZOk X mp a (.w w):=λM0 F Γ ν σ H x rs hs e Q k=>by
 obtain⟨v,r,q⟩:=h M0 F Γ ν σ H x rs hs e
 exact q Q (k v H (Same.refl _) r)
theorem zkf(h1:WOk X mp a w1)(h2:WOk X mp b w2)(hst:starEach [a,b] X.env=(false,eval a X.env)::starEach [b] X.env)(hst2:b⁻¹):ZOk X mp (.Tuple [a,b] kx pos) (.p w1 w2):=λM0 F Γ ν σ H x rs hs e Q k=>by
 dsimp only [zD]at e
 split at e
 next x1 x2 e1 e2=>
  cases e
  obtain⟨v1,r1,q1⟩:=h1 M0 F Γ ν σ H x1 rs hs e1
  obtain⟨v2,r2,q2⟩:=h2 M0 F Γ ν σ H x2 rs hs e2
  refine (zc1 (zt zc (zt zc pa_nil hst2) hst)).wp (q1 _ (q2 _ ⟨by show 2<=sizeLine;decide,λp hn=>?_⟩))
  have sm:Same H (upd H p (.tup [v1,v2])):=zr hn
  exact k _ _ sm (.tuple zg (.cons (r1.grow sm.grow) (.cons (r2.grow sm.grow) .nil)))
 ·cases e
noncomputable def sFapp(i:Nat)(c f:Str)(z:IZ):SM:=λΓ=>match objF Γ i c f,zD Γ z with
 |some (.l ys),some x=>match leaves ys with
  |some ds=>if ds.length<1000000 then .ok (.next,updF Γ i f (.l ((ds++ [x]).map .d))) else .bad
  |none=>.bad
 |_,_=>.bad
theorem zf6(n:NmK X mp s i x)(K:Ww X c f)(hz:ZOk X mp a z)(hst:a⁻¹)(hline:(p3.endLine==pos.line)=true) :
  SS X XP mp io (.Expr (.Call (.Attribute (.Attribute (.Name x p) f p2) "append" p3) [a] [] pos) pos') (sFapp i c f z):=λM0 F Γ ν σ H D rs hs hl hp=>by
 unfold sFapp at hp
 split at hp
 next ys y e ez=>
  split at hp
  next ds ed=>
   split at hp
   next hlt=>
    refine (Jl (zcR PySem.F.plainAttrs_list PySem.F.slot_list_append PySem.F.type_list_append VN zc (zt zc pa_nil hst) rfl (by rw[hst];rfl) hline hst rfl) rfl).wp (wG n K rs hs e λv hv=>?_)
    obtain⟨b,us,rfl,eb,ru,_⟩:=hv.lst rs ed
    refine⟨.inl ⟨rfl,_,SqL.of eb⟩,hz M0 F Γ ν σ H y rs hs ez _ λv2 H2 sm r2=>?_⟩
    obtain⟨v',hv'⟩:=zeS (rs.same sm) e
    have ev:=hv.same hv' sm
    subst ev
    obtain⟨b',us',eq,eb',ru',mu⟩:=hv'.lst (rs.same sm) ed
    cases eq
    refine⟨b,us',v2,rfl,rfl,eb',by have:=Xg;rw[ru'.length];omega,?_⟩
    obtain⟨F2,rs2,s2⟩:=mu (us'++ [v2]) (ds++ [y]) (ru'.append (.cons r2 .nil))
    exact hp F2 ν σ _ rs2 ((Stp.same sm).trans s2) hs hl λ_ _=>rfl
   ·exact hp.elim
  ·exact hp.elim
 ·exact hp.elim
end
end L3
namespace Tab
open PySem PySem.Spec PyProof.Rows
noncomputable abbrev qR (led:Bool):Obj:={ cls:=.type "set",dict:=none,data:=.set #[] 0 (.fresh 0 0 led) }
section
variable {prog:Ar}{w:World}{K:Type}[DecidableEq K]{knd:KeyKind prog w K}{A:Around}{R:Result->Am->Prop}{I:Ap}{fp wr:List Ap}{G:Array GenState->Array GenState->Prop}{n:Nat}{P:Nat->Aj->Prop}{St:Nat->Am->Prop}
abbrev zan(knd:KeyKind prog w K)(h:Heap)(S:Ap)(ks:List K):Prop:=h.SetOf knd S (λz=>(dedup ks).any (·==z)) (dedup ks).length
theorem zbh(W:WalksS prog w A.in1 I fp wr G n P St)(S:Ap)(hSf:S∉fp){ks:List K}(hl:ks.length=n)(hval:∀ i v,P i v->∃ k,ks[i]?=some k/\knd.is k v=true/\v.scannable=true)(hb:n+1<scanBound) :
  ∀(m i:Nat)(s:Am),n-i=m->i<=n->St i s->zan knd s.heap S (ks.take i) ->
   (∀ s',Moved (S::wr) G s s'->zan knd s'.heap S ks->R (.ok (.ret .none)) s') ->
   codeAny (model prog w) A (.builtin "set.update.loop" ⟨[.ref S,.ref I],[]⟩) R s:=by
 have n0:S∉wr:=λh=>hSf (W.sub _ h)
 have n1:∀ b∈wr,b∈S::wr:=λb hb=>xo _ hb
 intro m
 induction m with
 |zero=>
  intro i s hk hi hst hS hR
  have hin:i=n:=by omega
  subst hin
  rw[<- hl,ub]at hS
  refine codeAny_builtin F.entry_set_update_loop ?_
  rw[Around.under_plainId F.plain_set_update_loop _]
  show wpAny _ A.in1 (pyNext (.ref I) >>= _) _ _ s
  refine x5 (W.done s _ _ hst λs' hm=>?_)
  show wpAny _ A.in1 (ret Value.none) _ _ s'
  obtain⟨o,es,ep,t,ho,rest⟩:=hS
  exact x9 (hR s' (hm.mono n1) ⟨o,es,ep,t,hm.heap S _ n0 ho,rest⟩)
 |succ m ih=>
  intro i s hk hi hst hS hR
  have hlt:i<n:=by omega
  refine codeAny_builtin F.entry_set_update_loop ?_
  rw[Around.under_plainId F.plain_set_update_loop _]
  show wpAny _ A.in1 (pyNext (.ref I) >>= _) _ _ s
  refine x5 (W.item i s _ _ hlt hst λv s' hP hst' hm=>?_)
  obtain⟨k,ek,ik,sk⟩:=hval i v hP
  have h2:zan knd s'.heap S (ks.take i):=by
   obtain⟨o,es,ep,tb,ho,rest⟩:=hS
   exact⟨o,es,ep,tb,hm.heap S _ n0 ho,rest⟩
  show wpAny _ A.in1 (holding [v] (setAdd S v) >>= _) _ _ s'
  refine x5 (Xd ?_)
  unfold setAdd
  refine Xd ?_
  refine x5 (knd.pyHash ik ?_)
  have hroom:(dedup (ks.take i)).length+1<scanBound:=by
   have:=dedup_len (ks.take i)
   rw[xP]at this;omega
  refine wpAny_setAddHashed_of (s:={ s' with toks:=s'.toks+1 }) ik sk h2 hroom λh' hsb h3=>?_
  have hSi:zan knd h' S (ks.take (i+1)):=SetOf_congr h3 (λz=>by rw[WX ek,zbm]) (by rw[WX ek,Jo])
  refine x9 ⟨plainId_quiet F.plain_set_update_loop _,ih (i+1) _ (by omega) hlt (W.frame _ s' _ _ hst' (uP _) λb hb o e=>?_) hSi λs'' hm'' hS''=>?_⟩
  ·rw[hsb.2 b (λh:b=S=>hSf (by rw[<- h];exact hb))];exact e
  ·refine hR s'' (Moved.trans W.gtrans ((hm.mono n1).then_heap (uP _) λb o hb e=>?_) hm'') hS''
   rw[hsb.2 b (λh:b=S=>hb (by rw[h];exact xv))];exact e
end
section
variable {prog:Ar}{w:World}{K:Type}[DecidableEq K]{knd:KeyKind prog w K}{A:Around}{E:Af}{s:Am}
theorem set_tupleT{a:Ap}{vs:Array Aj}{ks:List K}{Q:Af}(hd:A.handled=none)(ht:s.heap.IsTuple a vs)(hl:ks.length=vs.size)(hv:∀(i:Nat)(v:Aj),vs[i]?=some v->∃ k,ks[i]?=some k/\knd.is k v=true/\v.scannable=true)(hsz:vs.size+1<scanBound)
  (k:∀(h2:Heap)(tk:Nat),zan knd h2 ⇑s ks->(∀ b o,b<⇑s->s.heap.get? b=some o->h2.get? b=some o)->Q (.ref ⇑s) { s with heap:=h2,toks:=tk }) :
  wpAny (model prog w) A (call (.type "set") [.ref a]) Q E s:=by
 obtain⟨c0,t0,m0⟩:=F.called_set.mro
 have m1:=F.called_set.made
 have m2:=F.called_set.sub
 have m3:=F.called_set.notType
 have m4:=F.called_set.canCreate
 have m5:=F.typeCall_set_1 (.ref a)
 refine wpAny_call (codeAny_of_tree ?_)
 show wpAny _ _ (callAny (.type "set") ⟨[.ref a],[]⟩) _ _ s
 refine x9 ⟨Code.quiet_builtin _ (by decide +kernel),codeAny_builtin F.entry_type_call ?_⟩
 rw[Around.under_plain (weight_type_call_type "set" [.ref a] []) rfl]
 repeat (any_goals (first | assumption | wp_step))
 refine Xl (code_set_new_1 (.ref a) (E:=E) (Q₁:=λz z1=>∃ led:Bool,z=.ref ⇑s/\z1={ s with heap:=s.heap.push (qR led) }) λled=>⟨led,rfl,rfl⟩) λr z1 hr=>?_
 cases r with
 |error e=>exact hr
 |ok fl=>
  cases fl with
  |next=>exact hr.elim
  |brk=>exact hr.elim
  |cont=>exact hr.elim
  |ret z=>
   obtain⟨led,rfl,rfl⟩:=hr
   have g0:(s.heap.push (qR led)).get? ⇑s=some (qR led):=Xa _ rfl
   have g1:Shared.TypeIs { s with heap:=s.heap.push (qR led) } (.ref ⇑s) "set" :=⟨_,g0,rfl⟩
   have g2:=F.called_set.init.lookup
   have g3:=F.called_set.init.bind (.ref ⇑s)
   repeat (any_goals (first | assumption | wp_step))
   refine Xl (codeAny_call_builtin (R:=wants (λr z2=>r=.none/\∃ h2 tk,z2={ s with heap:=h2,toks:=tk }/\zan knd h2 ⇑s ks /\
     ∀ b o,b<⇑s->s.heap.get? b=some o->h2.get? b=some o) E) F.called_set.init.plain F.entry_set_init (check_set_init_1 g1 ?_)) λr2 z2 hr2=>?_
   ·have ht1:=ht.push (qR led)
    obtain⟨ot,e1,e2,nt,e3⟩:=ht
    have hlt:=x8 e1
    cases ot with
    |mk oc od odt osl=>
     dsimp only at e2 e3
     subst e2 e3
     have e1':(s.heap.push (qR led)).get? a=some { cls:=.type "tuple",dict:=od,data:=.seq vs nt,slots:=osl }:=x6 _ e1
     have f1:=F.sub_tuple_set
     have f2:=F.sub_tuple_frozenset
     have f3:(Value.type "tuple" ==Value.type "dict")=false:=by decide
     unfold Builtin.«set.__init__» noKeywords Builtin.Frozenset.updateFrom
     generalize hpi:pyIter=pI
     wp_walk
     subst hpi
     refine wpAny_pyIter_tuple ht1 (x5 (wpAny_runValue ?_))
     have sz1:(s.heap.push (qR led)).objs.size=⇑s+1:=Heap.size_push ..
     have n1:a≠(s.heap.push (qR led)).objs.size:=by rw[sz1];exact xk (Nat.lt_succ_of_lt hlt)
     have n2:⇑s∉ [(s.heap.push (qR led)).objs.size,a]:=λz=>by
      rcases xC.mp z with z | z
      ·rw[sz1]at z;exact absurd z (xk (uL _))
      ·have:⇑s=a:=by simpa using z
       exact absurd this.symm (xk hlt)
     have n3:A.in1.in1.in1.handled=none:=by simp[hd]
     refine zbh ((Walks.tuple n3 _ a n1 vs).toS) ⇑s n2 hl hv hsz (vs.size-0) 0 _ rfl (ug _)
      ⟨⟨_,Xa _ rfl,rfl,rfl⟩,ht1.push _⟩ ?u ?v
     case u=>
      have g4:=x6 (h:=s.heap.push (qR led)) { cls:=.type "tuple_iterator",data:=.fields #[.ref a,.int 0 0] } g0
      exact SetOf_congr ((setObjOf_fresh (knd:=knd) led).setOf g4 (by unfold scanBound;omega)) (λ_=>rfl) rfl
     case v=>
      intro z2 hm hS
      have q1:=hm.gens
      have q2:=hm.drawn
      have q3:=hm.os
      have q4:=hm.heap
      cases z2 with
      |mk h2 gg gd gt go=>
       dsimp only at q1 q2 q3 q4 hS
       subst q1 q2 q3
       show wpAny _ _ _ _ _ _
       refine x9 ?_
       show wpAny _ _ (ret Value.none) _ _ _
       refine x9 ⟨rfl,h2,gt,rfl,hS,λb o hb e=>q4 b o (λz=>?_) (x6 _ (x6 _ e))⟩
       rcases xC.mp z with z | z
       ·exact absurd z (xk hb)
       ·have:b=(s.heap.push (qR led)).objs.size:=by simpa using z
        rw[sz1]at this;omega
   ·cases r2 with
    |error e=>exact hr2
    |ok fl2=>
     cases fl2 with
     |next=>exact hr2.elim
     |brk=>exact hr2.elim
     |cont=>exact hr2.elim
     |ret r=>
      obtain⟨rfl,h2,tk,rfl,hS,hk⟩:=hr2
      repeat (any_goals (first | assumption | wp_step))
      exact k h2 tk hS hk
end
end Tab
namespace L2
open PySem PySem.Spec PyProof.Rows
variable [Cs]
section
variable {X:Cx}
theorem VP {K:Type} [DecidableEq K] (knd:KeyKind X.prog X.w K) (f:K->V) (hf:∀ k u,RelV (f k) u->knd.is k u=true/\u.scannable=true){a:Expr}{p1 p2 q1 q2:Pos}(hc:X.calm=true) (hgl:Gl X "len") (hml:X.mg "len" =none) (hg:Gl X "set") (hm:X.mg "set" =none) (hst:a⁻¹) :
  PE X (.Call (.Name "len" p1) [.Call (.Name "set" p2) [a] [] q2] [] q1) (λσ H Q=>wpE X a σ H λv H1=>∃ l ns,v=.ref l/\SqT X.K H1 l (List.map f ns)/\ns.length<=60/\Q (.int (Tab.dedup ns).length) H1):=by
 cbv
 refine Xk (QH I hgl hml PySem.boot_len ?_)
 refine PyProof.Rows.callWith_builtin1 (E:=X.xe) ?_ rfl rfl
 show wpAny _ _ (spliced ((false,eval (.Call (.Name "set" p2) [a] [] q2) X.env)::backTo q1 (starEach [] X.env))) _ _ s
 refine Calls.spliced_cons ?_
 have h':zdJ (wpE X a) ziP σ H (λvs H1=>∃ v,vs= [v]/\∃ l ns,v=.ref l/\SqT X.K H1 l (List.map f ns)/\ns.length<=60/\Q (.int (Tab.dedup ns).length) H1):=wpE.mono h λv H1 q=>⟨v,rfl,q⟩
 refine Call_ (QH I hg hm JC (PyProof.Rows.callWith_type1 (thn ((zt zc pa_nil hst) q2 pins s σ H _ I h') λus s1 ⟨vs,H1,I1,r1,z⟩=>?_) hst rfl))
 obtain⟨v,rfl,l,ns,rfl,hq,hn,q⟩:=z
 obtain⟨u,rfl,ru⟩:=jX r1
 cases ru
 obtain⟨its,rv,pl,hz⟩:=I1.tuple hq
 have hlen:=rv.length
 rw[xn]at hlen
 have hsz:its.toArray.size=ns.length:=by rw[xq];exact hlen.symm
 have hsb:scanBound=4096:=rfl
 refine Tab.set_tupleT (I1.ok.hd hc) (show s1.heap.IsTuple l its.toArray from pl) hsz.symm (knd:=knd) (λi v e=>?_) (by omega) λh2 tk hS hk=>?_
 ·have hi:=(ue.mp e).1
  obtain⟨u,hu,ru⟩:=rv.get (i:=i) (x:=f (ns[i]'(by omega))) (by rw[xl,xg (by omega)];rfl)
  rw[<- Array.getElem?_toList,List.toList_toArray]at e
  cases hu.symm.trans e
  exact⟨_,xg (by omega),hf _ _ ru⟩
 refine Calls.spliced_nil ?_
 obtain⟨o3,es3,ep3,t3,hg3,hx3,hd3,_,_,hb3,hf3,hn3⟩:=hS
 have hdl:=Tab.dedup_len ns
 have I2:Inv X pins σ H1 { s1 with heap:=h2,toks:=tk }:=I1.kept (t':=tk) λb o e=>hk b o (x8 e) e
 refine call_len_set hg3 hx3 hd3 hf3 (by omega) ?_
 refine⟨.int (Tab.dedup ns).length,H1,I2.kept (t':=tk+1+1) λb o e=>e,⟨tk+1,?_⟩,q⟩
 rw[hn3]
end
end L2
namespace L3
open PySem PySem.Spec PyProof.Rows L2
variable [Cs]
section
variable {X:Cx}{XP:XPT}{mp:Ac}{a:Expr}{p1 p2 q1 q2:Pos}{fa:EM FV}
noncomputable def Yi(fa:EM FV):EM FV:=λΓ=>(fa Γ).bind λ(u,Γ1)=>match derS Γ1 u with
 |some (.tuple ds)=>match QF ds with
  |some ns=>if ns.length<=60 then .ok (.dat (.int (Tab.dedup ns).length),Γ1) else .bad
  |none=>.bad
 |_=>.bad
theorem jY{M:Ae}{H:Hp}:∀{vs:List V}{ds:Aa}{ns:List Int},RepL M H vs ds->QF ds=some ns->vs=ns.map V.int
 |_,_,_,.nil,e=>by cases e;rfl
 |_,_,_,.cons (ds:=ds) (d:=d) r t,e=>by
  cases d with
  |int i=>
   unfold QF at e
   cases q:QF ds with
   |none=>rw[q]at e;cases e
   |some ms=>
    rw[q]at e
    cases e
    cases r
    rw[xw,jY t q]
  |_=>cases e
theorem zfL (hc:X.calm=true) (hgl:Gl X "len") (hml:X.mg "len" =none) (hgs:Gl X "set") (hms:X.mg "set" =none) (ha:SE X XP mp a fa) (hsa:a⁻¹) :
  SE X XP mp (.Call (.Name "len" p1) [.Call (.Name "set" p2) [a] [] q2] [] q1) (Yi fa):=by?
 refine (VP (intKind _ _) V.int (λk u ⟨t,e⟩=>e ▸ ⟨intKind_is ..,rfl⟩) hc hgl hml hgs hms hsa).wp (ha.run rs hs hp λF1 Γ1 H1 u v rs1 s1 o1 h1=>?_)
 dsimp only at h1
 split at h1
 next ds ed=>
  split at h1
  next ns en=>
   split at h1
   next hn=>
    obtain⟨l,vs,rfl,el,r⟩:=(o1.strong rs1 ed).tup_inv
    have hv:=jY r en
    subst hv
    exact⟨l,ns,rfl,SqT.of el,hn,h1 F1 H1 rs1 (.refl _ _) _ (Rep.int _)⟩
   ·exact h1.elim
  ·exact h1.elim
 ·exact h1.elim
end
end L3
namespace L2
open PySem PySem.Spec PyProof.Rows
variable [Cs]
section
end
end L2
namespace L3
open PySem PySem.Spec PyProof.Rows L2
variable [Cs]
section
variable {X:Cx}{XP:XPT}{mp io:Ac}{a e:Expr}{p pos px py ps:Pos}{fa:EM FV}
noncomputable def sStar(io:Ac)(i j:Nat)(fa:EM FV):SM:=λΓ=>(fa Γ).bind λ(u,Γ1)=>match derS Γ1 u with
 |some (.list (d::ds))=>if i<Γ1.length/\j<Γ1.length/\i∉io/\j∉io then .ok (.next,(Γ1.set i (@&d)).set j (@&(.list ds))) else .bad
 |some (.tuple (d::ds))=>if i<Γ1.length/\j<Γ1.length/\i∉io/\j∉io then .ok (.next,(Γ1.set i (@&d)).set j (@&(.list ds))) else .bad
 |_=>.bad
theorem zf9{s i t j:Nat}{x y:Str}{k:Nat}(hc:X.calm=true)(hN:X.N.Nodup)(hn:mp.Nodup)(hi:X.N[s]?=some x)(hx:Loc X.env.scope x)(hfx:X.fn x=true∨X.env.scope.names.lookup x=some .local)(hm:mp[s]?=some i)(hj:X.N[t]?=some y)(hy:Loc X.env.scope y)(hfy:X.fn y=true∨X.env.scope.names.lookup y=some .local)(hmt:mp[t]?=some j)
  (ha:SE X XP mp a fa) (hsw:swapsWithSole [.Tuple [.Name x px,.Starred (.Name y py) ps] k p] a pos.line X.env=pure false) (hw:swappedStores [.Tuple [.Name x px,.Starred (.Name y py) ps] k p] a X.env=pure none) :
  SS X XP mp io (.Assign [.Tuple [.Name x px,.Starred (.Name y py) ps] k p] a pos) (sStar io i j fa):=λM0 F Γ ν σ H D rs hs hl hp=>by
 have hsl:s<X.N.length:=(xb.mp hi).1
 have htl:t<X.N.length:=(xb.mp hj).1
 refine (Kh zc (zfm hc hN hi hx hfx hj hy hfy) hsw hw).wp (ha M0 F Γ ν σ H _ rs hs ((SPost.seq hs hl hp).mono λF1 Γ1 H1 u rs1 s1 h1 v hv=>?_))
 have go:∀(d:PyData)(ds:Aa)(l:Ap)(zs:List V),(SqL X.K H1 l zs∨SqT X.K H1 l zs)->v=.ref l->RepL (MM M0 F1) H1 zs (d::ds)->SPost M0 F1 ν H1 XP mp X.N.length io D (if i<Γ1.length/\j<Γ1.length/\i∉io/\j∉io then R.ok (FL.next,(Γ1.set i (@&d)).set j (@&(.list ds))) else .bad)->zgB X.K s t v σ H1 λσ' H'=>D.nx σ' H':=λd ds l zs hq hv r h1=>by
  subst hv
  split at h1
  next hh=>
   obtain⟨k1,k2,k3,k4⟩:=hh
   cases r with
   |cons r1 r2=>
    rename_i w ws
    refine⟨l,w,ws,rfl,hq,λq hq=>?_⟩
    have sm:Same H1 (upd H1 q (.lst ws)):=zr hq
    obtain⟨F2,rs2,s2⟩:=(rs1.same sm).setD (i:=i) (r1.grow sm.grow) k1
    have hnm:¬ MM M0 F1 q:=λz=>rs1.al q z hq
    have rl:Rep (MM M0 F1) (upd H1 q (.lst ws)) (.ref q) (.list ds):=Rep.list zg hnm (r2.grow sm.grow)
    obtain⟨F3,rs3,s3⟩:=rs2.setD (i:=j) (zn s2 (rs1.same sm).al0 rl) (by simpa using k2)
    refine h1 F3 _ _ _ rs3 (((Stp.same sm).trans s2).trans s3) ((hs.set hn hm (by rw[hl];exact hsl)).set hn hmt (by rw[xS,hl];exact htl)) (by simpa using hl) λz hz=>?_
    rw[xh (λe=>k4 (by rw[e];exact hz)),xh (λe=>k3 (by rw[e];exact hz))]
  ·exact h1.elim
 dsimp only at h1
 split at h1
 next d ds ed=>
  obtain⟨l,zs,e,el,_,r⟩:=(hv.strong rs1 ed).lst_inv
  exact go d ds l zs (.inl (SqL.of el)) e r h1
 next d ds ed=>
  obtain⟨l,zs,e,el,r⟩:=(hv.strong rs1 ed).tup_inv
  exact go d ds l zs (.inr (SqT.of el)) e r h1
 ·exact h1.elim
end
end L3
namespace L2
open PySem PySem.Spec PyProof.Rows
variable [Cs]
section
variable {X:Cx}
theorem zhY:OpR X (compareOp .In) (λx y H Q=>∃ a b,x=.str a/\y=.str b/\Q (.bl (Txt.contains b a)) H):=by
 intro pins s σ H x y v u Q I rx ry h
 obtain⟨a,b,rfl,rfl,q⟩:=h
 obtain⟨t,rfl⟩:=rx
 obtain⟨t2,rfl⟩:=ry
 exact SB.contains ⟨.bl _,H,I,rfl,q⟩
theorem yd:qZ X (.builtin "len") (λxs H Q=>∃ a,xs= [.str a]/\a.length<=sizeLine/\Q (.int a.length) H):=by
 intro pins s σ H xs us Q I r h
 obtain⟨a,rfl,hz,q⟩:=h
 obtain⟨u,rfl,t,rfl⟩:=jX r
 have:=Xg
 exact PyProof.Rows.len_str (by omega) ⟨.int a.length,H,I.tok _,⟨_,rfl⟩,q⟩
theorem vL:∀{xs:List V}{us:An}{ys:Ab},Vals xs us->xs=ys.map .str->StrsAre us ys
 |_,_,[],.nil,_=>.nil
 |_,_,_::_,.nil,e=>by cases e
 |_,_,[],.cons _ _,e=>by cases e
 |_,_,y::ys,.cons r t,e=>by
  rw[xw,List.cons.injEq]at e
  obtain⟨e1,e2⟩:=e
  subst e1
  obtain⟨tk,rfl⟩:=r
  exact .cons y tk (vL t e2)
theorem ze5:MtR X "str.join" (λx xs H Q=>∃ (a:Str) (p:Ap) (ys:Ab),x=.str a/\xs= [.ref p]/\(SqL X.K H p (ys.map .str)∨SqT X.K H p (ys.map .str))/\a.length<=16/\(ys.map (·.length)).sum+ys.length<=1048576/\Q (.str (Txt.join a ys)) H):=by
 intro pins s σ H x xs v us Q I rx r h
 obtain⟨a,p,ys,rfl,rfl,hq,h16,hw,q⟩:=h
 obtain⟨t,rfl⟩:=rx
 obtain⟨u,rfl,ru⟩:=jX r
 cases ru
 rcases hq with hq | hq
 ·obtain⟨its,r2,pl,hz⟩:=I.list hq
  exact join_listW pl.isList (by simpa using vL r2 rfl) h16 hw λt' k=>⟨.str _,H,I.tok k,⟨t',rfl⟩,q⟩
 ·obtain⟨its,r2,pl,hz⟩:=I.tuple hq
  exact join_tupleW pl (by simpa using vL r2 rfl) h16 hw λt' k=>⟨.str _,H,I.tok k,⟨t',rfl⟩,q⟩
end
end L2
namespace L3
open PySem PySem.Spec PyProof.Rows L2
variable [Cs]
section
variable {X:Cx}{XP:XPT}{mp:Ac}{a b c e:Expr}{es:Ag}{pos p2:Pos}{fa fb:EM FV}
noncomputable def zck:PyData->PyData->Option Bool
 |.str x,.str y=>some (Txt.contains y x)
 |_,_=>none
theorem zdt:Wv X .In zck:=λx y z e=>by
 unfold zck at e
 split at e
 ·cases e
  exact⟨_,zhY,λH v u Q r1 r2 k=>by
   cases r1;cases r2
   exact⟨_,_,rfl,rfl,k⟩⟩
 ·cases e
noncomputable def Yk:PyData->Option PyData
 |.str x=>if x.length<=1000000 then some (.int x.length) else none
 |_=>none
theorem zeI:wH X (.builtin "len") Yk:=λx z e=>by
 unfold Yk at e
 split at e
 ·split at e
  next h=>
   cases e
   exact⟨rfl,_,yd,λH v Q r k=>by cases r;exact⟨_,rfl,sz6 h,k _ (.int _)⟩⟩
  ·cases e
 ·cases e
noncomputable def zeR(fa fb:EM FV):EM FV:=λΓ=>(fa Γ).bind λ(u,Γ1)=>(fb Γ1).bind λ(w,Γ2)=>match derf Γ2 u,derf Γ2 w with
 |some (.str x),some (.int i)=>if x.length<=1000000 then match atI x.cps.toList i with
  |some c=>.ok (.dat (.str ⟨#[c]⟩),Γ2)
  |none=>.bad
  else .bad
 |_,_=>.bad
theorem zir(ha:SE X XP mp a fa)(hb:SE X XP mp b fb)(hx:Wl b):SE X XP mp (.Subscript a b pos) (zeR fa fb):=λM0 F Γ ν σ H Q rs hs hp=>
 (zcZ zhD zc zc hx).wp (ha.run rs hs hp λF1 Γ1 H1 u v rs1 s1 o1 h1=>hb.run rs1 hs h1 λF2 Γ2 H2 w v2 rs2 s2 o2 h2=>by
  dsimp only at h2
  split at h2
  next x i e1 e2=>
   split at h2
   next hz=>
    split at h2
    next cc ec=>
     have r1:=(o1.stp s2 rs1.al0).weak rs2 e1
     have r2:=o2.weak rs2 e2
     cases r1;cases r2
     exact⟨_,_,cc,rfl,rfl,sz6 hz,ec,h2 F2 H2 rs2 (.refl _ _) _ (Rep.str _)⟩
    ·exact h2.elim
   ·exact h2.elim
  ·exact h2.elim)
noncomputable def Zb:Aa->Option (Ab)
 |[]=>some []
 |.str x::r=>(Zb r).map (x::·)
 |_=>none
theorem vK(xs:Ab):Zb (xs.map .str)=some xs:=by
 induction xs with
 |nil=>rfl
 |cons b r ih=>simp[Zb,ih]
theorem Qb:∀{ds:Aa}{xs:Ab},Zb ds=some xs->ds=xs.map .str
 |[],xs,e=>by cases e;rfl
 |.str b::r,xs,e=>by
  unfold Zb at e
  cases q:Zb r with
  |none=>rw[q]at e;cases e
  |some l=>rw[q]at e;cases e;rw[Qb q];rfl
 |.none::r,xs,e=>by cases e
 |.bool _::r,xs,e=>by cases e
 |.int _::r,xs,e=>by cases e
 |.list _::r,xs,e=>by cases e
 |.tuple _::r,xs,e=>by cases e
 |.dict _::r,xs,e=>by cases e
theorem Z9:∀{vs:List V}{xs:Ab},RepL M H vs (xs.map .str)->vs=xs.map .str
 |_,[],.nil=>rfl
 |_,x::xs,.cons r t=>by
  cases r
  rw[Z9 t];rfl
noncomputable def W3(z:Str)(x:PyData):Option PyData:=match (match x with | .list ds=>Zb ds | .tuple ds=>Zb ds | _=>none) with
 |some ys=>if (ys.map (·.length)).sum+ys.length<=1000000/\z.length<=16 then some (.str (Txt.join z ys)) else none
 |none=>none
theorem zfK {name:Str}{z:Str}{j:Nat}{p1:Pos}(en:name= "join") (ha:SE X XP mp a fa) (hst:a⁻¹) (hl:(p2.endLine==pos.line)=true) :
  SE X XP mp (.Call (.Attribute (.Constant (.str z) j p1) name p2) [a] [] pos) (f1 (W3 z) fa):=by?
 subst en
 have hfew:((backTo pos (starEach [a] X.env)).all (λx=> !x.1)&&(backToKw pos (keywordEach [] X.env)).all (λx=>x.1.isSome)&&decide ([a].length+([]:List Keyword).length+(if ([]:List Keyword).isEmpty then 0 else 1)<30))=true:=by rw[hst];rfl
 refine (zcR PySem.F.plainAttrs_str PySem.F.slot_str_join PySem.F.type_str_join ze5 pe_str (zt zc pa_nil hst) rfl hfew hl hst rfl).wp ⟨rfl,?_⟩
 refine ha.run rs hs hp λF1 Γ1 H1 u v rs1 s1 o1 h1=>?_
 dsimp only at h1
 split at h1
 next y ey=>
  cases ex:derf Γ1 u with
  |none=>rw[ex]at ey;cases ey
  |some x=>
   rw[ex]at ey
   have ey:W3 z x=some y:=ey
   unfold W3 at ey
   split at ey
   next ys es=>
    split at ey
    next hh=>
     cases ey
     have r:=o1.weak rs1 ex
     cases x with
     |list ds=>
      obtain⟨l,vs,rfl,el,_,rl⟩:=r.lst_inv
      rw[Qb es]at rl
      have:=Z9 rl
      subst this
      exact⟨z,l,ys,rfl,rfl,.inl (SqL.of el),hh.2,by omega,h1 F1 H1 rs1 (.refl _ _) _ (Rep.str _)⟩
     |tuple ds=>
      obtain⟨l,vs,rfl,el,rl⟩:=r.tup_inv
      rw[Qb es]at rl
      have:=Z9 rl
      subst this
      exact⟨z,l,ys,rfl,rfl,.inr (SqT.of el),hh.2,by omega,h1 F1 H1 rs1 (.refl _ _) _ (Rep.str _)⟩
     |_=>cases es
    ·cases ey
   ·cases ey
 ·exact h1.elim
noncomputable def zhe:Ab->Str
 |[]=>Str.empty
 |x::r=>x++zhe r
theorem Kj(x:Str):x++Str.empty=x:=by
 show Str.append x Str.empty=x
 cases x;simp[Str.append,Str.empty]
noncomputable def zcf:EM (Ab):=λΓ=>.ok ([],Γ)
def SJ(X:Cx)(XP:XPT)(mp:Ac)(es:Ag)(f:EM (Ab)):Prop:=∀(M0:Ae)(F:Fp)(Γ:Gv)(ν:Nu)(σ:St)(H:Hp)(acc:Str)(Q:Str->Hp->Prop),RS M0 F Γ ν H->Sees mp ν σ->acc.length+10000*es.length<=10000000 ->
 EPost M0 F ν σ H XP (λF' Γ' H' ys=>Q (acc++zhe ys) H') (f Γ)->∀ pins s,Inv X pins σ H s->Joins (model X.prog X.w) X.A X.xe (evalEach es X.env) acc (λout s1=>out.length<=sizeLine/\∃ H',Inv X pins σ H' s1/\Q out H') s
theorem ziz:SJ X XP mp [] zcf:=λM0 F Γ ν σ H acc Q rs hs hz hp pins s I=>by
 have:=hp F H rs (.refl _ _)
 unfold zhe at this
 rw[Kj]at this
 exact⟨by have:=Xg;omega,H,I,this⟩
end
noncomputable def derD(Γ:Gv):FV->Option (Ad)
 |.dat (.dict kv)=>unD kv
 |.own i=>match Γ[i]? with
  |some (some (.m ds))=>some ds
  |some (@&(.dict kv))=>unD kv
  |_=>none
 |_=>none
noncomputable def zch(c f:Str):PyData->Option PyData
 |.dict ((.none,.str c')::kv)=>if c'=c then (unD kv).bind λfs=>zq fs f else none
 |_=>none
theorem wV{β:Type}(f:Str):∀(fs:List (Str×β)),fs.lookup f=zq fs f
 |[]=>rfl
 | (x,y)::r=>by
  rw[xy]
  unfold zq
  rw[xX]
  by_cases h:x=f
  ·subst h;simp
  ·have h':(f==x)=false:=by simpa using λz=>h z.symm
   rw[h']
   simp only[h,decide_false]
   exact wV f r
theorem Rep.tab(r:Rep M H v (.dict kv))(e:unD kv=some ds):∃ a ks,v=.ref a/\¬ M a/\Rd H a (.dK (ks.map kK))/\KR M H ks ds:=by
 obtain⟨a,rfl,n,h | h | h⟩:=r.dict_inv
 ·obtain⟨ks,ds',h1,rfl,h2⟩:=h
  rw[zR]at e;cases e
  exact⟨a,ks,rfl,n,h1,h2⟩
 ·obtain⟨_,_,_,_,_,rfl,_⟩:=h
  cases e
 ·obtain⟨_,_,_,_,_,_,rfl,_⟩:=h
  cases e
theorem RepL.strs:∀(ss:Ab),RepL M H (ss.map V.str) (ss.map .str)
 |[]=>.nil
 |x::r=>.cons (.str x) (RepL.strs r)
section
variable {X:Cx}{XP:XPT}{mp:Ac}{a b e:Expr}{pos p:Pos}{fa fb:EM FV}{ma:EM (Ad)}{cl f x:Str}{s i:Nat}{M0:Ae}{F:Fp}{Γ:Gv}{ν:Nu}{σ:St}{H H':Hp}{u:FV}{v:V}
theorem FOk.dict(h:FOk M0 F ν H v u)(rs:RS M0 F Γ ν H)(e:derD Γ u=some ds):∃ a ks,v=.ref a/\Rd H a (.dK (ks.map kK))/\KR (MM M0 F) H ks ds:=by
 cases u with
 |dat y=>
  cases y<;>try (cases e;done)
  rename_i kv
  obtain⟨a,ks,h1,_,h2,h3⟩:=Rep.tab (show Rep (MM M0 F) H v _ from h) e
  exact⟨a,ks,h1,h2,h3⟩
 |own i=>
  have hv:=h
  dsimp only [derD]at e
  split at e
  next ds' q=>
   cases e
   obtain⟨w,e1,r⟩:=rs.at' i _ q
   rw[hv]at e1;cases e1
   generalize F i=A at r
   cases r with
   |m ea k r=>exact⟨_,_,rfl,.inl ea,.of k r⟩
  next kv q=>
   obtain⟨w,e1,r⟩:=rs.at' i _ q
   rw[hv]at e1;cases e1
   generalize F i=A at r
   cases r with
   |d r=>
    obtain⟨a,ks,h1,_,h2,h3⟩:=Rep.tab r e
    exact⟨a,ks,h1,h2,h3⟩
  ·cases e
noncomputable def fDget(fa fb:EM FV):EM FV:=λΓ=>(fa Γ).bind λ(u,Γ1)=>(fb Γ1).bind λ(w,Γ2)=>match derD Γ2 u,derf Γ2 w with
 |some ds,some (.str z)=>match zq ds z with
  |some x=>.ok (.dat x,Γ2)
  |none=>.bad
 |_,_=>.bad
theorem zfE(hu:X.A.units+1<cLine)(ha:SE X XP mp a fa)(hb:SE X XP mp b fb)(hx:zeg b):SE X XP mp (.Subscript a b pos) (fDget fa fb):=λM0 F Γ ν σ H Q rs hs hp=>
 (zfk hu zc zc hx).wp (ha.run rs hs hp λF1 Γ1 H1 u v rs1 s1 o1 h1=>hb.run rs1 hs h1 λF2 Γ2 H2 w v2 rs2 s2 o2 h2=>by
  dsimp only at h2
  split at h2
  next ds z e1 e2=>
   split at h2
   next y ey=>
    obtain⟨l,ks,rfl,er,kr⟩:=(o1.stp s2 rs1.al0).dict rs2 e1
    cases o2.weak rs2 e2
    obtain⟨w',hw,rw'⟩:=(kr.val z).2 y ey
    exact⟨l,w',rfl,.inl ⟨_,.inr z,er,rfl,by rw[Jv,hw]⟩,h2 F2 H2 rs2 (.refl _ _) w' rw'⟩
   ·exact h2.elim
  ·exact h2.elim)
noncomputable def gDin(x y:PyData):Option Bool:=match x,y with
 |.str z,.dict kv=>(unD kv).map λds=>(zq ds z).isSome
 |_,_=>none
noncomputable def gDnin(x y:PyData):Option Bool:=match x,y with
 |.str z,.dict kv=>(unD kv).map λds=> !(zq ds z).isSome
 |_,_=>none
theorem zhT(hu:X.A.units+1<cLine):OpR X (compareOp .In) (λx y H Q=>∃ l o,y=.ref l/\Y1 H l x o/\Q (.bl o.isSome) H):=by
 rintro pins s σ H x y v u Q I rx ry ⟨l,o,rfl,g,k⟩
 obtain rfl:u=Value.ref l:=ry
 exact d_in hu I g rx λs' I'=>⟨.bl o.isSome,H,I',rfl,k⟩
theorem zfb(hu:X.A.units+1<cLine):OpR X (compareOp .NotIn) (λx y H Q=>∃ l o,y=.ref l/\Y1 H l x o/\Q (.bl (!o.isSome)) H):=by
 rintro pins s σ H x y v u Q I rx ry ⟨l,o,rfl,g,k⟩
 obtain rfl:u=Value.ref l:=ry
 exact zeJ hu I g rx λs' I'=>⟨.bl (!o.isSome),H,I',rfl,k⟩
theorem zb7(hu:X.A.units+1<cLine):Wv X .In gDin:=λx y z e=>by
 unfold gDin at e
 split at e
 next k kv=>
  cases q:unD kv with
  |none=>rw[q]at e;cases e
  |some ds=>
   rw[q]at e;cases e
   exact⟨_,zhT hu,λH v u Q r1 r2 kk=>by
    cases r1
    obtain⟨l,ks,rfl,_,er,kr⟩:=Rep.tab r2 q
    have h1:=(kr.val k).1
    exact⟨l,zq ks k,rfl,.inl ⟨_,.inr k,er,rfl,by rw[Jv]⟩,by rw[h1];exact kk⟩⟩
 ·cases e
theorem KK(hu:X.A.units+1<cLine):Wv X .NotIn gDnin:=λx y z e=>by
 unfold gDnin at e
 split at e
 next k kv=>
  cases q:unD kv with
  |none=>rw[q]at e;cases e
  |some ds=>
   rw[q]at e;cases e
   exact⟨_,zfb hu,λH v u Q r1 r2 kk=>by
    cases r1
    obtain⟨l,ks,rfl,_,er,kr⟩:=Rep.tab r2 q
    have h1:=(kr.val k).1
    exact⟨l,zq ks k,rfl,.inl ⟨_,.inr k,er,rfl,by rw[Jv]⟩,by rw[h1];exact kk⟩⟩
 ·cases e
noncomputable def fAttr(cl f:Str)(fa:EM FV):EM FV:=λΓ=>(fa Γ).bind λ(u,Γ1)=>match (derS Γ1 u).bind (zch cl f) with
 |some x=>.ok (.dat x,Γ1)
 |none=>.bad
theorem zfB(K:Ww X cl f)(ha:SE X XP mp a fa)(hb:attributeBase a f X.env (eval a X.env)=eval a X.env):SE X XP mp (.Attribute a f pos) (fAttr cl f fa):=λM0 F Γ ν σ H Q rs hs hp=>
 (zcX zc hb).wp (ha.run rs hs hp λF1 Γ1 H1 u v rs1 s1 o1 h1=>by
  dsimp only at h1
  split at h1
  next y ey=>
   cases ed:derS Γ1 u with
   |none=>rw[ed]at ey;cases ey
   |some d=>
    rw[ed]at ey
    have ey':zch cl f d=some y:=ey
    unfold zch at ey'
    split at ey'
    next c' kv=>
     split at ey'
     next hc=>
      subst hc
      obtain⟨l,rfl,n,h | h | h⟩:=(o1.strong rs1 ed).dict_inv
      ·obtain⟨ks,ds,_,e,_⟩:=h
       cases ds<;>cases e
      ·obtain⟨dx,c2,fs,ds,el,e,kr⟩:=h
       cases e
       rw[zR]at ey'
       obtain⟨w,hw,rw'⟩:=(kr.val f).2 y ey'
       exact⟨l,_,dx,fs,w,rfl,el,K.cl,K.no,by rw[wV];exact hw,h1 F1 H1 rs1 (.refl _ _) w rw'⟩
      ·obtain⟨_,_,_,_,_,_,e,_⟩:=h
       cases e
     ·cases ey'
    ·cases ey'
  ·exact h1.elim)
theorem RS.newM{p:Ap}(r:RS M0 F Γ ν H)(n:H p=none)(q:KR (MM M0 F) H ks ds) :
  RS M0 (fset F Γ.length [p]) (Γ++ [some (.m ds)]) (ν++ [some (.ref p)]) (upd H p (.dK (ks.map kK)))/\Stp F H (fset F Γ.length [p]) (upd H p (.dK (ks.map kK))):=by
 have hp:∀ i,p∉F i:=λi h=>by
  obtain⟨vs,e⟩:=r.laidF h
  rw[n]at e;cases e
 have s:Stp F H (fset F Γ.length [p]) (upd H p (.dK (ks.map kK))):=⟨λb o e nb=>⟨zr n b o e,λj h=>by
  by_cases hj:j=Γ.length
  ·subst hj;rw[zh]at h
   have e':b=p:=by simpa using h
   subst e';rw[n]at e;cases e
  ·rw[zi hj]at h;exact nb j h⟩,λb xs e=>zr n b _ e,λb h=>by
   by_cases e:b=p
   ·subst e;exact absurd n h
   ·rw[ze e];exact h⟩
 have q':=KR.stp q s r.al0
 have r1:=(r.ext 1).put s (λj _ a ha=>ze (λe=>hp j (by rw[<- e];exact ha)))
  (λa h=>s.stay a (r.al0 a h)) (λa ha h=>by
   have e:a=p:=by simpa using ha
   subst e;exact r.al0 a h n) (xA.mpr ⟨(λz=>nomatch z),.nil⟩) (λj _ a ha=>by
   have e:a=p:=by simpa using ha
   subst e;exact hp j) (by simp) (.m zg q'.keys q'.vals)
 rw[jT]at r1
 have e2:(ν++List.replicate 1 none).set Γ.length (some (V.ref p))=ν++ [some (V.ref p)]:=by rw[<- r.len,jT]
 rw[e2]at r1
 exact⟨r1,s⟩
noncomputable def fOwnD(n:EM (Ad)):EM OV:=λΓ=>(n Γ).bind λ(ds,Γ1)=>.ok (.m ds,Γ1)
theorem SD.so(h:SD X XP mp a ma):SO X XP mp a (fOwnD ma):=λM0 F Γ ν σ H Q rs hs hp=>
 h M0 F Γ ν σ H Q rs hs (hp.seq.mono λF1 Γ1 H1 ds rs1 s1 h1 ks p r n=>by
  obtain⟨r2,s2⟩:=rs1.newM n r
  exact h1 _ _ _ r2 s2)
noncomputable def fNewD(n:EM (Ad)):EM FV:=fOD (fOwnD n)
theorem SD.se(h:SD X XP mp a ma):SE X XP mp a (fNewD ma):=h.so.se
theorem SDt.so(h:SDt XP mp t ma):SOt XP mp t (fOwnD ma):=λM0 F Γ ν σ H Q rs hs hp=>
 h M0 F Γ ν σ H Q rs hs (hp.seq.mono λF1 Γ1 H1 ds rs1 s1 h1 ks p r n=>by
  obtain⟨r2,s2⟩:=rs1.newM n r
  exact h1 _ _ _ r2 s2)
theorem SDt.sd(h:SDt XP mp t ma):SOt XP mp t (fD (fNewD ma)):=λM0 F Γ ν σ H Q rs hs hp=>
 h M0 F Γ ν σ H Q rs hs (by
  have hp':OPost M0 F ν σ H XP (λF' Γ' H' o v=>Q v H') ((ma Γ).bind λ(ds,Γ1)=>.ok (.d (.dict (ds.map dK)),Γ1)):=by
   have e:fD (fNewD ma) Γ=(ma Γ).bind λ(ds,Γ1)=>.ok (.d (.dict (ds.map dK)),Γ1):=by
    unfold fD fNewD fOD fOwnD
    cases ma Γ<;>rfl
   rw[<- e];exact hp
  exact hp'.seq.mono λF1 Γ1 H1 ds rs1 s1 h1 ks p r n=>by
   obtain⟨r2,s2⟩:=rs1.newM n r
   obtain⟨F3,r3,s3,q3⟩:=r2.dropD
   exact h1 F3 _ _ (r3.newD q3) (s2.trans s3))
noncomputable def fDnil:EM (Ad):=λΓ=>.ok ([],Γ)
theorem zik:SD X XP mp (.Dict [] [] pos) fDnil:=λM0 F Γ ν σ H Q rs hs hp=>pe_dnewK.wp λp n=>hp F H rs (.refl _ _) [] p .nil n
noncomputable def fDone(fa fb:EM FV):EM (Ad):=λΓ=>(fa Γ).bind λ(u,Γ1)=>match derf Γ1 u with
 |some (.str z)=>(fb Γ1).bind λ(w,Γ2)=>match derS Γ2 w with
  |some y=>.ok ([(z,y)],Γ2)
  |none=>.bad
 |_=>.bad
theorem zil(ha:SE X XP mp a fa)(hb:SE X XP mp b fb):SD X XP mp (.Dict [some a] [b] pos) (fDone fa fb):=λM0 F Γ ν σ H Q rs hs hp=>
 (zcV zc zc).wp (ha.run rs hs hp λF1 Γ1 H1 u v rs1 s1 o1 h1=>by
  dsimp only at h1
  split at h1
  next z ez=>
   cases o1.weak rs1 ez
   refine hb.run rs1 hs h1 λF2 Γ2 H2 w v2 rs2 s2 o2 h2=>?_
   dsimp only at h2
   split at h2
   next y ey=>
    exact⟨.inr z,rfl,λp n=>h2 F2 H2 rs2 (.refl _ _) [(z,v2)] p (.cons (o2.strong rs2 ey) .nil) n⟩
   ·exact h2.elim
  ·exact h1.elim)
noncomputable def fDcopy(fa:EM FV):EM (Ad):=λΓ=>(fa Γ).bind λ(u,Γ1)=>match derD Γ1 u with
 |some ds=>.ok (ds,Γ1)
 |none=>.bad
theorem zfA (B:BiK X x (.type "dict")) (ha:SE X XP mp a fa) (hst:a⁻¹):SD X XP mp (.Call (.Name x p) [a] [] pos) (fDcopy fa):=λM0 F Γ ν σ H Q rs hs hp=>
 (jS zaC B.gl B.mg B.bt (zt zc pa_nil hst) B.n B.d hst rfl).wp (ha.run rs hs hp λF1 Γ1 H1 u v rs1 s1 o1 h1=>by
  dsimp only at h1
  split at h1
  next ds e=>
   obtain⟨l,ks,rfl,er,kr⟩:=o1.dict rs1 e
   exact⟨l,_,rfl,er,λp n=>h1 F1 H1 rs1 (.refl _ _) ks p kr n⟩
  ·exact h1.elim)
noncomputable def fSortD(fa:EM FV):EM (Aa):=λΓ=>(fa Γ).bind λ(u,Γ1)=>match derD Γ1 u with
 |some ds=>if ds.length<64 then .ok ((Zd (ds.map (·.1))).map .str,Γ1) else .bad
 |none=>.bad
theorem zdu (hcalm:X.calm=true) (B:BiK X x (.builtin "sorted")) (ha:SE X XP mp a fa) (hst:a⁻¹):SN X XP mp (.Call (.Name x p) [a] [] pos) (fSortD fa):=λM0 F Γ ν σ H Q rs hs hp=>
 (Jj (ye hcalm) B.gl B.mg B.bt (zt zc pa_nil hst) B.n B.d hst rfl).wp (ha.run rs hs hp λF1 Γ1 H1 u v rs1 s1 o1 h1=>by
  dsimp only at h1
  split at h1
  next ds e=>
   split at h1
   next h64=>
    obtain⟨l,ks,rfl,er,kr⟩:=o1.dict rs1 e
    refine⟨l,ks,rfl,er,by rw[kr.length];exact h64,λp n=>?_⟩
    rw[kr.keys]
    exact h1 F1 H1 rs1 (.refl _ _) _ p (RepL.strs _) n
   ·exact h1.elim
  ·exact h1.elim)
noncomputable def fMul(fa fb:EM FV):EM (Aa):=λΓ=>(fa Γ).bind λ(u,Γ1)=>(fb Γ1).bind λ(w,Γ2)=>match derL Γ2 u,derf Γ2 w with
 |some [d],some (.int k)=>if 0<=k/\k<=1000000 then .ok (List.replicate k.toNat d,Γ2) else .bad
 |_,_=>.bad
theorem RepL.rep1(r:Rep M H v d):∀(n:Nat),RepL M H (List.replicate n [v]).flatten (List.replicate n d)
 |0=>.nil
 |n+1=>by
  rw[xW,xW,ul]
  exact .cons r (RepL.rep1 r n)
theorem ziE(ha:SE X XP mp a fa)(hb:SE X XP mp b fb):SN X XP mp (.BinOp a .Mult b pos) (fMul fa fb):=λM0 F Γ ν σ H Q rs hs hp=>
 (vp zfd zc zc).wp (ha.run rs hs hp λF1 Γ1 H1 u v rs1 s1 o1 h1=>hb.run rs1 hs h1 λF2 Γ2 H2 w v2 rs2 s2 o2 h2=>by
  dsimp only at h2
  split at h2
  next d k e1 e2=>
   split at h2
   next hk=>
    obtain⟨l,vs,rfl,el,r⟩:=(o1.stp s2 rs1.al0).list rs2 e1
    cases o2.weak rs2 e2
    cases r with
    |cons r t=>
     cases t
     exact⟨l,_,k,rfl,rfl,el,hk.1,hk.2,rfl,λp n=>h2 F2 H2 rs2 (.refl _ _) _ p (RepL.rep1 r _) n⟩
   ·exact h2.elim
  ·exact h2.elim)
end
section
variable {X:Cx}{XP:XPT}{mp:Ac}{a b e tg:Expr}{es:Ag}{p p2 apos cpos:Pos}{fa:EM FV}{c f x:Str}{s i:Nat}{M0:Ae}{F:Fp}{Γ:Gv}{ν:Nu}{σ:St}{H H':Hp}{u:FV}{v:V}
noncomputable def fFfrz(i:Nat)(c f:Str):EM FV:=λΓ=>match objF Γ i c f with
 |some o=>.ok (.dat o.view,updF Γ i f (.d o.view))
 |none=>.bad
theorem zfG(n:NmK X mp s i x)(K:Ww X c f):SE X XP mp (.Attribute (.Name x p) f p2) (fFfrz i c f):=by?
 unfold fFfrz at hp
 split at hp
 next o e=>
  refine wG n K rs hs e λv hv=>?_
  obtain⟨a,dx,fs,ns,xs,j,A1,B,A2,e1,e2,e3,e4,e5,e6,e7,e8,e9,e10⟩:=hv.ex
  have hi:i<Γ.length:=(xb.mp e1).1
  have hset:updF Γ i f (.d o.view)=Γ.set i (some (.o c ns (xs.set j (.d o.view)))):=by
   unfold updF
   rw[e1]
   show Γ.set i (some (setO c ns xs f _))=_
   unfold setO
   rw[e5]
  have hnd:=rs.nd i
  rw[e9]at hnd
  have hndc:=xA.mp hnd
  have n1:=xL.mp hndc.2
  have n2:=xL.mp n1.2.1
  have hsub:∀ b∈a::(A1++([]++A2)),b∈F i:=λb hb=>by
   rw[e9]
   simp at hb |-
   rcases hb with h | h | h
   ·exact .inl h
   ·exact .inr (.inl h)
   ·exact .inr (.inr (.inr h))
  have hfs:fs.set j (f,v)=fs:=by
   apply ua
   intro k
   by_cases hk:j=k
   ·subst hk;rw[xj (xb.mp e7).1,e7]
   ·rw[xh hk]
  have hq:Rep (MM M0 (fset F i (a::(A1++([]++A2))))) H v o.view:=e8.rep (λb hb=>by
   rcases hb with hb | ⟨k,hb⟩
   ·exact .inl hb
   ·by_cases hk:k=i
    ·subst hk;rw[zh]at hb;exact .inr ⟨k,hsub b hb⟩
    ·rw[zi hk]at hb;exact .inr ⟨k,hb⟩) λb hb hm=>by
   have hbF:b∈F i:=by rw[e9];simp[hb]
   rcases hm with hm | ⟨k,hm⟩
   ·exact rs.dis0 i b hbF hm
   ·by_cases hk:k=i
    ·subst hk
     rw[zh]at hm
     simp at hm
     rcases hm with h | h | h
     ·subst h;exact hndc.1 (by simp[hb])
     ·exact n1.2.2 b h b (by simp[hb]) rfl
     ·exact n2.2.2 b hb b h rfl
    ·rw[zi hk]at hm;exact hk (rs.dis _ _ b hm hbF)
  have nd':(a::(A1++([]++A2))).Nodup:=xA.mpr ⟨λh=>hndc.1 (by
   simp at h |-
   rcases h with h | h
   ·exact .inl h
   ·exact .inr (.inr h)),xL.mpr ⟨n1.1,n2.2.1,λb h1 c h2=>n1.2.2 b h1 c (xz _ h2)⟩⟩
  obtain⟨rs2,s2⟩:=rs.lessO hi e2 hsub nd' λhr=>by
   have:=e10 _ H v (.d o.view) [] hr (λ_ _ z=>z) (λ_ _=>rfl) (.d hq)
   rw[hfs]at this
   exact .o e3 e4 this
  rw[<- hset]at rs2
  exact hp _ H rs2 s2 v hq
 ·exact hp.elim
noncomputable def fItems(fa:EM FV):EM (Aa×Option (Option Nat)):=λΓ=>(fa Γ).bind λ(u,Γ1)=>match derS Γ1 u with
 |some (.dict kv)=>match unD kv with
  |some ds=>.ok ((ds.map λp=>.tuple [.str p.1,p.2],some none),Γ1)
  |none=>.bad
 |_=>.bad
theorem zbj (htg:∃ es n p,tg=.Tuple es n p) (ha:SE X XP mp a fa) (hb:attributeBase a "items" X.env (eval a X.env)=eval a X.env) (hline:(apos.endLine==cpos.line)=true):SIw X XP mp tg (.Call (.Attribute a "items" apos) [] [] cpos) (fItems fa):=λM0 F Γ ν σ H R rs hs hp=>
 (zc6 htg zc hb hline).wp (ha.run rs hs hp λF1 Γ1 H1 u v rs1 s1 o1 h1=>by
  dsimp only at h1
  split at h1
  next kv eu=>
   split at h1
   next ds ed=>
    obtain⟨l,ks,rfl,nl,er,kr⟩:=Rep.tab (o1.strong rs1 eu) ed
    refine⟨l,_,rfl,er,λo Hf fz=>h1 F1 H1 rs1 (.refl _ _) _ Hf ⟨.inr ⟨l,o,_,fz,λi hi=>nl (.inr ⟨i,hi⟩)⟩,λi F' H' st h0=>?_⟩⟩
    have el:=(st.keep l _ fz.1 λj hj=>nl (.inr ⟨j,hj⟩)).1
    refine⟨λd hd=>?_,λhle=>⟨el,by rw[xn,kr.length];simpa using hle⟩⟩
    rw[xl]at hd
    cases q:ds[i]? with
    |none=>rw[q]at hd;cases hd
    |some pr=>
     rw[q]at hd
     cases hd
     obtain⟨w,hw,rw'⟩:=kr.get q
     refine⟨⟨el,by rw[xn,kr.length];exact (xb.mp q).1⟩,λz H2 ⟨p',t,e1,ez,ht,e2⟩=>?_⟩
     rw[xl,hw]at e1
     cases e1
     subst ez e2
     have sm:Same H' (upd H' t (.tup [kV (kK (pr.1,w)).1,(kK (pr.1,w)).2])):=zr ht
     refine⟨sm,.tuple zg (.cons (.str pr.1) (.cons ((zn st h0 (Rep.eqv (zcj fz) rw')).grow sm.grow) .nil))⟩
   ·exact h1.elim
  ·exact h1.elim)
end
end L3
namespace L2
open PySem PySem.Spec PyProof.Rows
variable [Cs]
section
variable {X:Cx}{σ:St}{H:Hp}{CX:CXT}{E:XK}{sp:Sp}{Q:VK}{C f:Ap}{fd:FuncData}{ps:Ab}{k:Nat}{m x:Str}{o e:Expr}{es:Ag}{p pos apos:Pos}
theorem VL{A:Around}{Q:Af}{E:Af}{s:Am}(hbase:attributeBase o m env (eval o env)=eval o env)(hform:methodCallForm (args.length+0) (backTo pos (starEach args env)) (backToKw pos (keywordEach [] env))=true)(hline:(apos.endLine==pos.line)=true)
  (h:wpAny (model X.prog X.w) A (eval o env) (λov s₁=>wpAny (model X.prog X.w) A (getMethod ov m (do return (<- importBound o env).getD true)) (λfx s₂=>wpAny (model X.prog X.w) A (callWith pos fx.1 fx.2 (backTo pos (starEach args env)) (backToKw pos (keywordEach [] env))) Q E s₂) E s₁) E s) :
  wpAny (model X.prog X.w) A (eval (.Call (.Attribute o m apos) args [] pos) env) Q E s:=by
 rw[arm_eval_Call,hbase]
 refine x5 (Xe h (λov s₁ h₁=>?_) λ_ _ e=>e)
 refine x5 (wpAny_standAt ?_)
 have hform':methodCallForm (args.length+([]:List Keyword).length) (backTo pos (starEach args env)) (backToKw pos (keywordEach [] env))=true:=hform
 have hpos:methodCallPos true o env apos pos=pure pos:=by unfold methodCallPos;simp[hline]
 unfold methodCall
 rw[hform']
 exact x5 (Xd (Xe h₁ (λfx s₂ h₂=>x5 (wpAny_of_eq hpos h₂)) λ_ _ x=>x))
theorem zaa{pins:Ak}{s:Am}{us:An}{vs:List V}(F:FnOk X.prog X.w X.K X.mg X.base CX k f fd ps sp)(hr:Room k X.A)(hb:Binds X.K fd ps [])
  (hx:∀ pins H s e s',Inv X pins σ H s->CX X.stack H s E e s'->X.xe e s') (I:Inv X pins σ H s) (r:Vals vs us) (h:sp vs H Q E):∅ (call (.ref f) us) (EP X pins σ Q) X.xe s:=by
 have hl:us.length=ps.length:=by rw[<- r.length];exact F.len _ _ _ _ h
 have hb':=hb s us I.kIn (by simpa using hl)
 rw[xR]at hb'
 refine wpAny_call (Xl (F.run X.A X.stack s H ⟨us,[]⟩ us vs Q E hr I.env0 hb' r h) λr s' hq=>?_)
 cases r with
 |error e=>exact hx pins H s e s' I hq
 |ok fl=>
  cases fl with
  |ret u=>exact I.after hq
  |next=>exact False.elim hq
  |brk=>exact False.elim hq
  |cont=>exact False.elim hq
theorem zeb(c:Cls X.K C)(hm:Y6 X.K C m f)(F:FnOk X.prog X.w X.K X.mg X.base CX k f fd ps sp)(hr:Room k X.A)(hb:Binds X.K fd ps [])(hx:∀ pins H s e s',Inv X pins σ H s->CX X.stack H s E e s'->X.xe e s')
  (h:wpE X o σ H λx H1=>∃ a dx fs,x=.ref a/\H1 a=some (.ins C dx fs)/\fs.lookup m=none/\wpA X (e::es) σ H1 λvs H2=>sp (x::vs) H2 Q E)
  (hst:starEach (e::es) X.env=(false,eval e X.env)::starEach es X.env) (hpl:(backTo pos (starEach es X.env)).any (·.1)=false) (hbase:attributeBase o m X.env (eval o X.env)=eval o X.env) (hform:methodCallForm ((e::es).length+0) (backTo pos (starEach (e::es) X.env)) (backToKw pos (keywordEach [] X.env))=true) (hline:(apos.endLine==pos.line)=true):wpE X (.Call (.Attribute o m apos) (e::es) [] pos) σ H Q:=λpins s I=>by
 refine VL hbase hform hline (thn (h pins s I) λu s1 ⟨x,H1,I1,rx,a,dx,fs,ex,ea,l,q⟩=>?_)
 subst ex
 obtain rfl:u=Value.ref a:=rx
 refine W5 I1 ea c hm l ?_
 refine W.callWith_K I.ok.mod.kin hm.kp (thn (q pos pins s1 I1) λus s2 ⟨vs,H2,I2,r,q2⟩=>⟨I2.kIn,?_⟩) hst hpl
 exact zaa (vs:=.ref a::vs) F hr hb hx I2 (.cons rfl r) q2
theorem zbD(c:Cls X.K C)(hm:Y6 X.K C m f)(F:FnOk X.prog X.w X.K X.mg X.base CX k f fd ps sp)(hr:Room k X.A)(hb:Binds X.K fd ps [])(hx:∀ pins H s e s',Inv X pins σ H s->CX X.stack H s E e s'->X.xe e s')
  (h:wpE X o σ H λx H1=>∃ a dx fs,x=.ref a/\H1 a=some (.ins C dx fs)/\fs.lookup m=none/\sp [x] H1 Q E) (hbase:attributeBase o m X.env (eval o X.env)=eval o X.env) (hline:(apos.endLine==pos.line)=true):wpE X (.Call (.Attribute o m apos) [] [] pos) σ H Q:=λpins s I=>by
 refine VL hbase rfl hline (thn (h pins s I) λu s1 ⟨x,H1,I1,rx,a,dx,fs,ex,ea,l,q⟩=>?_)
 subst ex
 obtain rfl:u=Value.ref a:=rx
 refine W5 I1 ea c hm l ?_
 exact W.callWith_K0 I1.kIn hm.kp (zaa (vs:= [.ref a]) F hr hb hx I1 (.cons rfl .nil) q)
theorem zea(M:Mk X.K C f)(F:FnOk X.prog X.w X.K X.mg X.base CX k f fd ps sp)(hr:Room (k+1) X.A)(hg:Gl X x)(hm:X.mg x=some (.ref C))(hb:Binds X.K fd ps [])(hx:∀ pins H s e s',Inv X pins σ H s->CX X.stack H s E e s'->X.xe e s')
  (h:wpA X (e::es) σ H λvs H1=>∀ x dx,H1 x=none->H1 dx=none->dx≠x->sp (.ref x::vs) (upd (upd H1 dx (.own x)) x (.ins C dx [])) (λv H2=>v=.non/\Q (.ref x) H2) E)
  (hdb:(↥x)) (he:starEach (e::es) X.env=(false,eval e X.env)::starEach es X.env) (hpl:(backTo pos (starEach es X.env)).any (·.1)=false):wpE X (.Call (.Name x p) (e::es) [] pos) σ H Q:=λpins s I=>by
 refine Xk (j6 I hg hm ?_ hdb)
 refine W.callWith_K I.ok.mod.kin M.kp (thn (h pos pins s I) λus s1 ⟨vs,H1,I1,r,q⟩=>⟨I1.kIn,?_⟩) he hpl
 have hq:=q (⇑s1+1) ⇑s1 (I1.hok.fresh (uP _)) (I1.hok.fresh (xi _)) (xk (uL _))
 have I2:=Inv.made (C:=C) I1
 have r2:Vals (V.ref (⇑s1+1)::vs) (Value.ref (⇑s1+1)::us):=.cons rfl r
 have hl:(Value.ref (⇑s1+1)::us).length=ps.length:=by
  have e:=r2.length
  rw[F.len _ _ _ _ hq]at e
  exact e.symm
 have hb':=hb _ (Value.ref (⇑s1+1)::us) I2.kIn (by simpa using hl)
 rw[xR]at hb'
 refine wpAny_call (zcD (f:=f) I1.kIn M.makes M.init (beq_iff_eq.mp M.fn) (Xl (F.run _ X.stack _ _ ⟨Value.ref (⇑s1+1)::us,[]⟩ (Value.ref (⇑s1+1)::us) _ _ E (hr.make C us [])
  (I2.env0.make C us []) hb' r2 hq) λr s' hq'=>?_))
 cases r with
 |error e=>exact hx pins _ _ e s' I2 hq'
 |ok fl=>
  cases fl with
  |ret u=>
   obtain⟨v,H',I3,rv,ev,q3⟩:=I2.after hq'
   subst ev
   exact⟨rv,⟨V.ref (⇑s1+1),H',I3,rfl,q3⟩⟩
  |next=>exact False.elim hq'
  |brk=>exact False.elim hq'
  |cont=>exact False.elim hq'
end
structure KnM(P:Ar)(w:World)(K:Ah)(mg:Aq)(base:Heap)(CX:CXT)(C:Ap)(m:Str)(k:Nat)(sp:Sp):Prop where
 ex:∃(f:Ap)(fd:FuncData)(ps:Ab),FnOk P w K mg base CX k f fd ps sp/\Cls K C/\Y6 K C m f/\Binds K fd ps []
structure KnI(P:Ar)(w:World)(K:Ah)(mg:Aq)(base:Heap)(CX:CXT)(C:Ap)(k:Nat)(sp:Sp):Prop where
 ex:∃(f:Ap)(fd:FuncData)(ps:Ab),FnOk P w K mg base CX k f fd ps sp/\Mk K C f/\Binds K fd ps []
end L2
namespace L3
open PySem PySem.Spec PyProof.Rows L2
variable [Cs]
section
variable {X:Cx}{XP:XPT}{mp io:Ac}{a b e:Expr}{es:Ag}{pos p p2 pos' apos:Pos}{fa fb:EM FV}{fl:EM (List AV)}{c m x:Str}{s i k n:Nat}{M0:Ae}{F F':Fp}{Γ:Gv}{ν:Nu}{σ:St}{H H':Hp}{u:FV}{v:V}{run:List OV->RF}
noncomputable def fMeth(i:Nat)(c m:Str)(run:List OV->RF)(fl:EM (List AV)):EM OV:=λΓ=>match Γ[i]? with
 |some (some (.o c' ns _))=>if c'=c/\ixF ns m=none then fCall run (aIo i fl) Γ else .bad
 |_=>.bad
theorem VM{Q:VK}(rs:RS M0 F Γ ν H)(hrun:Ran n run)(e:Γ[i]?=some (some o))(ev:ν[i]?=some (some ae))
  (hp:OPost M0 F ν σ H XP (λF' Γ' H' o v=>Q v H') (fCall run (aIo i fl) Γ)):APost M0 F ν σ H XP (λF1 Γ1 ν1 H1 as=>∀ vs,AOks M0 F1 ν1 H1 vs as->spX X.mg n run (ae::vs) H1 Q (EX X XP σ)) (fl Γ):=by
 have h:=Z5 (X:=X) rs hrun hp
 unfold aIo at h
 rw[e]at h
 refine h.tail.mono λF1 Γ1 ν1 H1 as rs1 hn s1 q vs oks=>q (ae::vs) (.io ?_ oks)
 obtain⟨t,rfl⟩:=hn
 rw[xc (xb.mp ev).1];exact ev
theorem zfY(px:PxOk X XP)(kn:KnM X.prog X.w X.K X.mg X.base (CX1 X.prog X.w) (Cs.adr c) m k (spX X.mg n run))(hr:Room k X.A)(hrun:Ran n run)(nm:NmK X mp s i x)(hl:SA X XP mp (a::es) fl)
  (he:starEach (a::es) X.env=(false,eval a X.env)::starEach es X.env) (hpl:(backTo pos (starEach es X.env)).any (·.1)=false) (hform:methodCallForm ((a::es).length+0) (backTo pos (starEach (a::es) X.env)) (backToKw pos (keywordEach [] X.env))=true) (hline:(apos.endLine==pos.line)=true):SO X XP mp (.Call (.Attribute (.Name x p) m apos) (a::es) [] pos) (fMeth i c m run fl):=by?
 unfold fMeth at hp
 split at hp
 next c' ns xs e=>
  split at hp
  next hh=>
   obtain⟨rfl,hns⟩:=hh
   obtain⟨g,fd,ps,Fn,cl,hm,hb⟩:=kn.ex
   obtain⟨ad,dx,fs,A,ev,ea,hk,qa,hF⟩:=vj rs e
   subst hk
   exact zeb cl hm Fn hr hb (λpins H1 s1 e s' I hx=>px.call σ pins H1 s1 e s' _ (λc dx H' q=>q) I hx) ((zQ nm.hN nm.hv nm.hd nm.hcd).wp ⟨.ref ad,hs s i _ nm.hm ev,ad,dx,fs,rfl,ea,(yz hns).1,hl M0 F Γ ν σ H _ rs hs (VM rs hrun e ev hp)⟩) he hpl rfl hform hline
  ·exact hp.elim
 ·exact hp.elim
theorem zdx(px:PxOk X XP)(kn:KnM X.prog X.w X.K X.mg X.base (CX1 X.prog X.w) (Cs.adr c) m k (spX X.mg n run))(hr:Room k X.A)(hrun:Ran n run)(nm:NmK X mp s i x)(hline:(apos.endLine==pos.line)=true):SO X XP mp (.Call (.Attribute (.Name x p) m apos) [] [] pos) (fMeth i c m run aNil):=by?
 unfold fMeth at hp
 split at hp
 next c' ns xs e=>
  split at hp
  next hh=>
   obtain⟨rfl,hns⟩:=hh
   obtain⟨g,fd,ps,Fn,cl,hm,hb⟩:=kn.ex
   obtain⟨ad,dx,fs,A,ev,ea,hk,qa,hF⟩:=vj rs e
   subst hk
   exact zbD cl hm Fn hr hb (λpins H1 s1 e s' I hx=>px.call σ pins H1 s1 e s' _ (λc dx H' q=>q) I hx) ((zQ nm.hN nm.hv nm.hd nm.hcd).wp ⟨.ref ad,hs s i _ nm.hm ev,ad,dx,fs,rfl,ea,(yz hns).1,VM rs hrun e ev hp F ν H rs (uN _) (.refl _ _) [] .nil⟩) rfl hline
  ·exact hp.elim
 ·exact hp.elim
theorem RS.newI{p dx:Ap}(r:RS M0 F Γ ν H)(n:H p=none)(nd:H dx=none)(hne:dx≠p) :
  RS M0 (fset F Γ.length [p]) (Γ++ [some (.o c [] [])]) (ν++ [some (.ref p)]) (upd (upd H dx (.own p)) p (.ins (Cs.adr c) dx []))/\Stp F H (fset F Γ.length [p]) (upd (upd H dx (.own p)) p (.ins (Cs.adr c) dx [])):=by
 have same:Same H (upd (upd H dx (.own p)) p (.ins (Cs.adr c) dx [])):=λb o e=>by
  rw[ze (λz=>by subst z;rw[n]at e;cases e),ze (λz=>by subst z;rw[nd]at e;cases e)];exact e
 have hp:∀ i,p∉F i:=λi h=>by
  obtain⟨vs,e⟩:=r.laidF h
  rw[n]at e;cases e
 have s:Stp F H (fset F Γ.length [p]) (upd (upd H dx (.own p)) p (.ins (Cs.adr c) dx [])):=⟨λb o e nb=>⟨same b o e,λj h=>by
  by_cases hj:j=Γ.length
  ·subst hj;rw[zh]at h
   have e':b=p:=by simpa using h
   subst e';rw[n]at e;cases e
  ·rw[zi hj]at h;exact nb j h⟩,λb xs e=>same b _ e,(Stp.same (F:=F) same).stay⟩
 have r1:=(r.ext 1).put (A:= [p]) s (λj _ a ha=>by
   obtain⟨u,eu⟩:=r.laidF ha
   rw[same a u eu,eu])
  (λa h=>s.stay a (r.al0 a h)) (λa ha h=>by
   have e:a=p:=by simpa using ha
   subst e;exact r.al0 a h n) (xA.mpr ⟨(λz=>nomatch z),.nil⟩) (λj _ a ha=>by
   have e:a=p:=by simpa using ha
   subst e;exact hp j) (by simp) (.o (fs:= []) (A:= []) zg rfl .nil)
 rw[jT]at r1
 have e2:(ν++List.replicate 1 none).set Γ.length (some (V.ref p))=ν++ [some (V.ref p)]:=by rw[<- r.len,jT]
 rw[e2]at r1
 exact⟨r1,s⟩
theorem AOks.stp(s1:Stp F H F1 H1)(h0:∀ a,M0 a->H a≠none)(hn:ν <+: ν1):∀{vs:List V}{as:List AV},AOks M0 F ν H vs as->AOks M0 F1 ν1 H1 vs as
 |_,_,.nil=>.nil
 |_,_,.v h t=>.v ((h.stp s1 h0).ext hn) (AOks.stp s1 h0 hn t)
 |_,_,.io h t=>.io (by
   obtain⟨t',rfl⟩:=hn
   rw[xc (xb.mp h).1];exact h) (AOks.stp s1 h0 hn t)
theorem vO:∀{as:List AV}{args:List OV},toArgs Γ as=some args->toArgs (Γ++ [o]) as=some args/\∀ i∈ios as,i<Γ.length
 |[],_,e=>⟨e,λ_ h=>nomatch h⟩
 |a::as,_,e=>by
  unfold toArgs at e
  split at e
  next o' os e1 e2=>
   cases e
   obtain⟨i1,i2⟩:=vO e2
   have key:toArg (Γ++ [o]) a=some o'/\∀ i∈ios [a],i<Γ.length:=by
    cases a with
    |v u=>
     refine⟨?_,λ_ h=>nomatch h⟩
     cases u with
     |dat y=>exact e1
     |own j=>
      simp only[toArg,derS,uu]at e1 |-
      obtain⟨y,ey,hy⟩:=e1
      refine⟨y,?_,hy⟩
      split at ey
      next q=>
       rw[xc (xb.mp q).1,q];exact ey
      ·cases ey
    |io j=>
     simp only[toArg]at e1 |-
     split at e1
     next q=>
      have hj:=(xb.mp q).1
      refine⟨by rw[xc hj,q];exact e1,λi h=>?_⟩
      have:i=j:=by simpa [ios] using h
      omega
     ·cases e1
   refine⟨by unfold toArgs;rw[key.1,i1],λi h=>?_⟩
   cases a with
   |v u=>exact i2 i h
   |io j=>
    rw[ios,xC]at h
    rcases h with rfl | h
    ·exact key.2 _ (by simp[ios])
    ·exact i2 i h
  ·cases e
theorem Zt:∀{as:List AV}{outs:List (Option OV)}{Γ Γ2:Gv},putBack as outs Γ=some Γ2->putBack as outs (Γ++ [o])=some (Γ2++ [o])
 |[],_,Γ,_,e=>by
  have:some Γ=some _:=e
  cases this;rfl
 |.v u::as,[],Γ,_,e=>by cases e
 |.v u::as,x::os,Γ,Γ2,e=>Zt (as:=as) e
 |.io k::as,[],Γ,_,e=>by cases e
 |.io k::as,none::os,Γ,_,e=>by cases e
 |.io k::as,some q::os,Γ,Γ2,e=>by
  rw[putBack]at e |-
  split at e
  next hk=>
   rw[if_pos (by simp;omega),List.set_append_left _ _ hk]
   exact Zt e
  ·cases e
noncomputable def fMake(c:Str)(run:List OV->RF)(fl:EM (List AV)):EM OV:=λΓ=>(fl Γ).bind λ(as,Γ1)=>if Γ1.length=Γ.length/\(ios as).Nodup then match toArgs Γ1 as with
 |some args=>match run (.o c [] []::args) with
  |.ok (.d .none) (some o::outs)=>match putBack as outs Γ1 with
   |some Γ2=>.ok (o,Γ2)
   |none=>.bad
  |.exc x (some _::outs)=>match putBack as outs Γ1 with
   |some Γ2=>.exc x Γ2
   |none=>.bad
  |_=>.bad
 |none=>.bad
 else .bad
theorem zfX(px:PxOk X XP)(kn:KnI X.prog X.w X.K X.mg X.base (CX1 X.prog X.w) (Cs.adr c) k (spX X.mg n run))(hr:Room (k+1) X.A)(hg:Gl X c)(hm:X.mg c=some (.ref (Cs.adr c)))(hrun:Ran n run)(hl:SA X XP mp (a::es) fl)
  (hdb:(↥c)) (he:starEach (a::es) X.env=(false,eval a X.env)::starEach es X.env) (hpl:(backTo pos (starEach es X.env)).any (·.1)=false):SO X XP mp (.Call (.Name c p) (a::es) [] pos) (fMake c run fl):=by?
 obtain⟨g,fd,ps,Fn,mk,hb⟩:=kn.ex
 refine zea (E:=EX X XP σ) mk Fn hr hg hm hb (λpins H1 s1 e s' I hx=>px.call σ pins H1 s1 e s' _ (λc dx H' q=>q) I hx) (hl M0 F Γ ν σ H _ rs hs ?_) hdb he hpl
 unfold fMake at hp
 generalize fl Γ=ra at hp
 cases ra with
 |bad=>exact hp
 |exc x y=>exact hp
 |ok z=>
  obtain⟨as,Γ1⟩:=z
  intro F1 ν1 H1 rs1 hn s1 vs oks x dx hx hdx hne
  simp only[R.bind]at hp
  split at hp
  next hh=>
   obtain⟨hlen,nd⟩:=hh
   have eν:ν1=ν:=by
    obtain⟨t,rfl⟩:=hn
    have h1:=rs1.len
    have h2:=rs.len
    have:t= []:=by
     apply List.eq_nil_of_length_eq_zero
     rw[xB]at h1;omega
    rw[this,xR]
   subst eν
   split at hp
   next args ea=>
    obtain⟨rs2,s2⟩:=rs1.newI (c:=c) hx hdx hne
    obtain⟨ea2,hlt⟩:=vO (o:=some (.o c [] [])) ea
    have hlen1:ν1.length=Γ1.length:=rs1.len
    have oks2:AOks M0 _ (ν1++ [some (.ref x)]) _ (V.ref x::vs) (.io Γ1.length::as):=.io (by rw[<- hlen1];simp) (oks.stp s2 rs1.al0 (List.prefix_append _ _))
    have nd2:(ios (.io Γ1.length::as)).Nodup:=by
     rw[ios];exact xA.mpr ⟨λh=>xV _ (hlt _ h),nd⟩
    have ea3:toArgs (Γ1++ [some (.o c [] [])]) (.io Γ1.length::as)=some (.o c [] []::args):=by
     unfold toArgs
     rw[ea2]
     have:toArg (Γ1++ [some (.o c [] [])]) (.io Γ1.length)=some (.o c [] []):=by
      show (match (Γ1++ [some (OV.o c [] [])])[Γ1.length]? with
       |some (some o)=>some o
       |_=>none)=_
      rw[xf (xi _)]
      simp
     rw[this]
    have hvl:(V.ref x::vs).length=n:=by
     rw[oks2.len,<- qA ea3]
     refine (hrun _).1 λz=>?_
     rw[z]at hp;exact hp.elim
    refine⟨hvl,_,_,_,WJ rs2 oks2 ea3 nd2,?_⟩
    have pbk:∀{outs:List (Option OV)}{Γ2:Gv}{o:OV},putBack as outs Γ1=some Γ2->putBack (.io Γ1.length::as) (some o::outs) (Γ1++ [some (.o c [] [])])=some (Γ2++ [some o]):=λ{outs Γ2 o} h=>by
     rw[putBack,if_pos (by simp),uy _ _ (xi _)]
     simp only[Nat.sub_self,List.set_cons_zero]
     exact Zt h
    split at hp
    next o outs er=>
     split at hp
     next Γ2 eb=>
      rw[er]
      intro F' v H' rc sc
      have hl2:=(qG eb nd).1
      obtain⟨F2,rs3,s3⟩:=Z4 (n:=Γ1.length+1) rs2 oks2 ea3 nd2 rc sc (pbk eb) (uN _) (by simp[hlen1])
      obtain⟨F3,rs4,s4,rv⟩:=rs3.dropD
      rw[uI (by simp[hl2])]at rs4
      refine⟨?_,hp F3 H' (.ref x) rs4 (((s1.trans s2).trans s3).trans s4)⟩
      cases rv;rfl
     ·exact hp.elim
    next ex o outs er=>
     split at hp
     next Γ2 eb=>
      rw[er]
      intro C hC F' H' rc sc
      have hl2:Γ2.length=Γ1.length:=(qG eb nd).1
      obtain⟨F2,rs3,s3⟩:=Z4 (n:=Γ1.length) (ν0:=ν1) rs2 oks2 ea3 nd2 rc sc (pbk eb) (List.prefix_append _ _) hlen1
      obtain⟨F3,rs4,s4,rv⟩:=rs3.dropD
      rw[List.take_append_of_le_length (by omega),uI (by omega)]at rs4
      exact⟨rfl,ex,_,F3,ν1,C,hC,rfl,(hrun _).2 _ _ er,hp F3 H' rs4 (((s1.trans s2).trans s3).trans s4)⟩
     ·exact hp.elim
    ·exact hp.elim
   ·exact hp.elim
  ·exact hp.elim
theorem RS.mutM(r:RS M0 F Γ ν H)(e:Γ[i]?=some (some (.m ds))):∃ l ks,ν[i]?=some (some (.ref l))/\H l=some (.dK (ks.map kK))/\KR (MM M0 F) H ks ds/\l∈F i /\
  ∀ ks' ds',KR (MM M0 F) H ks' ds'->∃ F',RS M0 F' (Γ.set i (some (.m ds'))) ν (upd H l (.dK (ks'.map kK)))/\Stp F H F' (upd H l (.dK (ks'.map kK))):=by
 obtain⟨v,ev,q⟩:=r.at' i _ e
 generalize hA:F i=A at q
 cases q with
 | @m l ks _ el k q=>
  refine⟨l,ks,ev,el,.of k q,by simp,λks' ds' kr=>r.wrO (A:= [l]) (xb.mp e).1 ev (by rw[hA];simp) (λxs z=>by rw[el]at z;cases z) (λa h=>by rw[hA];exact h) (xA.mpr ⟨(λz=>nomatch z),.nil⟩) λhr _=>.m zg kr.keys (qY hr kr.vals)⟩
noncomputable def sDupd(i:Nat)(fb:EM FV):SM:=λΓ=>match Γ[i]? with
 |some (some (.m _))=>(fb Γ).bind λ(w,Γ1)=>match Γ1[i]?,derS Γ1 w with
  |some (some (.m ds)),some (.dict kv)=>match unD kv with
   |some es=>if ds.length+es.length<=1000000 then .ok (.next,Γ1.set i (some (.m (zf ds es)))) else .bad
   |none=>.bad
  |_,_=>.bad
 |_=>.bad
theorem zf4 (n:NmK X mp s i x) (hb:SE X XP mp b fb) (m1:M1 X (.Name x p) "update" p2 b pos):SS X XP mp io (.Expr (.Call (.Attribute (.Name x p) "update" p2) [b] [] pos) pos') (sDupd i fb):=λM0 F Γ ν σ H D rs hs hl hp=>by
 unfold sDupd at hp
 split at hp
 next d0 e0=>
  obtain⟨l,ks0,ev,el,_⟩:=rs.mutM e0
  refine (Jl (zfl (zQ n.hN n.hv n.hd n.hcd) zc m1) rfl).wp ⟨.ref l,hs s i _ n.hm ev,l,rfl,.inl ⟨_,.inl el⟩,hb M0 F Γ ν σ H _ rs hs ((SPost.seq hs hl hp).mono λF1 Γ1 H1 w rs1 s1 h1 v hv=>?_)⟩
  dsimp only at h1
  split at h1
  next ds kv e1 e2=>
   split at h1
   next es ek=>
    split at h1
    next hsz=>
     obtain⟨l',ks,ev',el',kr,hlF,mu⟩:=rs1.mutM e1
     rw[ev]at ev';cases ev'
     obtain⟨b',kb,rfl,nb,eb,krb⟩:=Rep.tab (hv.strong rs1 e2) ek
     obtain⟨F2,rs2,s2⟩:=mu _ _ (krb.merge kr)
     refine⟨b',_,_,rfl,el',eb,λz=>nb (.inr ⟨i,by rw[<- z];exact hlF⟩),by have:=Xg;rw[xn,xn,kr.length,krb.length];omega,?_⟩
     rw[VG]
     exact h1 F2 ν σ _ rs2 s2 hs hl λ_ _=>rfl
    ·exact h1.elim
   ·exact h1.elim
  ·exact h1.elim
 ·exact hp.elim
noncomputable def VR(i:Nat)(fb fa:EM FV):SM:=λΓ=>(fa Γ).bind λ(u,Γ1)=>match Γ1[i]? with
 |some (some _)=>(fb Γ1).bind λ(w,Γ2)=>match Γ2[i]?,derS Γ2 u,derf Γ2 w with
  |some (some (.m ds)),some d,some (.str z)=>if ds.length<1000000 then .ok (.next,Γ2.set i (some (.m (zy ds z d)))) else .bad
  |_,_,_=>.bad
 |_=>.bad
theorem zf3(hu:X.A.units+1<cLine)(n:NmK X mp s i x)(ha:SE X XP mp a fa)(hb:SE X XP mp b fb)(hsw:swapsWith a (some (.Subscript (.Name x p) b pos')) pos.line X.env=pure false):SS X XP mp io (.Assign [.Subscript (.Name x p) b pos'] a pos) (VR i fb fa):=λM0 F Γ ν σ H D rs hs hl hp=>by
 refine (zfp hu (zQ n.hN n.hv n.hd n.hcd) zc zc hsw).wp (ha M0 F Γ ν σ H _ rs hs ((SPost.seq hs hl hp).mono λF1 Γ1 H1 u rs1 s1 h1 v hv=>?_))
 dsimp only at h1
 split at h1
 next o0 e0=>
  obtain⟨v0,ev,_⟩:=rs1.at' i _ e0
  refine⟨v0,hs s i _ n.hm ev,hb M0 F1 Γ1 ν σ H1 _ rs1 hs ((SPost.seq hs hl h1).mono λF2 Γ2 H2 w rs2 s2 h2 v2 hv2=>?_)⟩
  dsimp only at h2
  split at h2
  next ds d z e1 e2 e3=>
   split at h2
   next hsz=>
    obtain⟨l',ks,ev',el',kr,hlF,mu⟩:=rs2.mutM e1
    rw[ev]at ev';cases ev'
    cases hv2.weak rs2 e3
    obtain⟨F3,rs3,s3⟩:=mu _ _ (kr.put z ((hv.stp s2 rs1.al0).strong rs2 e2))
    refine⟨l',_,rfl,.inl ⟨_,.inr z,el',rfl,by have:=Xg;rw[xn,kr.length];omega,rfl⟩,?_⟩
    rw[yK]
    exact h2 F3 ν σ _ rs3 s3 hs hl λ_ _=>rfl
   ·exact h2.elim
  ·exact h2.elim
 ·exact h1.elim
noncomputable def zdf(i:Nat)(fb:EM FV):SM:=λΓ=>match Γ[i]? with
 |some (some (.m _))=>(fb Γ).bind λ(w,Γ1)=>match Γ1[i]?,derf Γ1 w with
  |some (some (.m ds)),some (.str z)=>if (zq ds z).isSome then .ok (.next,Γ1.set i (some (.m (Vv ds z)))) else .bad
  |_,_=>.bad
 |_=>.bad
theorem zf2 (n:NmK X mp s i x) (hb:SE X XP mp b fb) (m1:M1 X (.Name x p) "pop" p2 b pos):SS X XP mp io (.Expr (.Call (.Attribute (.Name x p) "pop" p2) [b] [] pos) pos') (zdf i fb):=λM0 F Γ ν σ H D rs hs hl hp=>by
 unfold zdf at hp
 split at hp
 next d0 e0=>
  obtain⟨l,ks0,ev,el,_⟩:=rs.mutM e0
  refine (Jl (zcW (zQ n.hN n.hv n.hd n.hcd) zc m1) rfl).wp ⟨.ref l,hs s i _ n.hm ev,l,rfl,.inl ⟨_,.inl el⟩,hb M0 F Γ ν σ H _ rs hs ((SPost.seq hs hl hp).mono λF1 Γ1 H1 w rs1 s1 h1 v hv=>?_)⟩
  dsimp only at h1
  split at h1
  next ds z e1 e2=>
   split at h1
   next hv2=>
    obtain⟨l',ks,ev',el',kr,hlF,mu⟩:=rs1.mutM e1
    rw[ev]at ev';cases ev'
    cases hv.weak rs1 e2
    obtain⟨w',hw⟩:=uC.mp (((kr.val z).1).trans hv2)
    obtain⟨F2,rs2,s2⟩:=mu _ _ (kr.drop z)
    refine⟨_,.inr z,w',el',rfl,by rw[Jv,hw],?_⟩
    rw[Yh]
    exact h1 F2 ν σ _ rs2 s2 hs hl λ_ _=>rfl
   ·exact h1.elim
  ·exact h1.elim
 ·exact hp.elim
end
end L3
namespace L2
open PySem PySem.Spec PyProof.Rows
section
end
section
end
variable [Cs]
section
end
section
end
section
end
section
end
end L2
namespace L3
open PySem PySem.Spec PyProof.Rows L2
variable [Cs]
def RzB(X:Cx)(XP:XPT):Prop:=∀(c a:Str)(Γ:Gv)(F:Fp)(ν:Nu)(σ:St)(H:Hp)(d:Ap)(v:V),XP ⟨c,.str a⟩ Γ F (ν++ [some v]) σ H->H d=some (.xd [(a,v)])->∀ C,X.mg c=some (.ref C)->∀ pins s,Inv X pins σ H s->∀ h' ea,MadeX s.heap h' ea (.ref C) (some d)->X.xe (.ref ea) { s with heap:=h' }
section
end
end L3
namespace L2
open PySem PySem.Spec PyProof.Rows PySem.Builtin PySem.Builtin.Str
variable [Cs]
section
end
noncomputable def Itc(x:Str):It:=⟨λi _=>i<x.length,λi H v H'=>H'=H/\∃ c,x.cps[i]?=some c/\v=.str ⟨#[c]⟩,λi _=>x.length<=i⟩
theorem Kr {K:Ah}(x:Str) (t:Tok) (it:Ap):vS P w K tg (Itc x) [it] it (λi h=>h.IsStrIter it "str_ascii_iterator" x t i) where
 mem:=by simp
 obj:=λi h st b hb=>by
  have e:b=it:=by simpa using hb
  subst e
  obtain⟨o,e,c,d⟩:=st
  exact⟨o,e,λv z=>by rw[d]at z;cases z⟩
 keep:=λi h h' st k=>by
  obtain⟨o,e,c,d⟩:=st
  exact⟨o,k it (by simp) o e,c,d⟩
 item:=by
  intro X hP hw hK hc i pins s σ H E I hf st hg
  subst hP hw hK
  have hg:=hg
  obtain⟨f0,f1,f2,f3,f4,f5⟩:=hf it (by simp)
  have hx:=Array.getElem?_eq_getElem hg
  refine wpAny_pyNext_ascii_item st hx λh' st' sb=>?_
  have I1:=I.turned (t':=s.toks+1) (λb o hb e=>(sb.2 b hb).trans e) f0 f1 f3 f4 f5
  obtain⟨o,e,c,d⟩:=id st'
  exact⟨_,rfl,KQ e c d (by decide) ⟨.str ⟨#[x.cps[i]]⟩,H,I1,⟨_,rfl⟩,⟨rfl,_,hx,rfl⟩,st',λb hb=>(hf b hb).1⟩⟩
 done:=by
  intro X hP hw hK hc i pins s σ H E I hf st hg
  subst hP hw hK
  have hg:=hg
  obtain⟨f0,f1,f2,f3,f4,f5⟩:=hf it (by simp)
  exact wpAny_pyNext_ascii_end (I.ok.hd hc) st (Array.getElem?_eq_none hg) λh' eb=>⟨rfl,I.turned (t':=s.toks) (λb o hb e=>eb b o hb e) f0 f1 f3 f4 f5⟩
 self:=λ_ _ _ _ _ st h=>wpAny_pyIter_striter_ascii st h
section
variable {X:Cx}
def zhy(tl:TE):TI:=λσ H R=>tl σ H λx H1=>∃ a:Str,x=.str a/\a.cps.all (·<128)=true/\R (Itc a) H1
theorem zc5{tg l:Expr}(hl:PE X l tl):PI X tg l (zhy tl):=by
 intro pins s σ H R I h
 refine thn (hl pins s σ H _ I h) λv s1 ⟨x,H1,I1,r1,q1⟩=>?_
 obtain⟨a,rfl,ha,q⟩:=q1
 obtain⟨t,rfl⟩:=r1
 refine wpAny_pyIter_ascii ha ?_
 have I2:Inv X pins σ H1 { s1 with heap:=s1.heap.push { cls:=.type "str_ascii_iterator",data:=.fields #[.str a t,.int 0 0] } }:=I1.kept (t':=s1.toks) λb ob q=>x6 _ q
 refine⟨⇑s1,[⇑s1],_,_,H1,rfl,I2,Kr a t _,⟨_,Xa _ rfl,rfl,rfl⟩,λb hb=>?_,q⟩
 have eb:b=⇑s1:=by simpa using hb
 subst eb
 exact I1.fpOk (xi _) (I1.hok.fresh (xi _))
end
open PySem PySem.Spec PyProof.Rows
section
end
section
end
noncomputable def yt (w:World) (l:List (Str×Nat×Addr)) (ep:Nat):Obj:={ cls:=.type "dict",data:=.dict (l.map λp=>(⟨PySem.PyData.keyHash w.params p.1,.str p.1 p.2.1,.ref p.2.2⟩:DictEntry)).toArray ep }
inductive GRows(mg:Aq):List (Str×Nat×Addr)->List (Str×Str)->Prop
 |nil:GRows mg [] []
 |cons {k f:Str} {t:Nat} {a:Ap} {l kf}:mg f=some (.ref a)->GRows mg l kf->GRows mg ((k,t,a)::l) ((k,f)::kf)
structure GD(w:World)(K:Ah)(mg:Aq)(x:Str)(kf:List (Str×Str)):Prop where
 ex:∃(D:Ap)(ep:Nat)(l:List (Str×Nat×Addr)),mg x=some (.ref D)/\(D==sysModules)=false/\K.lookup D=some (yt w l ep)/\GRows mg l kf/\(kf.map (·.1)).Nodup
theorem GRows.keys(h:GRows mg l kf):l.map (·.1)=kf.map (·.1):=by
 induction h with
 |nil=>rfl
 |cons _ _ ih=>simp[ih]
theorem GRows.find(h:GRows mg l kf)(k:Str):match kf.lookup k with
  |some f=>∃ a,mg f=some (.ref a)/\valueAt (l.map λp=>(p.1,Value.ref p.2.2)) k=some (.ref a)
  |none=>valueAt (l.map λp=>(p.1,Value.ref p.2.2)) k=none:=by
 induction h with
 |nil=>rfl
 | @cons k' f t a l kf hm hr ih=>
  rw[xy]
  by_cases e:k=k'
  ·subst e
   simp only[beq_self_eq_true]
   exact⟨a,hm,by simp[valueAt]⟩
  ·have e1:(k==k')=false:=by simpa using e
   rw[e1]
   have e2:valueAt (((k',t,a)::l).map λp=>(p.1,Value.ref p.2.2)) k=valueAt (l.map λp=>(p.1,Value.ref p.2.2)) k:=by
    unfold valueAt
    rw[xw,List.find?_cons_of_neg (by simpa using Ne.symm e)]
   rw[e2];exact ih
theorem Yy:∀(l:List (Str×Nat×Addr)),Pairs (PySem.strKind P w) (l.map λp=>(⟨PySem.PyData.keyHash w.params p.1,.str p.1 p.2.1,.ref p.2.2⟩:DictEntry)) (l.map λp=>(p.1,Value.ref p.2.2))
 |[]=>.nil
 |p::r=>.cons (by simp[PySem.strKind,Value.isStrOf]) rfl (Yy r)
theorem zeK{h:Heap}{D:Ap}(hd:h.get? D=some (yt w l ep))(nd:(l.map (·.1)).Nodup):h.DictOf (PySem.strKind P w) D (l.map λp=>(p.1,Value.ref p.2.2)):=by
 refine⟨_,_,ep,hd,⟨rfl,rfl,rfl⟩,rfl,?_,by simpa using Yy l,?_⟩
 ·intro e he
  simp only[List.mem_toArray,xE]at he
  obtain⟨p,hp,rfl⟩:=he
  exact⟨p.1,by simp[PySem.strKind,Value.isStrOf],rfl⟩
 ·rw[xF];exact nd
section
variable {X:Cx}
theorem zgc {p1 p2 q1 q2:Pos}(g:GD X.w X.K X.mg x kf) (hg:Gl X x) (hdb:(↥x)) (hs:∀ ov iv,subscripted e false ov iv=operate [ov,iv] (getItem ov iv)) (hN:X.N.Nodup) (hi:X.N[i]?=some r) (hx:Loc X.env.scope r)
  (hsw:swapsWith (.Subscript (.Name x p1) e q1) (some (.Name r p2)) q2.line X.env=pure false) (hf:X.fn r=true∨X.env.scope.names.lookup r=some .local) :
  PS X (.Assign [.Name r p2] (.Subscript (.Name x p1) e q1) q2) (λD σ H=>wpE X e σ H λv H1=>∃(a f:Str)(b:Ap),v=.str a/\kf.lookup a=some f/\(X.mg f=some (.ref b)->D.nx (σ.set i (some (.ref b))) H1)/\X.mg f=some (.ref b)):=by
 have hpe:PE X (.Subscript (.Name x p1) e q1) (λσ H Q=>wpE X e σ H λv H1=>∃(a f:Str)(b:Ap),v=.str a/\kf.lookup a=some f/\X.mg f=some (.ref b)/\Q (.ref b) H1):=by
  cbv
  obtain⟨D,ep,l,h1,h2,h3,h4,h5⟩:=g.ex
  refine Subscript_ (j6 I hg h1 (thn (h pins s I) λiv s2 ⟨y,H2,I2,ry,a,f,b,ey,ef,eb,q⟩=>?_) hdb)
  subst ey
  obtain⟨t,rfl⟩:=ry
  have hd:=zeK (P:=X.prog) (I2.kIn D _ h3) (by rw[h4.keys];exact h5)
  have hfd:=h4.find a
  rw[ef]at hfd
  obtain⟨b',eb',ev⟩:=hfd
  rw[eb]at eb';cases eb'
  refine tail_any hd.typeIs PySem.F.slot_dict_getitem.lookup ?_ (hs _ _)
  exact wpAny_getItem_of (by simp[PySem.strKind,Value.isStrOf]) hd.mapOf ev ⟨.ref b,H2,I2.tok _,rfl,q⟩
 intro pins s σ H D I h
 exact vA hN hi hx hpe hsw hf pins s σ H D I (h.mono λv H1 ⟨a,f,b,e1,e2,q,e3⟩=>⟨a,f,b,e1,e2,e3,q e3⟩)
end
noncomputable def VQ(K:Ah):List (Str×Nat×Addr)->List (Str×Str)->Bool
 |[],[]=>true
 | (k,_,a)::l,(k',f)::kf=>decide (k=k')&&(match W.nsIn K mainGlobals f with
  |some (some (.ref b))=>decide (b=a)
  |_=>false)&&VQ K l kf
 |_,_=>false
theorem GRows.of{K:Ah}(X:K.In h)(G:h.Ns mainGlobals mg):∀{l:List (Str×Nat×Addr)}{kf:List (Str×Str)},VQ K l kf=true->GRows mg l kf
 |[],[],_=>.nil
 |[],_::_,h=>by simp[VQ]at h
 |_::_,[],h=>by simp[VQ]at h
 | (k,t,a)::l,(k',f)::kf,h=>by
  simp only[VQ,xa,x0]at h
  obtain⟨⟨h1,h2⟩,h3⟩:=h
  subst h1
  split at h2
  next b e=>
   have:b=a:=by simpa using h2
   subst this
   exact .cons (W.mg_of X G e) (GRows.of X G h3)
  ·cases h2
theorem GD.of{w:World}{K:Ah}{x:Str}{kf:List (Str×Str)}{ep:Nat}{l:List (Str×Nat×Addr)}(X:K.In h)(G:h.Ns mainGlobals mg)(hd:W.nsIn K mainGlobals x=some (some (.ref D)))(hs:(D==sysModules)=false)
  (ho:K.lookup D=some (yt w l ep)) (hr:VQ K l kf=true) (hn:(kf.map (·.1)).Nodup):GD w K mg x kf:=⟨⟨D,ep,l,W.mg_of X G hd,hs,ho,GRows.of X G hr,hn⟩⟩
end L2
namespace L3
open PySem PySem.Spec PyProof.Rows L2
variable [Cs]
section
variable {X:Cx}{XP:XPT}{mp io:Ac}{a b c e:Expr}{es:Ag}{p2:Pos}{fa:EM FV}
noncomputable def Qa(x:Str):Aa:=x.cps.toList.map λc=>.str ⟨#[c]⟩
theorem zcs(x:Str):JI M0 F (Itc x) (Qa x) H1:=λi F' H' s h0=>by
 refine⟨λd hd=>?_,λhi=>?_⟩
 ·unfold Qa at hd
  rw[xl]at hd
  cases q:x.cps.toList[i]? with
  |none=>rw[q]at hd;cases hd
  |some c=>
   rw[q]at hd
   cases hd
   have q':x.cps[i]?=some c:=by simpa using q
   refine⟨(ue.mp q').1,λz H2 ⟨e2,c',ec,ez⟩=>?_⟩
   subst e2 ez
   rw[q']at ec;cases ec
   exact⟨.refl _,.str _⟩
 ·have:(Qa x).length=x.length:=by simp[Qa,Str.length]
  rw[this]at hi;exact hi
noncomputable def kL(fa:EM FV):EM (Aa):=λΓ=>(fa Γ).bind λ(u,Γ1)=>match derf Γ1 u with
 |some (.str x)=>if x.cps.all (·<128) then .ok (Qa x,Γ1) else .bad
 |_=>.bad
theorem zdr(ha:SE X XP mp a fa):SI X XP mp tg a (kL fa):=λM0 F Γ ν σ H R rs hs hp=>
 (zc5 zc).wp (ha.run rs hs hp λF1 Γ1 H1 u v rs1 s1 o1 h1=>by
  dsimp only at h1
  split at h1
  next x ex=>
   split at h1
   next hz=>
    have r1:=o1.weak rs1 ex
    cases r1
    exact⟨_,rfl,hz,h1 F1 H1 rs1 (.refl _ _) _ (zcs x)⟩
   ·exact h1.elim
  ·exact h1.elim)
theorem RS.unset(r:RS M0 F Γ ν H)(h:∀ o,Γ[i]?≠some (some o)):RS M0 F Γ (ν.set i none) H :=
 ⟨r.al0,r.dis0,r.nd,r.dis,λj o e=>by
  obtain⟨w,e1,z⟩:=r.at' j o e
  refine⟨w,?_,z⟩
  rw[xh (λq=>h o (by rw[q];exact e))]
  exact e1,r.emp,by rw[xS];exact r.len⟩
theorem Sees.unset(h:Sees mp ν σ)(hn:mp.Nodup)(hm:mp[s]?=some i):Sees mp (ν.set i none) (σ.set s (some v)):=λt j w e1 e2=>by
 by_cases hj:j=i
 ·subst hj
  have hs:=(List.getElem?_inj (xb.mp e1).1 hn).mp (e1.trans hm.symm)
  subst hs
  rw[List.getElem?_set_self']at e2
  cases q:ν[j]? with
  |none=>rw[q]at e2;cases e2
  |some z=>rw[q]at e2;cases e2
 ·rw[xh (Ne.symm hj)]at e2
  have hts:s≠t:=λz=>by subst z;rw[hm]at e1;cases e1;exact hj rfl
  rw[xh hts]
  exact h t j w e1 e2
noncomputable def sDisp(io:Ac)(kf:List (Str×Str))(run:Str->List OV->RF)(i:Nat)(fe:EM FV)(fl:EM (List AV)):SM:=λΓ=>(fe Γ).bind λ(u,Γ1)=>match derf Γ1 u with
 |some (.str k)=>match kf.lookup k with
  |some f=>if i∈io∨(Γ1[i]?.join).isSome=true then .bad else (fCall (run f) fl Γ1).bind λ(o,Γ2)=>.ok (.ret o,Γ2)
  |none=>.bad
 |_=>.bad
theorem zfy {s i k n:Nat}{r x:Str}{run:Str->List OV->RF}{fl:EM (List AV)}{p1 p3 q1 q2 q3 q4:Pos}(g:GD X.w X.K X.mg x kf) (hg:Gl X x) (hdb:(↥x))
  (px:PxOk X XP) (kn:∀ key f,kf.lookup key=some f->Kn X.prog X.w X.K X.mg X.base (CX1 X.prog X.w) f k (spX X.mg n (run f))/\Ran n (run f)) (hr:Room k X.A)
  (he:SE X XP mp e fa) (hps:PS X (.Assign [.Name r p2] (.Subscript (.Name x p1) e q1) q2) (λD σ H=>wpE X e σ H λv H1=>∃(a f:Str)(b:Ap),v=.str a/\kf.lookup a=some f/\(X.mg f=some (.ref b)->D.nx (σ.set s (some (.ref b))) H1)/\X.mg f=some (.ref b)))
  (hN:X.N[s]?=some r) (hv:Vis X.env.scope r) (hd:(↥r)) (hcd:(r==("__classdict__" :Str))=false) (hn:mp.Nodup) (hm:mp[s]?=some i)
  (hl:SA X XP mp (a::es) fl) (hst:starEach (a::es) X.env=(false,eval a X.env)::starEach es X.env) (hpl:(backTo q3 (starEach es X.env)).any (·.1)=false) :
  SB X XP mp io [.Assign [.Name r p2] (.Subscript (.Name x p1) e q1) q2,.Return (some (.Call (.Name r p3) (a::es) [] q3)) q4] (sDisp io kf run i fa fl):=λM0 F Γ ν σ H D rs hs hl0 hp=>by
 refine (Zs hps (Wt (Ki zc))).wp ?_
 refine he M0 F Γ ν σ H _ rs hs ((SPost.seq hs hl0 hp).mono λF1 Γ1 H1 u rs1 s1 h1 v hv1=>?_)
 dsimp only at h1
 split at h1
 next key ek=>
  have r1:=hv1.weak rs1 ek
  cases r1
  split at h1
  next f ef=>
   split at h1
   ·exact h1.elim
   next hh=>
    obtain⟨kn1,hrun⟩:=kn key f ef
    obtain⟨b,fd,ps,_,hb,_⟩:=kn1.ex
    have hio:i∉io:=λz=>hh (.inl z)
    have hΓ:∀ o,Γ1[i]?≠some (some o):=λo z=>hh (.inr (by rw[z];rfl))
    have rs2:=rs1.unset hΓ
    have hs2:Sees mp (ν.set i none) (σ.set s (some (.ref b))):=hs.unset hn hm
    have hlen:(σ.set s (some (.ref b)):St).length=X.N.length:=by rw[xS];exact hl0
    refine⟨key,f,b,rfl,ef,λ_=>?_,hb⟩
    refine zbB kn1 hb hr hN hv hd hcd ?_ (λpins H1 s1 e s' I hx=>px.call _ pins H1 s1 e s' _ (λc dx H' q=>q) I hx) (hl M0 F1 Γ1 (ν.set i none) (σ.set s (some (.ref b))) H1 _ rs2 hs2 (Z5 rs2 hrun ?_)) hst hpl
    ·have:s<σ.length:=by rw[hl0];exact (xb.mp hN).1
     rw[xj this]
    ·have h1':SPost M0 F1 (ν.set i none) H1 XP mp X.N.length io D ((fCall (run f) fl Γ1).bind λ(o,Γ2)=>.ok (.ret o,Γ2)):=h1.step (.refl _ _) λj hj=>by
      rw[xh (λz=>hio (by rw[z];exact hj))]
     exact (SPost.seqO hs2 hlen h1').mono λF3 Γ3 H3 o v rs3 s3 h3=>h3 F3 _ v H3 rs3 (.refl _ _) λ_ _=>rfl
  ·exact h1.elim
 ·exact h1.elim
end
section
variable {X:Cx}{XP:XPT}{mp:Ac}{a:Expr}{p1 p2 q1 q2:Pos}{fa:EM FV}
noncomputable def yu(fa:EM FV):EM FV:=λΓ=>(fa Γ).bind λ(u,Γ1)=>match derS Γ1 u with
 |some (.tuple ds)=>match Zb ds with
  |some ns=>if ns.length<=60 then .ok (.dat (.int (Tab.dedup ns).length),Γ1) else .bad
  |none=>.bad
 |_=>.bad
theorem zdl (hc:X.calm=true) (hgl:Gl X "len") (hml:X.mg "len" =none) (hgs:Gl X "set") (hms:X.mg "set" =none) (ha:SE X XP mp a fa) (hsa:a⁻¹) :
  SE X XP mp (.Call (.Name "len" p1) [.Call (.Name "set" p2) [a] [] q2] [] q1) (yu fa):=by?
 refine (VP (strKind _ _) V.str (λk u ⟨t,e⟩=>e ▸ ⟨strKind_is ..,rfl⟩) hc hgl hml hgs hms hsa).wp (ha.run rs hs hp λF1 Γ1 H1 u v rs1 s1 o1 h1=>?_)
 dsimp only at h1
 split at h1
 next ds ed=>
  split at h1
  next ns en=>
   split at h1
   next hn=>
    obtain⟨l,vs,rfl,el,r⟩:=(o1.strong rs1 ed).tup_inv
    have hv:=Z9 (Qb en ▸ r)
    subst hv
    exact⟨l,ns,rfl,SqT.of el,hn,h1 F1 H1 rs1 (.refl _ _) _ (Rep.int _)⟩
   ·exact h1.elim
  ·exact h1.elim
 ·exact h1.elim
end
section
end
section
end
end L3
namespace L2
open PySem PySem.Spec PyProof.Rows
variable [Cs]
section
end
section
end
end L2
namespace L3
open PySem PySem.Spec PyProof.Rows L2
variable [Cs]
section
end
set_option genSizeOfSpec false
set_option genInjectivity false
mutual
inductive IE where
 |var (s i:Nat)
 |frz (s i:Nat)
 |cint (i:Int)
 |cstr (x:Str)
 |cbool (b:Bool)
 |gint (x:Str) (i:Int)
 |gstr (x:Str) (z:Str)
 |tup (a:IL)
 |new (n:IN)
 |bin (op:Operator) (a b:IE)
 |cmp (op:CmpOp) (a b:IE)
 |chain (op op':CmpOp) (a b c:IE)
 |not (a:IE)
 |and (a b:IE)
 |or (a b:IE)
 |ite (c a b:IE)
 |ix (a b:IE)
 |len (a:IE)
 |int (a:IE)
 |all (a:IE)
 |any (a:IE)
 |tuple (a:IE)
 |isi (T:String) (a:IE)
 |cutT (a:IE) (lo hi:IP)
 |call (o:IO)
 |lset (a:IE)
 |lsetS (a:IE)
 |sin (a b:IE)
 |slen (a:IE)
 |join (z:Str) (a:IE)
 |six (a b:IE)
 |dget (a b:IE)
 |din (a b:IE)
 |dnin (a b:IE)
 |attr (c f:Str) (a:IE)
 |newD (m:IM)
 |fdat (s i:Nat) (c f:Str)
 |flen (s i:Nat) (c f:Str)
 |ftru (s i:Nat) (c f:Str)
 |flast (s i:Nat) (c f:Str)
 |ffrz (s i:Nat) (c f:Str)
inductive IL where
 |nil
 |cons (e:IE) (a:IL)
inductive IA where
 |nil
 |cons (e:IE) (a:IA)
 |io (s i:Nat) (a:IA)
 |tmp (n:IN)
inductive IN where
 |lst (a:IL)
 |cat (a b:IE)
 |list (e:IE)
 |comp (n k:Nat) (ix:Ac) (N':Ab) (t:IT) (src:II) (c:IC) (el:IE)
 |mul (a b:IE)
 |sortD (e:IE)
inductive IP where
 |non
 |one (e:IE)
inductive II where
 |list (e:IE)
 |tup (e:IE)
 |range (e:IE)
 |enum (e:IE)
 |chars (e:IE)
inductive IC where
 |yes
 |one (e:IE)
inductive IO where
 |dat (e:IE)
 |own (n:IN)
 |call (f:Str) (n:Nat) (a:IA)
 |move (s i:Nat)
 |ownD (m:IM)
 |make (c q:Str) (n:Nat) (a:IA)
 |meth (s i:Nat) (c m q:Str) (n:Nat) (a:IA)
inductive IJ where
 |nil
inductive IM where
 |nil
 |one (a b:IE)
 |copy (e:IE)
 |comp (n k:Nat) (ix:Ac) (N':Ab) (t:IT) (src:IG) (c:IC) (ek ev:IE)
inductive IG where
 |std (src:II)
 |items (e:IE)
end
set_option genSizeOfSpec true
set_option genInjectivity true
noncomputable def IN.plain:IN->Bool
 |_=>true
noncomputable def IM.plain:IM->Bool
 |.comp _ _ _ _ _ (.std _) _ _ _=>true
 |.comp .. =>false
 |_=>true
noncomputable abbrev CF:=Str->List OV->RF
noncomputable def fNo:EM Bool:=λ_=>.bad
noncomputable def fNoV:EM FV:=λ_=>.bad
mutual
noncomputable def IE.ev(cf:CF):IE->EM FV×EM Bool
 |.var _ i=>(fVar i,fTru (fVar i))
 |.frz _ i=>(fFrz i,fTru (fFrz i))
 |.cint i=>(fC (.int i),fTru (fC (.int i)))
 |.cstr x=>(fC (.str x),fTru (fC (.str x)))
 |.cbool b=>(fC (.bool b),fTru (fC (.bool b)))
 |.gint _ i=>(fC (.int i),fTru (fC (.int i)))
 |.gstr _ z=>(fC (.str z),fTru (fC (.str z)))
 |.tup a=>(fTup (a.ev cf),fTru (fTup (a.ev cf)))
 |.new n=>(fNew (n.ev cf),fTru (fNew (n.ev cf)))
 |.bin op a b=>(fBin (binD op) (a.ev cf).1 (b.ev cf).1,fTru (fBin (binD op) (a.ev cf).1 (b.ev cf).1))
 |.cmp op a b=>(fB (fCmp (cmpD op) (a.ev cf).1 (b.ev cf).1),fCmp (cmpD op) (a.ev cf).1 (b.ev cf).1)
 |.chain op op' a b c=>(fB (fChain (cmpD op) (cmpD op') (a.ev cf).1 (b.ev cf).1 (c.ev cf).1),fChain (cmpD op) (cmpD op') (a.ev cf).1 (b.ev cf).1 (c.ev cf).1)
 |.not a=>(fB (fNotT (fTru (a.ev cf).1)),fNotT (a.ev cf).2)
 |.and a b=>(fAndV (a.ev cf).1 (b.ev cf).1,fAndT (a.ev cf).2 (b.ev cf).2)
 |.or a b=>(fOrV (a.ev cf).1 (b.ev cf).1,fOrT (a.ev cf).2 (b.ev cf).2)
 |.ite c a b=>(fIf (c.ev cf).2 (a.ev cf).1 (b.ev cf).1,fNo)
 |.ix a b=>(fIx (a.ev cf).1 (b.ev cf).1,fTru (fIx (a.ev cf).1 (b.ev cf).1))
 |.len a=>(f1 gLen (a.ev cf).1,fTru (f1 gLen (a.ev cf).1))
 |.int a=>(f1 gInt (a.ev cf).1,fTru (f1 gInt (a.ev cf).1))
 |.all a=>(f1 gAll (a.ev cf).1,fTru (f1 gAll (a.ev cf).1))
 |.any a=>(f1 gAny (a.ev cf).1,fTru (f1 gAny (a.ev cf).1))
 |.tuple a=>(fTupC (a.ev cf).1,fTru (fTupC (a.ev cf).1))
 |.isi T a=>(fIsi T (a.ev cf).1,fTru (fIsi T (a.ev cf).1))
 |.cutT a lo hi=>(KM (a.ev cf).1 (lo.ev cf) (hi.ev cf),fTru (KM (a.ev cf).1 (lo.ev cf) (hi.ev cf)))
 |.call o=>(fOD (o.ev cf),fTru (fOD (o.ev cf)))
 |.lset a=>(Yi (a.ev cf).1,fTru (Yi (a.ev cf).1))
 |.lsetS a=>(yu (a.ev cf).1,fTru (yu (a.ev cf).1))
 |.sin a b=>(fB (fCmp zck (a.ev cf).1 (b.ev cf).1),fCmp zck (a.ev cf).1 (b.ev cf).1)
 |.slen a=>(f1 Yk (a.ev cf).1,fTru (f1 Yk (a.ev cf).1))
 |.join z a=>(f1 (W3 z) (a.ev cf).1,fTru (f1 (W3 z) (a.ev cf).1))
 |.six a b=>(zeR (a.ev cf).1 (b.ev cf).1,fTru (zeR (a.ev cf).1 (b.ev cf).1))
 |.dget a b=>(fDget (a.ev cf).1 (b.ev cf).1,fTru (fDget (a.ev cf).1 (b.ev cf).1))
 |.din a b=>(fB (fCmp gDin (a.ev cf).1 (b.ev cf).1),fCmp gDin (a.ev cf).1 (b.ev cf).1)
 |.dnin a b=>(fB (fCmp gDnin (a.ev cf).1 (b.ev cf).1),fCmp gDnin (a.ev cf).1 (b.ev cf).1)
 |.attr c f a=>(fAttr c f (a.ev cf).1,fTru (fAttr c f (a.ev cf).1))
 |.newD m=>(fNewD (m.ev cf),fNo)
 |.fdat _ i c f=>(fFdat i c f,fTru (fFdat i c f))
 |.flen _ i c f=>(fFlen i c f,fTru (fFlen i c f))
 |.ftru _ i c f=>(fNoV,fFtru i c f)
 |.flast _ i c f=>(fFlast i c f,fTru (fFlast i c f))
 |.ffrz _ i c f=>(fFfrz i c f,fNo)
noncomputable def IL.ev(cf:CF):IL->EM (List FV)
 |.nil=>fNil
 |.cons e a=>fCons (e.ev cf).1 (a.ev cf)
noncomputable def IA.ev(cf:CF):IA->EM (List AV)
 |.nil=>aNil
 |.cons e a=>aCons (e.ev cf).1 (a.ev cf)
 |.io _ i a=>aIo i (a.ev cf)
 |.tmp n=>zjd (n.ev cf)
noncomputable def IN.ev(cf:CF):IN->EM (Aa)
 |.lst a=>fLst (a.ev cf)
 |.cat a b=>zeQ (a.ev cf).1 (b.ev cf).1
 |.list e=>fListC (e.ev cf).1
 |.comp n k _ _ t src c el=>fComp n k t (src.ev cf) (c.ev cf) (el.ev cf).1
 |.mul a b=>fMul (a.ev cf).1 (b.ev cf).1
 |.sortD e=>fSortD (e.ev cf).1
noncomputable def IP.ev(cf:CF):IP->EM (Option Int)
 |.non=>zhu
 |.one e=>zht (e.ev cf).1
noncomputable def II.ev(cf:CF):II->EM (Aa)
 |.list e=>fSeqL (e.ev cf).1
 |.tup e=>fSeqT (e.ev cf).1
 |.range e=>fRange (e.ev cf).1
 |.enum e=>fEnum (e.ev cf).1
 |.chars e=>kL (e.ev cf).1
noncomputable def IC.ev(cf:CF):IC->EM Bool
 |.yes=>fYes
 |.one e=>(e.ev cf).2
noncomputable def IO.ev(cf:CF):IO->EM OV
 |.dat e=>fD (e.ev cf).1
 |.own n=>fOwn (n.ev cf)
 |.call f _ a=>fCall (cf f) (a.ev cf)
 |.move _ i=>fMove i
 |.ownD m=>fOwnD (m.ev cf)
 |.make c q _ a=>fMake c (cf q) (a.ev cf)
 |.meth _ i c m q _ a=>fMeth i c m (cf q) (a.ev cf)
noncomputable def IJ.ev(cf:CF):IJ->EM (Ab)
 |.nil=>zcf
noncomputable def IM.ev(cf:CF):IM->EM (Ad)
 |.nil=>fDnil
 |.one a b=>fDone (a.ev cf).1 (b.ev cf).1
 |.copy e=>fDcopy (e.ev cf).1
 |.comp n k _ _ t src c ek ev=>fCompD n k t (src.ev cf) (c.ev cf) (ek.ev cf).1 (ev.ev cf).1
noncomputable def IG.ev(cf:CF):IG->EM (Aa×Option (Option Nat))
 |.std src=>fStd (src.ev cf)
 |.items e=>fItems (e.ev cf).1
end
structure Wd where
 bi:Ab
 gi:List (Str×Int)
 gs:List (Str×Str)
 fl:List (Str×Nat)
 ex:Ab
 gd:List (Str×List (Str×Str))
 fk:List (Str×Str):= []
 mc:List (Str×Str×Nat):= []
 ml:List (Str×Str×Str×Nat):= []
 br:List (Str×Str):= []
 xm:Ab:= []
 xt:List (Str×Bool):= []
noncomputable def zl(e:Expr):Bool:=e.ctorIdx !=22
noncomputable def qE(e:Expr):Bool:=e.ctorIdx !=26
noncomputable def qS(e:Expr):Bool:=e.ctorIdx !=7
noncomputable def zcr(e:Expr):Bool:=e.ctorIdx==25
noncomputable def zd6(sc:Scope)(x:Str):Bool:=decide (sc.names.lookup x=some .local)||decide (sc.names.lookup x=some .cell)||decide (sc.names.lookup x=some .free)
noncomputable def W6(sc:Scope)(x:Str):Bool:=decide (sc.names.lookup x=some .globalImplicit)
noncomputable def nmB (sc:Scope) (N:Ab) (mp:Ac) (s i:Nat) (x:Str):Bool:=decide (N[s]?=some x)&&zd6 sc x&&decide (mp[s]?=some i)&& !(x==("__debug__" :Str))&& !(x==("__classdict__" :Str))
noncomputable def biB(W:Wd)(sc:Scope)(x y:Str):Bool:=decide (x=y)&&W6 sc x&&W.bi.contains x
noncomputable def okO{α:Type}(o:Option α)(f:α->Bool):Bool:=match o with
 |some a=>f a
 |none=>false
theorem zd{α:Type}{o:Option α}{f:α->Bool}(h:okO o f=true):∃ a,o=some a/\f a=true:=by
 cases o with
 |none=>cases h
 |some a=>exact⟨a,rfl,h⟩
noncomputable def unG{α β:Type}(g:α->Nat)(mk:β->α)(e:α)(k:Nat)(f:g e=k->{ a:β // e=mk a }):Option β:=if h:g e=k then some (f h).1 else none
theorem zv{α β:Type}{g:α->Nat}{mk:β->α}{e:α}{k:Nat}{f:g e=k->{ a:β // e=mk a }}{a:β}(h:unG g mk e k f=some a):e=mk a:=by
 unfold unG at h
 split at h
 ·rw[<- Option.some.inj h]
  exact (f _).2
 ·cases h
noncomputable def zK(e:Expr):Option (Str×Pos):=unG Expr.ctorIdx (λa=>.Name a.1 a.2) e 23 λh=>Expr.Name.elim e h λx p=>⟨(x,p),rfl⟩
noncomputable def Js(e:Expr):Option (Const×Nat×Pos):=unG Expr.ctorIdx (λa=>.Constant a.1 a.2.1 a.2.2) e 19 λh=>Expr.Constant.elim e h λc j p=>⟨(c,j,p),rfl⟩
noncomputable def zew(e:Const):Option Int:=unG Const.ctorIdx (λa=>.int a) e 2 λh=>Const.int.elim e h λi=>⟨i,rfl⟩
noncomputable def zbX(e:Const):Option Str:=unG Const.ctorIdx (λa=>.str a) e 5 λh=>Const.str.elim e h λi=>⟨i,rfl⟩
noncomputable def zgx(e:Const):Option Bool:=unG Const.ctorIdx (λa=>.bool a) e 1 λh=>Const.bool.elim e h λi=>⟨i,rfl⟩
noncomputable def zai(e:Expr):Option (Ag×Nat×Pos):=unG Expr.ctorIdx (λa=>.Tuple a.1 a.2.1 a.2.2) e 25 λh=>Expr.Tuple.elim e h λes n p=>⟨(es,n,p),rfl⟩
noncomputable def zgP(e:Expr):Option (Ag×Pos):=unG Expr.ctorIdx (λa=>.List a.1 a.2) e 24 λh=>Expr.List.elim e h λes p=>⟨(es,p),rfl⟩
noncomputable def zah(e:Expr):Option (Expr×Operator×Expr×Pos):=unG Expr.ctorIdx (λa=>.BinOp a.1 a.2.1 a.2.2.1 a.2.2.2) e 2 λh=>Expr.BinOp.elim e h λx op y p=>⟨(x,op,y,p),rfl⟩
noncomputable def VV(e:Expr):Option (Expr×List CmpOp×Ag×Pos):=unG Expr.ctorIdx (λa=>.Compare a.1 a.2.1 a.2.2.1 a.2.2.2) e 15 λh=>Expr.Compare.elim e h λx ops ys p=>⟨(x,ops,ys,p),rfl⟩
noncomputable def zgl(e:Expr):Option (UnaryOp×Expr×Pos):=unG Expr.ctorIdx (λa=>.UnaryOp a.1 a.2.1 a.2.2) e 3 λh=>Expr.UnaryOp.elim e h λop x p=>⟨(op,x,p),rfl⟩
noncomputable def ziT(e:Expr):Option (BoolOp×Ag×Pos):=unG Expr.ctorIdx (λa=>.BoolOp a.1 a.2.1 a.2.2) e 0 λh=>Expr.BoolOp.elim e h λop vs p=>⟨(op,vs,p),rfl⟩
noncomputable def zgO(e:Expr):Option (Expr×Expr×Expr×Pos):=unG Expr.ctorIdx (λa=>.IfExp a.1 a.2.1 a.2.2.1 a.2.2.2) e 5 λh=>Expr.IfExp.elim e h λz x y p=>⟨(z,x,y,p),rfl⟩
noncomputable def Qk(e:Expr):Option (Expr×Expr×Pos):=unG Expr.ctorIdx (λa=>.Subscript a.1 a.2.1 a.2.2) e 21 λh=>Expr.Subscript.elim e h λx y p=>⟨(x,y,p),rfl⟩
noncomputable def zdY(e:Expr):Option (Option Expr×Option Expr×Option Expr×Pos):=unG Expr.ctorIdx (λa=>.Slice a.1 a.2.1 a.2.2.1 a.2.2.2) e 26 λh=>Expr.Slice.elim e h λl h s p=>⟨(l,h,s,p),rfl⟩
noncomputable def Qj(e:Expr):Option (Expr×Ag×List Keyword×Pos):=unG Expr.ctorIdx (λa=>.Call a.1 a.2.1 a.2.2.1 a.2.2.2) e 16 λh=>Expr.Call.elim e h λf xs ks q=>⟨(f,xs,ks,q),rfl⟩
noncomputable def Qi(e:Expr):Option (Expr×Str×Pos):=unG Expr.ctorIdx (λa=>.Attribute a.1 a.2.1 a.2.2) e 20 λh=>Expr.Attribute.elim e h λx f p=>⟨(x,f,p),rfl⟩
noncomputable def zdV(e:Expr):Option (Expr×List Comprehension×Scope×Pos):=unG Expr.ctorIdx (λa=>.ListComp a.1 a.2.1 a.2.2.1 a.2.2.2) e 8 λh=>Expr.ListComp.elim e h λelt gens scope p=>⟨(elt,gens,scope,p),rfl⟩
noncomputable def yH(e:Expr):Bool:=e.ctorIdx !=0&&e.ctorIdx !=5&&e.ctorIdx !=15&& !(okO (zgl e) λz=>z.1.ctorIdx==UnaryOp.Not.ctorIdx)
theorem zo{e:Expr}{x:Str}{p:Pos}(h:zK e=some (x,p)):e=.Name x p:=(zv h :)
theorem qC{e:Expr}{c:Const}{j:Nat}{p:Pos}(h:Js e=some (c,j,p)):e=.Constant c j p:=(zv h :)
theorem WH{c:Const}{i:Int}(h:zew c=some i):c=.int i:=(zv h :)
theorem WI{c:Const}{i:Str}(h:zbX c=some i):c=.str i:=(zv h :)
theorem zaz{c:Const}{i:Bool}(h:zgx c=some i):c=.bool i:=(zv h :)
theorem wE{e:Expr}{es:Ag}{n:Nat}{p:Pos}(h:zai e=some (es,n,p)):e=.Tuple es n p:=(zv h :)
theorem zbv{e:Expr}{es:Ag}{p:Pos}(h:zgP e=some (es,p)):e=.List es p:=(zv h :)
theorem wC{e x y:Expr}{op:Operator}{p:Pos}(h:zah e=some (x,op,y,p)):e=.BinOp x op y p:=(zv h :)
theorem jW{e x:Expr}{ops:List CmpOp}{ys:Ag}{p:Pos}(h:VV e=some (x,ops,ys,p)):e=.Compare x ops ys p:=(zv h :)
theorem YT{e x:Expr}{op:UnaryOp}{p:Pos}(h:zgl e=some (op,x,p)):e=.UnaryOp op x p:=(zv h :)
theorem zdO{e:Expr}{op:BoolOp}{vs:Ag}{p:Pos}(h:ziT e=some (op,vs,p)):e=.BoolOp op vs p:=(zv h :)
theorem zbt{e z x y:Expr}{p:Pos}(h:zgO e=some (z,x,y,p)):e=.IfExp z x y p:=(zv h :)
theorem qk{e x y:Expr}{p:Pos}(h:Qk e=some (x,y,p)):e=.Subscript x y p:=(zv h :)
theorem zbw{e:Expr}{l u s:Option Expr}{p:Pos}(h:zdY e=some (l,u,s,p)):e=.Slice l u s p:=(zv h :)
theorem Qc{e f:Expr}{xs:Ag}{ks:List Keyword}{p:Pos}(h:Qj e=some (f,xs,ks,p)):e=.Call f xs ks p:=(zv h :)
theorem jV{e x:Expr}{f:Str}{p:Pos}(h:Qi e=some (x,f,p)):e=.Attribute x f p:=(zv h :)
theorem zbu{e elt:Expr}{gens:List Comprehension}{scope:Scope}{p:Pos}(h:zdV e=some (elt,gens,scope,p)):e=.ListComp elt gens scope p:=(zv h :)
noncomputable def unN(e:Expr):Option (Str×Pos×Ag×Pos):=(Qj e).bind λ(f,xs,ks,q)=>match ks with
 |[]=>(zK f).map λ(x,p)=>(x,p,xs,q)
 |_::_=>none
theorem Jt{e:Expr}{f:Str}{p:Pos}{xs:Ag}{q:Pos}(h:unN e=some (f,p,xs,q)):e=.Call (.Name f p) xs [] q:=by
 unfold unN at h
 cases e1:Qj e with
 |none=>rw[e1]at h;cases h
 |some z=>
  obtain⟨g,ys,ks,q'⟩:=z
  rw[e1]at h
  cases ks with
  |cons _ _=>cases h
  |nil=>
   cases e2:zK g with
   |none=>simp[e2]at h
   |some z=>
    obtain⟨x,p'⟩:=z
    simp[e2]at h
    obtain⟨rfl,rfl,rfl,rfl⟩:=h
    rw[Qc e1,zo e2]
noncomputable def qI{α:Type}:List α->Option α
 |[x]=>some x
 |_=>none
theorem zE{α:Type}{l:List α}{x:α}(h:qI l=some x):l= [x]:=by
 match l,h with
 |[_],h=>cases h;rfl
noncomputable def YO{α:Type}:List α->Option (α×α)
 |[x,y]=>some (x,y)
 |_=>none
theorem jU{α:Type}{l:List α}{x y:α}(h:YO l=some (x,y)):l= [x,y]:=by
 match l,h with
 |[_,_],h=>cases h;rfl
noncomputable def un1(e:Expr):Option (Str×Pos×Expr×Pos):=(unN e).bind λ(f,p,xs,q)=>(qI xs).map λx=>(f,p,x,q)
theorem zP{e:Expr}{f:Str}{p:Pos}{x:Expr}{q:Pos}(h:un1 e=some (f,p,x,q)):e=.Call (.Name f p) [x] [] q:=by
 unfold un1 at h
 cases e1:unN e with
 |none=>rw[e1]at h;cases h
 |some z=>
  obtain⟨g,p',xs,q'⟩:=z
  cases e2:qI xs with
  |none=>simp[e1,e2]at h
  |some y=>
   simp[e1,e2]at h
   obtain⟨rfl,rfl,rfl,rfl⟩:=h
   rw[Jt e1,zE e2]
noncomputable def un2(e:Expr):Option (Str×Pos×Expr×Expr×Pos):=(unN e).bind λ(f,p,xs,q)=>(YO xs).map λ(x,y)=>(f,p,x,y,q)
theorem zgj{e:Expr}{f:Str}{p:Pos}{x y:Expr}{q:Pos}(h:un2 e=some (f,p,x,y,q)):e=.Call (.Name f p) [x,y] [] q:=by
 unfold un2 at h
 cases e1:unN e with
 |none=>rw[e1]at h;cases h
 |some z=>
  obtain⟨g,p',xs,q'⟩:=z
  cases e2:YO xs with
  |none=>simp[e1,e2]at h
  |some y=>
   obtain⟨y1,y2⟩:=y
   simp[e1,e2]at h
   obtain⟨rfl,rfl,rfl,rfl,rfl⟩:=h
   rw[Jt e1,jU e2]
noncomputable def zgk(e:Expr):Option (Str×Pos×Str×Pos×Ag×Pos):=(Qj e).bind λ(f,xs,ks,q)=>match ks with
 |[]=>(Qi f).bind λ(x,m,p2)=>(zK x).map λ(y,p)=>(y,p,m,p2,xs,q)
 |_::_=>none
theorem zdW{e:Expr}{x f:Str}{p p2:Pos}{xs:Ag}{q:Pos}(h:zgk e=some (x,p,f,p2,xs,q)):e=.Call (.Attribute (.Name x p) f p2) xs [] q:=by
 unfold zgk at h
 cases e1:Qj e with
 |none=>rw[e1]at h;cases h
 |some z=>
  obtain⟨g,ys,ks,q'⟩:=z
  rw[e1]at h
  cases ks with
  |cons _ _=>cases h
  |nil=>
   cases e2:Qi g with
   |none=>simp[e2]at h
   |some z=>
    obtain⟨y,m,p3⟩:=z
    cases e3:zK y with
    |none=>simp[e2,e3]at h
    |some z=>
     obtain⟨y',p'⟩:=z
     simp[e2,e3]at h
     obtain⟨rfl,rfl,rfl,rfl,rfl,rfl⟩:=h
     rw[Qc e1,jV e2,zo e3]
noncomputable def zdP(e:Expr):Option (Expr×Option Expr×Option Expr×Pos×Pos):=(Qk e).bind λ(x,y,q)=>(zdY y).bind λ(l,h,s,p)=>match s with
 |none=>some (x,l,h,p,q)
 |some _=>none
theorem zbr{e x:Expr}{l h:Option Expr}{p q:Pos}(hh:zdP e=some (x,l,h,p,q)):e=.Subscript x (.Slice l h none p) q:=by
 unfold zdP at hh
 cases e1:Qk e with
 |none=>rw[e1]at hh;cases hh
 |some z=>
  obtain⟨x',y,q'⟩:=z
  cases e2:zdY y with
  |none=>simp[e1,e2]at hh
  |some z=>
   obtain⟨l',h',s,p'⟩:=z
   cases s with
   |some _=>simp[e1,e2]at hh
   |none=>
    simp[e1,e2]at hh
    obtain⟨rfl,rfl,rfl,rfl,rfl⟩:=hh
    rw[qk e1,zbw e2]
noncomputable def ziY(e:Expr):Option (Expr×Expr×Expr×Ag×Scope×Pos):=(zdV e).bind λ(elt,gens,scope,p)=>(qI gens).bind λg=>if g.is_async=0 then some (elt,g.target,g.iter,g.ifs,scope,p) else none
theorem zdU{e elt tg iter:Expr}{ifs:Ag}{scope:Scope}{p:Pos}(h:ziY e=some (elt,tg,iter,ifs,scope,p)):e=.ListComp elt [⟨tg,iter,ifs,0⟩] scope p:=by
 unfold ziY at h
 cases e1:zdV e with
 |none=>rw[e1]at h;cases h
 |some z=>
  obtain⟨a1,a2,a3,a4⟩:=z
  cases e2:qI a2 with
  |none=>simp[e1,e2]at h
  |some g=>
   obtain⟨g1,g2,g3,g4⟩:=g
   by_cases hz:g4=0
   ·subst hz
    simp[e1,e2]at h
    obtain⟨rfl,rfl,rfl,rfl,rfl,rfl⟩:=h
    rw[zbu e1,zE e2]
   ·simp[e1,e2,hz]at h
noncomputable def zag(op:BoolOp)(e:Expr):Option (Expr×Expr):=(ziT e).bind λ(o,vs,p)=>if o=op then (match vs with
 |x::y:: []=>some (x,y)
 |x::y::z::r=>some (x,.BoolOp op (y::z::r) p)
 |_=>none) else none
theorem VU{op:BoolOp}{e x z:Expr}(h:zag op e=some (x,z)):(∃ p,e=.BoolOp op [x,z] p)∨∃ y w r p,e=.BoolOp op (x::y::w::r) p/\z=.BoolOp op (y::w::r) p:=by
 unfold zag at h
 cases e1:ziT e with
 |none=>rw[e1]at h;cases h
 |some q=>
  obtain⟨o,vs,p⟩:=q
  rw[zdO e1]
  by_cases ho:o=op
  ·subst ho
   match vs with
   |[]=>simp[e1]at h
   |[_]=>simp[e1]at h
   |[a,b]=>
    simp[e1]at h
    obtain⟨rfl,rfl⟩:=h
    exact .inl ⟨p,rfl⟩
   |a::b::c::r=>
    simp[e1]at h
    obtain⟨rfl,rfl⟩:=h
    exact .inr ⟨b,c,r,p,rfl,rfl⟩
  ·simp[e1,ho]at h
mutual
noncomputable def vV(sc:Scope)(N:Ab)(mp:Ac)(lo:Nat):IT->Expr->Bool
 |.nm s i,.Name x _=>decide (N[s]?=some x)&&decide (mp[s]?=some i)&&decide (lo<=i)&&(decide (sc.names.lookup x=some .local)||decide (sc.names.lookup x=some .cell))
 |.tp ts,.Tuple es _ _=>Vr sc N mp lo ts es
 |_,_=>false
noncomputable def Vr(sc:Scope)(N:Ab)(mp:Ac)(lo:Nat):ITs->Ag->Bool
 |.nil,[]=>true
 |.cons t ts,e::es=>zl e&&vV sc N mp lo t e&&Vr sc N mp lo ts es
 |_,_=>false
end
noncomputable def ziX(e:Expr):Option (Str×Nat×Pos×Str×Pos×Expr×Pos):=(Qj e).bind λ(f,xs,ks,q)=>match ks with
 |[]=>(Qi f).bind λ(x,m,p2)=>(Js x).bind λ(c,j,p1)=>(zbX c).bind λz=>(qI xs).map λa=>(z,j,p1,m,p2,a,q)
 |_::_=>none
theorem zdT{e a:Expr}{z m:Str}{j:Nat}{p1 p2 q:Pos}(h:ziX e=some (z,j,p1,m,p2,a,q)):e=.Call (.Attribute (.Constant (.str z) j p1) m p2) [a] [] q:=by
 unfold ziX at h
 cases e1:Qj e with
 |none=>rw[e1]at h;cases h
 |some w=>
  obtain⟨f,xs,ks,q'⟩:=w
  rw[e1]at h
  cases ks with
  |cons _ _=>cases h
  |nil=>
   cases e2:Qi f with
   |none=>simp[e2]at h
   |some w=>
    obtain⟨x,m',p2'⟩:=w
    cases e3:Js x with
    |none=>simp[e2,e3]at h
    |some w=>
     obtain⟨c,j',p1'⟩:=w
     cases e4:zbX c with
     |none=>simp[e2,e3,e4]at h
     |some z'=>
      cases e5:qI xs with
      |none=>simp[e2,e3,e4,e5]at h
      |some a'=>
       simp[e2,e3,e4,e5]at h
       obtain⟨rfl,rfl,rfl,rfl,rfl,rfl,rfl⟩:=h
       rw[Qc e1,jV e2,qC e3,WI e4,zE e5]
noncomputable def Kf(e:Expr):Bool:=e.ctorIdx==23||e.ctorIdx==21||e.ctorIdx==20||okO (Qj e) λz=>z.1.ctorIdx==20
theorem Jb{o:Expr}{nm:Str}{env:Env}(h:Kf o=true):attributeBase o nm env (eval o env)=eval o env:=by
 cases o<;>first | rfl | (cases h;done) | skip
 rename_i f xs ks q
 cases f<;>first | rfl | (cases h)
noncomputable def ziW(e:Expr):Option (Str×Pos×Str×Pos):=(Qi e).bind λ(x,f,p2)=>(zK x).map λ(y,p)=>(y,p,f,p2)
theorem zdS{e:Expr}{x f:Str}{p p2:Pos}(h:ziW e=some (x,p,f,p2)):e=.Attribute (.Name x p) f p2:=by
 unfold ziW at h
 cases e1:Qi e with
 |none=>rw[e1]at h;cases h
 |some w=>
  obtain⟨y,g,q⟩:=w
  cases e2:zK y with
  |none=>simp[e1,e2]at h
  |some w=>
   obtain⟨z,q2⟩:=w
   simp[e1,e2]at h
   obtain⟨rfl,rfl,rfl,rfl⟩:=h
   rw[jV e1,zo e2]
noncomputable def ziV(e:Expr):Option (List (Option Expr)×Ag×Pos):=unG Expr.ctorIdx (λa=>.Dict a.1 a.2.1 a.2.2) e 6 λh=>Expr.Dict.elim e h λks vs p=>⟨(ks,vs,p),rfl⟩
theorem YS{e:Expr}{ks:List (Option Expr)}{vs:Ag}{p:Pos}(h:ziV e=some (ks,vs,p)):e=.Dict ks vs p:=(zv h :)
noncomputable def zdR(e:Expr):Option (Expr×Expr×List Comprehension×Scope×Pos):=unG Expr.ctorIdx (λa=>.DictComp a.1 a.2.1 a.2.2.1 a.2.2.2.1 a.2.2.2.2) e 10 λh=>Expr.DictComp.elim e h λk v gens scope p=>⟨(k,v,gens,scope,p),rfl⟩
theorem zbs{e k v:Expr}{gens:List Comprehension}{scope:Scope}{p:Pos}(h:zdR e=some (k,v,gens,scope,p)):e=.DictComp k v gens scope p:=(zv h :)
noncomputable def ziU(e:Expr):Option (Expr×Expr×Expr×Expr×Ag×Scope×Pos):=(zdR e).bind λ(k,v,gens,scope,p)=>(qI gens).bind λg=>if g.is_async=0 then some (k,v,g.target,g.iter,g.ifs,scope,p) else none
theorem zdQ{e k v tg iter:Expr}{ifs:Ag}{scope:Scope}{p:Pos}(h:ziU e=some (k,v,tg,iter,ifs,scope,p)):e=.DictComp k v [⟨tg,iter,ifs,0⟩] scope p:=by
 unfold ziU at h
 cases e1:zdR e with
 |none=>rw[e1]at h;cases h
 |some z=>
  obtain⟨a0,a1,a2,a3,a4⟩:=z
  cases e2:qI a2 with
  |none=>simp[e1,e2]at h
  |some g=>
   obtain⟨g1,g2,g3,g4⟩:=g
   by_cases hz:g4=0
   ·subst hz
    simp[e1,e2]at h
    obtain⟨rfl,rfl,rfl,rfl,rfl,rfl,rfl⟩:=h
    rw[zbs e1,zE e2]
   ·simp[e1,e2,hz]at h
noncomputable def zdX(e:Expr):Option (Expr×Str×Pos×Ag×Pos):=(Qj e).bind λ(f,xs,ks,q)=>match ks with
 |[]=>(Qi f).map λ(x,m,p2)=>(x,m,p2,xs,q)
 |_::_=>none
theorem vP{e o:Expr}{m:Str}{p2 q:Pos}{xs:Ag}(h:zdX e=some (o,m,p2,xs,q)):e=.Call (.Attribute o m p2) xs [] q:=by
 unfold zdX at h
 cases e1:Qj e with
 |none=>rw[e1]at h;cases h
 |some w=>
  obtain⟨f,ys,ks,q'⟩:=w
  rw[e1]at h
  cases ks with
  |cons _ _=>cases h
  |nil=>
   cases e2:Qi f with
   |none=>simp[e2]at h
   |some w=>
    obtain⟨x,m',p2'⟩:=w
    simp[e2]at h
    obtain⟨rfl,rfl,rfl,rfl,rfl⟩:=h
    rw[Qc e1,jV e2]
noncomputable def zka(e:Expr):Bool:=okO (zgl e) λz=>decide (z.1=.USub)&&okO (Js z.2.1) λc=>okO (zew c.1) λj=>decide (j=1)
noncomputable def yw(W:Wd)(sc:Scope)(N:Ab)(mp:Ac)(s i:Nat)(c f:Str)(e:Expr):Bool:=okO (ziW e) λz=>nmB sc N mp s i z.1&&decide (z.2.2.1=f)&&W.fk.contains (c,f)
mutual
noncomputable def IE.chk(W:Wd)(sc:Scope)(N:Ab)(mp:Ac)(m:Nat):IE->Expr->Bool
 |.var s i,e=>okO (zK e) λx=>nmB sc N mp s i x.1
 |.frz s i,e=>okO (zK e) λx=>nmB sc N mp s i x.1
 |.cint i,e=>okO (Js e) λc=>okO (zew c.1) λj=>decide (i=j)
 |.cstr x,e=>okO (Js e) λc=>okO (zbX c.1) λy=>decide (x=y)
 |.cbool b,e=>okO (Js e) λc=>okO (zgx c.1) λy=>decide (b=y)
 |.gint x i,e=>okO (zK e) λy=>decide (x=y.1)&&W6 sc x&&W.gi.contains (x,i)&& !(x==("__debug__" :Str))
 |.gstr x i,e=>okO (zK e) λy=>decide (x=y.1)&&W6 sc x&&W.gs.contains (x,i)&& !(x==("__debug__" :Str))
 |.tup a,e=>okO (zai e) λes=>a.chk W sc N mp m es.1
 |.new n,e=>yH e&&n.chk W sc N mp m e
 |.bin op a b,e=>okO (zah e) λz=>decide (op=z.2.1)&&a.chk W sc N mp m z.1&&b.chk W sc N mp m z.2.2.1
 |.cmp op a b,e=>okO (VV e) λz=>okO (qI z.2.1) λop'=>okO (qI z.2.2.1) λy=>decide (op=op')&&qS y&&a.chk W sc N mp m z.1&&b.chk W sc N mp m y
 |.chain op1 op2 a b c,e=>okO (VV e) λz=>okO (YO z.2.1) λo=>okO (YO z.2.2.1) λy=>decide (op1=o.1)&&decide (op2=o.2)&&qS y.2&&a.chk W sc N mp m z.1&&b.chk W sc N mp m y.1&&c.chk W sc N mp m y.2
 |.not a,e=>okO (zgl e) λz=>decide (z.1=.Not)&&a.chk W sc N mp m z.2.1
 |.and a b,e=>okO (zag .And e) λz=>a.chk W sc N mp m z.1&&b.chk W sc N mp m z.2
 |.or a b,e=>okO (zag .Or e) λz=>a.chk W sc N mp m z.1&&b.chk W sc N mp m z.2
 |.ite c a b,e=>okO (zgO e) λz=>c.chk W sc N mp m z.1&&a.chk W sc N mp m z.2.1&&b.chk W sc N mp m z.2.2.1
 |.ix a b,e=>okO (Qk e) λz=>qE z.2.1&&a.chk W sc N mp m z.1&&b.chk W sc N mp m z.2.1
 |.len a,e=>match un1 e with
  |some (f,_,x,_)=>biB W sc f "len" &&zl x&&a.chk W sc N mp m x
  |none=>false
 |.int a,e=>match un1 e with
  |some (f,_,x,_)=>biB W sc f "int" &&zl x&&a.chk W sc N mp m x
  |none=>false
 |.all a,e=>match un1 e with
  |some (f,_,x,_)=>biB W sc f "all" &&zl x&&a.chk W sc N mp m x
  |none=>false
 |.any a,e=>match un1 e with
  |some (f,_,x,_)=>biB W sc f "any" &&zl x&&a.chk W sc N mp m x
  |none=>false
 |.tuple a,e=>match un1 e with
  |some (f,_,x,_)=>biB W sc f "tuple" &&zl x&&a.chk W sc N mp m x
  |none=>false
 |.isi T a,e=>match un2 e with
  |some (f,_,x,y,_)=>biB W sc f "isinstance" &&zl x&&(T== "int" ||T== "bool" ||T== "list" ||T== "tuple" ||T== "str")&&okO (zK y) (λz=>biB W sc z.1 (Str.ofString T))&&a.chk W sc N mp m x
  |none=>false
 |.cutT a lo hi,e=>match zdP e with
  |some (x,l,h,_,_)=>a.chk W sc N mp m x&&lo.chk W sc N mp m l&&hi.chk W sc N mp m h
  |none=>false
 |.call o,e=>yH e&&o.chk W sc N mp m e
 |.lset a,e=>match un1 e with
  |some (f,_,x,_)=>match un1 x with
   |some (g,_,y,_)=>biB W sc f "len" &&biB W sc g "set" &&zl y&&a.chk W sc N mp m y
   |none=>false
  |none=>false
 |.lsetS a,e=>match un1 e with
  |some (f,_,x,_)=>match un1 x with
   |some (g,_,y,_)=>biB W sc f "len" &&biB W sc g "set" &&zl y&&a.chk W sc N mp m y
   |none=>false
  |none=>false
 |.sin a b,e=>okO (VV e) λz=>okO (qI z.2.1) λop=>okO (qI z.2.2.1) λy=>decide (op=.In)&&qS y&&a.chk W sc N mp m z.1&&b.chk W sc N mp m y
 |.slen a,e=>match un1 e with
  |some (f,_,x,_)=>biB W sc f "len" &&zl x&&a.chk W sc N mp m x
  |none=>false
 |.join z a,e=>okO (ziX e) λy=>decide (z=y.1)&&decide (y.2.2.2.1= "join")&&zl y.2.2.2.2.2.1&&(y.2.2.2.2.1.endLine==y.2.2.2.2.2.2.line)&&a.chk W sc N mp m y.2.2.2.2.2.1
 |.six a b,e=>okO (Qk e) λz=>qE z.2.1&&a.chk W sc N mp m z.1&&b.chk W sc N mp m z.2.1
 |.dget a b,e=>okO (Qk e) λz=>qE z.2.1&&a.chk W sc N mp m z.1&&b.chk W sc N mp m z.2.1
 |.din a b,e=>okO (VV e) λz=>okO (qI z.2.1) λop=>okO (qI z.2.2.1) λy=>decide (op=.In)&&qS y&&a.chk W sc N mp m z.1&&b.chk W sc N mp m y
 |.dnin a b,e=>okO (VV e) λz=>okO (qI z.2.1) λop=>okO (qI z.2.2.1) λy=>decide (op=.NotIn)&&qS y&&a.chk W sc N mp m z.1&&b.chk W sc N mp m y
 |.attr c f a,e=>okO (Qi e) λz=>decide (z.2.1=f)&&W.fk.contains (c,f)&&Kf z.1&&a.chk W sc N mp m z.1
 |.newD n,e=>n.chk W sc N mp m e
 |.fdat s i c f,e=>yw W sc N mp s i c f e
 |.flen s i c f,e=>match un1 e with
  |some (g,_,x,_)=>biB W sc g "len" &&yw W sc N mp s i c f x
  |none=>false
 |.ftru s i c f,e=>yw W sc N mp s i c f e
 |.flast s i c f,e=>okO (Qk e) λz=>yw W sc N mp s i c f z.1&&zka z.2.1
 |.ffrz s i c f,e=>yw W sc N mp s i c f e
noncomputable def IL.chk(W:Wd)(sc:Scope)(N:Ab)(mp:Ac)(m:Nat):IL->Ag->Bool
 |.nil,[]=>true
 |.cons e a,x::xs=>zl x&&e.chk W sc N mp m x&&a.chk W sc N mp m xs
 |_,_=>false
noncomputable def IA.chk(W:Wd)(sc:Scope)(N:Ab)(mp:Ac)(m:Nat):IA->Ag->Bool
 |.nil,[]=>true
 |.cons e a,x::xs=>zl x&&e.chk W sc N mp m x&&a.chk W sc N mp m xs
 |.io s i a,x::xs=>okO (zK x) (λz=>nmB sc N mp s i z.1)&&a.chk W sc N mp m xs
 |.tmp n,[x]=>zl x&&n.chk W sc N mp m x
 |_,_=>false
noncomputable def IN.chk(W:Wd)(sc:Scope)(N:Ab)(mp:Ac)(m:Nat):IN->Expr->Bool
 |.lst a,e=>okO (zgP e) λz=>a.chk W sc N mp m z.1
 |.cat a b,e=>okO (zah e) λz=>decide (z.2.1=.Add)&&a.chk W sc N mp m z.1&&b.chk W sc N mp m z.2.2.1
 |.list e,y=>match un1 y with
  |some (f,_,x,_)=>biB W sc f "list" &&zl x&&e.chk W sc N mp m x
  |none=>false
 |.comp n k ix N' t src c el,e=>match ziY e with
  |some (elt,tg,iter,ifs,scope,_)=>decide (n=m)&&KI sc N scope N' k ix&&decide (mpC mp n k ix).Nodup&&ix.all (λi=>match mp[i]? with
   |some j=>decide (j<n)
   |none=>false)&&qS iter&&src.chk W sc N mp m iter tg&&vV scope N' (mpC mp n k ix) n t tg&&c.chk W scope N' (mpC mp n k ix) (n+k) ifs&&el.chk W scope N' (mpC mp n k ix) (n+k) elt
  |none=>false
 |.mul a b,e=>okO (zah e) λz=>decide (z.2.1=.Mult)&&a.chk W sc N mp m z.1&&b.chk W sc N mp m z.2.2.1
 |.sortD e,y=>match un1 y with
  |some (f,_,x,_)=>biB W sc f "sorted" &&zl x&&e.chk W sc N mp m x
  |none=>false
noncomputable def IP.chk(W:Wd)(sc:Scope)(N:Ab)(mp:Ac)(m:Nat):IP->Option Expr->Bool
 |.non,none=>true
 |.one e,some x=>e.chk W sc N mp m x
 |_,_=>false
noncomputable def II.chk(W:Wd)(sc:Scope)(N:Ab)(mp:Ac)(m:Nat):II->Expr->Expr->Bool
 |.list e,x,_=>e.chk W sc N mp m x
 |.tup e,x,_=>e.chk W sc N mp m x
 |.range e,y,_=>match un1 y with
  |some (f,_,x,_)=>biB W sc f "range" &&zl x&&e.chk W sc N mp m x
  |none=>false
 |.enum e,y,tg=>match un1 y with
  |some (f,_,x,_)=>zcr tg&&biB W sc f "enumerate" &&zl x&&e.chk W sc N mp m x
  |none=>false
 |.chars e,x,_=>e.chk W sc N mp m x
noncomputable def IC.chk(W:Wd)(sc:Scope)(N:Ab)(mp:Ac)(m:Nat):IC->Ag->Bool
 |.yes,[]=>true
 |.one e,[x]=>e.chk W sc N mp m x
 |_,_=>false
noncomputable def IO.chk(W:Wd)(sc:Scope)(N:Ab)(mp:Ac)(m:Nat):IO->Expr->Bool
 |.dat e,x=>e.chk W sc N mp m x
 |.own n,x=>n.chk W sc N mp m x
 |.call f n a,e=>match unN e with
  |some (g,_,xs,_)=>decide (f=g)&&W6 sc f&&W.fl.contains (f,n)&& !(f==("__debug__" :Str))&&xs.all zl&&a.chk W sc N mp m xs
  |none=>false
 |.move s i,e=>okO (zK e) λx=>nmB sc N mp s i x.1
 |.ownD n,e=>n.chk W sc N mp m e
 |.make c q n a,e=>match unN e with
  |some (g,_,xs,_)=>decide (c=g)&&W6 sc c&&W.mc.contains (c,q,n)&& !(c==("__debug__" :Str))&& !xs.isEmpty&&xs.all zl&&a.chk W sc N mp m xs
  |none=>false
 |.meth s i c mt q n a,e=>okO (zdX e) λ(o,g,p2,xs,p)=>okO (zK o) λx=>decide (mt=g)&&nmB sc N mp s i x.1&&W.ml.contains (c,mt,q,n)&&(p2.endLine==p.line)&&xs.all zl&&decide (xs.length<20)&&a.chk W sc N mp m xs
noncomputable def IJ.chk(W:Wd)(sc:Scope)(N:Ab)(mp:Ac)(m:Nat):IJ->Ag->Bool
 |.nil,[]=>true
 |_,_=>false
noncomputable def IM.chk(W:Wd)(sc:Scope)(N:Ab)(mp:Ac)(m:Nat):IM->Expr->Bool
 |.nil,e=>okO (ziV e) λz=>z.1.isEmpty&&z.2.1.isEmpty
 |.one a b,e=>okO (ziV e) λz=>okO (qI z.1) λk=>okO k λx=>okO (qI z.2.1) λy=>a.chk W sc N mp m x&&b.chk W sc N mp m y
 |.copy a,e=>match un1 e with
  |some (f,_,x,_)=>biB W sc f "dict" &&zl x&&a.chk W sc N mp m x
  |none=>false
 |.comp n k ix N' t src c ek ev,e=>match ziU e with
  |some (kx,vx,tg,iter,ifs,scope,_)=>decide (n=m)&&KI sc N scope N' k ix&&decide (mpC mp n k ix).Nodup&&ix.all (λi=>match mp[i]? with
   |some j=>decide (j<n)
   |none=>false)&&qS iter&&src.chk W sc N mp m iter tg&&vV scope N' (mpC mp n k ix) n t tg&&c.chk W scope N' (mpC mp n k ix) (n+k) ifs&&ek.chk W scope N' (mpC mp n k ix) (n+k) kx&&ev.chk W scope N' (mpC mp n k ix) (n+k) vx
  |none=>false
noncomputable def IG.chk(W:Wd)(sc:Scope)(N:Ab)(mp:Ac)(m:Nat):IG->Expr->Expr->Bool
 |.std src,x,tg=>src.chk W sc N mp m x tg
 |.items a,x,tg=>okO (zdX x) λ(o,g,p2,xs,p)=>zcr tg&&decide (g= "items")&&xs.isEmpty&&(p2.endLine==p.line)&&Kf o&&a.chk W sc N mp m o
end
structure XSc(X:Cx)(sc:Scope)(N:Ab):Prop where
 hN:X.N=N
 vis:∀ x,zd6 sc x=true->Vis X.env.scope x
 loc:∀ x,sc.names.lookup x=some .local->X.env.scope.names.lookup x=some .local
 cel:∀ x,sc.names.lookup x=some .cell->X.env.scope.names.lookup x=some .cell/\X.fn x=true
 fre:∀ x,sc.names.lookup x=some .free->X.env.scope.names.lookup x=some .cell∨X.env.scope.names.lookup x=some .free
 glo:∀ x,W6 sc x=true->Gl X x
structure XW(X:Cx)(XP:XPT)(cf:CF)(W:Wd)(k:Nat):Prop where
 bi:∀ x,W.bi.contains x=true->X.mg x=none
 gi:∀ x i,W.gi.contains (x,i)=true->∃ t,X.mg x=some (.int i t)
 gs:∀ x i,W.gs.contains (x,i)=true->∃ t,X.mg x=some (.str i t)
 fn:∀ x n,W.fl.contains (x,n)=true->Kn X.prog X.w X.K X.mg X.base (CX1 X.prog X.w) x k (spX X.mg n (cf x))/\Ran n (cf x)
 rm:Room k X.A
 hk:1<=k
 calm:X.calm=true
 ex:∀ x,W.ex.contains x=true->∃ C,X.mg x=some (.ref C)/\PySem.W.excIn X.K C bmV "ValueError.__new__" =true
 mr:∀ x C y C2,W.ex.contains x=true->X.mg x=some (.ref C)->W.ex.contains y=true->X.mg y=some (.ref C2)->(mroIn X.K C).contains (.ref C2)=decide (x=y)
 gd:∀ x kf,W.gd.contains (x,kf)=true->GD X.w X.K X.mg x kf
 fk:∀ c f,W.fk.contains (c,f)=true->Ww X c f
 mc:∀ c q n,W.mc.contains (c,q,n)=true->X.mg c=some (.ref (Cs.adr c))/\(∃ j,j+1<=k/\KnI X.prog X.w X.K X.mg X.base (CX1 X.prog X.w) (Cs.adr c) j (spX X.mg n (cf q)))/\Ran n (cf q)
 ml:∀ c m q n,W.ml.contains (c,m,q,n)=true->KnM X.prog X.w X.K X.mg X.base (CX1 X.prog X.w) (Cs.adr c) m k (spX X.mg n (cf q))/\Ran n (cf q)
 px:PxOk X XP
 sk:Sk X
theorem zm(h:zl e=true):starEach (e::es) env=(false,eval e env)::starEach es env:=by
 cases e<;>first | rfl | (cases h)
theorem Zu:es.all zl=true->(starEach es env).any (·.1)=false:=by
 induction es with
 |nil=>intro;rfl
 |cons e es ih=>
  intro h
  rw[ur,xa]at h
  rw[zm h.1,xY,ih h.2];rfl
theorem qu:∀{l:List (Bool×Sem Aj)},l.any (·.1)=false->(backTo pos l).any (·.1)=false
 |[],_=>rfl
 | (b,t)::r,h=>by
  rw[xY,Bool.or_eq_false_iff]at h
  show ((b,_)::backTo pos r).any (·.1)=false
  rw[xY,qu h.2]
  have hb:=h.1
  rw[hb];rfl
theorem vz(h:qE e=true):Wl e:=λo i=>by
 cases e<;>first | rfl | (cases h)
theorem jM(h:qS e=true)(x:Aj):foldedSetIterable e env x=pure x:=by
 cases e<;>first | rfl | (cases h)
theorem ql(op:CmpOp)(h:qS e=true):behindInMarks op e=false:=by
 cases e<;>first | rfl | (cases h)
theorem VF(op op':CmpOp)(h:qS e=true):lastMarks [op,op'] [b,e]=false:=ql op' h
theorem Ze{x y:Str}(h:(!(x==y))=true):(x==y)=false:=by simpa using h
section
variable {X:Cx}{XP:XPT}{cf:CF}{W:Wd}{k:Nat}{sc:Scope}{N:Ab}{mp:Ac}{m:Nat}
theorem jN(S:XSc X sc N)(h:nmB sc N mp s i x=true):NmK X mp s i x:=by
 unfold nmB at h
 simp only[xa,x0]at h
 obtain⟨⟨⟨⟨h1,h2⟩,h3⟩,h4⟩,h5⟩:=h
 exact⟨by rw[S.hN];exact h1,S.vis x h2,h3,Ze h4,Ze h5⟩
theorem z6 (S:XSc X sc N) (T:XW X XP cf W k) (h:biB W sc x y=true) (hb:bootBuiltins y=some v) (hn:y≠ "__name__") (hd:(↥y)):BiK X x v:=by
 unfold biB at h
 simp only[xa,x0]at h
 obtain⟨⟨h1,h2⟩,h3⟩:=h
 subst h1
 exact⟨S.glo x h2,T.bi x h3,hb,hn,hd⟩
theorem wP{f:Str->NameKind->NameKind}:∀{names:List (Str×NameKind)}{x:Str},(names.map λ(n,k)=>(n,f n k)).lookup x=(names.lookup x).map (f x)
 |[],_=>rfl
 | (n,k)::r,x=>by
  rw[xw]
  cases hx:x==n with
  |true=>rw[xy,xy,hx];rw[eq_of_beq hx];rfl
  |false=>rw[xy,xy,hx];exact wP
theorem qm:(relabel scope env).names.lookup x=(scope.names.lookup x).map λk=>if (k==.free&&env.scope.kind==ScopeKind.function&&env.kindOf x==some NameKind.cell) then .cell else k:=by
 unfold relabel
 have e:(scope.names.map λ(n,k)=>if (k==NameKind.free&&env.scope.kind==ScopeKind.function&&env.kindOf n==some NameKind.cell) then (n,NameKind.cell) else (n,k)) =
   scope.names.map λ(n,k)=>(n,(λn k=>if (k==NameKind.free&&env.scope.kind==ScopeKind.function&&env.kindOf n==some NameKind.cell) then NameKind.cell else k) n k):=by
  apply uB
  rintro⟨n,k⟩ _
  dsimp only
  split<;>rfl
 rw[e]
 exact wP (f:=λn k=>if (k==NameKind.free&&env.scope.kind==ScopeKind.function&&env.kindOf n==some NameKind.cell) then NameKind.cell else k)
theorem XSc.comp(S:CSc psc N scope N' k ix)(cl:List (Str×Addr))(C:Ap)(s2:Am)(H2:Hp)(fp:List Ap):XSc ⋯ scope N' where
 hN:=rfl
 vis x h:=by
  unfold zd6 at h
  simp only[xN,x0]at h
  show Vis (relabel scope X.env) x
  unfold Vis
  rw[qm]
  rcases h with (h | h) | h
  ·rw[h];exact .inl rfl
  ·rw[h];exact .inr (.inl rfl)
  ·rw[h]
   simp only[uD]
   split
   ·exact .inr (.inl rfl)
   ·exact .inr (.inr rfl)
 loc x h:=by
  show (relabel scope X.env).names.lookup x=_
  rw[qm,h];rfl
 cel x h:=by
  refine⟨?_,decide_eq_true h⟩
  show (relabel scope X.env).names.lookup x=_
  rw[qm,h];rfl
 fre x h:=by
  show (relabel scope X.env).names.lookup x=_∨(relabel scope X.env).names.lookup x=_
  rw[qm,h]
  simp only[uD]
  split
  ·exact .inl rfl
  ·exact .inr rfl
 glo x h:=by
  unfold W6 at h
  simp only[x0]at h
  show (relabel scope X.env).names.lookup x=_
  rw[qm,h];rfl
theorem XW.comp(T:XW X XP cf W k)(c:Cat X σ C s2 H2 fp):XW ⋯ (XPc XP σ) cf W k:=⟨T.bi,T.gi,T.gs,T.fn,T.rm,T.hk,T.calm,T.ex,T.mr,T.gd,λc f h=>⟨(T.fk c f h).cl,(T.fk c f h).no⟩,T.mc,T.ml,zfu T.px T.sk c,T.sk ⟩
theorem zb0(S:XSc X sc N)(h:CSc sc N scope N' k ix):CSc X.env.scope X.N scope N' k ix :=
 ⟨h.kind,h.cel,h.loc,λy hy e=>by
  rcases h.fre y hy e with z | z
  ·exact .inl (S.cel _ z).1
  ·exact S.fre _ z,h.len,h.nd,λj i e=>by
  rw[S.hN];exact h.cap j i e⟩
theorem Room.at1(T:XW X XP cf W k):Room 1 X.A:=T.rm.mono T.hk
theorem Room.atk(T:XW X XP cf W k):Room k X.A:=T.rm
theorem ki:(assignEach es env).length=es.length:=by
 induction es with
 |nil=>rfl
 |cons e es ih=>cases e<;>simp[assignEach,ih]
theorem wI(h:zl e=true):assignEach (e::es) env=(false,assign e env)::assignEach es env:=by
 cases e<;>first | rfl | (cases h)
mutual
theorem Jn{lo:Nat}(S:XSc X sc N)(hN:N.Nodup)(hn:mp.Nodup)(hc:X.calm=true)(hk:∀ i,lo<=i->¬ kp i):∀(t:IT)(e:Expr),vV sc N mp lo t e=true->SG X mp kp e t
  |.nm s i,e,h=>by
   cases e with
   |Name x p=>
    simp only[vV,xa,xN,x0]at h
    obtain⟨⟨⟨h1,h2⟩,h3⟩,h4⟩:=h
    refine zfO (by rw[S.hN];exact hN) hn (by rw[S.hN];exact h1) h2 (hk i h3) ?_ ?_
    · rcases h4 with h4 | h4
      · exact .inl (S.loc x h4)
      · exact .inr (S.cel x h4).1
    · rcases h4 with h4 | h4
      · exact .inr (S.loc x h4)
      · exact .inl (S.cel x h4).2
   |_=>simp[vV]at h
  |.tp ts,e,h=>by
   cases e with
   |Tuple es n p=>
    simp only[vV]at h
    obtain⟨h1,h2,h3⟩:=YE S hN hn hc hk ts es h
    exact zix hc h1 (by rw[ki];exact h2) h3
   |_=>simp[vV]at h
theorem YE{lo:Nat}(S:XSc X sc N)(hN:N.Nodup)(hn:mp.Nodup)(hc:X.calm=true)(hk:∀ i,lo<=i->¬ kp i):∀(ts:ITs)(es:Ag),Vr sc N mp lo ts es=true->SGs X mp kp es ts/\ts.len=es.length/\(assignEach es X.env).findIdx? (·.1)=none
  |.nil,[],h=>⟨zfP,rfl,rfl⟩
  |.cons t ts,e::es,h=>by
    simp only[Vr,xa]at h
    obtain⟨⟨h1,h2⟩,h3⟩:=h
    have ih1:=Jn S hN hn hc hk t e h2
    obtain⟨i1,i2,i3⟩:=YE S hN hn hc hk ts es h3
    refine⟨zdq ih1 i1 (by rw[wI h1];rfl),by rw[ITs.len,i2];rfl,?_⟩
    rw[wI h1,List.findIdx?_cons]
    simp[i3]
  |.nil,_::_,h=>by simp[Vr]at h
  |.cons ..,[],h=>by simp[Vr]at h
end
def zbF(X:Cx)(XP:XPT)(mp:Ac)(e:Expr)(f:EM (Aa)):Prop:=∀ elt gens scope pos,e=.ListComp elt gens scope pos->∃ tg iter ifs N' k ix,gens= [⟨tg,iter,ifs,0⟩]/\CSc X.env.scope X.N scope N' k ix/\(∀ x,foldedSetIterable iter X.env x=pure x) /\
 SNt XP mp (VT k ix (wpI X tg iter) (gU X N' scope tg) (fU X N' scope ifs) (eU X N' scope elt)) f
theorem vg(h:∀ elt gens scope pos,e≠ .ListComp elt gens scope pos):zbF X XP mp e f:=λa b c d q=>absurd q (h a b c d)
theorem zba(h:yH e=true)(whole:Sem Aj):isTrue e env whole=(do let v<-whole;standAt e.pos;holding [v] (truthy v)):=by
 cases e<;>first | rfl | (cases h;done) | skip
 rename_i op x p
 cases op<;>first | rfl | (cases h)
theorem both(h:SE X XP mp e fa)(hp:yH e=true):SE X XP mp e fa/\ST X XP mp e (fTru fa):=⟨h,zdE h (zba hp)⟩
theorem YH(h:ST X XP mp (.BoolOp op vs p) t):SW X XP mp (.BoolOp op vs p) t:=λM0 F Γ ν σ H Q rs hs hp whole pins s I=>h M0 F Γ ν σ H Q rs hs hp pins s I
theorem ya:bootBuiltins "sorted" =some (.builtin "sorted"):=by decide +kernel
theorem y4:bootBuiltins "range" =some (.type "range"):=by decide +kernel
theorem js:bootBuiltins "len" =some (.builtin "len"):=by decide +kernel
theorem zay:bootBuiltins "str" =some (.type "str"):=by decide +kernel
theorem zax:bootBuiltins "isinstance" =some (.builtin "isinstance"):=by decide +kernel
abbrev Qv{α:Type}(cf:CF)(W:Wd)(c:Wd->Scope->Ab->Ac->Nat->α->Bool)(R:Cx->XPT->Ac->α->Prop):Prop:=∀{X XP k sc N mp m},XSc X sc N->XW X XP cf W k->∀ e,c W sc N mp m e=true->R X XP mp e
noncomputable abbrev QE(cf:CF)(W:Wd)(a:IE):=Qv cf W a.chk λX XP mp e=>SE X XP mp e (a.ev cf).1/\ST X XP mp e (a.ev cf).2
noncomputable abbrev QL(cf:CF)(W:Wd)(a:IL):=Qv cf W a.chk λX XP mp e=>SL X XP mp e (a.ev cf)
noncomputable abbrev QA(cf:CF)(W:Wd)(a:IA):=Qv cf W a.chk λX XP mp e=>SA X XP mp e (a.ev cf)
noncomputable abbrev QN(cf:CF)(W:Wd)(a:IN):=Qv cf W a.chk λX XP mp e=>SN X XP mp e (a.ev cf)/\(a.plain=true->zbF X XP mp e (a.ev cf))
noncomputable abbrev QP(cf:CF)(W:Wd)(a:IP):=Qv cf W a.chk λX XP mp e=>SOp X XP mp e (a.ev cf)
abbrev QI(cf:CF)(W:Wd)(a:II):Prop:=∀{X XP k sc N mp m},XSc X sc N->XW X XP cf W k->∀(tg e:Expr),a.chk W sc N mp m e tg=true->SI X XP mp tg e (a.ev cf)
noncomputable abbrev QC(cf:CF)(W:Wd)(a:IC):=Qv cf W a.chk λX XP mp e=>SF X XP mp e (a.ev cf)
noncomputable abbrev QO(cf:CF)(W:Wd)(a:IO):=Qv cf W a.chk λX XP mp e=>SO X XP mp e (a.ev cf)
noncomputable abbrev QJ(cf:CF)(W:Wd)(a:IJ):=Qv cf W a.chk λX XP mp e=>SJ X XP mp e (a.ev cf)
def zed(X:Cx)(XP:XPT)(mp:Ac)(e:Expr)(f:EM (Ad)):Prop:=∀ kx vx gens scope pos,e=.DictComp kx vx gens scope pos->∃ tg iter ifs N' k ix,gens= [⟨tg,iter,ifs,0⟩]/\CSc X.env.scope X.N scope N' k ix/\(∀ x,foldedSetIterable iter X.env x=pure x) /\
 SDt XP mp (wA k ix (wpI X tg iter) (gU X N' scope tg) (fU X N' scope ifs) (eD X N' scope kx vx)) f
noncomputable abbrev QM(cf:CF)(W:Wd)(a:IM):=Qv cf W a.chk λX XP mp e=>SD X XP mp e (a.ev cf)/\(a.plain=true->zed X XP mp e (a.ev cf))
abbrev QG(cf:CF)(W:Wd)(a:IG):Prop:=∀{X XP k sc N mp m},XSc X sc N->XW X XP cf W k->∀(tg e:Expr),a.chk W sc N mp m e tg=true->SIw X XP mp tg e (a.ev cf)/\∀ b,a=.std b->SI X XP mp tg e (b.ev cf)
set_option hygiene false in
local macro_rules
 | `(tactic| ext $p:rintroPat $q:rintroPat)=>`(tactic| (intro X XP k sc N mp m S T e g0;obtain⟨$(⟨p.raw[0]⟩):rcasesPat,eu,h⟩:=zd g0;clear g0;cases $(⟨q.raw[0][0]⟩):ident eu))
theorem JY(s i:Nat):QE cf W (.var s i):=by
 ext ⟨x,p⟩ zo
 have n:=jN S h
 exact both (ziu n.hN n.hv n.hm n.hd n.hcd) rfl
theorem JO(s i:Nat):QE cf W (.frz s i):=by
 ext ⟨x,p⟩ zo
 have n:=jN S h
 exact both (zin n.hN n.hv n.hm n.hd n.hcd) rfl
theorem ZB(i:Int):QE cf W (.cint i):=by
 ext ⟨c,j,p⟩ qC
 obtain⟨z,ez,h⟩:=zd h
 cases WH ez
 cases Xh h
 exact both zio rfl
theorem ZC(i:Str):QE cf W (.cstr i):=by
 ext ⟨c,j,p⟩ qC
 obtain⟨z,ez,h⟩:=zd h
 cases WI ez
 cases Xh h
 exact both zis rfl
theorem jt(i:Bool):QE cf W (.cbool i):=by
 ext ⟨c,j,p⟩ qC
 obtain⟨z,ez,h⟩:=zd h
 cases zaz ez
 cases Xh h
 exact both zfC rfl
theorem ZK(x:Str)(i:Int):QE cf W (.gint x i):=by
 ext ⟨y,p⟩ zo
 simp only[xa,x0]at h
 obtain⟨⟨⟨h1,h2⟩,h3⟩,h4⟩:=h
 subst h1
 exact both (zfI (S.glo x h2) (T.gi x i h3) (Ze h4)) rfl
theorem ZL(x:Str)(i:Str):QE cf W (.gstr x i):=by
 ext ⟨y,p⟩ zo
 simp only[xa,x0]at h
 obtain⟨⟨⟨h1,h2⟩,h3⟩,h4⟩:=h
 subst h1
 exact both (zfJ (S.glo x h2) (T.gs x i h3) (Ze h4)) rfl
theorem JX(a:IL)(ih_a:QL cf W a):QE cf W (.tup a):=by
 ext ⟨es,j,p⟩ wE
 exact both (zit (ih_a S T es h)) rfl
theorem JT(n:IN)(ih_n:QN cf W n):QE cf W (.new n):=by
 lia
 replace h:=xK.mp h
 try simp only[xa]at h
 exact both (SN.se (ih_n S T e h.2).1) h.1
theorem JL(op:Operator)(a b:IE)(ih_a:QE cf W a)(ih_b:QE cf W b):QE cf W (.bin op a b):=by
 ext ⟨x,op',y,p⟩ wC
 simp only[xa,x0]at h
 obtain⟨⟨h1,h2⟩,h3⟩:=h
 subst h1
 exact both (zim (zg4 op) (ih_a S T x h2).1 (ih_b S T y h3).1) rfl
theorem JM(op:CmpOp)(a b:IE)(ih_a:QE cf W a)(ih_b:QE cf W b):QE cf W (.cmp op a b):=by
 intro X XP k sc N mp m S T e g0
 obtain⟨⟨x,ops,ys,p⟩,eu,g1⟩:=zd g0
 clear g0
 cases jW eu
 obtain⟨op',eo,h⟩:=zd g1
 clear g1
 cases zE eo
 obtain⟨y,ey,h⟩:=zd h
 cases zE ey
 simp only[xa,x0]at h
 obtain⟨⟨⟨h1,h2⟩,h3⟩,h4⟩:=h
 subst h1
 have ha:=(ih_a S T x h3).1
 have hb:=(ih_b S T y h4).1
 exact⟨yL (wd (Room.at1 T) op) ha hb (ql op h2),yP (wd (Room.at1 T) op) ha hb (ql op h2)⟩
theorem ju(op1 op2:CmpOp)(a b c:IE)(ih_a:QE cf W a)(ih_b:QE cf W b)(ih_c:QE cf W c):QE cf W (.chain op1 op2 a b c):=by
 intro X XP k sc N mp m S T e g0
 obtain⟨⟨x,ops,ys,p⟩,eu,g1⟩:=zd g0
 clear g0
 cases jW eu
 obtain⟨⟨o1,o2⟩,eo,h⟩:=zd g1
 clear g1
 cases jU eo
 obtain⟨⟨y,z⟩,ey,h⟩:=zd h
 cases jU ey
 simp only[xa,x0]at h
 obtain⟨⟨⟨⟨⟨h1,h2⟩,h3⟩,h4⟩,h5⟩,h6⟩:=h
 subst h1 h2
 have ha:=(ih_a S T x h4).1
 have hb:=(ih_b S T y h5).1
 have hc:=(ih_c S T z h6).1
 exact⟨zdj (wd (Room.at1 T) op1) (wd (Room.at1 T) op2) ha hb hc (VF op1 op2 h3),zdD (wd (Room.at1 T) op1) (wd (Room.at1 T) op2) ha hb hc (VF op1 op2 h3)⟩
theorem JU(a:IE)(ih_a:QE cf W a):QE cf W (.not a):=by
 ext ⟨op,x,p⟩ YT
 simp only[xa,x0]at h
 cases h.1
 have hh:=ih_a S T x h.2
 exact⟨ziq hh.1,ziL hh.2⟩
theorem JJ(a b:IE)(ih_a:QE cf W a)(ih_b:QE cf W b):QE cf W (.and a b):=by
 intro X XP k sc N mp m S T e g0
 obtain⟨⟨x,z⟩,eu,h⟩:=zd g0
 clear g0
 rw[xa]at h
 have ha:=ih_a S T x h.1
 have hb:=ih_b S T z h.2
 rcases VU eu with ⟨p,rfl⟩ | ⟨y,w,r,p,rfl,rfl⟩
 ·exact⟨zdi ha.1 (zdm hb.1),(zdH ha.2 (zgd hb.2)).st⟩
 ·exact⟨zdi ha.1 hb.1,(zdH ha.2 (YH hb.2)).st⟩
theorem Vn(a b:IE)(ih_a:QE cf W a)(ih_b:QE cf W b):QE cf W (.or a b):=by
 intro X XP k sc N mp m S T e g0
 obtain⟨⟨x,z⟩,eu,h⟩:=zd g0
 clear g0
 rw[xa]at h
 have ha:=ih_a S T x h.1
 have hb:=ih_b S T z h.2
 rcases VU eu with ⟨p,rfl⟩ | ⟨y,w,r,p,rfl,rfl⟩
 ·exact⟨zgG ha.1 (zdm hb.1),(zgJ ha.2 (zge hb.2)).st⟩
 ·exact⟨zgG ha.1 hb.1,(zgJ ha.2 (YH hb.2)).st⟩
theorem JR(c a b:IE)(ih_c:QE cf W c)(ih_a:QE cf W a)(ih_b:QE cf W b):QE cf W (.ite c a b):=by
 ext ⟨z,x,y,p⟩ zbt
 simp only[xa]at h
 obtain⟨⟨h1,h2⟩,h3⟩:=h
 exact⟨zjN (ih_c S T z h1).2 (ih_a S T x h2).1 (ih_b S T y h3).1,λM0 F Γ ν σ H Q rs hs hp=>hp.elim⟩
theorem Vm(a b:IE)(ih_a:QE cf W a)(ih_b:QE cf W b):QE cf W (.ix a b):=by
 ext ⟨x,y,p⟩ qk
 simp only[xa]at h
 obtain⟨⟨h1,h2⟩,h3⟩:=h
 exact both (zjO (ih_a S T x h2).1 (ih_b S T y h3).1 (vz h1)) rfl
theorem JS(a:IE)(ih_a:QE cf W a):QE cf W (.len a):=by
 lia
 conv at h=>lhs;whnf
 split at h
 next f p x q eu=>
  cases zP eu
  simp only[xa]at h
  obtain⟨⟨h1,h2⟩,h3⟩:=h
  exact both (zac zhk (z6 S T h1 js (by decide) (by decide)) (ih_a S T x h3).1 (zm h2)) rfl
 ·cases h
theorem JP(a:IE)(ih_a:QE cf W a):QE cf W (.int a):=by
 lia
 conv at h=>lhs;whnf
 split at h
 next f p x q eu=>
  cases zP eu
  simp only[xa]at h
  obtain⟨⟨h1,h2⟩,h3⟩:=h
  exact both (zjQ zhj (z6 S T h1 Vk (by decide) (by decide)) (ih_a S T x h3).1 (zm h2)) rfl
 ·cases h
theorem JH(a:IE)(ih_a:QE cf W a):QE cf W (.all a):=by
 lia
 conv at h=>lhs;whnf
 split at h
 next f p x q eu=>
  cases zP eu
  simp only[xa]at h
  obtain⟨⟨h1,h2⟩,h3⟩:=h
  exact both (zac (zhh T.calm) (z6 S T h1 zav (by decide) (by decide)) (ih_a S T x h3).1 (zm h2)) rfl
 ·cases h
theorem JK(a:IE)(ih_a:QE cf W a):QE cf W (.any a):=by
 lia
 conv at h=>lhs;whnf
 split at h
 next f p x q eu=>
  cases zP eu
  simp only[xa]at h
  obtain⟨⟨h1,h2⟩,h3⟩:=h
  exact both (zac (zhi T.calm) (z6 S T h1 zaw (by decide) (by decide)) (ih_a S T x h3).1 (zm h2)) rfl
 ·cases h
theorem jx(a:IE)(ih_a:QE cf W a):QE cf W (.tuple a):=by
 lia
 conv at h=>lhs;whnf
 split at h
 next f p x q eu=>
  cases zP eu
  simp only[xa]at h
  obtain⟨⟨h1,h2⟩,h3⟩:=h
  exact both (zdn (z6 S T h1 wJ (by decide) (by decide)) (ih_a S T x h3).1 (zm h2)) rfl
 ·cases h
theorem JQ(TT:String)(a:IE)(ih_a:QE cf W a):QE cf W (.isi TT a):=by
 lia
 conv at h=>lhs;whnf
 split at h
 next f p x y q eu=>
  cases zgj eu
  simp only[xa,xN,beq_iff_eq]at h
  obtain⟨⟨⟨⟨h1,h2⟩,h3⟩,h4⟩,h5⟩:=h
  obtain⟨⟨y,p2⟩,ey,h4⟩:=zd h4
  cases zo ey
  have B:=z6 S T h1 zax (by decide) (by decide)
  have ha:=(ih_a S T x h5).1
  rcases h3 with (((rfl | rfl) | rfl) | rfl) | rfl
  ·exact both (vH B (z6 S T h4 Vk (by decide) (by decide)) ha (zm h2)) rfl
  ·exact both (vH B (z6 S T h4 ko (by decide) (by decide)) ha (zm h2)) rfl
  ·exact both (vH B (z6 S T h4 Qs (by decide) (by decide)) ha (zm h2)) rfl
  ·exact both (vH B (z6 S T h4 wJ (by decide) (by decide)) ha (zm h2)) rfl
  ·exact both (vH B (z6 S T h4 zay (by decide) (by decide)) ha (zm h2)) rfl
 ·cases h
theorem ZD(a:IE)(lo hi:IP)(ih_a:QE cf W a)(ih_lo:QP cf W lo)(ih_hi:QP cf W hi):QE cf W (.cutT a lo hi):=by
 lia
 conv at h=>lhs;whnf
 split at h
 next x l u p q eu=>
  cases zbr eu
  simp only[xa]at h
  obtain⟨⟨h1,h2⟩,h3⟩:=h
  exact both (zfD (ih_a S T x h1).1 (ih_lo S T l h2) (ih_hi S T u h3)) rfl
 ·cases h
theorem ZA(o:IO)(ih_o:QO cf W o):QE cf W (.call o):=by
 lia
 replace h:=xK.mp h
 try simp only[xa]at h
 exact both (ih_o S T e h.2).se h.1
theorem J7(a:IL)(ih_a:QL cf W a):QN cf W (.lst a):=by
 ext ⟨es,p⟩ zbv
 exact⟨ziD (ih_a S T es h),λ_=>vg (λ_ _ _ _ q=>nomatch q)⟩
theorem J6(a b:IE)(ih_a:QE cf W a)(ih_b:QE cf W b):QN cf W (.cat a b):=by
 ext ⟨x,op,y,p⟩ wC
 simp only[xa,x0]at h
 obtain⟨⟨h0,h1⟩,h2⟩:=h
 cases h0
 exact⟨ziC (ih_a S T x h1).1 (ih_b S T y h2).1,λ_=>vg (λ_ _ _ _ q=>nomatch q)⟩
theorem ZW(a:IE)(ih_a:QE cf W a):QN cf W (.list a):=by
 lia
 conv at h=>lhs;whnf
 split at h
 next f p x q eu=>
  cases zP eu
  simp only[xa]at h
  obtain⟨⟨h1,h2⟩,h3⟩:=h
  exact⟨zfV (z6 S T h1 Qs (by decide) (by decide)) (ih_a S T x h3).1 (zm h2),λ_=>vg (λ_ _ _ _ q=>nomatch q)⟩
 ·cases h
theorem ZV(n kk:Nat)(ix:Ac)(N':Ab)(t:IT)(src:II)(c:IC)(el:IE)(ih_src:QI cf W src)(ih_c:QC cf W c)(ih_el:QE cf W el):QN cf W (.comp n kk ix N' t src c el):=by
 lia
 conv at h=>lhs;whnf
 split at h
 next elt tg iter ifs scope p eu=>
  cases zdU eu
  simp only[xa,x0]at h
  obtain⟨⟨⟨⟨⟨⟨⟨⟨h1,h3⟩,h4⟩,h5⟩,h6⟩,h7⟩,h8⟩,h9⟩,h10⟩:=h
  subst h1
  have C0:=CSc.of h3
  have C1:=zb0 S C0
  have hm:∀ j i:Nat,ix[j]?=some i->∃ m,mp[i]?=some m/\m<n:=λj i e=>by
   have:=xI.mp h5 i (uk e)
   split at this
   ·rename_i q eq;exact⟨q,eq,by simpa using this⟩
   ·cases this
  have hi:=ih_src S T tg iter h7
  have hg:∀ σ cl C s2 H2 fp,Cat X σ C s2 H2 fp->SG ⋯ (mpC mp n kk ix) (·<n) tg t:=λσ cl C s2 H2 fp cat=>Jn (XSc.comp C0 cl C s2 H2 fp) C0.nd h4 T.calm (λi h=>by omega) t tg h8
  have hc:∀ σ cl C s2 H2 fp,Cat X σ C s2 H2 fp->SF ⋯ (XPc XP σ) (mpC mp n kk ix) ifs (c.ev cf):=λσ cl C s2 H2 fp cat=>ih_c (XSc.comp C0 cl C s2 H2 fp) (T.comp cat) ifs h9
  have he:∀ σ cl C s2 H2 fp,Cat X σ C s2 H2 fp->SE ⋯ (XPc XP σ) (mpC mp n kk ix) elt (el.ev cf).1:=λσ cl C s2 H2 fp cat=>(ih_el (XSc.comp C0 cl C s2 H2 fp) (T.comp cat) elt h10).1
  refine⟨zfU T.calm C1 hm hi hg hc he (jM h6),λ_ a b c' d q=>?_⟩
  cases q
  exact⟨tg,iter,ifs,N',kk,ix,rfl,C1,jM h6,YD C1 hm hi hg hc he⟩
 ·cases h
theorem ZR(a:IE)(ih_a:QE cf W a):QI cf W (.list a):=by
 intro X XP k sc N mp m S T tg e h
 exact zfR (ih_a S T e h).1
theorem J1(a:IE)(ih_a:QE cf W a):QI cf W (.tup a):=by
 intro X XP k sc N mp m S T tg e h
 exact ziy (ih_a S T e h).1
theorem jJ(a:IE)(ih_a:QE cf W a):QI cf W (.range a):=by
 intro X XP k sc N mp m S T tg e h
 conv at h=>lhs;whnf
 split at h
 next f p x q eu=>
  cases zP eu
  simp only[xa]at h
  obtain⟨⟨h1,h2⟩,h3⟩:=h
  have ef:f= "range" :=by
   unfold biB at h1
   simp only[xa,x0]at h1
   exact h1.1.1
  exact zds (z6 S T h1 y4 (by decide) (by decide)) ef (ih_a S T x h3).1 (zm h2)
 ·cases h
theorem ZQ(a:IE)(ih_a:QE cf W a):QI cf W (.enum a):=by
 intro X XP k sc N mp m S T tg e h
 conv at h=>lhs;whnf
 split at h
 next f p x q eu=>
  cases zP eu
  simp only[xa]at h
  obtain⟨⟨⟨h0,h1⟩,h2⟩,h3⟩:=h
  have ef:f= "enumerate" :=by
   unfold biB at h1
   simp only[xa,x0]at h1
   exact h1.1.1
  cases tg with
  |Tuple es x1 pt=>exact zfQ (z6 S T h1 L2.boot_enumW (by decide) (by decide)) ef (ih_a S T x h3).1 (zm h2)
  |_=>cases h0
 ·cases h
theorem J9(a:IE)(ih_a:QE cf W a):QO cf W (.dat a):=by
 lia
 exact (ih_a S T e h).1.so
theorem wa(n:IN)(ih_n:QN cf W n):QO cf W (.own n):=by
 lia
 exact (ih_n S T e h).1.so
theorem ZX(g:Str)(n:Nat)(a:IA)(ih_a:QA cf W a):QO cf W (.call g n a):=by
 lia
 conv at h=>lhs;whnf
 split at h
 next f p xs q eu=>
  cases Jt eu
  simp only[xa,x0]at h
  obtain⟨⟨⟨⟨⟨h1,h2⟩,h3⟩,h4⟩,h5⟩,h6⟩:=h
  subst h1
  obtain⟨kn,hrun⟩:=T.fn _ _ h3
  cases xs with
  |nil=>
   cases a with
   |nil=>exact zdw T.px kn (Room.atk T) (S.glo _ h2) hrun (Ze h4)
   |cons _ _=>cases h6
   |io _ _ _=>cases h6
   |tmp _=>cases h6
  |cons x xs=>
   rw[ur,xa]at h5
   exact zfW T.px kn (Room.atk T) (S.glo _ h2) hrun (ih_a S T (x::xs) h6) (Ze h4) (zm h5.1) (qu (Zu h5.2))
 ·cases h
theorem Z2(s i:Nat):QO cf W (.move s i):=by
 ext ⟨x,p⟩ zo
 have n:=jN S h
 exact zfZ n.hN n.hv n.hm n.hd n.hcd
theorem ZN(a:IE)(ih_a:QE cf W a):QE cf W (.lset a):=by
 lia
 conv at h=>lhs;whnf
 split at h
 next f p x q eu=>
  split at h
  next g p2 y q2 eu2=>
   cases zP eu
   cases zP eu2
   simp only[xa]at h
   obtain⟨⟨⟨h1,h2⟩,h3⟩,h4⟩:=h
   have ef:f= "len" :=by
    unfold biB at h1
    simp only[xa,x0]at h1
    exact h1.1.1
   have eg:g= "set" :=by
    unfold biB at h2
    simp only[xa,x0]at h2
    exact h2.1.1
   subst ef eg
   have B1:=z6 S T h1 js (by decide) (by decide)
   have B2:=z6 S T h2 JC (by decide) (by decide)
   exact both (zfL T.calm B1.gl B1.mg B2.gl B2.mg (ih_a S T y h4).1 (zm h3)) rfl
  ·cases h
 ·cases h
theorem jw(a:IE)(ih_a:QE cf W a):QE cf W (.lsetS a):=by
 lia
 conv at h=>lhs;whnf
 split at h
 next f p x q eu=>
  split at h
  next g p2 y q2 eu2=>
   cases zP eu
   cases zP eu2
   simp only[xa]at h
   obtain⟨⟨⟨h1,h2⟩,h3⟩,h4⟩:=h
   have ef:f= "len" :=by
    unfold biB at h1
    simp only[xa,x0]at h1
    exact h1.1.1
   have eg:g= "set" :=by
    unfold biB at h2
    simp only[xa,x0]at h2
    exact h2.1.1
   subst ef eg
   have B1:=z6 S T h1 js (by decide) (by decide)
   have B2:=z6 S T h2 JC (by decide) (by decide)
   exact both (zdl T.calm B1.gl B1.mg B2.gl B2.mg (ih_a S T y h4).1 (zm h3)) rfl
  ·cases h
 ·cases h
theorem J3:QL cf W .nil:=by
 intro X XP k sc N mp m S T es h
 cases es with
 |nil=>exact ziA
 |cons _ _=>cases h
theorem ZS(e:IE)(a:IL)(ih_e:QE cf W e)(ih_a:QL cf W a):QL cf W (.cons e a):=by
 intro X XP k sc N mp m S T es h
 cases es with
 |nil=>cases h
 |cons x xs=>
  replace h:=xK.mp h
  try simp only[xa]at h
  obtain⟨⟨h1,h2⟩,h3⟩:=h
  exact zfT (ih_e S T x h2).1 (ih_a S T xs h3) (zm h1)
theorem JD:QA cf W .nil:=by
 intro X XP k sc N mp m S T es h
 cases es with
 |nil=>exact zig
 |cons _ _=>cases h
theorem Zy(e:IE)(a:IA)(ih_e:QE cf W e)(ih_a:QA cf W a):QA cf W (.cons e a):=by
 intro X XP k sc N mp m S T es h
 cases es with
 |nil=>cases h
 |cons x xs=>
  replace h:=xK.mp h
  try simp only[xa]at h
  obtain⟨⟨h1,h2⟩,h3⟩:=h
  exact zfx (ih_e S T x h2).1 (ih_a S T xs h3) (zm h1)
theorem Vl(s i:Nat)(a:IA)(ih_a:QA cf W a):QA cf W (.io s i a):=by
 intro X XP k sc N mp m S T es h
 cases es with
 |nil=>cases h
 |cons e xs=>
  replace h:=xK.mp h
  try simp only[xa]at h
  obtain⟨⟨x,p⟩,eu,h1⟩:=zd h.1
  cases zo eu
  have n:=jN S h1
  exact zjM n.hN n.hv n.hm n.hd n.hcd (ih_a S T xs h.2) rfl
theorem JE(n:IN)(ih_n:QN cf W n):QA cf W (.tmp n):=by
 intro X XP k sc N mp m S T es h
 match es,h with
 |[],h=>nomatch h
 |[x],h=>
  replace h:=xK.mp h
  try simp only[xa]at h
  exact zih (ih_n S T x h.2).1 (zm h.1)
 |_::_::_,h=>nomatch h
theorem wb:QP cf W .non:=by
 lia
 cases e with
 |none=>exact zf0
 |some _=>cases h
theorem wc(a:IE)(ih_a:QE cf W a):QP cf W (.one a):=by
 lia
 cases e with
 |none=>cases h
 |some x=>exact zf1 (ih_a S T x h).1
theorem JG:QC cf W .yes:=by
 intro X XP k sc N mp m S T es h
 cases es with
 |nil=>exact ziv
 |cons _ _=>cases h
theorem JF(a:IE)(ih_a:QE cf W a):QC cf W (.one a):=by
 intro X XP k sc N mp m S T es h
 match es,h with
 |[],h=>nomatch h
 |[x],h=>exact ziw (ih_a S T x h).2
 |_::_::_,h=>nomatch h
theorem JV(a b:IE)(ih_a:QE cf W a)(ih_b:QE cf W b):QE cf W (.sin a b):=by
 intro X XP k sc N mp m S T e g0
 obtain⟨⟨x,ops,ys,p⟩,eu,g1⟩:=zd g0
 clear g0
 cases jW eu
 obtain⟨op',eo,h⟩:=zd g1
 clear g1
 cases zE eo
 obtain⟨y,ey,h⟩:=zd h
 cases zE ey
 simp only[xa,x0]at h
 obtain⟨⟨⟨h1,h2⟩,h3⟩,h4⟩:=h
 subst h1
 have ha:=(ih_a S T x h3).1
 have hb:=(ih_b S T y h4).1
 exact⟨yL zdt ha hb (ql .In h2),yP zdt ha hb (ql .In h2)⟩
theorem ZP(a:IE)(ih_a:QE cf W a):QE cf W (.slen a):=by
 lia
 conv at h=>lhs;whnf
 split at h
 next f p x q eu=>
  cases zP eu
  simp only[xa]at h
  obtain⟨⟨h1,h2⟩,h3⟩:=h
  exact both (zac zeI (z6 S T h1 js (by decide) (by decide)) (ih_a S T x h3).1 (zm h2)) rfl
 ·cases h
theorem ZM(z:Str)(a:IE)(ih_a:QE cf W a):QE cf W (.join z a):=by
 ext ⟨z',j,p1,nm,p2,x,q⟩ zdT
 simp only[xa,x0]at h
 obtain⟨⟨⟨⟨h1,h2⟩,h3⟩,h4⟩,h5⟩:=h
 subst h1
 exact both (zfK h2 (ih_a S T x h5).1 (zm h3) h4) rfl
theorem JW(a b:IE)(ih_a:QE cf W a)(ih_b:QE cf W b):QE cf W (.six a b):=by
 ext ⟨x,y,p⟩ qk
 simp only[xa]at h
 obtain⟨⟨h1,h2⟩,h3⟩:=h
 exact both (zir (ih_a S T x h2).1 (ih_b S T y h3).1 (vz h1)) rfl
theorem J2:QJ cf W .nil:=by
 lia
 cases e with
 |nil=>exact ziz
 |cons _ _=>exact Bool.noConfusion (show false=true from h)
theorem jz(a:IE)(ih_a:QE cf W a):QI cf W (.chars a):=by
 intro X XP k sc N mp m S T tg e h
 exact zdr (ih_a S T e h).1
theorem VA(T:XW X XP cf W k):X.A.units+1<cLine:=by have:=T.rm.units;omega
theorem ze7(h:qE e=true):zeg e:=λo i=>by
 cases e<;>first | rfl | (cases h)
theorem Qy(S:XSc X sc N)(T:XW X XP cf W k)(h:yw W sc N mp s i c f e=true):∃ x p p2,e=.Attribute (.Name x p) f p2/\NmK X mp s i x/\Ww X c f:=by
 unfold yw at h
 obtain⟨⟨x,p,g,p2⟩,eu,h⟩:=zd h
 simp only[xa,x0]at h
 obtain⟨⟨h1,h2⟩,h3⟩:=h
 subst h2
 exact⟨x,p,p2,zdS eu,jN S h1,T.fk _ _ h3⟩
theorem zeT(h:es.all zl=true)(hl:es.length<20):methodCallForm (es.length+0) (backTo pos (starEach es env)) (backToKw pos (keywordEach [] env))=true:=by
 have h1:=qu (pos:=pos) (Zu (env:=env) h)
 have h2:(backTo pos (starEach es env)).all (!·.1)=true:=by
  rw[List.any_eq_false]at h1
  rw[xI]
  intro x hx
  have:=h1 x hx
  simpa using this
 unfold methodCallForm
 rw[h2]
 show (true&&true&&decide _)=true
 simp only[Bool.and_self,Bool.true_and,x0]
 show es.length+0+0<30
 omega
theorem zgC{x m:Str}(h:zl b=true)(hl:(p2.endLine==q.line)=true):M1 X (.Name x p) m p2 b q:=⟨rfl,by rw[zm h];rfl,hl,by rw[zm h];rfl⟩
theorem zjP:SE X XP mp e fNoV:=λM0 F Γ ν σ H Q rs hs hp=>hp.elim
theorem zgI:ST X XP mp e fNo:=λM0 F Γ ν σ H Q rs hs hp=>hp.elim
theorem kq:bootBuiltins "dict" =some (.type "dict"):=by decide +kernel
theorem ZE(a b:IE)(ih_a:QE cf W a)(ih_b:QE cf W b):QE cf W (.dget a b):=by
 ext ⟨x,y,p⟩ qk
 simp only[xa]at h
 obtain⟨⟨h1,h2⟩,h3⟩:=h
 exact both (zfE (VA T) (ih_a S T x h2).1 (ih_b S T y h3).1 (ze7 h1)) rfl
theorem JN(a b:IE)(ih_a:QE cf W a)(ih_b:QE cf W b):QE cf W (.din a b):=by
 intro X XP k sc N mp m S T e g0
 obtain⟨⟨x,ops,ys,p⟩,eu,g1⟩:=zd g0
 clear g0
 cases jW eu
 obtain⟨op',eo,h⟩:=zd g1
 clear g1
 cases zE eo
 obtain⟨y,ey,h⟩:=zd h
 cases zE ey
 simp only[xa,x0]at h
 obtain⟨⟨⟨h1,h2⟩,h3⟩,h4⟩:=h
 subst h1
 have ha:=(ih_a S T x h3).1
 have hb:=(ih_b S T y h4).1
 exact⟨yL (zb7 (VA T)) ha hb (ql .In h2),yP (zb7 (VA T)) ha hb (ql .In h2)⟩
theorem ZF(a b:IE)(ih_a:QE cf W a)(ih_b:QE cf W b):QE cf W (.dnin a b):=by
 intro X XP k sc N mp m S T e g0
 obtain⟨⟨x,ops,ys,p⟩,eu,g1⟩:=zd g0
 clear g0
 cases jW eu
 obtain⟨op',eo,h⟩:=zd g1
 clear g1
 cases zE eo
 obtain⟨y,ey,h⟩:=zd h
 cases zE ey
 simp only[xa,x0]at h
 obtain⟨⟨⟨h1,h2⟩,h3⟩,h4⟩:=h
 subst h1
 have ha:=(ih_a S T x h3).1
 have hb:=(ih_b S T y h4).1
 exact⟨yL (KK (VA T)) ha hb (ql .NotIn h2),yP (KK (VA T)) ha hb (ql .NotIn h2)⟩
theorem Zz(c f:Str)(a:IE)(ih_a:QE cf W a):QE cf W (.attr c f a):=by
 ext ⟨x,g,p⟩ jV
 simp only[xa,x0]at h
 obtain⟨⟨⟨h1,h2⟩,h3⟩,h4⟩:=h
 subst h1
 exact both (zfB (T.fk _ _ h2) (ih_a S T x h4).1 (Jb h3)) rfl
theorem ZO(n:IM)(ih_n:QM cf W n):QE cf W (.newD n):=by
 lia
 exact⟨(ih_n S T e h).1.se,zgI⟩
theorem ZG(s i:Nat)(c f:Str):QE cf W (.fdat s i c f):=by
 lia
 obtain⟨x,p,p2,rfl,n,K⟩:=Qy S T h
 exact both (zfF n K) rfl
theorem ZI(s i:Nat)(c f:Str):QE cf W (.flen s i c f):=by
 lia
 conv at h=>lhs;whnf
 split at h
 next g p x q eu=>
  cases zP eu
  simp only[xa]at h
  obtain⟨h1,h2⟩:=h
  obtain⟨x,p,p2,rfl,n,K⟩:=Qy S T h2
  exact both (zfH (z6 S T h1 js (by decide) (by decide)) n K) rfl
 ·cases h
theorem ZJ(s i:Nat)(c f:Str):QE cf W (.ftru s i c f):=by
 lia
 obtain⟨x,p,p2,rfl,n,K⟩:=Qy S T h
 exact⟨zjP,zga n K⟩
theorem jv(s i:Nat)(c f:Str):QE cf W (.flast s i c f):=by
 ext ⟨x,y,p⟩ qk
 simp only[xa]at h
 obtain⟨h1,h2⟩:=h
 obtain⟨x,p,p2,rfl,n,K⟩:=Qy S T h1
 unfold zka at h2
 obtain⟨⟨op,z,q⟩,ez,g2⟩:=zd h2
 clear h2
 cases YT ez
 simp only[xa,x0]at g2
 obtain⟨g2,g3⟩:=g2
 obtain⟨⟨cc,j,q2⟩,ec,g4⟩:=zd g3
 clear g3
 cases qC ec
 obtain⟨w,ew,g5⟩:=zd g4
 clear g4
 cases WH ew
 cases Xh g5
 subst g2
 exact both (zdk n K) rfl
theorem ZH(s i:Nat)(c f:Str):QE cf W (.ffrz s i c f):=by
 lia
 obtain⟨x,p,p2,rfl,n,K⟩:=Qy S T h
 exact⟨zfG n K,zgI⟩
theorem J8(a b:IE)(ih_a:QE cf W a)(ih_b:QE cf W b):QN cf W (.mul a b):=by
 ext ⟨x,op,y,p⟩ wC
 simp only[xa,x0]at h
 obtain⟨⟨h0,h1⟩,h2⟩:=h
 cases h0
 exact⟨ziE (ih_a S T x h1).1 (ih_b S T y h2).1,λ_=>vg (λ_ _ _ _ q=>nomatch q)⟩
theorem jK(a:IE)(ih_a:QE cf W a):QN cf W (.sortD a):=by
 lia
 conv at h=>lhs;whnf
 split at h
 next f p x q eu=>
  cases zP eu
  simp only[xa]at h
  obtain⟨⟨h1,h2⟩,h3⟩:=h
  exact⟨zdu T.calm (z6 S T h1 ya (by decide) (by decide)) (ih_a S T x h3).1 (zm h2),λ_=>vg (λ_ _ _ _ q=>nomatch q)⟩
 ·cases h
theorem J4:QM cf W .nil:=by
 ext ⟨ks,vs,p⟩ YS
 simp only[xa,List.isEmpty_iff]at h
 obtain⟨rfl,rfl⟩:=h
 exact⟨zik,λ_ _ _ _ _ _ q=>nomatch q⟩
theorem J5(a b:IE)(ih_a:QE cf W a)(ih_b:QE cf W b):QM cf W (.one a b):=by
 intro X XP k sc N mp m S T e g0
 obtain⟨⟨ks,vs,p⟩,eu,g1⟩:=zd g0
 clear g0
 cases YS eu
 obtain⟨kx,ek,g2⟩:=zd g1
 clear g1
 cases zE ek
 obtain⟨x,ex,g3⟩:=zd g2
 clear g2
 cases ex
 obtain⟨y,ey,h⟩:=zd g3
 clear g3
 cases zE ey
 rw[xa]at h
 exact⟨zil (ih_a S T x h.1).1 (ih_b S T y h.2).1,λ_ _ _ _ _ _ q=>nomatch q⟩
theorem ZU(a:IE)(ih_a:QE cf W a):QM cf W (.copy a):=by
 lia
 conv at h=>lhs;whnf
 split at h
 next f p x q eu=>
  cases zP eu
  simp only[xa]at h
  obtain⟨⟨h1,h2⟩,h3⟩:=h
  exact⟨zfA (z6 S T h1 kq (by decide) (by decide)) (ih_a S T x h3).1 (zm h2),λ_ _ _ _ _ _ q=>nomatch q⟩
 ·cases h
theorem ZT(n kk:Nat)(ix:Ac)(N':Ab)(t:IT)(src:IG)(c:IC)(ek ev:IE)(ih_src:QG cf W src)(ih_c:QC cf W c)(ih_ek:QE cf W ek)(ih_ev:QE cf W ev):QM cf W (.comp n kk ix N' t src c ek ev):=by
 lia
 conv at h=>lhs;whnf
 split at h
 next kx vx tg iter ifs scope p eu=>
  cases zdQ eu
  simp only[xa,x0]at h
  obtain⟨⟨⟨⟨⟨⟨⟨⟨⟨h1,h3⟩,h4⟩,h5⟩,h6⟩,h7⟩,h8⟩,h9⟩,h10⟩,h11⟩:=h
  subst h1
  have C0:=CSc.of h3
  have C1:=zb0 S C0
  have hm:∀ j i:Nat,ix[j]?=some i->∃ m,mp[i]?=some m/\m<n:=λj i e=>by
   have:=xI.mp h5 i (uk e)
   split at this
   ·rename_i q eq;exact⟨q,eq,by simpa using this⟩
   ·cases this
  have hi:=ih_src S T tg iter h7
  have hg:∀ σ cl C s2 H2 fp,Cat X σ C s2 H2 fp->SG ⋯ (mpC mp n kk ix) (·<n) tg t:=λσ cl C s2 H2 fp cat=>Jn (XSc.comp C0 cl C s2 H2 fp) C0.nd h4 T.calm (λi h=>by omega) t tg h8
  have hc:∀ σ cl C s2 H2 fp,Cat X σ C s2 H2 fp->SF ⋯ (XPc XP σ) (mpC mp n kk ix) ifs (c.ev cf):=λσ cl C s2 H2 fp cat=>ih_c (XSc.comp C0 cl C s2 H2 fp) (T.comp cat) ifs h9
  have hk:∀ σ cl C s2 H2 fp,Cat X σ C s2 H2 fp->SE ⋯ (XPc XP σ) (mpC mp n kk ix) kx (ek.ev cf).1:=λσ cl C s2 H2 fp cat=>(ih_ek (XSc.comp C0 cl C s2 H2 fp) (T.comp cat) kx h10).1
  have hv:∀ σ cl C s2 H2 fp,Cat X σ C s2 H2 fp->SE ⋯ (XPc XP σ) (mpC mp n kk ix) vx (ev.ev cf).1:=λσ cl C s2 H2 fp cat=>(ih_ev (XSc.comp C0 cl C s2 H2 fp) (T.comp cat) vx h11).1
  refine⟨zfz T.calm C1 hm hi.1 hg hc hk hv (jM h6),λhp a b c' d e' q=>?_⟩
  cases q
  cases src with
  |std b=>exact⟨tg,iter,ifs,N',kk,ix,rfl,C1,jM h6,zdh C1 hm (hi.2 b rfl) hg hc hk hv⟩
  |_=>cases hp
 ·cases h
theorem J0(b:II)(ih_b:QI cf W b):QG cf W (.std b):=by
 intro X XP k sc N mp m S T tg e h
 have h':=ih_b S T tg e h
 exact⟨zfS h',λb' q=>by cases q;exact h'⟩
theorem jy(a:IE)(ih_a:QE cf W a):QG cf W (.items a):=by
 intro X XP k sc N mp m S T tg e h
 obtain⟨⟨o,g,p2,xs,p⟩,eu,h⟩:=zd h
 simp only[xa,x0,List.isEmpty_iff]at h
 obtain⟨⟨⟨⟨⟨h1,h2⟩,h3⟩,h4⟩,h5⟩,h6⟩:=h
 subst h2 h3
 cases vP eu
 refine⟨zbj ?_ (ih_a S T o h6).1 (Jb h5) h4,λb' q=>nomatch q⟩
 cases tg with
 |Tuple es x1 pt=>exact⟨_,_,_,rfl⟩
 |_=>cases h1
theorem Z3(n:IM)(ih_n:QM cf W n):QO cf W (.ownD n):=by
 lia
 exact (ih_n S T e h).1.so
theorem ZY(c q:Str)(n:Nat)(a:IA)(ih_a:QA cf W a):QO cf W (.make c q n a):=by
 lia
 conv at h=>lhs;whnf
 split at h
 next g p xs pq eu=>
  cases Jt eu
  simp only[xa,x0]at h
  obtain⟨⟨⟨⟨⟨⟨h1,h2⟩,h3⟩,h4⟩,h5⟩,h6⟩,h7⟩:=h
  subst h1
  cases xs with
  |nil=>cases h5
  |cons x xs=>
   obtain⟨hm,⟨j,hj,kn⟩,hrun⟩:=T.mc _ _ _ h3
   rw[ur,xa]at h6
   exact zfX T.px kn (T.rm.mono hj) (S.glo _ h2) hm hrun (ih_a S T (x::xs) h7) (Ze h4) (zm h6.1) (qu (Zu h6.2))
 ·cases h
theorem ZZ(s i:Nat)(c mt q:Str)(n:Nat)(a:IA)(ih_a:QA cf W a):QO cf W (.meth s i c mt q n a):=by
 lia
 obtain⟨⟨o,g,p2,xs,p⟩,eu,h⟩:=zd h
 obtain⟨⟨x,px⟩,ex,h⟩:=zd h
 simp only[xa,x0]at h
 obtain⟨⟨⟨⟨⟨⟨h1,h2⟩,h3⟩,h4⟩,h5⟩,h6⟩,h7⟩:=h
 subst h1
 cases vP eu
 cases zo ex
 obtain⟨kn,hrun⟩:=T.ml _ _ _ _ h3
 cases xs with
 |nil=>
  cases a with
  |nil=>exact zdx T.px kn T.rm hrun (jN S h2) h4
  |cons _ _=>cases h7
  |io _ _ _=>cases h7
  |tmp _=>cases h7
 |cons y ys=>
  have h5':=h5
  rw[ur,xa]at h5'
  exact zfY T.px kn T.rm hrun (jN S h2) (ih_a S T (y::ys) h7) (zm h5'.1) (qu (Zu h5'.2)) (zeT h5 h6) h4
section
set_option hygiene false in
section
set_option hygiene false in
local macro_rules
  | `(sndR $f)=>do
    let t←`($f (motive_1:=QE cf W) (motive_2:=QL cf W) (motive_3:=QA cf W) (motive_4:=QN cf W) (motive_5:=QP cf W) (motive_6:=QI cf W) (motive_7:=QC cf W) (motive_8:=QO cf W) (motive_9:=QJ cf W) (motive_10:=QM cf W) (motive_11:=QG cf W))
    return Lean.Syntax.mkApp t (("JY JO ZB ZC jt ZK ZL JX JT JL JM ju JU JJ Vn JR Vm JS JP JH JK jx JQ ZD ZA ZN jw JV ZP ZM JW ZE JN ZF Zz ZO ZG ZI ZJ jv ZH J3 ZS JD Zy Vl JE J7 J6 ZW ZV J8 jK wb wc ZR J1 jJ ZQ jz JG JF J9 wa ZX Z2 Z3 ZY ZZ J2 J4 J5 ZU ZT J0 jy".splitOn " ").toArray.map fun s=>Lean.mkIdent s.toName)
theorem Zc(cf:CF)(W:Wd):∀ a,QE cf W a:=sndR IE.rec
theorem zjS(cf:CF)(W:Wd):∀ a,QA cf W a:=sndR IA.rec
theorem zjV(cf:CF)(W:Wd):∀ a,QN cf W a:=sndR IN.rec
theorem zjT(cf:CF)(W:Wd):∀ a,QI cf W a:=sndR II.rec
theorem zdv(cf:CF)(W:Wd):∀ a,QO cf W a:=sndR IO.rec
theorem zjU(cf:CF)(W:Wd):∀ a,QM cf W a:=sndR IM.rec
end
end
end
mutual
/-- what may stand in a try -/
inductive IQ where
 |asg (s i:Nat) (o:IO)
 |expr (e:IE)
 |ite (c:IE) (a b:IQs)
inductive IQs where
 |nil
 |cons (q:IQ) (b:IQs)
end
set_option genSizeOfSpec false
set_option genInjectivity false
mutual
inductive IS where
 |pass
 |bad
 |asg (s i:Nat) (o:IO)
 |asgT (t:IT) (e:IE)
 |expr (e:IE)
 |ite (c:IE) (a b:IB)
 |loop (t:IT) (src:II) (b:IB)
 |ret (o:IO)
 |app (s i:Nat) (e:IE)
 |set (s i:Nat) (ie ve:IE)
 |raise (x:Str)
 |star (s i t j:Nat) (e:IE)
 |fset (s i:Nat) (c f:Str) (o:IO)
 |fapp (s i:Nat) (c f:Str) (z:IZ)
 |dupd (s i:Nat) (e:IE)
 |dput (s i:Nat) (ke ve:IE)
 |dpop (s i:Nat) (ke:IE)
inductive IB where
 |nil
 |cons (s:IS) (b:IB)
 |disp (s i:Nat) (x:Str) (kf:List (Str×Str)) (n:Nat) (e:IE) (a:IA)
end
set_option genSizeOfSpec true
set_option genInjectivity true
mutual
noncomputable def IQ.ex(cf:CF)(io:Ac):IQ->SM
 |.asg _ i o=>sAsg io i (o.ev cf)
 |.expr e=>sExpr (e.ev cf).1
 |.ite c a b=>sIf (c.ev cf).2 (a.ex cf io) (b.ex cf io)
noncomputable def IQs.ex(cf:CF)(io:Ac):IQs->SM
 |.nil=>sNext
 |.cons s .nil=>s.ex cf io
 |.cons s b=>sSeq (s.ex cf io) (b.ex cf io)
end
mutual
noncomputable def IS.ex(cf:CF)(io:Ac):IS->SM
 |.pass=>sNext
 |.bad=>zjK
 |.asg _ i o=>sAsg io i (o.ev cf)
 |.asgT t e=>sAsgT t (e.ev cf).1
 |.expr e=>sExpr (e.ev cf).1
 |.ite c a b=>sIf (c.ev cf).2 (a.ex cf io) (b.ex cf io)
 |.loop t src b=>sFor t (src.ev cf) (b.ex cf io)
 |.ret o=>sRet (o.ev cf)
 |.app _ i e=>sApp i (e.ev cf).1
 |.set _ i ie ve=>sSet i (ie.ev cf).1 (ve.ev cf).1
 |.raise x=>sRaise x
 |.star _ i _ j e=>sStar io i j (e.ev cf).1
 |.fset _ i c f o=>sFset i c f (o.ev cf)
 |.fapp _ i c f z=>sFapp i c f z
 |.dupd _ i e=>sDupd i (e.ev cf).1
 |.dput _ i ke ve=>VR i (ke.ev cf).1 (ve.ev cf).1
 |.dpop _ i ke=>zdf i (ke.ev cf).1
noncomputable def IB.ex(cf:CF)(io:Ac):IB->SM
 |.nil=>sNext
 |.cons s .nil=>s.ex cf io
 |.cons s b=>sSeq (s.ex cf io) (b.ex cf io)
 |.disp _ i _ kf _ e a=>sDisp io kf cf i (e.ev cf).1 (a.ev cf)
end
noncomputable def Wn:IO->Option IN
 |.own n=>some n
 |.dat (.new n)=>some n
 |_=>none
noncomputable def Ja:IO->Option IM
 |.ownD n=>some n
 |.dat (.newD n)=>some n
 |_=>none
noncomputable def zbO(o:IO):Expr->Bool
 |.ListComp .. =>okO (Wn o) IN.plain
 |.SetComp .. =>false
 |.DictComp .. =>okO (Ja o) IM.plain
 |_=>true
noncomputable def zd2(e:Stmt):Option Pos:=unG Stmt.ctorIdx (λa=>.Pass a) e 25 λh=>Stmt.Pass.elim e h λp=>⟨p,rfl⟩
noncomputable def wF(e:Stmt):Option (Expr×Pos):=unG Stmt.ctorIdx (λa=>.Expr a.1 a.2) e 24 λh=>Stmt.Expr.elim e h λx p=>⟨(x,p),rfl⟩
noncomputable def zi0(e:Stmt):Option (Expr×List Stmt×List Stmt×Pos):=unG Stmt.ctorIdx (λa=>.If a.1 a.2.1 a.2.2.1 a.2.2.2) e 12 λh=>Stmt.If.elim e h λx xs ys p=>⟨(x,xs,ys,p),rfl⟩
noncomputable def zgR(e:Stmt):Option (Expr×Expr×List Stmt×List Stmt×Pos):=unG Stmt.ctorIdx (λa=>.For a.1 a.2.1 a.2.2.1 a.2.2.2.1 a.2.2.2.2) e 9 λh=>Stmt.For.elim e h λtg it b e p=>⟨(tg,it,b,e,p),rfl⟩
noncomputable def zd3(e:Stmt):Option (Option Expr×Pos):=unG Stmt.ctorIdx (λa=>.Return a.1 a.2) e 3 λh=>Stmt.Return.elim e h λx p=>⟨(x,p),rfl⟩
noncomputable def zd0(e:Stmt):Option (Ag×Expr×Pos):=unG Stmt.ctorIdx (λa=>.Assign a.1 a.2.1 a.2.2) e 5 λh=>Stmt.Assign.elim e h λts e p=>⟨(ts,e,p),rfl⟩
theorem Kx(h:zd2 e=some p):e=.Pass p:=(zv h :)
theorem QX(h:wF e=some (x,p)):e=.Expr x p:=(zv h :)
theorem zd1(h:zi0 e=some (x,xs,ys,p)):e=.If x xs ys p:=(zv h :)
theorem zbz(h:zgR e=some (x,y,xs,ys,p)):e=.For x y xs ys p:=(zv h :)
theorem VW(h:zd3 e=some (x,p)):e=.Return x p:=(zv h :)
theorem zby(h:zd0 e=some (ts,x,p)):e=.Assign ts x p:=(zv h :)
noncomputable def YQ(s:Stmt):Option (Str×Pos×Str×Pos×Ag×Pos×Pos):=(wF s).bind λ(e,q2)=>(zgk e).map λ(x,p,f,p2,xs,q)=>(x,p,f,p2,xs,q,q2)
theorem wB{st:Stmt}(h:YQ st=some (x,p,f,p2,xs,q,q2)):st=.Expr (.Call (.Attribute (.Name x p) f p2) xs [] q) q2:=by
 unfold YQ at h
 cases e1:wF st with
 |none=>rw[e1]at h;cases h
 |some z=>
  obtain⟨e,q3⟩:=z
  cases e2:zgk e with
  |none=>simp[e1,e2]at h
  |some z=>
   obtain⟨a1,a2,a3,a4,a5,a6⟩:=z
   simp[e1,e2]at h
   obtain⟨rfl,rfl,rfl,rfl,rfl,rfl,rfl⟩:=h
   rw[QX e1,zdW e2]
noncomputable def Jr(s:Stmt):Option (Expr×Expr×Pos):=(zd0 s).bind λ(ts,e,q)=>(qI ts).map λt=>(t,e,q)
theorem qB{st:Stmt}(h:Jr st=some (t,e,q)):st=.Assign [t] e q:=by
 unfold Jr at h
 cases e1:zd0 st with
 |none=>rw[e1]at h;cases h
 |some z=>
  obtain⟨ts,e',q'⟩:=z
  cases e2:qI ts with
  |none=>simp[e1,e2]at h
  |some t'=>
   simp[e1,e2]at h
   obtain⟨rfl,rfl,rfl⟩:=h
   rw[zby e1,zE e2]
noncomputable def zaj(e:Stmt):Option (Option Expr×Option Expr×Pos):=unG Stmt.ctorIdx (λa=>.Raise a.1 a.2.1 a.2.2) e 16 λh=>Stmt.Raise.elim e h λx y p=>⟨(x,y,p),rfl⟩
theorem YU(h:zaj e=some (x,y,p)):e=.Raise x y p:=(zv h :)
noncomputable def zcC(sc:Scope)(x:Str):Bool:=decide (sc.names.lookup x=some .local)||decide (sc.names.lookup x=some .cell)
noncomputable def zhr (W:Wd) (sc:Scope) (x:Str):Bool:=W6 sc x&&W.ex.contains x&& !(x==("__debug__" :Str))
noncomputable def zgQ(e:Expr):Option (Expr×Pos):=unG Expr.ctorIdx (λa=>.Starred a.1 a.2) e 22 λh=>Expr.Starred.elim e h λx p=>⟨(x,p),rfl⟩
theorem zbx(h:zgQ e=some (x,p)):e=.Starred x p:=(zv h :)
noncomputable def zaD(sc:Scope)(N:Ab)(mp:Ac):IW->Expr->Bool
 |.v s i,e=>okO (zK e) λx=>nmB sc N mp s i x.1
 |.c n,e=>okO (Js e) λc=>okO (zew c.1) λj=>decide (n=j)
noncomputable def K3(e:Expr):Bool:=e.ctorIdx !=8&&e.ctorIdx !=9&&e.ctorIdx !=10
noncomputable def qg(e:Expr):Bool:=e.ctorIdx !=25&&e.ctorIdx !=8&&e.ctorIdx !=9&&e.ctorIdx !=10
noncomputable def zhf(sc:Scope)(N:Ab)(mp:Ac):IZ->Expr->Bool
 |.w w,e=>zaD sc N mp w e
 |.p a b,e=>okO (zai e) λt=>okO (YO t.1) λx=>zl x.1&&zl x.2&&zaD sc N mp a x.1&&zaD sc N mp b x.2
noncomputable def zel(W:Wd)(sc:Scope)(N:Ab)(mp:Ac)(m:Nat)(s i:Nat)(o:IO)(st:Stmt):Bool:=okO (Jr st) λz=>okO (zK z.1) λx=>decide (N[s]?=some x.1)&&decide (mp[s]?=some i)&&(decide (sc.names.lookup x.1=some .local)||decide (sc.names.lookup x.1=some .cell))&&zbO o z.2.1&&o.chk W sc N mp m z.2.1
mutual
noncomputable def IQ.chk(W:Wd)(sc:Scope)(N:Ab)(mp:Ac)(m:Nat):IQ->Stmt->Bool
 |.asg s i o,st=>zel W sc N mp m s i o st
 |.expr e,st=>okO (wF st) λz=>qg z.1&&e.chk W sc N mp m z.1
 |.ite c a b,st=>okO (zi0 st) λz=>c.chk W sc N mp m z.1&&a.chk W sc N mp m z.2.1&&b.chk W sc N mp m z.2.2.1
noncomputable def IQs.chk(W:Wd)(sc:Scope)(N:Ab)(mp:Ac)(m:Nat):IQs->List Stmt->Bool
 |.nil,[]=>true
 |.cons s b,x::xs=>s.chk W sc N mp m x&&b.chk W sc N mp m xs
 |_,_=>false
end
mutual
noncomputable def IS.chk(W:Wd)(sc:Scope)(N:Ab)(mp:Ac)(m np:Nat):IS->Stmt->Bool
 |.pass,st=>okO (zd2 st) λ_=>true
 |.bad,_=>true
 |.asg s i o,st=>zel W sc N mp m s i o st
 |.asgT t e,st=>okO (Jr st) λz=>zcr z.1&&qg z.2.1&&vV sc N mp np t z.1&&e.chk W sc N mp m z.2.1
 |.expr e,st=>okO (wF st) λz=>qg z.1&&e.chk W sc N mp m z.1
 |.ite c a b,st=>okO (zi0 st) λz=>c.chk W sc N mp m z.1&&a.chk W sc N mp m np z.2.1&&b.chk W sc N mp m np z.2.2.1
 |.loop t src b,st=>okO (zgR st) λz=>z.2.2.2.1.isEmpty&&qS z.2.1&&vV sc N mp np t z.1&&src.chk W sc N mp m z.2.1 z.1&&b.chk W sc N mp m np z.2.2.1
 |.ret o,st=>okO (zd3 st) λz=>okO z.1 λx=>o.chk W sc N mp m x
 |.app s i e,st=>okO (YQ st) λ(x,_,f,p2,xs,q,_)=>okO (qI xs) λa=>nmB sc N mp s i x&&decide (f= "append")&&zl a&&(p2.endLine==q.line)&&e.chk W sc N mp m a
 |.set s i ie ve,st=>okO (Jr st) λz=>okO (Qk z.1) λy=>okO (zK y.1) λx=>nmB sc N mp s i x.1&&qE y.2.1&&K3 z.2.1&&ie.chk W sc N mp m y.2.1&&ve.chk W sc N mp m z.2.1
 |.raise x,st=>okO (zaj st) λz=>z.2.1.isNone&&okO z.1 λe=>okO (un1 e) λ(f,_,a,_)=>decide (f=x)&&zhr W sc x&&okO (Js a) λc=>okO (zbX c.1) λ_=>true
 |.star s i t j e,st=>okO (Jr st) λz=>okO (zai z.1) λw=>okO (YO w.1) λab=>okO (zK ab.1) λx=>okO (zgQ ab.2) λc=>okO (zK c.1) λy=>decide (N[s]?=some x.1)&&decide (mp[s]?=some i)&&zcC sc x.1&&decide (N[t]?=some y.1)&&decide (mp[t]?=some j)&&zcC sc y.1&&qg z.2.1&&e.chk W sc N mp m z.2.1
 |.fset s i c f o,st=>okO (Jr st) λz=>yw W sc N mp s i c f z.1&&o.chk W sc N mp m z.2.1
 |.fapp s i c f z,st=>okO (wF st) λe=>okO (zdX e.1) λ(o,g,p2,xs,q)=>okO (qI xs) λa=>decide (g= "append")&&yw W sc N mp s i c f o&&zl a&&(p2.endLine==q.line)&&zhf sc N mp z a
 |.dupd s i e,st=>okO (YQ st) λ(x,_,f,p2,xs,q,_)=>okO (qI xs) λa=>nmB sc N mp s i x&&decide (f= "update")&&zl a&&(p2.endLine==q.line)&&e.chk W sc N mp m a
 |.dput s i ke ve,st=>okO (Jr st) λz=>okO (Qk z.1) λy=>okO (zK y.1) λx=>nmB sc N mp s i x.1&&ke.chk W sc N mp m y.2.1&&ve.chk W sc N mp m z.2.1
 |.dpop s i e,st=>okO (YQ st) λ(x,_,f,p2,xs,q,_)=>okO (qI xs) λa=>nmB sc N mp s i x&&decide (f= "pop")&&zl a&&(p2.endLine==q.line)&&e.chk W sc N mp m a
noncomputable def IB.chk(W:Wd)(sc:Scope)(N:Ab)(mp:Ac)(m np:Nat):IB->List Stmt->Bool
 |.nil,[]=>true
 |.cons s b,x::xs=>s.chk W sc N mp m np x&&b.chk W sc N mp m np xs
 |.disp s i x kf n e a,xs=>okO (YO xs) λz=>okO (Jr z.1) λ(t,v,_)=>okO (zK t) λr=>okO (Qk v) λ(d,w,_)=>okO (zK d) λy=>okO (zd3 z.2) λ(o,_)=>okO o λc=>okO (unN c) λ(g,_,as,_)=>
  decide (N[s]?=some r.1)&&decide (mp[s]?=some i)&&zcC sc r.1&& !(r.1==("__debug__" :Str))&& !(r.1==("__classdict__" :Str))&&decide (x=y.1)&&W6 sc x&&W.gd.contains (x,kf)&& !(x==("__debug__" :Str))&&qE w&&decide (g=r.1)&&kf.all (λp=>W.fl.contains (p.2,n))&& !as.isEmpty&&as.all zl&&e.chk W sc N mp m w&&a.chk W sc N mp m as
 |_,_=>false
end
theorem vM(h:qg e=true):swapsWith e t l env=pure false:=by
 cases e<;>first | rfl | (cases h)
theorem QW(h:qg e=true):swapsWithSole [t] e l env=pure false:=vM h
theorem Zv(h:qg e=true):swappedStores [t] e env=pure none:=by
 have hm:(match (generalizing:=false) [t],e with
  |[.Tuple ts _ _],.Tuple vs _ _=>some (ts,vs)
  |[.List ts _],.Tuple vs _ _=>some (ts,vs)
  |_,_=>none)=(none:Option (Ag×Ag)):=by
  split
  ·cases h
  ·cases h
  ·rfl
 unfold swappedStores
 split
 next q=>
  exact absurd (q.symm.trans hm) (λz=>nomatch z)
 ·rfl
theorem VS(h:K3 e=true):swapsWithSole [.Subscript x y p] e l env=pure false:=by
 cases e<;>first | rfl | (cases h)
theorem vJ:swappedStores [.Subscript x y p] e env=pure none:=by
 cases e<;>rfl
theorem zbo:swapsWith e (some (.Attribute o f p)) l env=pure false:=by cases e<;>rfl
theorem zdI:swapsWith e (some (.Subscript o b p)) l env=pure false:=by cases e<;>rfl
theorem zbn(h:zbO o e=true)(hn:∀ a b c d,e≠ .ListComp a b c d)(hn2:∀ a b c d q,e≠ .DictComp a b c d q):swapsWith e (some (.Name x p)) l env=pure false:=by
 cases e with
 |ListComp a b c d=>exact absurd rfl (hn a b c d)
 |SetComp=>simp[zbO]at h
 |DictComp a b c d q=>exact absurd rfl (hn2 a b c d q)
 |_=>rfl
theorem Ko:∃ b:Bool,swapsWith (.ListComp elt gens scope q) (some (.Name x p)) l env=pure b:=⟨_,rfl⟩
theorem YI:∃ b:Bool,swapsWith (.DictComp ek ev gens scope q) (some (.Name x p)) l env=pure b:=⟨_,rfl⟩
theorem kj(h:qE b=true)(v:Aj):assign (.Subscript o b p) env v=(do
  let ov<-holding [v] (eval o env)
  let iv<-holding [v,ov] (eval b env)
  standAt p
  holding [v,ov,iv] (setItem ov iv v)
  release [v,ov,iv] []):=by
 cases b<;>first | rfl | (cases h)
structure XB(X:Cx)(XP:XPT)(mp io:Ac)(np:Nat):Prop where
 po:PassesOwn (model X.prog X.w) X.A X.env X.xe
 nd:X.N.Nodup
 mn:mp.Nodup
 io:∀ i∈io,i<np
 rz:zjb X XP
 rb:RzB X XP
 sk:X.stack=X.env::X.outer
 fr:X.env.frame=some X.env.locals
abbrev QS(cf:CF)(W:Wd)(a:IS):Prop:=∀{X XP k sc N mp m np io},XSc X sc N->XW X XP cf W k->XB X XP mp io np->∀(e:Stmt),a.chk W sc N mp m np e=true->SS X XP mp io e (a.ex cf io)
abbrev QB(cf:CF)(W:Wd)(a:IB):Prop:=∀{X XP k sc N mp m np io},XSc X sc N->XW X XP cf W k->XB X XP mp io np->∀(e:List Stmt),a.chk W sc N mp m np e=true->SB X XP mp io e (a.ex cf io)
section
variable {cf:CF}{W:Wd}
set_option hygiene false in
local macro_rules
 | `(tactic| ext $p:rintroPat $q:rintroPat)=>`(tactic| (intro X XP k sc N mp m np io S T B st g0;obtain⟨$(⟨p.raw[0]⟩):rcasesPat,eu,g1⟩:=zd g0;clear g0;cases $(⟨q.raw[0][0]⟩):ident eu))
 | `(tactic| ext $p:rintroPat $q:rintroPat $r:rintroPat)=>`(tactic| (intro X XP k sc N mp m np io S T B st g0;obtain⟨$(⟨p.raw[0]⟩):rcasesPat,eu,$(⟨r.raw[0]⟩):rcasesPat⟩:=zd g0;clear g0;cases $(⟨q.raw[0][0]⟩):ident eu))
theorem zeF:QS cf W .pass:=by
 ext p Kx _
 exact zf8
theorem zg9:QS cf W .bad:=λ{X XP k sc N mp m np io} S T B e h=>ziH
theorem yZ(h:Wn o=some n):o=.own n∨o=.dat (.new n):=by
 unfold Wn at h
 split at h<;>first | (cases h;exact .inl rfl) | (cases h;exact .inr rfl) | cases h
theorem V7(h:Ja o=some n):o=.ownD n∨o=.dat (.newD n):=by
 unfold Ja at h
 split at h<;>first | (cases h;exact .inl rfl) | (cases h;exact .inr rfl) | cases h
theorem zg0{X:Cx}{k:Nat}{N:Ab}{m:Nat}(s i:Nat)(o:IO)(S:XSc X sc N)(T:XW X XP cf W k)(nd:X.N.Nodup)(mn:mp.Nodup)(st:Stmt)(g0:zel W sc N mp m s i o st=true):SS X XP mp io st (sAsg io i (o.ev cf)):=by
 unfold zel at g0
 obtain⟨⟨tx,e,q⟩,eu,g1⟩:=zd g0
 clear g0
 cases qB eu
 obtain⟨⟨x,p⟩,ex,h⟩:=zd g1
 clear g1
 cases zo ex
 simp only[xa,xN,x0]at h
 obtain⟨⟨⟨⟨h1,h2⟩,h3⟩,h4⟩,h5⟩:=h
 have hi:X.N[s]?=some x:=by rw[S.hN];exact h1
 have hx:Loc X.env.scope x:=by
  rcases h3 with h3 | h3
  ·exact .inl (S.loc x h3)
  ·exact .inr (S.cel x h3).1
 have hf:X.fn x=true∨X.env.scope.names.lookup x=some .local:=by
  rcases h3 with h3 | h3
  ·exact .inr (S.loc x h3)
  ·exact .inl (S.cel x h3).2
 have plain:swapsWith e (some (.Name x p)) q.line X.env=pure false->SS X XP mp io (.Assign [.Name x p] e q) (sAsg io i (o.ev cf)):=λhsw=>
  ziG nd hi hx hf mn h2 (zdv cf W o S T e h5) hsw
 by_cases hl:∃ a b c d,e=.ListComp a b c d
 ·obtain⟨elt,gens,scope,pc,rfl⟩:=hl
  obtain⟨bb,hb⟩:=Ko
  cases bb with
  |false=>exact plain hb
  |true=>
   obtain⟨n,en,hp⟩:=zd (show okO (Wn o) IN.plain=true from h4)
   have go:n.chk W sc N mp m (.ListComp elt gens scope pc)=true->∀(fo:EM OV),(∀ t,SNt XP mp t (n.ev cf)->SOt XP mp t fo)->SS X XP mp io (.Assign [.Name x p] (.ListComp elt gens scope pc) q) (sAsg io i fo):=λhn fo hfo=>by
    obtain⟨tg,iter,ifs,N',kk,ix,rfl,C,hfold,hs⟩:=(zjV cf W n S T _ hn).2 hp elt gens scope pc rfl
    exact yO (zfr nd hi hx T.calm C hb hfold hf) mn h2 (xb.mp hi).1 (hfo _ hs)
   rcases yZ en with rfl | rfl
   ·exact go h5 _ λt ht=>ht.so
   ·exact go (xK.mp (show IE.chk W sc N mp m (.new n) _=true from h5)).2 _ λt ht=>ht.sd
 ·by_cases hl2:∃ a b c d q,e=.DictComp a b c d q
  ·obtain⟨kx,vx,gens,scope,pc,rfl⟩:=hl2
   obtain⟨bb,hb⟩:=YI
   cases bb with
   |false=>exact plain hb
   |true=>
    obtain⟨n,en,hp⟩:=zd (show okO (Ja o) IM.plain=true from h4)
    have go:n.chk W sc N mp m (.DictComp kx vx gens scope pc)=true->∀(fo:EM OV),(∀ t,SDt XP mp t (n.ev cf)->SOt XP mp t fo)->SS X XP mp io (.Assign [.Name x p] (.DictComp kx vx gens scope pc) q) (sAsg io i fo):=λhn fo hfo=>by
     obtain⟨tg,iter,ifs,N',kk,ix,rfl,C,hfold,hs⟩:=(zjU cf W n S T _ hn).2 hp kx vx gens scope pc rfl
     exact yO (zda nd hi hx T.calm C hb hfold hf) mn h2 (xb.mp hi).1 (hfo _ hs)
    rcases V7 en with rfl | rfl
    ·exact go h5 _ λt ht=>ht.so
    ·exact go h5 _ λt ht=>ht.sd
  ·exact plain (zbn h4 (λa b c d z=>hl ⟨a,b,c,d,z⟩) λa b c d q z=>hl2 ⟨a,b,c,d,q,z⟩)
theorem zg8(s i:Nat)(o:IO):QS cf W (.asg s i o):=by
 intro X XP k sc N mp m np io S T B st g0
 exact zg0 s i o S T B.nd B.mn st g0
theorem zex(t:IT)(e:IE):QS cf W (.asgT t e):=by
 ext ⟨tx,x,q⟩ qB h
 simp only[xa]at h
 obtain⟨⟨⟨h0,h1⟩,h2⟩,h3⟩:=h
 cases tx with
 |Tuple ts n p=>
  have hg:=Jn S (by rw[<- S.hN];exact B.nd) B.mn T.calm (λi hi hm=>absurd (B.io i hm) (by omega)) t _ h2
  exact zdB (Zc cf W e S T x h3).1 hg (QW h1) (Zv h1) (Kh zc yG (QW h1) (Zv h1))
 |_=>cases h0
theorem zeB(a:IE):QS cf W (.expr a):=by
 ext ⟨x,p⟩ QX h
 rw[xa]at h
 exact zf5 (Zc cf W a S T x h.2).1 (vM h.1)
theorem zhb(c:IE)(a b:IB)(ih_a:QB cf W a)(ih_b:QB cf W b):QS cf W (.ite c a b):=by
 ext ⟨x,xs,ys,p⟩ zd1 h
 simp only[xa]at h
 obtain⟨⟨h1,h2⟩,h3⟩:=h
 exact zjW (Zc cf W c S T x h1).2 (ih_a S T B xs h2) (ih_b S T B ys h3)
theorem zeE(t:IT)(src:II)(b:IB)(ih_b:QB cf W b):QS cf W (.loop t src b):=by
 ext ⟨tg,iter,body,els,p⟩ zbz h
 simp only[xa]at h
 obtain⟨⟨⟨⟨h0,h1⟩,h2⟩,h3⟩,h4⟩:=h
 cases els with
 |cons _ _=>cases h0
 |nil=>
  have hg:=Jn S (by rw[<- S.hN];exact B.nd) B.mn T.calm (λi hi hm=>absurd (B.io i hm) (by omega)) t _ h2
  exact ziI B.po T.calm (zjT cf W src S T tg iter h3) hg (ih_b S T B body h4) (jM h1)
theorem zhc(o:IO):QS cf W (.ret o):=by
 ext ⟨x,p⟩ VW
 obtain⟨y,ey,h⟩:=zd g1
 clear g1
 cases ey
 exact ziJ (zdv cf W o S T y h)
theorem zg7(s i:Nat)(e:IE):QS cf W (.app s i e):=by
 ext ⟨x,p,f,p2,xs,q,q2⟩ wB
 obtain⟨a,ea,h⟩:=zd g1
 clear g1
 cases zE ea
 simp only[xa,x0]at h
 obtain⟨⟨⟨⟨h1,h2⟩,h3⟩,h4⟩,h5⟩:=h
 subst h2
 exact ziF (jN S h1) (Zc cf W e S T a h5).1 (zm h3) h4
theorem zhd(s i:Nat)(ie ve:IE):QS cf W (.set s i ie ve):=by
 ext ⟨tx,a,q⟩ qB
 obtain⟨⟨tn,b,p2⟩,et,g2⟩:=zd g1
 clear g1
 cases qk et
 obtain⟨⟨x,p⟩,ex,h⟩:=zd g2
 clear g2
 cases zo ex
 simp only[xa]at h
 obtain⟨⟨⟨⟨h1,h2⟩,h3⟩,h4⟩,h5⟩:=h
 exact ziK (jN S h1) (Zc cf W ie S T b h4).1 (Zc cf W ve S T a h5).1 (VS h3) vJ (λhe hg=>Kh he hg (VS h3) vJ) (λho hi hs=>zh3 ho hi hs (kj h2))
theorem Ky(S:XSc X sc N):∀(w:IW)(e:Expr),zaD sc N mp w e=true->WOk X mp e w
 |.v s i,e,h=>by
  simp only[zaD]at h
  obtain⟨⟨x,p⟩,eu,h⟩:=zd h
  cases zo eu
  exact zke (jN S h)
 |.c n,e,h=>by
  simp only[zaD]at h
  obtain⟨⟨c,j,p⟩,eu,h⟩:=zd h
  obtain⟨z,ez,h⟩:=zd h
  cases qC eu
  cases WH ez
  cases Xh h
  exact zkd
theorem kY(S:XSc X sc N)(h:zcC sc x=true):Loc X.env.scope x/\(X.fn x=true∨X.env.scope.names.lookup x=some .local):=by
 unfold zcC at h
 simp only[xN,x0]at h
 rcases h with h | h
 ·exact⟨.inl (S.loc x h),.inr (S.loc x h)⟩
 ·exact⟨.inr (S.cel x h).1,.inl (S.cel x h).2⟩
theorem zhs(S:XSc X sc N)(T:XW X XP cf W k)(h:zhr W sc x=true):∃ C,zbH X x C/\W.ex.contains x=true:=by
 unfold zhr at h
 simp only[xa]at h
 obtain⟨⟨h1,h2⟩,h3⟩:=h
 obtain⟨C,e1,e2⟩:=T.ex x h2
 exact⟨C,⟨S.glo x h1,e1,e2,Ze h3⟩,h2⟩
theorem zbW(x:Str):QS cf W (.raise x):=by
 ext ⟨ee,cz,p⟩ YU
 simp only[xa]at g1
 obtain⟨g1,g2⟩:=g1
 obtain⟨e,ee1,g3⟩:=zd g2
 clear g2
 cases ee1
 obtain⟨⟨f,p1,a,p2⟩,ea,g4⟩:=zd g3
 clear g3
 cases zP ea
 simp only[xa,x0]at g4
 obtain⟨⟨h1,h2⟩,g5⟩:=g4
 obtain⟨⟨c,j,p3⟩,ec,g6⟩:=zd g5
 clear g5
 cases qC ec
 obtain⟨z,ez,_⟩:=zd g6
 clear g6
 cases WI ez
 subst h1
 cases cz with
 |some _=>cases g1
 |none=>
  obtain⟨C,k,_⟩:=zhs S T h2
  exact zdC k T.calm B.rz
theorem zij{X:Cx}{st:Stmt}(h:SS X XP mp io st f):SB X XP mp io [st] f:=λM0 F Γ ν σ H D rs hs hl hp=>(Wt K8).wp (h M0 F Γ ν σ H D rs hs hl hp)
theorem zi6(S:XSc X sc N):∀(z:IZ)(e:Expr),zhf sc N mp z e=true->ZOk X mp e z
 |.w w,e,h=>zkg (Ky S w e h)
 |.p a b,e,h=>by
  simp only[zhf]at h
  obtain⟨⟨es,kk,p⟩,eu,g1⟩:=zd h
  clear h
  cases wE eu
  obtain⟨⟨x,y⟩,ez,g2⟩:=zd g1
  clear g1
  cases jU ez
  simp only[xa]at g2
  obtain⟨⟨⟨h1,h2⟩,h3⟩,h4⟩:=g2
  exact zkf (Ky S a x h3) (Ky S b y h4) (zm h1) (zm h2)
theorem zeD(s i:Nat)(c f:Str)(o:IO):QS cf W (.fset s i c f o):=by
 ext ⟨tx,e,q⟩ qB h
 rw[xa]at h
 obtain⟨x,p,p2,hx,n,K⟩:=Qy S T h.1
 cases hx
 exact zf7 n K (zdv cf W o S T e h.2) zbo
theorem zeC(s i:Nat)(c f:Str)(z:IZ):QS cf W (.fapp s i c f z):=by
 ext ⟨e,q2⟩ QX
 obtain⟨⟨o,g,p3,xs,q⟩,em,g2⟩:=zd g1
 clear g1
 cases vP em
 obtain⟨a,ea,h⟩:=zd g2
 clear g2
 cases zE ea
 simp only[xa,x0]at h
 obtain⟨⟨⟨⟨h1,h2⟩,h3⟩,h4⟩,h5⟩:=h
 subst h1
 obtain⟨x,p,p2,rfl,n,K⟩:=Qy S T h2
 exact zf6 n K (zi6 S z a h5) (zm h3) h4
theorem zeA(s i:Nat)(e:IE):QS cf W (.dupd s i e):=by
 ext ⟨x,p,f,p2,xs,q,q2⟩ wB
 obtain⟨a,ea,h⟩:=zd g1
 clear g1
 cases zE ea
 simp only[xa,x0]at h
 obtain⟨⟨⟨⟨h1,h2⟩,h3⟩,h4⟩,h5⟩:=h
 subst h2
 exact zf4 (jN S h1) (Zc cf W e S T a h5).1 (zgC h3 h4)
theorem zey(s i:Nat)(e:IE):QS cf W (.dpop s i e):=by
 ext ⟨x,p,f,p2,xs,q,q2⟩ wB
 obtain⟨a,ea,h⟩:=zd g1
 clear g1
 cases zE ea
 simp only[xa,x0]at h
 obtain⟨⟨⟨⟨h1,h2⟩,h3⟩,h4⟩,h5⟩:=h
 subst h2
 exact zf2 (jN S h1) (Zc cf W e S T a h5).1 (zgC h3 h4)
theorem zez(s i:Nat)(ie ve:IE):QS cf W (.dput s i ie ve):=by
 ext ⟨tx,a,q⟩ qB
 obtain⟨⟨tn,b,p2⟩,et,g2⟩:=zd g1
 clear g1
 cases qk et
 obtain⟨⟨x,p⟩,ex,h⟩:=zd g2
 clear g2
 cases zo ex
 simp only[xa]at h
 obtain⟨⟨h1,h2⟩,h3⟩:=h
 exact zf3 (VA T) (jN S h1) (Zc cf W ve S T a h3).1 (Zc cf W ie S T b h2).1 zdI
theorem zeG(s i t j:Nat)(e:IE):QS cf W (.star s i t j e):=by
 ext ⟨tg,v,p⟩ qB
 obtain⟨⟨es,kk,p2⟩,et,g2⟩:=zd g1
 clear g1
 cases wE et
 obtain⟨⟨a,b⟩,eab,g3⟩:=zd g2
 clear g2
 cases jU eab
 obtain⟨⟨x,px⟩,ex,g4⟩:=zd g3
 clear g3
 cases zo ex
 obtain⟨⟨c,pc⟩,ec,g5⟩:=zd g4
 clear g4
 cases zbx ec
 obtain⟨⟨y,py⟩,ey,h⟩:=zd g5
 clear g5
 cases zo ey
 simp only[xa,x0]at h
 obtain⟨⟨⟨⟨⟨⟨⟨h1,h2⟩,h3⟩,h4⟩,h5⟩,h6⟩,h7⟩,h8⟩:=h
 obtain⟨l1,l2⟩:=kY S h3
 obtain⟨l3,l4⟩:=kY S h6
 exact zf9 T.calm B.nd B.mn (by rw[S.hN];exact h1) l1 l2 h2 (by rw[S.hN];exact h4) l3 l4 h5 (Zc cf W e S T v h8).1 (QW h7) (Zv h7)
theorem zg6:QB cf W .nil:=by
 intro X XP k sc N mp m np io S T B e h
 cases e with
 |nil=>exact zii
 |cons _ _=>exact Bool.noConfusion (show false=true from h)
theorem zeu(s:IS)(b:IB)(ih_s:QS cf W s)(ih_b:QB cf W b):QB cf W (.cons s b):=by
 intro X XP k sc N mp m np io S T B e h
 cases e with
 |nil=>exact Bool.noConfusion (show false=true from h)
 |cons x xs=>
  replace h:=xK.mp h
  try simp only[xa]at h
  have h1:=ih_s S T B x h.1
  have h2:=ih_b S T B xs h.2
  cases b with
  |nil=>
   cases xs with
   |nil=>exact zij h1
   |cons _ _=>exact Bool.noConfusion (show false=true from h.2)
  |cons s' b'=>exact zab h1 h2
  |disp _ _ _ _ _ _ _=>exact zab h1 h2
theorem zX{kf:List (Str×Str)}(h:kf.lookup k=some f):(k,f)∈kf:=by
 induction kf with
 |nil=>cases h
 |cons p r ih=>
  obtain⟨a,b⟩:=p
  rw[xy]at h
  cases q:(k==a) with
  |true=>
   rw[q]at h
   cases h
   have:=eq_of_beq q
   subst this
   exact xv
  |false=>rw[q]at h;exact xo _ (ih h)
theorem zev(s i:Nat)(x:Str)(kf:List (Str×Str))(n:Nat)(e:IE)(a:IA):QB cf W (.disp s i x kf n e a):=by
 intro X XP k sc N mp m np io S T B xs g0
 obtain⟨⟨st1,st2⟩,e1,g1⟩:=zd g0
 clear g0
 cases jU e1
 obtain⟨⟨t,v,q2⟩,e2,g2⟩:=zd g1
 clear g1
 cases qB e2
 obtain⟨⟨r,pr⟩,e3,g3⟩:=zd g2
 clear g2
 cases zo e3
 obtain⟨⟨d,w,q1⟩,e4,g4⟩:=zd g3
 clear g3
 cases qk e4
 obtain⟨⟨y,py⟩,e5,g5⟩:=zd g4
 clear g4
 cases zo e5
 obtain⟨⟨o,q4⟩,e6,g6⟩:=zd g5
 clear g5
 cases VW e6
 obtain⟨c,e7,g7⟩:=zd g6
 clear g6
 cases e7
 obtain⟨⟨g,pg,as,q3⟩,e8,h⟩:=zd g7
 clear g7
 cases Jt e8
 simp only[xa,x0]at h
 obtain⟨⟨⟨⟨⟨⟨⟨⟨⟨⟨⟨⟨⟨⟨⟨h1,h2⟩,h3⟩,h4⟩,h5⟩,h6⟩,h7⟩,h8⟩,h9⟩,h10⟩,h11⟩,h12⟩,h13⟩,h14⟩,h15⟩,h16⟩:=h
 subst h6 h11
 cases as with
 |nil=>cases h13
 |cons a1 as=>
  rw[ur,xa]at h14
  obtain⟨l1,l2⟩:=kY S h3
  have hv:Vis X.env.scope g:=by
   rcases l1 with z | z
   ·exact .inl z
   ·exact .inr (.inl z)
  have hN:X.N[s]?=some g:=by rw[S.hN];exact h1
  refine zfy (T.gd x kf h8) (S.glo _ h7) (Ze h9) T.px (λkey f hf=>T.fn f n (xI.mp h12 _ (zX hf))) T.rm (Zc cf W e S T w h15).1
   (zgc (T.gd x kf h8) (S.glo _ h7) (Ze h9) ?_ B.nd hN l1 rfl l2) hN hv (Ze h4) (Ze h5) B.mn h2 (zjS cf W a S T (a1::as) h16) (zm h14.1) (qu (Zu h14.2))
  intro ov iv
  cases w<;>first | rfl | (cases h10)
theorem zgH(cf:CF)(W:Wd):∀ a,QB cf W a :=
 IB.rec (motive_1:=QS cf W) (motive_2:=QB cf W) zeF zg9 zg8 zex zeB zhb zeE zhc zg7 zhd zbW zeG zeD zeC zeA zez zey zg6 zeu zev
end
inductive Kd where
 |fn
 |me (c m:Str)
 |ini (c:Str)
 deriving DecidableEq
structure DefI where
 name:Str
 st:Stmt
 ps:Ab
 N:Ab
 mask:List Bool
 io:Ac
 body:IB
 kd:Kd:=.fn
noncomputable def outs:List Bool->Gv->List (Option OV)
 |[],_=> []
 |_::bs,[]=>none::outs bs []
 |b::bs,x::Γ=>(if b then x else none)::outs bs Γ
theorem vm:∀(bs:List Bool)(Γ:Gv),(outs bs Γ).length=bs.length
 |[],_=>rfl
 |_::bs,[]=>by rw[outs,xr,vm,xr]
 |b::bs,x::Γ=>by rw[outs,xr,vm,xr]
theorem vk:∀{bs:List Bool}{Γ:Gv}{j:Nat}{o:OV},(outs bs Γ)[j]?=some (some o)->bs[j]?=some true/\Γ[j]?=some (some o)
 |[],_,_,_,h=>by simp[outs]at h
 |b::bs,[],0,_,h=>by simp[outs]at h
 |b::bs,[],j+1,o,h=>by
  have:=vk (Γ:= []) (by simpa [outs] using h)
  simp at this
 |b::bs,x::Γ,0,o,h=>by
  simp only[outs,List.getElem?_cons_zero,Option.some.injEq]at h
  split at h
  ·rename_i hb;subst h;exact⟨by simp[hb],rfl⟩
  ·cases h
 |b::bs,x::Γ,j+1,o,h=>by
  have:=vk (Γ:=Γ) (by simpa [outs] using h)
  simpa using this
noncomputable def fin(mask:List Bool):R (FL×Gv)->RF
 |.ok (.ret o,Γ)=>.ok o (outs mask Γ)
 |.ok (.next,Γ)=>.ok (.d .none) (outs mask Γ)
 |.exc x Γ=>match x.pay with
  |.none=>.exc x (outs mask Γ)
  |.str a=>match Γ.getLast? with
   |some (some o)=>if mask.length<Γ.length then .xp x.cls a o (outs mask Γ.dropLast) else .bad
   |_=>.bad
  |_=>.bad
 |_=>.bad
noncomputable def DefI.run(d:DefI)(cf:CF)(args:List OV):RF:=if args.length=d.mask.length then fin d.mask (d.body.ex cf d.io (args.map some++List.replicate (d.N.length-d.mask.length) none)) else .bad
theorem DefI.run_lenX{d:DefI}(h:d.run cf args≠ .bad):args.length=d.mask.length:=by
 unfold DefI.run at h
 split at h
 ·assumption
 ·exact absurd rfl h
theorem DefI.run_pay{d:DefI}{x:Exc}(h:d.run cf args=.exc x o):x.pay=.none:=by
 unfold DefI.run at h
 split at h
 ·generalize d.body.ex cf d.io (args.map some++List.replicate (d.N.length-d.mask.length) none)=r at h
  unfold fin at h
  split at h
  ·cases h
  ·cases h
  ·split at h
   next e=>
    cases h;exact e
   ·split at h
    ·split at h<;>cases h
    ·cases h
   ·cases h
  ·cases h
 ·cases h
theorem DefI.ran(d:DefI)(cf:CF):Ran d.mask.length (d.run cf):=λ_=>⟨DefI.run_lenX,λ_ _=>DefI.run_pay⟩
noncomputable def Vo(defs:List DefI):Nat->CF
 |0,_,_=>.bad
 |n+1,x,args=>match defs.find? λd=>decide (d.name=x) with
  |some d=>d.run (Vo defs n) args
  |none=>.bad
section
variable {M0:Ae}{F:Fp}{Γ:Gv}{ν:Nu}{H:Hp}
theorem RS.outs{us:List V}(r:RS M0 F (Γ++ [some o]) (ν++ [some v]) H)(hu:us.length=mask.length)(hν:∀ j:Nat,mask[j]?=some true->ν[j]?=(us[j]?).map some) :
  ∃ F',RS M0 F' (outs mask Γ++ [some o]) (us.map some++ [some v]) H/\Stp F H F' H:=by
 have hνl:ν.length=Γ.length:=by have:=r.len;simpa using this
 have hjl:∀ j:Nat,mask[j]?=some true->j<Γ.length:=λj hj=>by
  have h1:j<us.length:=by rw[hu];exact (xb.mp hj).1
  have h2:=hν j hj
  rw[xg h1]at h2
  have:=(xb.mp h2).1
  omega
 let n:=mask.length
 let F':Fp:=λj=>if j<n then (if mask[j]?=some true then F j else []) else if j=n then F Γ.length else []
 have g1:∀ j,j<n->mask[j]?=some true->F' j=F j:=λj h1 h2=>by show (if j<n then _ else _)=_;rw[if_pos h1,if_pos h2]
 have g2:∀ j,j<n->mask[j]?≠some true->F' j= []:=λj h1 h2=>by show (if j<n then _ else _)=_;rw[if_pos h1,if_neg h2]
 have g3:F' n=F Γ.length:=by show (if n<n then _ else _)=_;rw[if_neg (xV _),if_pos rfl]
 have g4:∀ j,n<j->F' j= []:=λj h=>by show (if j<n then _ else _)=_;rw[if_neg (by omega),if_neg (by omega)]
 have cls:∀ j a,a∈F' j->(j<n/\mask[j]?=some true/\a∈F j)∨(j=n/\a∈F Γ.length):=λj a h=>by
  by_cases h1:j<n
  ·by_cases h2:mask[j]?=some true
   ·rw[g1 j h1 h2]at h;exact .inl ⟨h1,h2,h⟩
   ·rw[g2 j h1 h2]at h;cases h
  ·by_cases h2:j=n
   ·subst h2;rw[g3]at h;exact .inr ⟨rfl,h⟩
   ·rw[g4 j (by omega)]at h;cases h
 have st:Stp F H F' H:=Za λj a h=>by
  rcases cls j a h with ⟨_,_,h⟩ | ⟨_,h⟩
  ·exact⟨_,h⟩
  ·exact⟨_,h⟩
 have hol:(L3.outs mask Γ).length=n:=vm _ _
 refine⟨F',⟨r.al0,λj a h=>?_,λj=>?_,λj k a h1 h2=>?_,λj p e=>?_,λj h=>?_,by simp[hol,hu,n]⟩,st⟩
 ·rcases cls j a h with ⟨_,_,h⟩ | ⟨_,h⟩
  ·exact r.dis0 _ a h
  ·exact r.dis0 _ a h
 ·by_cases h1:j<n
  ·by_cases h2:mask[j]?=some true
   ·rw[g1 j h1 h2];exact r.nd _
   ·rw[g2 j h1 h2];exact .nil
  ·by_cases h2:j=n
   ·subst h2;rw[g3];exact r.nd _
   ·rw[g4 j (by omega)];exact .nil
 ·rcases cls j a h1 with ⟨l1,m1,z1⟩ | ⟨rfl,z1⟩
  ·rcases cls k a h2 with ⟨l2,m2,z2⟩ | ⟨rfl,z2⟩
   ·exact r.dis _ _ a z1 z2
   ·have:=r.dis _ _ a z1 z2;have:=hjl _ m1;omega
  ·rcases cls k a h2 with ⟨l2,m2,z2⟩ | ⟨rfl,z2⟩
   ·have:=r.dis _ _ a z1 z2;have:=hjl _ m2;omega
   ·rfl
 ·by_cases hj:j<n
  ·rw[xc (by omega)]at e
   obtain⟨hm,hg⟩:=vk e
   have hjj:=hjl j hm
   obtain⟨w,ew,q⟩:=r.at' j p (by rw[xc (by omega)];exact hg)
   rw[xc (by omega),hν j hm]at ew
   refine⟨w,?_,?_⟩
   ·rw[xc (by simp[hu];exact hj),xl];exact ew
   ·rw[g1 j hj hm];exact q.go (λ_ _ x=>zn st r.al0 x) st.tups λ_ _=>rfl
  ·have hjn:j=n:=by
    have:=(xb.mp e).1
    simp[hol]at this;omega
   subst hjn
   rw[xf (by omega),hol]at e
   have:o=p:=by simpa using e
   subst this
   obtain⟨w,ew,q⟩:=r.at' Γ.length o (by rw[xf (xi _)];simp)
   rw[xf (by omega),hνl]at ew
   have:v=w:=by simpa using ew
   subst this
   refine⟨v,?_,?_⟩
   ·rw[xf (by simp[hu,n]),xn,hu];simp[n]
   ·rw[g3];exact q.go (λ_ _ x=>zn st r.al0 x) st.tups λ_ _=>rfl
 ·by_cases hj:j<n
  ·by_cases hm:mask[j]?=some true
   ·rw[g1 j hj hm]
    have hjj:=hjl j hm
    refine r.emp j λp ep=>?_
    rw[xc (by omega)]at ep
    refine h p ?_
    rw[xc (by omega)]
    exact outs_put hm ep
   ·exact g2 j hj hm
  ·by_cases hjn:j=n
   ·subst hjn
    exact absurd (by rw[xf (by omega),hol];simp[n]) (h o)
   ·exact g4 j (by omega)
where
 outs_put:∀{bs:List Bool}{Γ:Gv}{j:Nat}{o:OV},bs[j]?=some true->Γ[j]?=some (some o)->(L3.outs bs Γ)[j]?=some (some o)
  |[],_,_,_,h,_=>by simp at h
  |b::bs,[],_,_,_,h=>by simp at h
  |b::bs,x::Γ,0,o,h,e=>by
   simp at h e
   subst h e
   simp[L3.outs]
  |b::bs,x::Γ,j+1,o,h,e=>by
   have:=outs_put (Γ:=Γ) (by simpa using h) (by simpa using e)
   simpa [L3.outs] using this
end
noncomputable def vF(N ps:Ab)(sc:Scope):Bool:=decide (sc.kind=.function)&& !sc.isCoroutine&& !sc.isGenerator&&decide N.Nodup&&decide (N.take ps.length=ps)&&ps.all (λx=>decide (sc.names.lookup x=some .local)||decide (sc.names.lookup x=some .cell))&&sc.names.all (λy=>decide (y.2≠ .free))
theorem vG(h:vF N ps sc=true):ja N ps sc:=by
 unfold vF at h
 simp only[xa,x0,xI,xN,uH]at h
 obtain⟨⟨⟨⟨⟨⟨h1,h2⟩,h3⟩,h4⟩,h5⟩,h6⟩,h7⟩:=h
 exact⟨h1,h2,h3,h4,h5,h6,h7⟩
noncomputable def DefI.ok(W:Wd)(d:DefI):Bool:=vF d.N d.ps (defScope d.st)&&decide (d.ps.length=d.mask.length)&&d.io.all (λi=>decide (d.mask[i]?=some true))&&(List.range d.mask.length).all (λj=>decide (d.mask[j]?≠some true)||d.io.contains j)
 && d.body.chk W (defScope d.st) d.N (List.range d.N.length) d.N.length d.mask.length (defBody d.st)
structure WK(P:Ar)(w:World)(K:Ah)(mg:Aq)(base:Heap)(cf:CF)(W:Wd)(k:Nat):Prop where
 bi:∀ x,W.bi.contains x=true->mg x=none
 gi:∀ x i,W.gi.contains (x,i)=true->∃ t,mg x=some (.int i t)
 gs:∀ x i,W.gs.contains (x,i)=true->∃ t,mg x=some (.str i t)
 fn:∀ x n,W.fl.contains (x,n)=true->Kn P w K mg base (CX1 P w) x k (spX mg n (cf x))/\Ran n (cf x)
 ex:∀ x,W.ex.contains x=true->∃ C,mg x=some (.ref C)/\PySem.W.excIn K C bmV "ValueError.__new__" =true
 mr:∀ x C y C2,W.ex.contains x=true->mg x=some (.ref C)->W.ex.contains y=true->mg y=some (.ref C2)->(mroIn K C).contains (.ref C2)=decide (x=y)
 gd:∀ x kf,W.gd.contains (x,kf)=true->GD w K mg x kf
 fk:∀ c f,W.fk.contains (c,f)=true->Cls K (Cs.adr c)/\NoAttr K (Cs.adr c) f
 mc:∀ c q n,W.mc.contains (c,q,n)=true->mg c=some (.ref (Cs.adr c))/\(∃ j,j+1<=k/\KnI P w K mg base (CX1 P w) (Cs.adr c) j (spX mg n (cf q)))/\Ran n (cf q)
 ml:∀ c m q n,W.ml.contains (c,m,q,n)=true->KnM P w K mg base (CX1 P w) (Cs.adr c) m k (spX mg n (cf q))/\Ran n (cf q)
def Lk(K:Ah)(mg:Aq)(f:Ap)(nm:Str):Kd->Prop
 |.fn=>mg nm=some (.ref f)
 |.me c m=>Cls K (Cs.adr c)/\Y6 K (Cs.adr c) m f
 |.ini c=>Mk K (Cs.adr c) f/\mg c=some (.ref (Cs.adr c))
structure Dx(K:Ah)(mg:Aq)(d:DefI):Prop where
 ex:∃(x:Str)(f:Ap)(fd:FuncData),Fun K x d.name d.st f fd/\Binds K fd d.ps []/\Lk K mg f d.name d.kd
section
variable {P:Ar}{w:World}{K:Ah}{mg:Aq}{base:Heap}{cf:CF}{W:Wd}{k:Nat}
theorem zi5:XSc (Qu CX0 P w K mg base N x sc f cdv A outer s H E).nox sc N where
 hN:=rfl
 vis x h:=by
  unfold zd6 at h
  simp only[xN,x0]at h
  rcases h with (h | h) | h
  ·exact .inl h
  ·exact .inr (.inl h)
  ·exact .inr (.inr h)
 loc x h:=h
 cel x h:=⟨h,rfl⟩
 fre x h:=.inr h
 glo x h:=by
  unfold W6 at h
  simp only[x0]at h
  exact h
theorem zgs:XSc (Qu (CX1 P w) P w K mg base N x sc f cdv A outer s H E) sc N where
 hN:=rfl
 vis x h:=by
  unfold zd6 at h
  simp only[xN,x0]at h
  rcases h with (h | h) | h
  ·exact .inl h
  ·exact .inr (.inl h)
  ·exact .inr (.inr h)
 loc x h:=h
 cel x h:=⟨h,rfl⟩
 fre x h:=.inr h
 glo x h:=by
  unfold W6 at h
  simp only[x0]at h
  exact h
theorem zfM:Sees (List.range n) ν ν:=λs i v e1 e2=>by
 have hs:s<n:=by
  have:=(xb.mp e1).1
  simpa using this
 rw[ut hs]at e1
 cases e1
 exact e2
noncomputable def XPd(mg:Aq)(E:XK):XPT:=λx _ _ ν _ H=>∀ C,mg x.cls=some (.ref C)->match x.pay with
 |.none=>E (.ref C) none H
 |.str a=>∀ d v,ν.getLast?=some (some v)->H d=some (.xd [(a,v)])->E (.ref C) (some d) H
 |_=>False
theorem zic{N:Ab}{x:Str}{sc:Scope}{f:Ap}{cdv:Aj}{A:Around}{outer:List Env}{s:Am}{H:Hp}{E:XK} :
  PxOk (Qu (CX1 P w) P w K mg base N x sc f cdv A outer s H E) (XPd mg E):=λσ pins H1 e s' x Γ F ν C h1 hy h2 u=>y7 u rfl rfl rfl (by have:=h2 C h1;rw[hy]at this;exact this)
theorem KO{st:Stmt}{f:Ap}{sp:Sp}(F:Fun K x qual st f fd)(S:ja N ps (defScope st))(len:∀ vs H Q E,sp vs H Q E->vs.length=ps.length)
  (hbody:∀(cdv:Aj)(A:Around)(outer:List Env)(s:Am)(H:Hp)(vs:List V)(Q:VK)(E:XK),Room k (A.deeper (envOfC qual (defScope st) ⇑s f cdv))->sp vs H Q E ->
   wpB (Qu (CX1 P w) P w K mg base N qual (defScope st) f cdv A outer s H E) (defBody st) { nx:=λ_ H'=>Q .non H',rt:=Q } (start N vs) H):FnOk P w K mg base (CX1 P w) (k+1) f fd ps sp:=by
 obtain⟨oc,od,kV,doc,pm,an,cdv,ct,osl,rfl,lk,hcd⟩:=F.ex
 exact zgA lk hcd S len λA outer s H vs Q E hr hsp=>⟨_,qF,hbody cdv A outer s H vs Q E hr hsp⟩
theorem zjl{d:DefI}{f:Ap}(D:Fun K x d.name d.st f fd)(hok:d.ok W=true)(T:WK P w K mg base cf W k)(hk:1<=k):FnOk P w K mg base (CX1 P w) (k+1) f fd d.ps (spX mg d.mask.length (d.run cf)):=by
 unfold DefI.ok at hok
 simp only[xa,x0,xI,xN]at hok
 obtain⟨⟨⟨⟨h1,h2⟩,h3⟩,h4⟩,h5⟩:=hok
 have S:=vG h1
 have hNl:d.mask.length<=d.N.length:=by
  have:=congrArg List.length S.pre
  rw[xP]at this;omega
 refine KO D S (λvs H Q E h=>by rw[h.1,h2]) λcdv A outer s H vs Q E hr hsp=>?_
 obtain⟨hv,M0,F,args,rs,hm⟩:=hsp
 have hal:args.length=d.mask.length:=by have:=rs.len;simpa [hv] using this.symm
 have rs1:=rs.ext (d.N.length-d.mask.length)
 have hst:L2.start d.N vs=vs.map some++List.replicate (d.N.length-d.mask.length) none:=by unfold L2.start;rw[hv]
 rw[hst]
 have hsl:(vs.map some++List.replicate (d.N.length-d.mask.length) none:L2.St).length=d.N.length:=by simp[hv];omega
 refine @zgH _ cf W d.body (Qu (CX1 P w) P w K mg base d.N d.name (defScope d.st) f cdv A outer s H E) (XPd mg E) k (defScope d.st) d.N (List.range d.N.length) d.N.length d.mask.length d.io zgs
  ⟨T.bi,T.gi,T.gs,T.fn,hr,hk,rfl,T.ex,T.mr,T.gd,λc f h=>⟨(T.fk c f h).1,(T.fk c f h).2⟩,T.mc,T.ml,zic,⟨_,_,_,rfl,rfl,rfl⟩ ⟩ ⟨PassesOwn.leaving,S.nd,List.nodup_range,λi hi=>?_,(λx Γ F ν σ H' hy h C hC pins s1 I h' ea hm=>wR I rfl rfl rfl hm (by have:=h C hC;rw[hy]at this;exact this)),(λc a Γ F ν σ H' d v h hd C hC pins s1 I h' ea hm=>wR I rfl rfl rfl hm (h C hC d v (by simp) hd)),rfl,rfl⟩ (defBody d.st) h5 M0 F _ _ _ H _ rs1 zfM hsl ?_
 ·exact (xb.mp (h3 i hi)).1
 ·have back:∀{F':Fp}{Γ':Gv}{ν':Nu}{o:OV}{v:V}{H':Hp}{G:Prop},RS M0 F' (Γ'++ [some o]) (ν'++ [some v]) H'->(∀ i∈d.io,ν'[i]?=(vs.map some++List.replicate (d.N.length-d.mask.length) none:Nu)[i]?)->Stp F H F' H' ->
    (∀ F',RS M0 F' (outs d.mask Γ'++ [some o]) (vs.map some++ [some v]) H'->Stp F H F' H'->G)->G:=λ{F' Γ' ν' o v H' G} r' hn s' hq=>by
   obtain⟨F2,r2,s2⟩:=r'.outs hv λj hj=>by
    have hjl:=(xb.mp hj).1
    have hjm:j∈d.io:=by
     rcases h4 j (List.mem_range.mpr hjl)with z | z
     ·exact absurd hj z
     ·simpa using z
    rw[hn j hjm,xc (by simp[hv];exact hjl),xl]
   exact hq F2 r2 (s'.trans s2)
  unfold DefI.run at hm
  rw[if_pos hal]at hm
  generalize d.body.ex cf d.io (args.map some++List.replicate (d.N.length-d.mask.length) none)=rr at hm
  cases rr with
  |bad=>exact hm.elim
  |exc x Γ'=>
   intro F' ν' σ' H' r' s' _ _ hn C hC
   unfold fin at hm
   dsimp only at hm
   cases hpay:x.pay with
   |none=>
    rw[hpay]at hm
    exact back (r'.newD .none) hn s' λF2 r2 s2=>hm C hC F2 H' r2 s2
   |str a=>
    rw[hpay]at hm
    dsimp only at hm
    cases hgl:Γ'.getLast? with
    |none=>rw[hgl]at hm;exact hm.elim
    |some oo=>
     rw[hgl]at hm
     cases oo with
     |none=>exact hm.elim
     |some o=>
      dsimp only at hm
      by_cases hlt:d.mask.length<Γ'.length
      ·rw[if_pos hlt]at hm
       intro dx v hv hdx
       obtain⟨Γ0,rfl⟩:=List.getLast?_eq_some_iff.mp hgl
       obtain⟨ν0,rfl⟩:=List.getLast?_eq_some_iff.mp hv
       rw[List.dropLast_concat]at hm
       have hl2:ν0.length=Γ0.length:=by have:=r'.len;simpa using this
       refine back r' (λi hi=>?_) s' λF2 r2 s2=>hm C hC F2 v dx H' r2 s2 hdx
       have hi2:=(xb.mp (h3 i hi)).1
       rw[<- hn i hi,xc (by rw[hl2];simp at hlt;omega)]
      ·rw[if_neg hlt]at hm;exact hm.elim
   |_=>rw[hpay]at hm;exact hm.elim
  |ok z=>
   obtain⟨fl,Γ'⟩:=z
   cases fl with
   |brk=>exact hm.elim
   |cnt=>exact hm.elim
   |next=>
    intro F' ν' σ' H' r' s' hs' hl' hn
    exact back (r'.newD .none) hn s' λF2 r2 s2=>hm F2 _ H' r2 s2
   |ret o=>
    intro F' ν' v H' r' s' hn
    exact back r' hn s' λF2 r2 s2=>hm F2 v H' r2 s2
theorem zhw{d:DefI}(D:Fun K x d.name d.st f fd)(hok:d.ok W=true):FnOk P w K mg base (CX1 P w) 1 f fd d.ps (spX mg d.mask.length λ_=>.bad):=by
 unfold DefI.ok at hok
 simp only[xa,x0]at hok
 refine KO D (vG hok.1.1.1.1) (λvs H Q E h=>by rw[h.1,hok.1.1.1.2]) λcdv A outer s H vs Q E hr hsp=>?_
 obtain⟨hv,M0,F,args,rs,hm⟩:=hsp
 exact hm.elim
noncomputable def wOk(defs:List DefI)(W:Wd):Bool:=W.fl.all (λp=>okO (defs.find? λd=>decide (d.name=p.1)) λd=>decide (d.mask.length=p.2)&&decide (d.kd=.fn))
 && W.mc.all (λp=>okO (defs.find? λd=>decide (d.name=p.2.1)) λd=>decide (d.mask.length=p.2.2)&&decide (d.kd=.ini p.1))
 && W.ml.all (λp=>okO (defs.find? λd=>decide (d.name=p.2.2.1)) λd=>decide (d.mask.length=p.2.2.2)&&decide (d.kd=.me p.1 p.2.1))
theorem zal{j:Nat}(hd:∀ d∈defs,Dx K mg d/\d.ok W=true)(hw:wOk defs W=true)(hbi:∀ x,W.bi.contains x=true->mg x=none)
  (hgi:∀ x i,W.gi.contains (x,i)=true->∃ t,mg x=some (.int i t)) (hgs:∀ x i,W.gs.contains (x,i)=true->∃ t,mg x=some (.str i t))
  (hex:∀ x,W.ex.contains x=true->∃ C,mg x=some (.ref C)/\PySem.W.excIn K C bmV "ValueError.__new__" =true) (hmr:∀ x C y C2,W.ex.contains x=true->mg x=some (.ref C)->W.ex.contains y=true->mg y=some (.ref C2)->(mroIn K C).contains (.ref C2)=decide (x=y)) (hgd:∀ x kf,W.gd.contains (x,kf)=true->GD w K mg x kf)
  (hfk:∀ c f,W.fk.contains (c,f)=true->Cls K (Cs.adr c)/\NoAttr K (Cs.adr c) f)
  (hF:∀(d:DefI)(x:Str)(f:Ap)(fd:FuncData),defs.find? (λe=>decide (e.name=d.name))=some d->Fun K x d.name d.st f fd->d.ok W=true->FnOk P w K mg base (CX1 P w) j f fd d.ps (spX mg d.mask.length (cf d.name))/\Ran d.mask.length (cf d.name)) (hj:j+1<=k) (hk2:2<=k):WK P w K mg base cf W k:=by
 unfold wOk at hw
 simp only[xa,xI]at hw
 obtain⟨⟨w1,w2⟩,w3⟩:=hw
 have get:∀(x:Str)(n:Nat)(kd:Kd),okO (defs.find? λd=>decide (d.name=x)) (λd=>decide (d.mask.length=n)&&decide (d.kd=kd))=true->∃(d:DefI)(y:Str)(f:Ap)(fd:FuncData),d.name=x/\Fun K y d.name d.st f fd/\Binds K fd d.ps []/\Lk K mg f x kd/\FnOk P w K mg base (CX1 P w) j f fd d.ps (spX mg n (cf x))/\Ran n (cf x):=λx n kd h=>by
  obtain⟨d,e,h⟩:=zd h
  simp only[xa,x0]at h
  obtain⟨rfl,rfl⟩:=h
  have hmem:=List.mem_of_find?_eq_some e
  have hnm:d.name=x:=by simpa using List.find?_some e
  subst hnm
  obtain⟨D,ok⟩:=hd d hmem
  obtain⟨y,f,fd,F,hb,lk⟩:=D.ex
  obtain⟨q1,q2⟩:=hF d y f fd e F ok
  exact⟨d,y,f,fd,rfl,F,hb,lk,q1,q2⟩
 refine⟨hbi,hgi,hgs,λx n h=>?_,hex,hmr,hgd,hfk,λc q n h=>?_,λc m q n h=>?_⟩
 ·obtain⟨d,y,f,fd,e,F,hb,lk,q1,q2⟩:=get x n .fn (w1 (x,n) (ud.mp h))
  exact⟨⟨f,fd,d.ps,q1.mono (by omega),lk,F.kp,hb⟩,q2⟩
 ·obtain⟨d,y,f,fd,e,F,hb,lk,q1,q2⟩:=get q n (.ini c) (w2 (c,q,n) (ud.mp h))
  exact⟨lk.2,⟨j,hj,f,fd,d.ps,q1,lk.1,hb⟩,q2⟩
 ·obtain⟨d,y,f,fd,e,F,hb,lk,q1,q2⟩:=get q n (.me c m) (w3 (c,m,q,n) (ud.mp h))
  exact⟨⟨f,fd,d.ps,q1.mono (by omega),lk.1,lk.2,hb⟩,q2⟩
theorem wk_all{defs:List DefI}(hd:∀ d∈defs,Dx K mg d/\d.ok W=true)(hw:wOk defs W=true)(hbi:∀ x,W.bi.contains x=true->mg x=none)
  (hgi:∀ x i,W.gi.contains (x,i)=true->∃ t,mg x=some (.int i t)) (hgs:∀ x i,W.gs.contains (x,i)=true->∃ t,mg x=some (.str i t))
  (hex:∀ x,W.ex.contains x=true->∃ C,mg x=some (.ref C)/\PySem.W.excIn K C bmV "ValueError.__new__" =true) (hmr:∀ x C y C2,W.ex.contains x=true->mg x=some (.ref C)->W.ex.contains y=true->mg y=some (.ref C2)->(mroIn K C).contains (.ref C2)=decide (x=y)) (hgd:∀ x kf,W.gd.contains (x,kf)=true->GD w K mg x kf)
  (hfk:∀ c f,W.fk.contains (c,f)=true->Cls K (Cs.adr c)/\NoAttr K (Cs.adr c) f):∀ n,WK P w K mg base (Vo defs n) W (2*n+2)
 |0=>zal hd hw hbi hgi hgs hex hmr hgd hfk (λd x f fd _ F ok=>⟨zhw F ok,λargs=>⟨λe=>absurd rfl e,λx o e=>by cases e⟩⟩) (by omega) (by omega)
 |n+1=>zal hd hw hbi hgi hgs hex hmr hgd hfk (λd x f fd e F ok=>by
   have ec:Vo defs (n+1) d.name=d.run (Vo defs n):=by
    funext args
    rw[Vo,e]
   rw[ec]
   exact⟨zjl F ok (wk_all hd hw hbi hgi hgs hex hmr hgd hfk n) (by omega),d.ran _⟩) (by omega) (by omega)
noncomputable def Qd(cells:List Int)(i l t s:Int):OV:=.l [.d (.list (cells.map .int)),.d (.int i),.d (.int l),.d (.int t),.d (.int s)]
theorem law_ok {st:Stmt}{x:Str}{kb:Nat}{body:IB}{rest:List Stmt}{pos' p3 p2 p pos:Pos}(Fn:Fun K "law" "law" st fa fd) (hS:vF N ["_law_script"] (defScope st)=true) (hkb:Kn P w K mg base CX0 "_law_box" kb (zdA K)) (hkb2:kb<=k) (T:WK P w K mg base cf W k) (hk:1<=k)
  (hb:defBody st=.Assign [.Name x pos'] (.Call (.Name "_law_box" p3) [.Name "_law_script" p2] [] p) pos::rest) (hN0:N[0]?=some ("_law_script" :Str)) (hN1:N[1]?=some x) (hv0:(defScope st).names.lookup ("_law_script" :Str)=some .local) (hx:Loc (defScope st) x) (hg:(defScope st).names.lookup ("_law_box" :Str)=some .globalImplicit)
  (hchk:body.chk W (defScope st) N (List.range N.length) N.length 0 rest=true)
  (hrun:∀ (cells:List Int) (i l t s:Int),0<=i->∃ Γ',body.ex cf [] (none::some (Qd cells i l t s)::List.replicate (N.length-2) none)=.ok (.ret (.d (.bool true)),Γ')):FnOk P w K mg base CX0 (k+1) fa fd ["_law_script"] (zae K):=by
 have S:=vG hS
 refine Fn.law S λcdv A outer s H Q E a ns hr hSq hlen kk=>?_
 have hl2:2<=N.length:=by have:=(xb.mp hN1).1;omega
 rw[hb]
 refine zi3 (X:=(Qu CX0 P w K mg base N "law" (defScope st) fa cdv A outer s H E).nox) (N:=N) S.nd hkb (hr.mono hkb2) hSq hlen (λb σ1 H1 s1 nb hB rs1 l1=>?_) rfl hN0 hN1 (.inl hv0) hx (.inl rfl) hg rfl rfl
 obtain⟨c,cells,i,l,t,sd,B⟩:=hB
 have hσ:σ1[1]?=some (some (.ref b)):=rs1.av 1 (.ref b) (by
  rw[xj]
  simp
  exact hl2)
 have hF:∀ j a,a∈fset (λ_=> []) 1 [b] j->j=1/\a=b:=λj a h=>by
  by_cases hj:j=1
  ·subst hj;rw[zh]at h;exact⟨rfl,by simpa using h⟩
  ·rw[zi hj]at h;cases h
 have hM:∀ a,MM zG (fset (λ_=> []) 1 [b]) a->a=b:=λa h=>by
  rcases h with h | ⟨j,h⟩
  ·exact h.elim
  ·exact (hF j a h).2
 have rs:RS zG (fset (λ_=> []) 1 [b]) (none::some (Qd cells i l t sd)::List.replicate (N.length-2) none) (none::some (.ref b)::List.replicate (N.length-2) none) H1:=by
  refine⟨λa h=>h.elim,λj a h z=>z,λj=>?_,λj k a h1 h2=>by rw[(hF j a h1).1,(hF k a h2).1],λj o e=>?_,λj h=>?_,by simp⟩
  ·by_cases hj:j=1
   ·subst hj;rw[zh];exact xA.mpr ⟨(λz=>nomatch z),.nil⟩
   ·rw[zi hj];exact .nil
  ·match j,e with
   |0,e=>simp at e
   |1,e=>
    have e':Qd cells i l t sd=o:=by simpa using e
    subst e'
    refine⟨.ref b,rfl,?_⟩
    rw[zh]
    refine .l B.hb (.cons (.d (B.hc.less λa ha _=>hM a ha)) (.cons (.d (.int _)) (.cons (.d (.int _)) (.cons (.d (.int _)) (.cons (.d (.int _)) .nil)))))
   |j+2,e=>
    rw[um,um,xT]at e
    split at e<;>cases e
  ·by_cases hj:j=1
   ·subst hj;exact absurd rfl (h (Qd cells i l t sd))
   ·rw[zi hj]
 have sees:Sees (List.range N.length) (none::some (.ref b)::List.replicate (N.length-2) none) σ1:=λs' j v e1 e2=>by
  have hs:s'<N.length:=by
   have:=(xb.mp e1).1
   simpa using this
  rw[ut hs]at e1
  cases e1
  match s',e2 with
  |0,e2=>simp at e2
  |1,e2=>
   have:V.ref b=v:=by simpa using e2
   subst this;exact hσ
  |j+2,e2=>
   rw[um,um,xT]at e2
   split at e2<;>cases e2
 obtain⟨Γ',er⟩:=hrun cells i l t sd B.hi
 refine @zgH _ cf W body (Qu CX0 P w K mg base N "law" (defScope st) fa cdv A outer s H E).nox XP0 k (defScope st) N (List.range N.length) N.length 0 [] zi5 ⟨T.bi,T.gi,T.gs,T.fn,hr,hk,rfl,T.ex,T.mr,T.gd,λc f h=>⟨(T.fk c f h).1,(T.fk c f h).2⟩,T.mc,T.ml,zfv,⟨_,_,_,rfl,rfl,rfl⟩ ⟩ ⟨PassesOwn.never,S.nd,List.nodup_range,(λi hi=>nomatch hi),(λ_ _ _ _ _ _ _ h=>h.elim),(λ_ _ _ _ _ _ _ _ _ h=>h.elim),rfl,rfl⟩ rest hchk zG _ _ _ σ1 H1 _ rs sees l1 ?_
 rw[er]
 intro F' ν' v H' r' s' hn
 obtain⟨w',ew,q⟩:=r'.at' Γ'.length (.d (.bool true)) (by rw[xf (xi _)];simp)
 have hlen:=r'.len
 have hνl:ν'.length=Γ'.length:=by simpa using hlen
 rw[xf (by omega),hνl]at ew
 have:v=w':=by simpa using ew
 subst this
 generalize F' Γ'.length=Az at q
 cases q with
 |d q=>cases q;exact kk H'
end
noncomputable def csOf(mg:Aq):Cs:=⟨λx=>match mg x with
 |some (.ref C)=>C
 |_=>0⟩
theorem yg(h:mg c=some (.ref C)):(csOf mg).adr c=C:=by
 show (match mg c with
  |some (.ref C)=>C
  |_=>0)=C
 rw[h]
section
variable {K:Ah}{mg:Aq}{h:Heap}{d:DefI}
theorem dx_fn(hk:d.kd=.fn)(D:Df K mg d.name d.st d.ps): @Dx (csOf mg) K mg d:=by
 obtain⟨f,fd,F,hm,hb⟩:=D.ex
 exact @Dx.mk (csOf mg) _ _ _ ⟨d.name,f,fd,F,hb,by rw[hk];exact hm⟩
structure ClsOf(K:Ah)(c:Str)(C:Ap):Prop where
 n:PySem.W.nsIn K mainGlobals c=some (some (.ref C))
 cl:Cls K C
structure Dm(K:Ah)(q c m:Str)(st:Stmt)(ps:Ab):Prop where
 ex:∃(C f:Ap)(fd:FuncData),ClsOf K c C/\Fun K m q st f fd/\Binds K fd ps []/\Y6 K C m f
structure Di(K:Ah)(q c:Str)(st:Stmt)(ps:Ab):Prop where
 ex:∃ (C f:Ap) (fd:FuncData),ClsOf K c C/\Fun K "__init__" q st f fd/\Binds K fd ps []/\Mk K C f
theorem Dm.of{q c m:Str}{st:Stmt}{ps:Ab}{oc:Aj}{od an:Option Ap}{sl:Array (Option Aj)}{kV dc pm cd ct:Aj}(o:ClsOf K c C)(a:PySem.W.findIn K (.ref C) m=some (some (.ref f)))(fn:PySem.W.isFn K (.ref f)=true)
  (l:K.lookup f=some ⟨oc,od,.func (PySem.W.fnOf m q (qd st) (defBody st) (defScope st) .none kV dc pm an cd ct),sl⟩) (e:PySem.W.codeIn K cd q=true) (k:PySem.W.keepIn K (.ref f)=true)
  (hb:∀(kV doc pm:Aj)(an:Option Ap)(cdv ct:Aj)(us:An),us.length=ps.length->bindArgs (PySem.W.fnOf m q (qd st) (defBody st) (defScope st) .none kV doc pm an cdv ct) ⟨us,[]⟩=pure (ps.zip us)):Dm K q c m st ps :=
 ⟨C,f,_,o,Qz l e k,(Qz l e k).binds hb,a,fn,k⟩
theorem Di.of {q c:Str}{st:Stmt}{ps:Ab}{oc:Aj}{od an:Option Ap}{sl:Array (Option Aj)}{kV dc pm cd ct:Aj}(o:ClsOf K c C) (mk:PySem.W.makesIn K C=true) (a:PySem.W.findIn K (.ref C) "__init__" =some (some (.ref f))) (fn:PySem.W.isFn K (.ref f)=true) (kc:PySem.W.keepIn K (.ref C)=true)
  (l:K.lookup f=some ⟨oc,od,.func (PySem.W.fnOf "__init__" q (qd st) (defBody st) (defScope st) .none kV dc pm an cd ct),sl⟩) (e:PySem.W.codeIn K cd q=true) (k:PySem.W.keepIn K (.ref f)=true)
  (hb:∀ (kV doc pm:Aj) (an:Option Ap) (cdv ct:Aj) (us:An),us.length=ps.length->bindArgs (PySem.W.fnOf "__init__" q (qd st) (defBody st) (defScope st) .none kV doc pm an cdv ct) ⟨us,[]⟩=pure (ps.zip us)):Di K q c st ps :=
 ⟨C,f,_,o,Qz l e k,(Qz l e k).binds hb,mk,a,fn,kc⟩
theorem dx_me(X:K.In h)(G:h.Ns mainGlobals mg)(hk:d.kd=.me c m)(D:Dm K d.name c m d.st d.ps): @Dx (csOf mg) K mg d:=by
 obtain⟨C,f,fd,o,F,hb,hm⟩:=D.ex
 refine @Dx.mk (csOf mg) _ _ _ ⟨m,f,fd,F,hb,?_⟩
 rw[hk]
 show Cls K ((csOf mg).adr c)/\Y6 K ((csOf mg).adr c) m f
 rw[yg (PySem.W.mg_of X G o.n)]
 exact⟨o.cl,hm⟩
theorem dx_ini(X:K.In h)(G:h.Ns mainGlobals mg)(hk:d.kd=.ini c)(D:Di K d.name c d.st d.ps): @Dx (csOf mg) K mg d:=by
 obtain⟨C,f,fd,o,F,hb,hm⟩:=D.ex
 refine @Dx.mk (csOf mg) _ _ _ ⟨"__init__",f,fd,F,hb,?_⟩
 rw[hk]
 show Mk K ((csOf mg).adr c) f/\mg c=some (.ref ((csOf mg).adr c))
 rw[yg (PySem.W.mg_of X G o.n)]
 exact⟨hm,PySem.W.mg_of X G o.n⟩
theorem zjk(X:K.In h)(G:h.Ns mainGlobals mg)(o:ClsOf K c C)(n:NoAttr K C f):Cls K ((csOf mg).adr c)/\NoAttr K ((csOf mg).adr c) f:=by
 rw[yg (PySem.W.mg_of X G o.n)]
 exact⟨o.cl,n⟩
end
end L3
namespace Wx
open PySem L2 L3
scoped instance noCs:L2.Cs:=⟨λ_=>0⟩
noncomputable def Zk:IB:=(.cons (.ret (.dat (.and (.isi "int" (.var 0 0)) (.not (.isi "bool" (.var 0 0)))))) .nil)
noncomputable def jbe:IE:=(.call (.call "_law_whole" 1 (.cons (.var 0 1) .nil)))
noncomputable def j1:IB:=(.cons (.ret (.dat (.and (.isi "list" (.var 0 0)) (.all (.new (.comp 1 1 [] ["_law_one"] (.nm 0 1) (.list (.var 0 0)) .yes jbe)))))) .nil)
noncomputable def Zi:IB:=(.cons (.asg 2 2 (.dat (.bin .Mod (.bin .Add (.bin .Add (.bin .Mult (.var 0 0) (.cint 48271)) (.bin .Mult (.var 1 1) (.cint 69621))) (.cint 12345)) (.cint 2147483647)))) (.cons (.asg 3 3 (.dat (.bin .Mod (.bin .Add (.bin .Add (.bin .Mult (.var 2 2) (.bin .Add (.bin .Mod (.var 2 2) (.cint 65521)) (.cint 7))) (.bin .Mult (.var 1 1) (.cint 40692))) (.bin .Mod (.var 0 0) (.cint 104729))) (.cint 998244353)))) (.cons (.ret (.dat (.bin .FloorDiv (.var 3 3) (.cint 7)))) .nil)))
noncomputable def qt:IB:=(.cons (.set 0 0 (.cint 3) (.bin .Add (.ix (.var 0 0) (.cint 3)) (.cint 1))) (.cons (.ite (.cmp .Gt (.ix (.var 0 0) (.cint 2)) (.cint 0)) (.cons (.asg 2 2 (.dat (.ix (.var 0 0) (.cint 2)))) (.cons (.set 0 0 (.cint 2) (.bin .FloorDiv (.var 2 2) (.var 1 1))) (.cons (.ret (.dat (.bin .Mod (.var 2 2) (.var 1 1)))) .nil))) .nil) (.cons (.ite (.cmp .GtE (.ix (.var 0 0) (.cint 1)) (.len (.ix (.var 0 0) (.cint 0)))) (.cons (.ret (.dat (.bin .Mod (.call (.call "_law_mixed" 2 (.cons (.ix (.var 0 0) (.cint 4)) (.cons (.ix (.var 0 0) (.cint 3)) .nil)))) (.var 1 1)))) .nil) .nil) (.cons (.asg 3 3 (.dat (.ix (.ix (.var 0 0) (.cint 0)) (.ix (.var 0 0) (.cint 1))))) (.cons (.set 0 0 (.cint 1) (.bin .Add (.ix (.var 0 0) (.cint 1)) (.cint 1))) (.cons (.ite (.cmp .Lt (.var 3 3) (.bin .Pow (.cint 10) (.cint 18))) (.cons (.ret (.dat (.bin .Mod (.call (.call "_law_mixed" 2 (.cons (.var 3 3) (.cons (.ix (.var 0 0) (.cint 3)) .nil)))) (.var 1 1)))) .nil) .nil) (.cons (.set 0 0 (.cint 2) (.bin .FloorDiv (.var 3 3) (.var 1 1))) (.cons (.ret (.dat (.bin .Mod (.var 3 3) (.var 1 1)))) .nil))))))))
noncomputable def jbc:IE:=(.tup (.cons (.ix (.ix (.var 1 0) (.var 0 1)) (.cint 0)) (.cons (.cbool false) (.cons (.ix (.ix (.var 1 0) (.var 0 1)) (.cint 2)) .nil))))
noncomputable def Qo:IB:=(.cons (.ret (.own (.comp 1 1 [0] ["_law_at","_law_rows"] (.nm 0 1) (.range (.len (.var 0 0))) .yes jbc))) .nil)
noncomputable def jbh:IE:=(.call (.call "has_cell" 2 (.cons (.var 1 0) (.cons (.var 0 2) .nil))))
noncomputable def jan:IE:=(.tup (.cons (.var 1 3) (.cons (.or (.var 2 4) (.cmp .In (.var 0 2) (.var 4 1))) (.cons (.var 3 5) .nil))))
noncomputable def qX:IB:=(.cons (.ite (.not (.all (.new (.comp 2 1 [0] ["at","bolt"] (.nm 0 2) (.tup (.var 1 1)) .yes jbh)))) (.cons (.raise "NoCell") .nil) .nil) (.cons (.ite (.cmp .NotEq (.lset (.var 1 1)) (.len (.var 1 1))) (.cons (.raise "Twice") .nil) .nil) (.cons (.ret (.own (.comp 2 4 [1] ["at","stain","waxed","wish","cells"] (.tp (.cons (.nm 0 2) (.cons (.tp (.cons (.nm 1 3) (.cons (.nm 2 4) (.cons (.nm 3 5) .nil)))) .nil))) (.enum (.var 0 0)) .yes jan))) .nil)))
noncomputable def qW:IB:=(.cons (.ret (.dat (.chain .LtE .Lt (.cint 0) (.var 1 1) (.len (.var 0 0))))) .nil)
noncomputable def jbd:IE:=(.call (.call "_law_whole" 1 (.cons (.var 0 2) .nil)))
noncomputable def j0:IB:=(.cons (.ret (.dat (.and (.isi "tuple" (.var 0 0)) (.and (.cmp .Eq (.len (.var 0 0)) (.var 1 1)) (.all (.new (.comp 2 1 [] ["_law_one"] (.nm 0 2) (.tup (.var 0 0)) .yes jbd))))))) .nil)
noncomputable def jaz:IE:=(.tup (.cons (.ix (.ix (.var 1 0) (.var 0 2)) (.cint 0)) (.cons (.or (.ix (.ix (.var 1 0) (.var 0 2)) (.cint 1)) (.cmp .In (.var 0 2) (.var 2 1))) (.cons (.ix (.ix (.var 1 0) (.var 0 2)) (.cint 2)) .nil))))
noncomputable def JB:IB:=(.cons (.ret (.own (.comp 2 1 [0,1] ["_law_at","_law_rows","_law_cells"] (.nm 0 2) (.range (.len (.var 0 0))) .yes jaz))) .nil)
noncomputable def jal:IE:=(.and (.not (.var 1 3)) (.cmp .GtE (.ix (.var 0 2) (.var 3 1)) (.gint "DEEPEST" (9))))
noncomputable def jam:IE:=(.tup (.cons (.ite (.var 1 3) (.var 0 2) (.call (.call "deepened" 2 (.cons (.var 0 2) (.cons (.var 3 1) .nil))))) (.cons (.var 1 3) (.cons (.var 2 4) .nil))))
noncomputable def jP:IB:=(.cons (.ite (.any (.new (.comp 2 3 [1] ["stain","waxed","wish","dye"] (.tp (.cons (.nm 0 2) (.cons (.nm 1 3) (.cons (.nm 2 4) .nil)))) (.list (.var 0 0)) .yes jal))) (.cons (.raise "TooDeep") .nil) .nil) (.cons (.ret (.own (.comp 2 3 [1] ["stain","waxed","wish","dye"] (.tp (.cons (.nm 0 2) (.cons (.nm 1 3) (.cons (.nm 2 4) .nil)))) (.list (.var 0 0)) .yes jam))) .nil))
noncomputable def QT:IB:=(.cons (.ret (.dat (.bin .Add (.bin .Add (.cutT (.var 0 0) .non (.one (.var 1 1))) (.tup (.cons (.bin .Add (.ix (.var 0 0) (.var 1 1)) (.cint 1)) .nil))) (.cutT (.var 0 0) (.one (.bin .Add (.var 1 1) (.cint 1))) .non)))) .nil)
noncomputable def jac:IE:=(.bin .Add (.ix (.var 1 3) (.var 0 6)) (.int (.cmp .Eq (.var 0 6) (.var 2 1))))
noncomputable def jaq:IB:=(.cons (.ite (.not (.var 4 4)) (.cons (.asg 3 3 (.dat (.tuple (.new (.comp 6 1 [3,1] ["_law_k","_law_stain","_law_dye"] (.nm 0 6) (.range (.len (.var 3 3))) .yes jac))))) .nil) .nil) (.cons (.app 2 2 (.tup (.cons (.var 3 3) (.cons (.var 4 4) (.cons (.var 5 5) .nil))))) .nil))
noncomputable def jr:IB:=(.cons (.asg 2 2 (.own (.lst .nil))) (.cons (.loop (.tp (.cons (.nm 3 3) (.cons (.nm 4 4) (.cons (.nm 5 5) .nil)))) (.list (.var 0 0)) jaq) (.cons (.ret (.move 2 2)) .nil)))
noncomputable def jar:IE:=(.and (.not (.ix (.var 0 2) (.cint 1))) (.cmp .Eq (.ix (.ix (.var 0 2) (.cint 0)) (.var 1 1)) (.cint 9)))
noncomputable def jZ:IB:=(.cons (.ret (.dat (.any (.new (.comp 2 1 [1] ["_law_cell_here","_law_dye"] (.nm 0 2) (.list (.var 0 0)) .yes jar))))) .nil)
noncomputable def jbg:IE:=(.tup (.cons (.var 0 1) (.cons (.cbool false) (.cons (.var 2 3) .nil))))
noncomputable def vo:IB:=(.cons (.ret (.own (.comp 1 3 [] ["stain","waxed","wish"] (.tp (.cons (.nm 0 1) (.cons (.nm 1 2) (.cons (.nm 2 3) .nil)))) (.list (.var 0 0)) .yes jbg))) .nil)
noncomputable def jf:IB:=(.cons (.ret (.dat (.cstr "abcdefghijklmnopqrstuvwxyz"))) .nil)
noncomputable def jat:IE:=(.six (.call (.call "_law_letters" 0 .nil)) (.call (.call "_law_take" 2 (.io 1 0 (.cons (.cint 26) .nil)))))
noncomputable def Zj:IB:=(.cons (.asg 1 1 (.dat (.bin .Add (.cint 1) (.call (.call "_law_take" 2 (.io 0 0 (.cons (.cint 8) .nil))))))) (.cons (.ret (.dat (.join "" (.new (.comp 2 1 [0] ["_law_k","_law_box_here"] (.nm 0 2) (.range (.var 1 1)) .yes jat))))) .nil))
noncomputable def Zq:IE:=(.sin (.var 0 1) (.gstr "LETTERS" "abcdefghijklmnopqrstuvwxyz"))
noncomputable def wv:IB:=(.cons (.ret (.dat (.and (.chain .LtE .LtE (.cint 1) (.slen (.var 0 0)) (.gint "MOST_LETTERS" (8))) (.all (.new (.comp 1 1 [] ["sign"] (.nm 0 1) (.chars (.var 0 0)) .yes Zq)))))) .nil)
noncomputable def jQ:IB:=(.cons .bad .nil)
noncomputable def jak:IE:=(.tup (.cons (.var 1 2) (.cons (.cbool false) (.cons (.var 1 2) .nil))))
noncomputable def Kc:IB:=(.cons (.asg 2 2 (.dat (.bin .Mult (.tup (.cons (.cint 0) .nil)) (.var 0 0)))) (.cons (.ret (.own (.comp 3 1 [2] ["at","clear"] (.nm 0 3) (.range (.var 1 1)) .yes jak))) .nil))
noncomputable def jR:IB:=(.cons .bad (.cons .bad (.cons .bad (.cons .bad .nil))))
noncomputable def ww:IB:=(.cons .bad (.cons .bad (.cons .bad .nil)))
noncomputable def za6:IB:=(.cons .bad (.cons .bad .nil))
noncomputable def jO:IB:=(.cons (.fset 0 0 "Stand" "fresh" (.dat (.var 1 1))) (.cons (.fset 0 0 "Stand" "cloths" (.dat (.var 2 2))) .nil))
noncomputable def Zr:IB:=(.cons (.ret (.dat (.call (.make "Stand" "Stand.__init__" 3 (.cons (.new (.mul (.new (.lst (.cons (.cbool true) .nil))) (.var 0 0))) (.cons (.newD .nil) .nil)))))) .nil)
noncomputable def jm:IB:=(.cons (.asgT (.tp (.cons (.nm 2 2) (.cons (.nm 3 3) .nil))) (.var 1 1)) (.cons (.expr (.call (.call "check_new" 2 (.cons (.var 0 0) (.cons (.var 2 2) .nil))))) (.cons (.ite (.not (.chain .LtE .LtE (.cint 0) (.var 3 3) (.gint "MOST_CELLS" (40)))) (.cons (.raise "BadSize") .nil) .nil) (.cons (.ret (.call "with_cloths" 2 (.cons (.var 0 0) (.cons (.newD (.one (.var 2 2) (.call (.call "bare" 2 (.cons (.len (.attr "Stand" "fresh" (.var 0 0))) (.cons (.var 3 3) .nil)))))) .nil)))) .nil))))
noncomputable def zU:IB:=(.cons (.star 2 2 3 3 (.var 1 1)) (.disp 4 4 "DEEDS" [("hang","behind_hang"),("fold","behind_fold"),("twin","behind_twin"),("wish","behind_wish"),("wax","behind_wax"),("dip","behind_dip"),("boil","behind_boil"),("brew","behind_brew")] 2 (.var 2 2) (.cons (.var 0 0) (.cons (.var 3 3) .nil))))
noncomputable def jp:IB:=(.cons (.asg 2 2 (.ownD (.copy (.attr "Stand" "cloths" (.var 0 0))))) (.cons (.dupd 2 2 (.var 1 1)) (.cons (.ret (.dat (.call (.make "Stand" "Stand.__init__" 3 (.cons (.attr "Stand" "fresh" (.var 0 0)) (.cons (.frz 2 2) .nil)))))) .nil)))
noncomputable def Zp:IB:=(.cons (.ite (.not (.call (.call "is_name" 1 (.cons (.var 1 1) .nil)))) (.cons (.raise "NoName") .nil) .nil) (.cons (.ite (.din (.var 1 1) (.attr "Stand" "cloths" (.var 0 0))) (.cons (.raise "Taken") .nil) .nil) .nil))
noncomputable def jn:IB:=(.cons (.ite (.dnin (.var 1 1) (.attr "Stand" "cloths" (.var 0 0))) (.cons (.raise "NoCloth") .nil) .nil) .nil)
noncomputable def qy:IB:=(.cons (.fset 0 0 "House" "pots" (.dat (.var 1 1))) (.cons (.fset 0 0 "House" "first" (.call "new_stand" 1 (.cons (.var 1 1) .nil))) (.cons (.fset 0 0 "House" "done" (.own (.lst .nil))) (.cons (.fset 0 0 "House" "undone" (.own (.lst .nil))) (.cons (.fset 0 0 "House" "places" (.ownD .nil)) .nil)))))
noncomputable def yD:IC:=(.one (.cmp .LtE (.var 1 5) (.var 2 3)))
noncomputable def yE:IE:=(.var 0 4)
noncomputable def yF:IE:=(.var 1 5)
noncomputable def j7:IB:=(.cons (.asg 2 2 (.dat (.call (.call "behind" 2 (.cons (.call (.meth 0 0 "House" "now" "House.now" 1 .nil)) (.cons (.var 1 1) .nil)))))) (.cons (.asg 3 3 (.dat (.flen 0 0 "House" "done"))) (.cons (.fset 0 0 "House" "places" (.ownD (.comp 4 2 [3] ["word","place","many"] (.tp (.cons (.nm 0 4) (.cons (.nm 1 5) .nil))) (.items (.ffrz 0 0 "House" "places")) yD yE yF))) (.cons (.fapp 0 0 "House" "done" (.p (.v 1 1) (.v 2 2))) (.cons (.fset 0 0 "House" "undone" (.own (.lst .nil))) .nil)))))
noncomputable def jh:IB:=(.cons (.ret (.own (.sortD (.attr "Stand" "cloths" (.call (.meth 0 0 "House" "now" "House.now" 1 .nil)))))) .nil)
noncomputable def jai:IC:=(.one (.var 1 2))
noncomputable def jaj:IE:=(.var 0 1)
noncomputable def ji:IB:=(.cons (.ret (.own (.comp 1 2 [] ["dye","is_fresh"] (.tp (.cons (.nm 0 1) (.cons (.nm 1 2) .nil))) (.enum (.attr "Stand" "fresh" (.call (.meth 0 0 "House" "now" "House.now" 1 .nil)))) jai jaj))) .nil)
noncomputable def ja3:IE:=(.var 0 2)
noncomputable def qU:IB:=(.cons (.ret (.own (.comp 2 3 [] ["stain","waxed","wish"] (.tp (.cons (.nm 0 2) (.cons (.nm 1 3) (.cons (.nm 2 4) .nil)))) (.list (.call (.meth 0 0 "House" "cloth" "House.cloth" 2 (.cons (.var 1 1) .nil)))) .yes ja3))) .nil)
noncomputable def ja6:IE:=(.var 2 4)
noncomputable def qV:IB:=(.cons (.ret (.own (.comp 2 3 [] ["stain","waxed","wish"] (.tp (.cons (.nm 0 2) (.cons (.nm 1 3) (.cons (.nm 2 4) .nil)))) (.list (.call (.meth 0 0 "House" "cloth" "House.cloth" 2 (.cons (.var 1 1) .nil)))) .yes ja6))) .nil)
noncomputable def ja4:IC:=(.one (.var 2 4))
noncomputable def ja5:IE:=(.var 0 2)
noncomputable def jj:IB:=(.cons (.ret (.own (.comp 2 4 [] ["at","stain","waxed","wish"] (.tp (.cons (.nm 0 2) (.cons (.tp (.cons (.nm 1 3) (.cons (.nm 2 4) (.cons (.nm 3 5) .nil)))) .nil))) (.enum (.call (.meth 0 0 "House" "cloth" "House.cloth" 2 (.cons (.var 1 1) .nil)))) ja4 ja5))) .nil)
noncomputable def jc:IB:=(.cons (.ite (.not (.ftru 0 0 "House" "done")) (.cons (.ret (.dat (.fdat 0 0 "House" "first"))) .nil) .nil) (.cons (.ret (.dat (.ix (.flast 0 0 "House" "done") (.cint 1)))) .nil))
noncomputable def qD:IB:=(.cons (.asg 2 2 (.dat (.call (.meth 0 0 "House" "now" "House.now" 1 .nil)))) (.cons (.expr (.call (.call "check_hangs" 2 (.cons (.var 2 2) (.cons (.var 1 1) .nil))))) (.cons (.ret (.dat (.dget (.attr "Stand" "cloths" (.var 2 2)) (.var 1 1)))) .nil)))
noncomputable def jau:IE:=(.call (.call "_law_shades" 2 (.cons (.var 0 2) (.cons (.len (.var 0 2)) .nil))))
noncomputable def qN:IB:=(.cons (.ite (.or (.not (.isi "list" (.var 0 0))) (.cmp .NotEq (.var 0 0) (.var 1 1))) (.cons (.ret (.dat (.cbool false))) .nil) .nil) (.cons (.ret (.dat (.all (.new (.comp 2 1 [] ["_law_one"] (.nm 0 2) (.list (.var 0 0)) .yes jau))))) .nil))
noncomputable def j9:IB:=(.cons (.asgT (.tp (.cons (.nm 2 2) (.cons (.nm 3 3) .nil))) (.var 1 1)) (.cons (.expr (.call (.call "check_hangs" 2 (.cons (.var 0 0) (.cons (.var 2 2) .nil))))) (.cons (.ret (.call "with_cloths" 2 (.cons (.var 0 0) (.cons (.newD (.one (.var 2 2) (.call (.call "with_wax" 2 (.cons (.dget (.attr "Stand" "cloths" (.var 0 0)) (.var 2 2)) (.cons (.var 3 3) .nil)))))) .nil)))) .nil)))
noncomputable def ja9:IE:=(.var 0 5)
noncomputable def jba:IE:=(.call (.call "dipped" 2 (.cons (.dget (.attr "Stand" "cloths" (.var 1 0)) (.var 0 5)) (.cons (.var 2 3) .nil))))
noncomputable def j8:IB:=(.cons (.asgT (.tp (.cons (.nm 2 2) (.cons (.nm 3 3) .nil))) (.var 1 1)) (.cons (.expr (.call (.call "check_dye" 2 (.cons (.var 0 0) (.cons (.var 3 3) .nil))))) (.cons (.ite (.not (.ix (.attr "Stand" "fresh" (.var 0 0)) (.var 3 3))) (.cons (.raise "Spent") .nil) .nil) (.cons (.expr (.call (.call "check_names" 2 (.cons (.var 0 0) (.cons (.var 2 2) .nil))))) (.cons (.asg 4 4 (.dat (.newD (.comp 5 1 [0,3] ["name","stand","dye"] (.nm 0 5) (.std (.tup (.var 2 2))) .yes ja9 jba)))) (.cons (.ret (.call "with_pot" 3 (.cons (.call (.call "with_cloths" 2 (.cons (.var 0 0) (.cons (.var 4 4) .nil)))) (.cons (.var 3 3) (.cons (.cbool false) .nil))))) .nil))))))
noncomputable def ja7:IE:=(.var 0 3)
noncomputable def ja8:IE:=(.call (.call "boiled" 1 (.cons (.dget (.attr "Stand" "cloths" (.var 1 0)) (.var 0 3)) .nil)))
noncomputable def jk:IB:=(.cons (.asg 2 2 (.dat (.ix (.var 1 1) (.cint 0)))) (.cons (.expr (.call (.call "check_names" 2 (.cons (.var 0 0) (.cons (.var 2 2) .nil))))) (.cons (.ret (.call "with_cloths" 2 (.cons (.var 0 0) (.cons (.newD (.comp 3 1 [0] ["name","stand"] (.nm 0 3) (.std (.tup (.var 2 2))) .yes ja7 ja8)) .nil)))) .nil)))
noncomputable def jl:IB:=(.cons (.asg 2 2 (.dat (.ix (.var 1 1) (.cint 0)))) (.cons (.expr (.call (.call "check_dye" 2 (.cons (.var 0 0) (.cons (.var 2 2) .nil))))) (.cons (.ite (.ix (.attr "Stand" "fresh" (.var 0 0)) (.var 2 2)) (.cons (.raise "StillFresh") .nil) .nil) (.cons (.ret (.call "with_pot" 3 (.cons (.var 0 0) (.cons (.var 2 2) (.cons (.cbool true) .nil))))) .nil))))
noncomputable def QU:IB:=(.cons (.asg 3 3 (.own (.list (.attr "Stand" "fresh" (.var 0 0))))) (.cons (.set 3 3 (.var 1 1) (.var 2 2)) (.cons (.ret (.dat (.call (.make "Stand" "Stand.__init__" 3 (.cons (.frz 3 3) (.cons (.attr "Stand" "cloths" (.var 0 0)) .nil)))))) .nil)))
noncomputable def jbb:IB:=(.cons (.expr (.call (.call "check_hangs" 2 (.cons (.var 0 0) (.cons (.var 2 2) .nil))))) .nil)
noncomputable def jo:IB:=(.cons (.loop (.nm 2 2) (.tup (.var 1 1)) jbb) (.cons (.ite (.cmp .NotEq (.lsetS (.var 1 1)) (.len (.var 1 1))) (.cons (.raise "Twice") .nil) .nil) .nil))
noncomputable def Zo:IB:=(.cons (.ite (.not (.chain .LtE .Lt (.cint 0) (.var 1 1) (.len (.attr "Stand" "fresh" (.var 0 0))))) (.cons (.raise "NoDye") .nil) .nil) .nil)
noncomputable def vT:IE:=(.and (.not (.ix (.var 0 2) (.cint 1))) (.cmp .Eq (.ix (.ix (.var 0 2) (.cint 0)) (.var 1 1)) (.cint 9)))
noncomputable def y3:IB:=(.cons (.ret (.dat (.any (.new (.comp 2 1 [1] ["_law_cell","_law_dye"] (.nm 0 2) (.list (.var 0 0)) .yes vT))))) .nil)
noncomputable def jas:IE:=(.cbool true)
noncomputable def Qq:IB:=(.cons (.ret (.own (.lst (.cons (.var 0 0) (.cons (.new (.comp 1 1 [] ["_law_dye"] (.nm 0 1) (.range (.var 0 0)) .yes jas)) (.cons (.newD .nil) .nil)))))) .nil)
noncomputable def jao:IE:=(.cint 0)
noncomputable def jap:IE:=(.tup (.cons (.var 1 2) (.cons (.cbool false) (.cons (.var 1 2) .nil))))
noncomputable def Zh:IB:=(.cons (.asg 2 2 (.dat (.tuple (.new (.comp 3 1 [] ["_law_dye"] (.nm 0 3) (.range (.var 0 0)) .yes jao))))) (.cons (.ret (.own (.comp 3 1 [2] ["_law_at","_law_empty"] (.nm 0 3) (.range (.var 1 1)) .yes jap))) .nil))
noncomputable def zS:IB:=(.cons (.dput 3 3 (.var 5 5) (.call (.call "_law_dip" 2 (.cons (.dget (.var 3 3) (.var 5 5)) (.cons (.ix (.var 1 1) (.cint 2)) .nil))))) .nil)
noncomputable def zT:IB:=(.cons (.dput 3 3 (.var 5 5) (.call (.call "_law_boil" 1 (.cons (.dget (.var 3 3) (.var 5 5)) .nil)))) .nil)
noncomputable def qr:IB:=(.cons (.asg 2 2 (.own (.list (.ix (.var 0 0) (.cint 1))))) (.cons (.asg 3 3 (.ownD (.copy (.ix (.var 0 0) (.cint 2))))) (.cons (.ite (.cmp .Eq (.ix (.var 1 1) (.cint 0)) (.cstr "hang")) (.cons (.dput 3 3 (.ix (.var 1 1) (.cint 1)) (.call (.call "_law_blank" 2 (.cons (.ix (.var 0 0) (.cint 0)) (.cons (.ix (.var 1 1) (.cint 2)) .nil))))) .nil) (.cons (.ite (.cmp .Eq (.ix (.var 1 1) (.cint 0)) (.cstr "fold")) (.cons (.dpop 3 3 (.ix (.var 1 1) (.cint 1))) .nil) (.cons (.ite (.cmp .Eq (.ix (.var 1 1) (.cint 0)) (.cstr "twin")) (.cons (.dput 3 3 (.ix (.var 1 1) (.cint 2)) (.dget (.var 3 3) (.ix (.var 1 1) (.cint 1)))) .nil) (.cons (.ite (.cmp .Eq (.ix (.var 1 1) (.cint 0)) (.cstr "wish")) (.cons (.asg 4 4 (.own (.list (.dget (.var 3 3) (.ix (.var 1 1) (.cint 1)))))) (.cons (.set 4 4 (.ix (.var 1 1) (.cint 2)) (.tup (.cons (.ix (.ix (.var 4 4) (.ix (.var 1 1) (.cint 2))) (.cint 0)) (.cons (.ix (.ix (.var 4 4) (.ix (.var 1 1) (.cint 2))) (.cint 1)) (.cons (.ix (.var 1 1) (.cint 3)) .nil))))) (.cons (.dput 3 3 (.ix (.var 1 1) (.cint 1)) (.frz 4 4)) .nil))) (.cons (.ite (.cmp .Eq (.ix (.var 1 1) (.cint 0)) (.cstr "wax")) (.cons (.dput 3 3 (.ix (.var 1 1) (.cint 1)) (.call (.call "_law_wax" 2 (.cons (.dget (.var 3 3) (.ix (.var 1 1) (.cint 1))) (.cons (.ix (.var 1 1) (.cint 2)) .nil))))) .nil) (.cons (.ite (.cmp .Eq (.ix (.var 1 1) (.cint 0)) (.cstr "dip")) (.cons (.set 2 2 (.ix (.var 1 1) (.cint 2)) (.cbool false)) (.cons (.loop (.nm 5 5) (.tup (.ix (.var 1 1) (.cint 1))) zS) .nil)) (.cons (.ite (.cmp .Eq (.ix (.var 1 1) (.cint 0)) (.cstr "boil")) (.cons (.loop (.nm 5 5) (.tup (.ix (.var 1 1) (.cint 1))) zT) .nil) (.cons (.set 2 2 (.ix (.var 1 1) (.cint 1)) (.cbool true)) .nil)) .nil)) .nil)) .nil)) .nil)) .nil)) .nil)) (.cons (.ret (.own (.lst (.cons (.ix (.var 0 0) (.cint 0)) (.cons (.frz 2 2) (.cons (.frz 3 3) .nil)))))) .nil))))
noncomputable def jad:IC:=(.one (.ix (.ix (.var 1 1) (.cint 1)) (.var 0 8)))
noncomputable def jae:IE:=(.var 0 8)
noncomputable def jav:IE:=(.ix (.var 0 8) (.cint 0))
noncomputable def jaw:IE:=(.ix (.var 0 8) (.cint 2))
noncomputable def jax:IC:=(.one (.ix (.ix (.var 1 6) (.var 0 8)) (.cint 1)))
noncomputable def jay:IE:=(.var 0 8)
noncomputable def jaf:IB:=(.cons (.asg 6 6 (.dat (.dget (.ix (.var 1 1) (.cint 2)) (.var 5 5)))) (.cons (.ite (.not (.call (.call "_law_pictures" 2 (.cons (.call (.meth 0 0 "House" "stains" "House.stains" 2 (.cons (.var 5 5) .nil))) (.cons (.new (.comp 8 1 [] ["_law_cell"] (.nm 0 8) (.list (.var 6 6)) .yes jav)) .nil))))) (.cons (.ret (.dat (.cbool false))) .nil) .nil) (.cons (.ite (.not (.call (.call "_law_pictures" 2 (.cons (.call (.meth 0 0 "House" "wishes" "House.wishes" 2 (.cons (.var 5 5) .nil))) (.cons (.new (.comp 8 1 [] ["_law_cell"] (.nm 0 8) (.list (.var 6 6)) .yes jaw)) .nil))))) (.cons (.ret (.dat (.cbool false))) .nil) .nil) (.cons (.asg 7 7 (.dat (.call (.meth 0 0 "House" "waxed" "House.waxed" 2 (.cons (.var 5 5) .nil))))) (.cons (.ite (.or (.not (.call (.call "_law_wholes" 1 (.cons (.var 7 7) .nil)))) (.cmp .NotEq (.var 7 7) (.new (.comp 8 1 [6] ["_law_at","_law_rows"] (.nm 0 8) (.range (.len (.var 6 6))) jax jay)))) (.cons (.ret (.dat (.cbool false))) .nil) .nil) .nil)))))
noncomputable def jg:IB:=(.cons (.asg 2 2 (.dat (.call (.meth 0 0 "House" "ready" "House.ready" 1 .nil)))) (.cons (.asg 3 3 (.dat (.call (.meth 0 0 "House" "names" "House.names" 1 .nil)))) (.cons (.asg 4 4 (.dat (.new (.comp 8 1 [1] ["_law_dye","_law_kept_here"] (.nm 0 8) (.range (.ix (.var 1 1) (.cint 0))) jad jae)))) (.cons (.ite (.or (.not (.call (.call "_law_wholes" 1 (.cons (.var 2 2) .nil)))) (.or (.cmp .NotEq (.var 2 2) (.var 4 4)) (.or (.not (.isi "list" (.var 3 3))) (.cmp .NotEq (.var 3 3) (.new (.sortD (.ix (.var 1 1) (.cint 2)))))))) (.cons (.ret (.dat (.cbool false))) .nil) .nil) (.cons (.loop (.nm 5 5) (.list (.var 3 3)) jaf) (.cons (.ret (.dat (.cbool true))) .nil))))))
noncomputable def qK:IB:=(.cons (.expr (.call (.meth 0 0 "House" "do" "House.do" 2 (.cons (.var 4 4) .nil)))) .nil)
noncomputable def qL:IB:=(.cons (.expr (.call (.meth 1 1 "House" "do" "House.do" 2 (.cons (.var 4 4) .nil)))) .nil)
noncomputable def Qp:IB:=(.cons (.loop (.nm 4 4) (.list (.var 2 2)) qK) (.cons (.loop (.nm 4 4) (.list (.var 3 3)) qL) .nil))
noncomputable def runI(n:Nat)(mask:List Bool)(io:Ac)(body:IB)(cf:CF)(args:List OV):RF:=if args.length=mask.length then fin mask (body.ex cf io (args.map some++List.replicate (n-mask.length) none)) else .bad
end Wx
local macro_rules
  | `(tactic| simp! [$xs,*])=>do
    let ys←("fin outs IB.ex IS.ex IE.ev IL.ev IA.ev IN.ev IP.ev II.ev IC.ev IO.ev sSeq sNext sAsg sIf sRet sSet sApp sFor sAsgT sExpr fVar fFrz fC fBin fCmp fB fTru fNotT fAndT fOrT fAndV fOrV fIf fIx f1 fChain fTup fLst fCons fNil fNew fOwn fOD fD fMove fCall aNil aCons aIo toArg toArgs ios putBack derf derS derSs derL leaves itemF binD cmpD truD R.bind isOwn fSeqL fSeqT fRange fEnum fYes fComp fListC fTupC gLen lenD gInt gAll gAny fIsi isiB tgF tgFs".splitOn " ").toArray.mapM fun s=>`(Lean.Parser.Tactic.simpLemma| $(Lean.mkIdent ("L3."++s).toName):ident)
    `(tactic| simp [Wx.runI,L2.tyD,L2.noL,$ys,*,$xs,*])
namespace Wx
open PySem L2 L3
def V3 (cf:CF):Prop:=∀ a b:Int,∃ r,cf "_law_mixed" [.d (.int a),.d (.int b)]=.ok (.d (.int r)) [none,none]
theorem zcE(cf:CF):V3 λ_=>runI 4 [false,false] [] Zi cf:=λa b=>by
 simp![Zi,OV.view,OV.views,Wj,ixN,atI]
 rw[if_pos]
 ·simp[outs]
 ·omega
def Qf(b:OV):Prop:=∃ cells i l t s,0<=i/\b=Qd cells i l t s
def zgY(b:OV)(n:Int)(x:RF):Prop:=∃(r:Int)(b':OV),0<=r/\r<n/\Qf b'/\x=.ok (.d (.int r)) [some b',none]
def V6 (cf:CF):Prop:=∀ b,Qf b->∀ n:Int,1<=n->n<1073741824->zgY b n (cf "_law_take" [b,.d (.int n)])
theorem zgh(cf:CF)(hm:V3 cf):V6 λ_=>runI 4 [true,false] [0] qt cf:=λb hb n h1 h2=>by
 obtain⟨cells,i,l,t,s,hi,rfl⟩:=hb
 have h0:0<n:=by omega
 have hp:((10:Int) ^ 18)=1000000000000000000:=by decide
 by_cases hl:0<l
 ·refine⟨l % n,Qd cells i (l / n) (t+1) s,uQ _ (by omega),uF _ h0,⟨_,_,_,_,_,hi,rfl⟩,?_⟩
  simp![qt,Qd,hl,h0,h2,OV.view,OV.views,Wj,ixN,atI]
 ·by_cases hc:(cells.length:Int)<=i
  ·obtain⟨r,er⟩:=hm s (t+1)
   refine⟨r % n,Qd cells i l (t+1) s,uQ _ (by omega),uF _ h0,⟨_,_,_,_,_,hi,rfl⟩,?_⟩
   simp![qt,Qd,hl,hc,h0,h2,er,OV.view,OV.views,Wj,ixN,atI]
  ·have hix:i.toNat<cells.length:=by omega
   have hlt:i<(cells.length:Int):=by omega
   have hg:=xg hix
   by_cases hs:cells[i.toNat]<1000000000000000000
   ·obtain⟨r,er⟩:=hm cells[i.toNat] (t+1)
    refine⟨r % n,Qd cells (i+1) l (t+1) s,uQ _ (by omega),uF _ h0,⟨_,_,_,_,_,by omega,rfl⟩,?_⟩
    simp![qt,Qd,hl,hc,h0,h2,hi,hlt,hg,hs,hp,er,OV.view,OV.views,Wj,ixN,atI]
   ·refine⟨cells[i.toNat] % n,Qd cells (i+1) (cells[i.toNat] / n) (t+1) s,uQ _ (by omega),uF _ h0,⟨_,_,_,_,_,by omega,rfl⟩,?_⟩
    simp![qt,Qd,hl,hc,h0,h2,hi,hlt,hg,hs,hp,OV.view,OV.views,Wj,ixN,atI]
theorem Zn{t:IT}{body:SM}(I:Aa->Gv->Prop){ds:Aa}(h0:I [] Γ)
  (hs:∀ pre d post,ds=pre++d::post->∀ Γ,I pre Γ->∃ Γ1 Γ2,tgF t d Γ=some Γ1/\body Γ1=.ok (.next,Γ2)/\I (pre++ [d]) Γ2):∃ Γ',qJ t body ds Γ=.ok (.next,Γ')/\I ds Γ':=by
 suffices H:∀ post pre Γ,ds=pre++post->I pre Γ->∃ Γ',qJ t body post Γ=.ok (.next,Γ')/\I ds Γ' from H ds [] Γ rfl h0
 intro post
 induction post with
 |nil=>intro pre Γ e h;rw[xR]at e;subst e;exact⟨Γ,rfl,h⟩
 |cons d post ih=>
  intro pre Γ e h
  obtain⟨Γ1,Γ2,e1,e2,h2⟩:=hs pre d post e Γ h
  obtain⟨Γ',e3,h3⟩:=ih (pre++ [d]) Γ2 (by rw[e];simp) h2
  exact⟨Γ',by rw[qJ,e1];simp only[e2];exact e3,h3⟩
theorem zW{k:Nat}{t:IT}{cond:EM Bool}{elt:EM FV}(I:Aa->Aa->Gv->Prop){ds:Aa}(h0:I [] [] Γ)
  (hs:∀ pre d post,ds=pre++d::post->∀ ys Γ,I pre ys Γ->∃ Γ2 c Γ3,tgF t d (Γ++List.replicate k none)=some Γ2/\cond Γ2=.ok (c,Γ3)/\(c=true->∃ u Γ4 y,elt Γ3=.ok (u,Γ4)/\derS Γ4 u=some y/\I (pre++ [d]) (ys++ [y]) (Γ4.take Γ.length))/\(c=false->I (pre++ [d]) ys (Γ3.take Γ.length))) :
  ∃ ys Γ',zY k t cond elt ds [] Γ=.ok (ys,Γ')/\I ds ys Γ':=by
 suffices H:∀ post pre ys Γ,ds=pre++post->I pre ys Γ->∃ ys' Γ',zY k t cond elt post ys Γ=.ok (ys',Γ')/\I ds ys' Γ' from H ds [] [] Γ rfl h0
 intro post
 induction post with
 |nil=>intro pre ys Γ e h;rw[xR]at e;subst e;exact⟨ys,Γ,rfl,h⟩
 |cons d post ih=>
  intro pre ys Γ e h
  obtain⟨Γ2,c,Γ3,e1,e2,ht,hf⟩:=hs pre d post e ys Γ h
  cases c with
  |true=>
   obtain⟨u,Γ4,y,e3,e4,h5⟩:=ht rfl
   obtain⟨ys',Γ',e6,h6⟩:=ih (pre++ [d]) _ _ (by rw[e];simp) h5
   have hit:itL elt Γ3=.ok (y,Γ4):=by simp only[itL,e3,R.bind,e4]
   exact⟨ys',Γ',by unfold zY;rw[loopG,e1];simp only[e2,hit];exact e6,h6⟩
  |false=>
   obtain⟨ys',Γ',e6,h6⟩:=ih (pre++ [d]) _ _ (by rw[e];simp) (hf rfl)
   exact⟨ys',Γ',by unfold zY;rw[loopG,e1];simp only[e2];exact e6,h6⟩
theorem qv{k:Nat}{t:IT}{cond:EM Bool}{elt:EM FV}(p:PyData->Bool)(f:PyData->PyData){ds:Aa}{Γ:Gv}
  (hs:∀ d∈ds,∃ Γ2 Γ3,tgF t d (Γ++List.replicate k none)=some Γ2/\cond Γ2=.ok (p d,Γ3)/\Γ3.take Γ.length=Γ/\(p d=true->∃ u Γ4,elt Γ3=.ok (u,Γ4)/\derS Γ4 u=some (f d)/\Γ4.take Γ.length=Γ)) :
  zY k t cond elt ds [] Γ=.ok ((ds.filter p).map f,Γ):=by
 obtain⟨ys,Γ',e,hy,rfl⟩:=zW (k:=k) (λpre ys Γ'=>ys=(pre.filter p).map f/\Γ'=Γ) (ds:=ds) (Γ:=Γ) ⟨rfl,rfl⟩ (by
  rintro pre d post e ys Γ' ⟨rfl,rfl⟩
  obtain⟨Γ2,Γ3,e1,e2,e3,h⟩:=hs d (by rw[e];simp)
  refine⟨Γ2,p d,Γ3,e1,e2,λhp=>?_,λhp=>⟨by simp[uG,hp],e3⟩⟩
  obtain⟨u,Γ4,e4,e5,e6⟩:=h hp
  exact⟨u,Γ4,_,e4,e5,by simp[uG,hp],e6⟩)
 rw[e,hy]
noncomputable def zb(xs:List Int):PyData:=.tuple (xs.map .int)
noncomputable def jL(st:List Int)(w:Bool)(wi:List Int):PyData:=.tuple [zb st,.bool w,zb wi]
def In9(xs:List Int):Prop:=∀ x∈xs,0<=x/\x<=9
structure zgT(pots:Nat)(st wi:List Int):Prop where
 sl:st.length=pots
 wl:wi.length=pots
 sn:In9 st
 wn:In9 wi
structure Cl where
 st:List Int
 w:Bool
 wi:List Int
noncomputable def Cl.D(c:Cl):PyData:=jL c.st c.w c.wi
theorem zM(n:Nat)(i:Int):lay n (.int i)=true:=by cases n<;>rfl
theorem vc(h:∀ x∈xs,lay n x=true):lay (n+1) (.list xs)=true:=by rw[lay];exact xI.mpr h
theorem ze1(h:∀ x∈xs,lay n x=true):lay (n+1) (.tuple xs)=true:=by rw[lay];exact xI.mpr h
theorem Wq(h:lay n d=true):PyData.eqv d d=true:=PySem.SeqAt.eqv_refl d (qf n d h).1
theorem zV(i j:Int):PyData.eqv (.int i) (.int j)=(i==j):=rfl
noncomputable def zH(xs:Ac):Aa:=xs.map λ(i:Nat)=>.int (i:Int)
noncomputable def za(cs:List Cl):PyData:=.list (cs.map Cl.D)
def Bolt(pots:Nat)(cs:List Cl):Prop:=cs.length<=1000/\∀ c∈cs,zgT pots c.st c.wi
theorem Wo{xs:List Int}(h:d<xs.length):atI (xs.map PyData.int) (d:Int)=some (.int (xs.getD d 0)):=by
 have e:(xs.map PyData.int)[d]?=some (.int (xs.getD d 0)):=by rw[xl,xg h,xH,xg h];rfl
 unfold atI ixN
 rw[if_pos (by omega),if_pos (by rw[xn];omega)]
 simpa using e
theorem y0{α:Type}(a b c:α):atI [a,b,c] 0=some a:=rfl
theorem KE{α:Type}(a b c:α):atI [a,b,c] 1=some b:=rfl
theorem Vd{α:Type}(a b c:α):atI [a,b,c] 2=some c:=rfl
theorem za1(xs:Ac):(zH xs).length=xs.length:=by simp[zH]
theorem qM{α:Type}(l:List α):l.filter (λ_=>true)=l:=List.filter_eq_self.mpr λ_ _=>rfl
def Wm (cf:CF):Prop:=∀ i:Int,cf "_law_whole" [.d (.int i)]=.ok (.d (.bool true)) [none]
theorem zd7(cf:CF):Wm λ_=>runI 1 [false] [] Zk cf:=λi=>by
 simp![Zk,OV.view,OV.views,Wj,ixN,atI]
def WG (cf:CF):Prop:=∀ xs:Ac,xs.length<=1000->cf "_law_wholes" [.d (.list (zH xs))]=.ok (.d (.bool true)) [none]
theorem zbA(cf:CF)(hw:Wm cf):WG λ_=>runI 1 [false] [] j1 cf:=λxs hl=>by
 have e:=qv (k:=1) (t:=.nm 0 1) (cond:=fYes) (elt:=(jbe.ev cf).1) (ds:=zH xs) (Γ:= [@&(.list (zH xs))]) (λ_=>true) (λ_=>.bool true) (by
  intro x hx
  obtain⟨i,_,rfl⟩:=xE.mp hx
  refine⟨_,_,by simp[tgF];rfl,rfl,by simp,λ_=>⟨.dat (.bool true),[@&(.list (zH xs)),@&(.int i)],?_,rfl,by simp⟩⟩
  simp![jbe,hw (i:Int),OV.view,OV.views,Wj,ixN,atI])
 have hz:xs.length<=1000000:=by omega
 have hb:zL (List.map (λ_=>PyData.bool true) (List.filter (λ_=>true) (zH xs)))=some ((zH xs).map λ_=>true):=by
  rw[qM,<- jb,xF];rfl
 have ha:((zH xs).map λ_=>true).all id=true:=by simp
 simp![j1,za1,hz,OV.view,OV.views,Wj,ixN,atI]
 rw[e]
 simp only[Option.bind_some,gAll,hb,uD,ha,outs];rfl
theorem YG(s:String):PyData.strOk (Str.ofString s)=true:=by
 rw[Str.ofString_eq_toList]
 unfold PyData.strOk
 rw[Array.all_eq_true]
 intro i hi
 have key:∀ c:Char,c.toNat<0x110000:=λc=>by
  have:=c.valid
  rcases this with h | h
  ·have h1:c.toNat<0xd800:=h
   omega
  ·exact h.2
 simp only[x0]
 have:∀ x∈(s.toList.map Char.toNat),x<0x110000:=λx hx=>by
  obtain⟨c,_,rfl⟩:=xE.mp hx
  exact key c
 have hi':i<(s.toList.map Char.toNat).length:=by simpa using hi
 have:=this _ (uc hi')
 simpa using this
theorem zeZ(sep:Str)(ys:Ab):Txt.join sep ys=Str.join sep ys:=StrLaws.glued_eq_join sep ys
inductive Deed where
 |hang (n:Str) (k:Int)
 |wax (n:Str) (cs:List Int)
 |dip (ns:Ab) (k:Int)
 |boil (ns:Ab)
 |brew (k:Int)
noncomputable def zx(ns:Ab):PyData:=.tuple (ns.map .str)
noncomputable def Deed.D:Deed->PyData
 |.hang n k=>.tuple [.str "hang",.str n,.int k]
 |.wax n cs=>.tuple [.str "wax",.str n,zb cs]
 |.dip ns k=>.tuple [.str "dip",zx ns,.int k]
 |.boil ns=>.tuple [.str "boil",zx ns]
 |.brew k=>.tuple [.str "brew",.int k]
def Nm(x:Str):Prop:=1<=x.length/\x.length<=8/\∀ c∈x.cps.toList,97<=c/\c<=122
theorem Nm.ok(h:Nm x):PyData.strOk x=true:=by
 unfold PyData.strOk
 rw[Array.all_eq_true]
 intro i hi
 have:=(h.2.2 x.cps[i] (by simp)).2
 simp only[x0];omega
theorem kX (cf:CF):runI 0 [] [] jf cf []=.ok (.d (.str "abcdefghijklmnopqrstuvwxyz")) []:=by
 simp![jf]
def Va (cf:CF):Prop:=cf "_law_letters" []=.ok (.d (.str "abcdefghijklmnopqrstuvwxyz")) []
theorem zaY (h0:0<=i) (h1:i<26):∃ c:Nat,atI ("abcdefghijklmnopqrstuvwxyz" :Str).cps.toList i=some c/\97<=c/\c<=122:=by
 have:∀ n:Nat,n<26->∃ c:Nat,atI ("abcdefghijklmnopqrstuvwxyz" :Str).cps.toList (n:Int)=some c/\97<=c/\c<=122:=by
  intro n hn
  have key:∀ n:Fin 26,("abcdefghijklmnopqrstuvwxyz" :Str).cps.toList[(n:Nat)]?=some (97+(n:Nat)):=by decide +kernel
  exact⟨97+n,Zx (key ⟨n,hn⟩),by omega,by omega⟩
 have e:i=((i.toNat:Nat):Int):=by omega
 rw[e]
 exact this i.toNat (by omega)
theorem yT(x:PyData):(OV.d x).view=x:=rfl
def V4 (cf:CF):Prop:=∀ b,Qf b->∃ (n:Str) (b':OV),Nm n/\Qf b'/\cf "_law_named" [b]=.ok (.d (.str n)) [some b']
theorem zcH(cf:CF)(ht:V6 cf)(hl:Va cf):V4 λ_=>runI 2 [true] [0] Zj cf:=λb hb=>by
 obtain⟨r,b1,h1,h1',hb1,e1⟩:=ht b hb 8 (by decide) (by decide)
 obtain⟨ys,Γ',e2,⟨b2,cs,hcl,hcs,hb2,rfl,rfl⟩⟩:=zW (k:=1) (t:=.nm 0 2) (cond:=fYes) (elt:=(jat.ev cf).1) (ds:=zF (1+r.toNat)) (Γ:= [some b1,@&(.int (1+r))])
  (λpre ys Γ=>∃(b2:OV)(cs:Ac),cs.length=pre.length/\(∀ c∈cs,97<=c/\c<=122)/\Qf b2/\ys=cs.map (λc=>.str ⟨#[c]⟩)/\Γ= [some b2,@&(.int (1+r))]) ⟨b1,[],rfl,(λ_ h=>nomatch h),hb1,rfl,rfl⟩ (by
   rintro pre d post e ys Γ ⟨b2,cs,hcl,hcs,hb2,rfl,rfl⟩
   obtain⟨j,b3,g1,g2,hb3,e3⟩:=ht b2 hb2 26 (by decide) (by decide)
   obtain⟨c,hc,hc1,hc2⟩:=zaY g1 g2
   refine⟨[some b2,@&(.int (1+r)),@&d],true,_,rfl,rfl,λ_=>⟨.dat (.str ⟨#[c]⟩),[some b3,@&(.int (1+r)),@&d],.str ⟨#[c]⟩,?_,rfl,b3,cs++ [c],by simp[hcl],?_,hb3,by simp,rfl⟩,λz=>nomatch z⟩
   ·have hz:("abcdefghijklmnopqrstuvwxyz" :Str).length<=1000000:=by decide
    have hl':cf "_law_letters" []=.ok (.d (.str "abcdefghijklmnopqrstuvwxyz")) []:=hl
    rwa[("abcdefghijklmnopqrstuvwxyz" :Str)=abc]
    simp![jat,hl',e3,zeR,hz,hc,yT]
   ·intro x hx
    rcases xM.mp hx with hx | hx
    ·exact hcs x hx
    ·have:x=c:=by simpa using hx
     subst this;exact⟨hc1,hc2⟩)
 rw[zj]at hcl
 have hj:Str.join "" (cs.map λc=>(⟨#[c]⟩:Str))=⟨cs.toArray⟩:=PyProof.Rows.join_ones cs
 have hm:(cs.map λc=>PyData.str ⟨#[c]⟩)=(cs.map λc=>(⟨#[c]⟩:Str)).map .str:=by rw[xF];rfl
 have hs:=vK (cs.map λc=>(⟨#[c]⟩:Str))
 have hsum:((cs.map λc=>(⟨#[c]⟩:Str)).map (·.length)).sum=cs.length:=by
  clear hs hm hj e2 hcs hcl
  induction cs with
  |nil=>rfl
  |cons c r ih=>simp only[xw,List.sum_cons,ih,xr];show 1+_=_;omega
 have hlen:(cs.map λc=>(⟨#[c]⟩:Str)).length=cs.length:=by simp
 have hg:W3 "" (.list (cs.map λc=>PyData.str ⟨#[c]⟩))=some (.str ⟨cs.toArray⟩):=by
  unfold W3
  simp only[hm,hs]
  rw[if_pos ⟨by rw[hsum,hlen];omega,by decide⟩,zeZ,hj]
 refine⟨⟨cs.toArray⟩,b2,⟨by show 1<=cs.toArray.size;simp;omega,by show cs.toArray.size<=8;simp;omega,λc hc=>hcs c (by simpa using hc)⟩,hb2,?_⟩
 have hz: -1000000<=1+r/\1+r<=1000000:=by omega
 have hr:(1+r).toNat=1+r.toNat:=by omega
 have hz2:1+r.toNat<=1000000:=by omega
 rwa[(cs.map λc=>PyData.str ⟨#[c]⟩)=CS,({ cps:=cs.toArray }:Str)=nm]
 unfold Zj
 rwa[jat=body]
 simp![e1,hz,hz2,hr,e2,zj,hg,yT]
theorem Ka(h:Str.ofString x=Str.ofString y):x=y:=by
 rw[Str.ofString_eq_toList,Str.ofString_eq_toList]at h
 have h1:x.toList.map Char.toNat=y.toList.map Char.toNat:=by
  have:=congrArg (λz:Str=>z.cps.toList) h
  simpa using this
 have key:∀ a b:List Char,a.map Char.toNat=b.map Char.toNat->a=b:=by
  intro a
  induction a with
  |nil=>intro b e;cases b with
   |nil=>rfl
   |cons _ _=>cases e
  |cons c r ih=>
   intro b e
   cases b with
   |nil=>cases e
   |cons d s=>
    rw[xw,xw,List.cons.injEq]at e
    rw[ih s e.2,show c=d from Char.ext (UInt32.toNat_inj.mp e.1)]
 exact String.toList_inj.mp (key _ _ h1)
theorem wq(x y:String):PyData.eqv (.str (Str.ofString x)) (.str (Str.ofString y))=decide (x=y):=by
 show decide (Str.ofString x=Str.ofString y)=_
 by_cases h:x=y
 ·subst h;simp
 ·rw[Xc h,Xc (λe=>h (Ka e))]
theorem vd(s:String)(n:Nat):lay n (.str (Str.ofString s))=true:=by
 have:=YG s
 cases n<;>exact this
noncomputable abbrev ch(c:Nat):Str:=⟨#[c]⟩
theorem zbV{α:Type}(xs:List α):(zL (xs.map λ_=>PyData.bool true)).map (λbs=>PyData.bool (bs.all id))=some (.bool true):=by
 have:zL (xs.map λ_=>PyData.bool true)=some (xs.map λ_=>true):=by
  induction xs with
  |nil=>rfl
  |cons a r ih=>simp[zL,ih]
 rw[this]
 simp
theorem zgZ(cf:CF){body:IE}(hb:body=.sin (.var 0 1) (.gstr x z)){cs:Ac}{D:OV}(h:∀ c∈cs,Txt.contains z (ch c)=true) :
  zY 1 (.nm 0 1) fYes (body.ev cf).1 (cs.map λc=>PyData.str (ch c)) [] [some D]=.ok (cs.map λ_=>PyData.bool true,[some D]):=by
 have e:=qv (k:=1) (t:=.nm 0 1) (cond:=fYes) (elt:=(body.ev cf).1) (Γ:= [some D]) (λ_=>true) (λ_=>.bool true) (by
  intro y hy
  obtain⟨c,hc,rfl⟩:=xE.mp hy
  have hz:=h c hc
  refine⟨[some D,@&(.str (ch c))],_,rfl,rfl,rfl,λ_=>⟨.dat (.bool true),[some D,@&(.str (ch c))],?_,rfl,rfl⟩⟩
  subst hb
  rwa[ch c=cc]
  simp![zck,hz])
 rw[qM,xF]at e
 exact e
theorem kW:∀ c:Nat,97<=c->c<=122->Txt.contains (Str.ofString "abcdefghijklmnopqrstuvwxyz") (ch c)=true:=λc h1 h2=>by
 have:∀ k:Fin 26,Txt.contains (Str.ofString "abcdefghijklmnopqrstuvwxyz") (ch (97+(k:Nat)))=true:=by decide +kernel
 have e:=this ⟨c-97,by omega⟩
 have:97+(c-97)=c:=by omega
 simp only[this]at e
 exact e
theorem zbN{x:Str}(h:∀ c∈x.cps.toList,c<=127):x.cps.all (·<128)=true:=by
 rw[Array.all_eq_true]
 intro i hi
 have:=h x.cps[i] (by simp)
 simp only[x0];omega
def WA (cf:CF):Prop:=∀ n,Nm n->cf "is_name" [.d (.str n)]=.ok (.d (.bool true)) [none]
theorem kU(cf:CF):WA λ_=>runI 1 [false] [] wv cf:=λn h=>by
 obtain⟨h1,h2,h3⟩:=h
 have ha:=zbN (x:=n) λc hc=>by have:=(h3 c hc).2;omega
 have e:=zgZ cf (body:=Zq) rfl (cs:=n.cps.toList) (D:=.d (.str n)) λc hc=>kW c (h3 c hc).1 (h3 c hc).2
 have eb:=zbV n.cps.toList
 have hs:Qa n=n.cps.toList.map λc=>PyData.str (ch c):=rfl
 have hz:n.length<=1000000:=by omega
 have hi1:(1:Int)<=(n.length:Int):=by omega
 have hi2:(n.length:Int)<=8:=by omega
 have hi3:=h1
 have hcl:(n.cps.toList.map λc=>PyData.str (ch c)).length<=1000000:=by simp;exact hz
 unfold wv
 rwa[Zq=B,(n.cps.toList.map λ_=>PyData.bool true)=BB,(n.cps.toList.map λc=>PyData.str (ch c))=CC]
 simp![Yk,kL,ha,hs,hz,hcl,hi1,hi2,hi3,h2,e,eb]
noncomputable def tps(l:Ao):Aa:=l.map λp=>.tuple [p.1,p.2]
noncomputable def prs(l:Ao):List OV:=(tps l).map .d
theorem Kg(l:Ao):leaves (prs l)=some (tps l):=zcA _
theorem qT(x y:String):(Str.ofString x=Str.ofString y)=(x=y):=propext ⟨Ka,λh=>by rw[h]⟩
noncomputable def hV (pots:Int) (first:PyData) (dn un:Ao) (pl:Ad):OV:=.o "House" ["pots","first","done","undone","places"] [.d (.int pots),.d first,.l (prs dn),.l (prs un),.m pl]
noncomputable def stV (fr:Aa) (cl:Ad):PyData:=.dict [(.none,.str "Stand"),(.str "fresh",.list fr),(.str "cloths",.dict (cl.map dK))]
theorem zk(x:PyData):(OV.d x).view=x:=rfl
theorem yU (fr:Aa) (cl:Ad):(OV.o "Stand" ["fresh","cloths"] [.d (.list fr),.d (.dict (cl.map dK))]).view=stV fr cl:=rfl
theorem Jq(x y:String):(Str.ofString x==Str.ofString y)=decide (x=y):=by
 by_cases h:x=y
 ·subst h;simp
 ·rw[Xc h]
  exact Xb.mpr λe=>h (Ka e)
theorem qe (fr:Aa) (cl:Ad):zch "Stand" "fresh" (stV fr cl)=some (.list fr):=rfl
theorem zO (fr:Aa) (cl:Ad):zch "Stand" "cloths" (stV fr cl)=some (.dict (cl.map dK)):=rfl
def Q7 (cf:CF):Prop:=∀ a b,cf "Stand.__init__" [.o "Stand" [] [],.d a,.d b]=.ok (.d .none) [some (.o "Stand" ["fresh","cloths"] [.d a,.d b]),none,none]
theorem zdF(cf:CF):Q7 λ_=>runI 3 [true,false,false] [0] jO cf:=λa b=>rfl
def zbK (cf:CF):Prop:=∀ p:Nat,p<=12->cf "new_stand" [.d (.int p)]=.ok (.d (stV (List.replicate p (.bool true)) [])) [none]
end Wx
local macro_rules
  | `(tactic| dsimp! [$xs,*])=>do
    let ys←("fDget derD fAttr fFdat objF ixF fFlen fFtru fFlast fFfrz updF setO sFset sFapp zD wD fMeth fMake IM.ev IG.ev fOwnD fNewD fDnil fDone fDcopy fCompD hid noX loopG fStd fItems fSortD fMul IQ.ex IQs.ex sRaise sDisp sStar sDupd fNo fNoV gDin gDnin".splitOn " ").toArray.mapM fun s=>`(Lean.Parser.Tactic.simpLemma| $(Lean.mkIdent ("L3."++s).toName):ident)
    `(tactic| simp! [$ys,*,$xs,*])
namespace Wx
open PySem L2 L3
theorem zhN(cf:CF)(hs:Q7 cf):zbK λ_=>runI 1 [false] [] Zr cf:=λp hp=>by
 have h:=hs (.list (List.replicate p (.bool true))) (.dict [])
 have hz:(0:Int)<=p/\(p:Int)<=1000000:=by omega
 have hz2:p<=1000000:=by omega
 have hv:(OV.m []).view=.dict []:=rfl
 have hw:=yU (List.replicate p (.bool true)) []
 dsimp! [Zr,h,hz,hz2,hv,zk,hw]
 rfl
def V2 (cf:CF):Prop:=∀ p:Nat,p<=12->cf "House.__init__" [.o "House" [] [],.d (.int p)]=.ok (.d .none) [some (hV p (stV (List.replicate p (.bool true)) []) [] [] []),none]
theorem zcp(cf:CF)(hn:zbK cf):V2 λ_=>runI 2 [true,false] [0] qy cf:=λp hp=>by
 have h:=hn p hp
 rwa[stV (List.replicate p (.bool true)) []=D]
 dsimp! [qy,h,hV,prs,tps,qT]
noncomputable def qh(first:PyData)(dn:Ao):PyData:=match dn.getLast? with
 |some p=>p.2
 |none=>first
def WD (cf:CF):Prop:=∀ (p:Int) (f:PyData) (dn un:Ao) (pl:Ad),cf "House.now" [hV p f dn un pl]=.ok (.d (qh f dn)) [some (hV p f dn un pl)]
theorem zhO(cf:CF):WD λ_=>runI 1 [true] [0] jc cf:=λp f dn un pl=>by
 cases q:dn.getLast? with
 |none=>
  have:dn= []:=List.getLast?_eq_none_iff.mp q
  subst this
  dsimp! [jc,hV,prs,tps,qh,qT]
 |some x=>
  have hne:dn≠ []:=λz=>by rw[z]at q;cases q
  have h1:prs dn≠ []:=by cases dn with
   |nil=>exact absurd rfl hne
   |cons _ _=>exact λz=>nomatch z
  have h2:(prs dn).getLast?=some (.d (.tuple [x.1,x.2])):=by
   unfold prs tps
   rw[List.getLast?_map,List.getLast?_map,q];rfl
  have hi:atI [x.1,x.2] 1=some x.2:=rfl
  simp only[hV,qh,q]
  rwa[prs dn=P]
  dsimp! [jc,h1,h2,hi,qT]
def Q6 (cf:CF):Prop:=∀ (fr:Aa) (cl:Ad) (n:Str),cf "check_hangs" [.d (stV fr cl),.d (.str n)]=if (zq cl n).isSome then .ok (.d .none) [none,none] else .exc ⟨"NoCloth",.none⟩ [none,none]
theorem zcm(cf:CF):Q6 λ_=>runI 2 [false,false] [] jn cf:=λfr cl n=>by
 have h1:=zO fr cl
 have h2:=zR cl
 rwa[stV fr cl=D]
 cases q:zq cl n<;>simp![jn,h1,h2,q,fAttr,gDnin,sRaise]
def Q3 (cf:CF):Prop:=∀ (p:Int) (f:PyData) (dn un:Ao) (pl:Ad) (fr:Aa) (cl:Ad) (n:Str),qh f dn=stV fr cl->cf "House.cloth" [hV p f dn un pl,.d (.str n)]=match zq cl n with
 |some d=>.ok (.d d) [some (hV p f dn un pl),none]
 |none=>.exc ⟨"NoCloth",.none⟩ [some (hV p f dn un pl),none]
theorem zbZ(cf:CF)(hn:WD cf)(hh:Q6 cf):Q3 λ_=>runI 3 [true,false] [0] qD cf:=λp f dn un pl fr cl n hq=>by
 have e1:=hn p f dn un pl
 have e2:=hh fr cl n
 rw[hq]at e1
 have h1:=zO fr cl
 have h2:=zR cl
 have hns:hV p f dn un pl=.o "House" ["pots","first","done","undone","places"] [.d (.int p),.d f,.l (prs dn),.l (prs un),.m pl]:=rfl
 rwa[stV fr cl=D,[OV.d (.int p),.d f,.l (prs dn),.l (prs un),.m pl]=XS,hV p f dn un pl=HH]
 subst hns
 cases q:zq cl n with
 |none=>
  rw[q]at e2
  dsimp! [qD,e1,e2,h1,h2,q,zk,qT]
 |some d=>
  rw[q]at e2
  dsimp! [qD,e1,e2,h1,h2,q,zk,qT]
noncomputable def zs(p:Nat):PyData:=.tuple (List.replicate p (.int 0))
noncomputable def qq(p:Nat):PyData:=.tuple [zs p,.bool false,zs p]
def YY (cf:CF):Prop:=∀ p s:Nat,p<=12->s<=40->cf "bare" [.d (.int p),.d (.int s)]=.ok (.l ((List.replicate s (qq p)).map .d)) [none,none]
theorem zhM{p:Nat}(hp:p<=12):binD .Mult (.tuple [.int 0]) (.int p)=some (zs p):=by
 have h1:(0:Int)<=p/\(p:Int)<1000000/\ [PyData.int 0].length*(p:Int).toNat<=1000000:=⟨by omega,by omega,by rw[ui];omega⟩
 have e:binD .Mult (.tuple [.int 0]) (.int p)=if (0:Int)<=p/\(p:Int)<1000000/\ [PyData.int 0].length*(p:Int).toNat<=1000000 then some (.tuple (List.replicate (p:Int).toNat [.int 0]).flatten) else none:=by
  rw[binD]
 rw[e,if_pos h1]
 unfold zs
 simp
theorem mul_one(p:Int)(S:OV)(Z:PyData)(G:PyData->PyData->Option PyData)(hb:G (.tuple [.int 0]) (.int p)=some Z):fBin G (fTup (fCons (fC (.int 0)) fNil)) (fVar 0) [@&(.int p),some S,none]=.ok (.dat Z,[@&(.int p),some S,none]):=by
 simp[fBin,fTup,fCons,fC,fNil,fVar,R.bind,derf,derS,derSs,hb]
theorem zhg(hz:s<=1000000)(hz2: -1000000<=S/\S<=1000000)(hn:S.toNat=s)(B:EM FV)(e:zY 1 (.nm 0 3) fYes B (zF s) [] [o0,@&(.int S),o2]=.ok (ys,[o0,@&(.int S),o2])):fComp 3 1 (.nm 0 3) (fRange (fVar 1)) fYes B [o0,@&(.int S),o2]=.ok (ys,[o0,@&(.int S),o2]):=by
 simp[fComp,fRange,fVar,R.bind,derf,hz2,hn,zj,hz,e]
theorem zbQ(e1:A1 [some P,some S,none]=.ok (.next,[some P,some S,some Z]))(e2:A2 [some P,some S,some Z]=.ok (.ret LL,[some P,some S,some Z])):fin [false,false] (sSeq A1 A2 [some P,some S,none])=.ok LL [none,none]:=by
 simp[sSeq,e1,e2,fin,outs]
theorem zeo(hb:G (.tuple [.int 0]) (.int P)=some Z):sAsg [] 2 (fD (fBin G (fTup (fCons (fC (.int 0)) fNil)) (fVar 0))) [@&(.int P),some S,none]=.ok (.next,[@&(.int P),some S,@&Z]):=by
 have q1:=mul_one P S Z G hb
 unfold sAsg fD
 rw[q1];rfl
theorem zep(hz:s<=1000000)(hz2: -1000000<=S/\S<=1000000)(hn:S.toNat=s)(B:EM FV)(e:zY 1 (.nm 0 3) fYes B (zF s) [] [o0,@&(.int S),o2]=.ok (ys,[o0,@&(.int S),o2])):sRet (fOwn (fComp 3 1 (.nm 0 3) (fRange (fVar 1)) fYes B)) [o0,@&(.int S),o2]=.ok (.ret (.l (ys.map .d)),[o0,@&(.int S),o2]):=by
 have q2:=zhg hz hz2 hn B e
 unfold sRet fOwn
 rw[q2];rfl
theorem zeq(cf:CF)(ds:Aa):zY 1 (.nm 0 3) fYes (jak.ev cf).1 ds [] [o0,o1,@&Z]=.ok (ds.map λ_=>.tuple [Z,.bool false,Z],[o0,o1,@&Z]):=by
 have e:=qv (k:=1) (t:=.nm 0 3) (cond:=fYes) (elt:=(jak.ev cf).1) (ds:=ds) (Γ:= [o0,o1,@&Z]) (λ_=>true) (λ_=>.tuple [Z,.bool false,Z]) (by
  intro x hx
  refine⟨[o0,o1,@&Z,@&x],_,rfl,rfl,rfl,λ_=>⟨.dat (.tuple [Z,.bool false,Z]),[o0,o1,@&Z,@&x],?_,rfl,rfl⟩⟩
  simp![jak])
 rw[qM]at e
 exact e
theorem zer(cf:CF):YY λ_=>runI 3 [false,false] [] Kc cf:=λp s hp hs=>by
 have e:=zeq cf (o0:=some (.d (.int p))) (o1:=some (.d (.int s))) (Z:=zs p) (zF s)
 rw[List.map_const',zj]at e
 have f1:=zeo (S:=.d (.int s)) (zhM hp)
 have f2:=zep (by omega) (by omega) (by omega) _ e
 have hB:qq p=.tuple [zs p,.bool false,zs p]:=rfl
 rw[hB]
 unfold Kc
 simp only[IB.ex,IS.ex,IE.ev,IL.ev,IN.ev,II.ev,IC.ev,IO.ev,runI,xr,uh,if_true,xw,List.map_nil]
 rwa[(jak.ev cf).1=B,binD .Mult=G,zs p=Z,(p:Int)=P,(s:Int)=S]
 exact zbQ f1 f2
def JA (cf:CF):Prop:=∀ (fr:Aa) (cl ch:Ad),cl.length+ch.length<=1000000->cf "with_cloths" [.d (stV fr cl),.d (.dict (ch.map dK))]=.ok (.d (stV fr (zf cl ch))) [none,none]
theorem jq(ds:Ad):(OV.m ds).view=.dict (ds.map dK):=rfl
theorem zgq(cf:CF)(hs:Q7 cf):JA λ_=>runI 3 [false,false] [] jp cf:=λfr cl ch hl=>by
 have h1:=zO fr cl
 have h2:=zR cl
 have h3:=qe fr cl
 have h4:=zR ch
 have e1:=hs (.list fr) (.dict ((zf cl ch).map dK))
 have hv:=jq (zf cl ch)
 have hw:=yU fr (zf cl ch)
 rwa[stV fr cl=D]
 generalize hMC:zf cl ch=MC at e1 hv hw |-
 rwa[stV fr MC=D2,PyData.dict (MC.map dK)=MD,cl.map dK=CD,ch.map dK=HD]
 dsimp! [jp,hMC,h1,h2,h3,h4,e1,hv,hw,hl,zk]
def Jy (cf:CF):Prop:=∀ (fr:Aa) (cl:Ad) (n:Str),Nm n->zq cl n=none->cf "check_new" [.d (stV fr cl),.d (.str n)]=.ok (.d .none) [none,none]
theorem Yu(cf:CF)(hi:WA cf):Jy λ_=>runI 2 [false,false] [] Zp cf:=λfr cl n hn hv=>by
 have e1:=hi n hn
 have h1:=zO fr cl
 have h2:=zR cl
 rwa[stV fr cl=D,cl.map dK=CD]
 dsimp! [Zp,e1,h1,h2,hv,zk]
def Y3 (cf:CF):Prop:=∀ (fr:Aa) (cl:Ad) (n:Str) (k:Nat),Nm n->zq cl n=none->fr.length<=12->cl.length<=1000->k<=40->cf "behind_hang" [.d (stV fr cl),.d (.list [.str n,.int k])]=.ok (.d (stV fr (zf cl [(n,.list (List.replicate k (qq fr.length)))]))) [none,none]
theorem zZ(xs:Aa):(OV.l (xs.map .d)).view=.list xs:=by rw[OV.view,OV.views_d]
theorem zeV(cf:CF)(hw:JA cf)(hc:Jy cf)(hb:YY cf):Y3 λ_=>runI 4 [false,false] [] jm cf:=λfr cl n k hn hv hf hl hk=>by
 have e1:=hc fr cl n hn hv
 have e2:=hb fr.length k hf hk
 have e3:=hw fr cl [(n,.list (List.replicate k (qq fr.length)))] (by simp;omega)
 have h1:=qe fr cl
 have hv2:=zZ (List.replicate k (qq fr.length))
 have hz:fr.length<=1000000:=by omega
 have hm:=jq [(n,PyData.list (List.replicate k (qq fr.length)))]
 have hk0:(0:Int)<=k:=by omega
 have hk1:(k:Int)<=40:=by omega
 rwa[stV fr cl=D,stV fr (zf cl [(n,.list (List.replicate k (qq fr.length)))])=D2,PyData.dict (List.map dK [(n,PyData.list (List.replicate k (qq fr.length)))])=MD,OV.l ((List.replicate k (qq fr.length)).map .d)=BL,PyData.list (List.replicate k (qq fr.length))=BD,(k:Int)=K]
 dsimp! [jm,e1,e2,e3,h1,hv2,hm,hk0,hk1,zk]
def yX (cf:CF) (S D S':PyData):Prop:=cf "behind" [.d S,.d D]=.ok (.d S') [none,none]
theorem zho(cf:CF)(hn:WD cf)(p:Int)(f:PyData)(dn un:Ao)(D S':PyData)(hl:dn.length<1000000)(hb:yX cf (qh f dn) D S'):runI 4 [true,false] [0] j7 cf [hV p f dn un [],.d D]=.ok (.d .none) [some (hV p f (dn++ [(D,S')]) [] []),none]:=by
 have e1:=hn p f dn un []
 have e2:cf "behind" [.d (qh f dn),.d D]=.ok (.d S') [none,none]:=hb
 have h1:(prs dn).length=dn.length:=by unfold prs tps;simp
 have h2:=Kg dn
 have h3:(tps dn++ [PyData.tuple [D,S']]).map OV.d=prs (dn++ [(D,S')]):=by unfold prs tps;simp
 have h4:(tps dn).length<1000000:=by unfold tps;simpa using hl
 have hv:(OV.m []).view=.dict []:=rfl
 have hu:unD []=some []:=rfl
 simp only[hV]at *
 rwa[prs (dn++ [(D,S')])=P2,qh f dn=NW,prs dn=P,tps dn=T,prs un=U]
 have hp0:prs []= []:=rfl
 dsimp! [j7,e1,e2,h1,h2,h3,h4,hv,hu,hp0,zk,qT]
theorem zbL{ds:Aa}:Option.map (λbs=>PyData.bool (bs.all id)) (zL (ds.map λ_=>PyData.bool true))=some (.bool true):=by
 have:(ds.map λ_=>PyData.bool true)=(ds.map λ_=>true).map .bool:=by rw[xF];rfl
 rw[this,jb]
 simp
theorem zd5(x:PyData):(OV.d x).view=x:=rfl
def WE (cf:CF):Prop:=∀ (xs:List Int) (pots:Nat),xs.length=pots->pots<=1000->cf "_law_shades" [.d (zb xs),.d (.int pots)]=.ok (.d (.bool true)) [none,none]
theorem zbi(cf:CF)(hw:Wm cf):WE λ_=>runI 2 [false,false] [] j0 cf:=λxs pots h hl=>by
 have e:=qv (k:=1) (t:=.nm 0 2) (cond:=fYes) (elt:=(jbd.ev cf).1) (ds:=xs.map .int) (Γ:= [@&(zb xs),@&(.int pots)]) (λ_=>true) (λ_=>.bool true) (by
  intro x hx
  obtain⟨i,_,rfl⟩:=xE.mp hx
  refine⟨[@&(zb xs),@&(.int pots),@&(.int i)],_,rfl,rfl,by simp,λ_=>⟨.dat (.bool true),[@&(zb xs),@&(.int pots),@&(.int i)],?_,rfl,by simp⟩⟩
  simp![jbd,hw i,zd5])
 rw[qM]at e
 have a1:=zbL (ds:=xs.map .int)
 have hml:(xs.map PyData.int).length=pots:=by simpa using h
 unfold zb at e |-
 rwa[xs.map PyData.int=X]
 have hz:X.length<=1000000:=by omega
 have hq:((pots:Int)==(pots:Int))=true:=by simp
 have hz2:pots<=1000000:=by omega
 simp![j0,hml,zM,zV,hq,hz,hz2,e,a1]
noncomputable def W7(d:Nat)(st:List Int):List Int:=(List.range st.length).map λk=>st.getD k 0+(if k=d then 1 else 0)
noncomputable def zz(d:Nat)(c:Cl):Cl:=if c.w then c else ⟨W7 d c.st,c.w,c.wi⟩
noncomputable def zC(d:Nat)(c:Cl):Bool:= !c.w&&decide (9<=c.st.getD d 0)
theorem Ym(d:Nat)(st:List Int):(W7 d st).length=st.length:=by unfold W7;simp
theorem zcq(h:d<st.length):st.take d++ [st.getD d 0+1]++st.drop (d+1)=W7 d st:=by
 apply ua
 intro k
 unfold W7
 rw[xl]
 by_cases hk:k<st.length
 ·rw[ut hk]
  simp only[uD]
  rw[uz]
  by_cases h1:k<d
  ·rw[xc (by simp;omega),xQ h1,xg hk,if_neg (by omega),xH,xg hk]
   simp
  ·rw[xf (by simp;omega)]
   by_cases h2:k=d
   ·subst h2
    rw[if_pos rfl]
    have:k-(st.take k).length=0:=by simp;omega
    rw[this];rfl
   ·rw[if_neg h2]
    have:k-(st.take d).length=(k-d-1)+1:=by simp;omega
    rw[this,List.singleton_append,um,List.getElem?_drop,show d+1+(k-d-1)=k by omega,xg hk,xH,xg hk]
    simp
 ·rw[xD (by simp;omega),xD (by simp;omega)];rfl
theorem zdg(h:d<=n)(z:Nat):HT.sIx n z (some (d:Int))=d:=by
 show (if (d:Int)<0 then ((d:Int)+(n:Int)).toNat else min ((d:Int).toNat) n)=d
 rw[if_neg (by omega)]
 simp;omega
def V0 (cf:CF):Prop:=∀ (st:List Int) (d:Nat),d<st.length->st.length<=1000->cf "deepened" [.d (zb st),.d (.int d)]=.ok (.d (zb (W7 d st))) [none,none]
theorem Yf(cf:CF):V0 λ_=>runI 2 [false,false] [] QT cf:=λst d h hl=>by
 have a1:=Wo h
 have hn:(st.map PyData.int).length=st.length:=by simp
 have s1:HT.sIx (st.map PyData.int).length (st.map PyData.int).length (some (d:Int))=d:=by rw[hn];exact zdg (by omega) _
 have s2:HT.sIx (st.map PyData.int).length 0 (some ((d:Int)+1))=d+1:=by
  have:=zdg (n:=st.length) (d:=d+1) (by omega) 0
  rw[hn];exact this
 have c1:kA (st.map PyData.int) none (some (d:Int))=(st.take d).map PyData.int:=by
  unfold kA
  rw[s1]
  have:HT.sIx (st.map PyData.int).length 0 none=0:=rfl
  rw[this];simp
 have c2:kA (st.map PyData.int) (some ((d:Int)+1)) none=(st.drop (d+1)).map PyData.int:=by
  unfold kA
  rw[s2]
  have:HT.sIx (st.map PyData.int).length (st.map PyData.int).length none=st.length:=by rw[hn];rfl
  rw[this,List.map_drop]
  exact uI (by simp)
 have hne:¬ (HT.sIx (st.map PyData.int).length 0 none=0/\HT.sIx (st.map PyData.int).length (st.map PyData.int).length (some (d:Int))=(st.map PyData.int).length):=by rw[s1,hn];omega
 have hne2:¬ (HT.sIx (st.map PyData.int).length 0 (some ((d:Int)+1))=0/\HT.sIx (st.map PyData.int).length (st.map PyData.int).length none=(st.map PyData.int).length):=by rw[s2];omega
 have z1:((st.take d).map PyData.int).length+1<=1000000:=by simp;omega
 have z2:((st.take d).map PyData.int).length+1+((st.drop (d+1)).map PyData.int).length<=1000000:=by simp;omega
 have hfin:(st.take d).map PyData.int++.int (st.getD d 0+1)::(st.drop (d+1)).map PyData.int=(W7 d st).map PyData.int:=by
  rw[<- zcq h]
  simp
 unfold zb
 rw[<- hfin]
 rwa[st.getD d 0=g,(st.take d).map PyData.int=T1,(st.drop (d+1)).map PyData.int=T2,st.map PyData.int=X]
 simp only[QT]
 simp![KM,zhu,zht,hne,hne2,c1,c2,a1,z1,z2]
noncomputable def yS:Exc:=⟨"TooDeep",.none⟩
theorem zeM(cf:CF)(hb:Bolt pots cs)(hd:d<pots) :
  zY 3 (.tp (.cons (.nm 0 2) (.cons (.nm 1 3) (.cons (.nm 2 4) .nil)))) fYes (jal.ev cf).1 (cs.map Cl.D) [] [@&(za cs),@&(.int d)]=.ok ((cs.map (zC d)).map .bool,[@&(za cs),@&(.int d)]):=by
 obtain⟨ys,Γ',e,hy,rfl⟩:=zW (k:=3) (t:=.tp (.cons (.nm 0 2) (.cons (.nm 1 3) (.cons (.nm 2 4) .nil)))) (cond:=fYes) (elt:=(jal.ev cf).1) (ds:=cs.map Cl.D) (Γ:= [@&(za cs),@&(.int d)])
  (λpre ys Γ=>ys=((cs.take pre.length).map (zC d)).map .bool/\Γ= [@&(za cs),@&(.int d)]) ⟨rfl,rfl⟩ (by
   rintro pre x post e ys Γ ⟨hy,rfl⟩
   have hx:x∈cs.map Cl.D:=by rw[e];simp
   have hlt:pre.length<cs.length:=by have:=congrArg List.length e;simp at this;omega
   have hxe:x=(cs[pre.length]).D:=by
    have:(cs.map Cl.D)[pre.length]?=some x:=by rw[e];simp
    rw[xl,xg hlt]at this
    simpa using this.symm
   have hc:=hb.2 _ (uc hlt)
   have hnx:(cs.take (pre.length+1)).map (zC d)=(cs.take pre.length).map (zC d)++ [zC d cs[pre.length]]:=by
    rw[uf,xg hlt,xG];rfl
   rwa[cs[pre.length]=c]
   subst hxe
   have a1:=Wo (xs:=c.st) (d:=d) (by rw[hc.sl];exact hd)
   refine⟨[@&(za cs),@&(.int d),@&(zb c.st),@&(.bool c.w),@&(zb c.wi)],true,_,rfl,rfl,λ_=>⟨.dat (.bool (zC d c)),[@&(za cs),@&(.int d),@&(zb c.st),@&(.bool c.w),@&(zb c.wi)],.bool (zC d c),?_,rfl,?_,rfl⟩,λh=>nomatch h⟩
   ·unfold zC zb
    rwa[c.st.getD d 0=g,c.st.map PyData.int=X]
    cases hw:c.w with
    |true=>simp![jal]
    |false=>simp![jal,a1]
   ·rw[hy]
    simp only[xB,xr,uh,uJ]
    rw[hnx,xG];rfl)
 rw[e,hy]
 have:(cs.take (cs.map Cl.D).length)=cs:=by rw[xn,ub]
 rw[this]
theorem zeN(cf:CF)(hdp:V0 cf)(hp:pots<=1000)(hb:Bolt pots cs)(hd:d<pots) :
  zY 3 (.tp (.cons (.nm 0 2) (.cons (.nm 1 3) (.cons (.nm 2 4) .nil)))) fYes (jam.ev cf).1 (cs.map Cl.D) [] [@&(za cs),@&(.int d)]=.ok ((cs.map (zz d)).map Cl.D,[@&(za cs),@&(.int d)]):=by
 obtain⟨ys,Γ',e,hy,rfl⟩:=zW (k:=3) (t:=.tp (.cons (.nm 0 2) (.cons (.nm 1 3) (.cons (.nm 2 4) .nil)))) (cond:=fYes) (elt:=(jam.ev cf).1) (ds:=cs.map Cl.D) (Γ:= [@&(za cs),@&(.int d)])
  (λpre ys Γ=>ys=((cs.take pre.length).map (zz d)).map Cl.D/\Γ= [@&(za cs),@&(.int d)]) ⟨rfl,rfl⟩ (by
   rintro pre x post e ys Γ ⟨hy,rfl⟩
   have hlt:pre.length<cs.length:=by have:=congrArg List.length e;simp at this;omega
   have hxe:x=(cs[pre.length]).D:=by
    have:(cs.map Cl.D)[pre.length]?=some x:=by rw[e];simp
    rw[xl,xg hlt]at this
    simpa using this.symm
   have hc:=hb.2 _ (uc hlt)
   have hnx:(cs.take (pre.length+1)).map (zz d)=(cs.take pre.length).map (zz d)++ [zz d cs[pre.length]]:=by
    rw[uf,xg hlt,xG];rfl
   rwa[cs[pre.length]=c]
   subst hxe
   have e1:=hdp c.st d (by rw[hc.sl];exact hd) (by rw[hc.sl];exact hp)
   refine⟨[@&(za cs),@&(.int d),@&(zb c.st),@&(.bool c.w),@&(zb c.wi)],true,_,rfl,rfl,λ_=>⟨.dat (zz d c).D,[@&(za cs),@&(.int d),@&(zb c.st),@&(.bool c.w),@&(zb c.wi)],(zz d c).D,?_,rfl,?_,rfl⟩,λh=>nomatch h⟩
   ·unfold zz
    cases hw:c.w with
    |true=>simp![jam,hw,Cl.D,jL]
    |false=>simp![jam,hw,Cl.D,jL,e1,zd5]
   ·rw[hy]
    simp only[xB,xr,uh,uJ]
    rw[hnx,xG];rfl)
 rw[e,hy]
 have:(cs.take (cs.map Cl.D).length)=cs:=by rw[xn,ub]
 rw[this]
theorem Vc(bs:List Bool):Option.map (λbs=>PyData.bool (bs.any id)) (zL (bs.map .bool))=some (.bool (bs.any id)):=by rw[jb];rfl
theorem zaK(cf:CF)(hdp:V0 cf)(hp:pots<=1000)(hb:Bolt pots cs)(hd:d<pots) :
  runI 2 [false,false] [] jP cf [.d (za cs),.d (.int d)]=if cs.any (zC d) then .exc yS [none,none] else .ok (.l ((cs.map (zz d)).map λc=>.d c.D)) [none,none]:=by
 have e1:=zeM cf hb hd
 have e2:=zeN cf hdp hp hb hd
 have hz:cs.length<=1000000:=by have:=hb.1;omega
 have hb1:=Vc (cs.map (zC d))
 have ha:(cs.map (zC d)).any id=cs.any (zC d):=by rw[uR];rfl
 rw[ha]at hb1
 have hml:((cs.map (zC d)).map PyData.bool).length<=1000000:=by simpa using hz
 have hvv:((cs.map (zz d)).map Cl.D).map OV.d=(cs.map (zz d)).map λc=>OV.d c.D:=by rw[xF];rfl
 rw[<- hvv]
 unfold za at *
 have hxl:(cs.map Cl.D).length<=1000000:=by simpa using hz
 rwa[(cs.map (zC d)).map PyData.bool=BB,(cs.map (zz d)).map Cl.D=DD,cs.map Cl.D=X,cs.any (zC d)=b]
 cases b with
 |true=>simp![jP,e1,hb1,hxl,hml,sRaise,yS]
 |false=>simp![jP,e1,e2,hb1,hxl,hml]
theorem kJ(cf:CF)(d:Int):runI 2 [false,false] [] jP cf [.d (za []),.d (.int d)]=.ok (.l []) [none,none]:=by
 simp![jP,za,zY,loopG,zL]
def yY (cf:CF):Prop:=(∀ (pots:Nat) (cs:List Cl) (d:Nat),pots<=1000->Bolt pots cs->d<pots->cf "dipped" [.d (za cs),.d (.int d)]=if cs.any (zC d) then .exc yS [none,none] else .ok (.l ((cs.map (zz d)).map λc=>.d c.D)) [none,none])/\∀ d:Int,cf "dipped" [.d (za []),.d (.int d)]=.ok (.l []) [none,none]
noncomputable def zcI:Exc:=⟨"NoCell",.none⟩
def zbI (cf:CF):Prop:=∀ (cs:List Cl) (a:Int),cs.length<=1000->cf "has_cell" [.d (za cs),.d (.int a)]=.ok (.d (.bool (decide (0<=a/\a<cs.length)))) [none,none]
theorem zhx(cf:CF):zbI λ_=>runI 2 [false,false] [] qW cf:=λcs a hl=>by
 have hxl:(cs.map Cl.D).length=cs.length:=by simp
 unfold za
 rwa[cs.map Cl.D=X]
 by_cases h1:0<=a
 ·by_cases h2:a<cs.length
  ·have h3:a<(X.length:Int):=by omega
   simp![qW,hxl,h1,h2]
  ·simp![qW,hxl,h1,h2]
 ·simp![qW,hxl,h1]
noncomputable def zgN:Exc:=⟨"Twice",.none⟩
noncomputable def QR(n:Nat)(i:Int):Bool:=decide (0<=i/\i<(n:Int))
noncomputable def zaL(xs:List Int):Bool:=decide ((Tab.dedup xs).length<xs.length)
noncomputable def yV(xs:List Int)(i:Nat)(c:Cl):Cl:=⟨c.st,c.w||xs.contains (i:Int),c.wi⟩
noncomputable def yW(xs:List Int)(cs:List Cl)(k:Nat):List Cl:=(List.range k).filterMap λi=>(cs[i]?).map (yV xs i)
noncomputable def qc(xs:List Int)(cs:List Cl):List Cl:=yW xs cs cs.length
theorem VX(xs:List Int)(h:cs[k]?=some c):yW xs cs (k+1)=yW xs cs k++ [yV xs k c]:=by
 unfold yW
 rw[List.range_succ,List.filterMap_append]
 congr 1
 rw[xZ,h];rfl
theorem YX(xs:List Int)(cs:List Cl)(k:Nat):(yW xs cs k).length<=k:=by
 have:=List.length_filterMap_le (λi=>(cs[i]?).map (yV xs i)) (List.range k)
 rw[uK]at this;exact this
theorem KW(xs:List Int)(i:Int):inD (.int i) (xs.map .int)=xs.contains i:=by
 unfold inD
 rw[uR]
 induction xs with
 |nil=>rfl
 |cons x xs ih=>
  rw[xY,ih,List.contains_cons]
  congr 1
  show PyData.eqv (.int x) (.int i)=(i==x)
  rw[zV,Bool.eq_iff_iff,beq_iff_eq,beq_iff_eq]
  exact⟨Eq.symm,Eq.symm⟩
theorem VD(xs:List Int):(∀ x∈xs.map PyData.int,lay 20 x=true)=True:=eq_true λx hx=>by
 obtain⟨i,_,rfl⟩:=xE.mp hx
 exact zM _ _
noncomputable def zi1(cs:List Cl)(xs:List Int):RF:=if xs.all (QR cs.length) then (if zaL xs then .exc zgN [none,none] else .ok (.l ((qc xs cs).map λc=>.d c.D)) [none,none]) else .exc zcI [none,none]
theorem zgo(cf:CF){cs:List Cl}{xs:List Int} :
  zY 4 (.tp (.cons (.nm 0 2) (.cons (.tp (.cons (.nm 1 3) (.cons (.nm 2 4) (.cons (.nm 3 5) .nil)))) .nil))) fYes (jan.ev cf).1 (z7 (cs.map Cl.D)) [] [@&(za cs),@&(zb xs)]=.ok ((qc xs cs).map Cl.D,[@&(za cs),@&(zb xs)]):=by
 obtain⟨ys,Γ',e,hy,rfl⟩:=zW (k:=4) (t:=.tp (.cons (.nm 0 2) (.cons (.tp (.cons (.nm 1 3) (.cons (.nm 2 4) (.cons (.nm 3 5) .nil)))) .nil))) (cond:=fYes) (elt:=(jan.ev cf).1) (ds:=z7 (cs.map Cl.D)) (Γ:= [@&(za cs),@&(zb xs)])
  (λpre ys Γ=>ys=(yW xs cs pre.length).map Cl.D/\Γ= [@&(za cs),@&(zb xs)]) ⟨rfl,rfl⟩ (by
   rintro pre x post e ys Γ ⟨hy,rfl⟩
   obtain⟨c,hc,rfl⟩:∃ c,cs[pre.length]?=some c/\x=.tuple [.int (pre.length:Nat),c.D]:=by
    have h1:(z7 (cs.map Cl.D))[pre.length]?=some x:=by rw[e];simp
    obtain⟨y,hy1,hy2⟩:=Z7 h1
    rw[xl]at hy1
    cases q:cs[pre.length]? with
    |none=>rw[q]at hy1;cases hy1
    |some c=>
     rw[q]at hy1
     cases hy1
     exact⟨c,rfl,hy2⟩
   have hin:=KW xs (pre.length:Int)
   have hal:=VD xs
   have hnx:=VX xs hc
   refine⟨[@&(za cs),@&(zb xs),@&(.int (pre.length:Nat)),@&(zb c.st),@&(.bool c.w),@&(zb c.wi)],true,_,rfl,rfl,λ_=>⟨.dat (yV xs pre.length c).D,[@&(za cs),@&(zb xs),@&(.int (pre.length:Nat)),@&(zb c.st),@&(.bool c.w),@&(zb c.wi)],(yV xs pre.length c).D,?_,rfl,?_,rfl⟩,λh=>nomatch h⟩
   ·unfold yV Cl.D jL
    have hxi:zb xs=.tuple (xs.map .int):=rfl
    rw[hxi]
    rwa[zb c.st=A,zb c.wi=B,xs.map PyData.int=X,xs.contains (pre.length:Int)=ci]
    cases hw:c.w with
    |true=>simp![jan]
    |false=>simp![jan,hin,hal,zM]
   ·rw[hy]
    simp only[xB,xr,uh,uJ]
    rw[hnx,xG];rfl)
 rw[e,hy]
 have:(z7 (cs.map Cl.D)).length=cs.length:=by simp[z7]
 rw[this];rfl
def Y9 (cf:CF):Prop:=∀ (cs:List Cl) (xs:List Int),cs.length<=1000->xs.length<=60->cf "with_wax" [.d (za cs),.d (zb xs)]=zi1 cs xs
theorem zgp(cf:CF)(hh:zbI cf):Y9 λ_=>runI 2 [false,false] [] qX cf:=λcs xs hl hx=>by
 have e1:=qv (k:=1) (t:=.nm 0 2) (cond:=fYes) (elt:=(jbh.ev cf).1) (ds:=xs.map .int) (Γ:= [@&(za cs),@&(zb xs)]) (λ_=>true) (λx=>match x with | .int i=>.bool (QR cs.length i) | _=>.none) (by
  intro x hx
  obtain⟨i,_,rfl⟩:=xE.mp hx
  have e:=hh cs i hl
  refine⟨[@&(za cs),@&(zb xs),@&(.int i)],_,rfl,rfl,by simp,λ_=>⟨.dat (.bool (QR cs.length i)),[@&(za cs),@&(zb xs),@&(.int i)],?_,rfl,by simp⟩⟩
  unfold QR
  rwa[za cs=B]
  simp![jbh,e,zd5])
 rw[qM,xF]at e1
 have em:(xs.map ((λx=>match x with | .int i=>PyData.bool (QR cs.length i) | _=>.none)∘PyData.int))=(xs.map (QR cs.length)).map .bool:=by rw[xF];rfl
 rw[em]at e1
 have hb1:=jb (xs.map (QR cs.length))
 have ha:(xs.map (QR cs.length)).all id=xs.all (QR cs.length):=by rw[List.all_map];rfl
 have e2:=zgo cf (cs:=cs) (xs:=xs)
 have hio:=kR xs
 have hdl:=Tab.dedup_len xs
 have hml:(xs.map PyData.int).length=xs.length:=by simp
 have hz:xs.length<=1000000:=by omega
 have hzl:((xs.map (QR cs.length)).map PyData.bool).length<=1000000:=by simp;omega
 have hel:(z7 (cs.map Cl.D)).length<=1000000:=by simp[z7];omega
 have hcl:(cs.map Cl.D).length<=1000000:=by simp;omega
 have hvv:((qc xs cs).map Cl.D).map OV.d=(qc xs cs).map λc=>OV.d c.D:=by rw[xF];rfl
 unfold zi1 zaL
 rw[<- hvv,<- ha]
 unfold za zb at *
 rwa[(qc xs cs).map Cl.D=WW,(xs.map (QR cs.length)).map PyData.bool=BB,xs.map (QR cs.length)=B2,xs.map PyData.int=X,cs.map Cl.D=Y]
 cases hal:B2.all id with
 |false=>
  simp![qX,hml,hz,e1,hb1,hzl,hal,sRaise,zcI]
 |true=>
  by_cases hd:(Tab.dedup xs).length<xs.length
  ·have hne:(((Tab.dedup xs).length:Int)==(xs.length:Int))=false:=by rw[Xb];omega
   simp![qX,hml,hz,e1,hb1,hzl,hal,Yi,hio,hx,hd,zM,zV,hne,sRaise,zgN]
  ·have hne:(((Tab.dedup xs).length:Int)==(xs.length:Int))=true:=by rw[beq_iff_eq];omega
   have heq:(Tab.dedup xs).length=xs.length:=by omega
   simp![qX,hml,hz,e1,hb1,hzl,hal,Yi,hio,hx,hd,zM,zV,heq,e2,hel,hcl]
def Y5 (cf:CF):Prop:=∀ (cs:List Cl) (xs:List Int),cs.length<=1000->cf "_law_wax" [.d (za cs),.d (zb xs)]=.ok (.l ((qc xs cs).map λc=>.d c.D)) [none,none]
theorem ze4(cf:CF):Y5 λ_=>runI 2 [false,false] [] JB cf:=λcs xs hl=>by
 obtain⟨ys,Γ',e,hy,rfl⟩:=zW (k:=1) (t:=.nm 0 2) (cond:=fYes) (elt:=(jaz.ev cf).1) (ds:=zF cs.length) (Γ:= [@&(za cs),@&(zb xs)])
  (λpre ys Γ=>ys=(yW xs cs pre.length).map Cl.D/\Γ= [@&(za cs),@&(zb xs)]) ⟨rfl,rfl⟩ (by
   rintro pre x post e ys Γ ⟨hy,rfl⟩
   have h1:(zF cs.length)[pre.length]?=some x:=by rw[e];simp
   obtain⟨hlt,rfl⟩:=qi h1
   have hc:cs[pre.length]?=some cs[pre.length]:=xg hlt
   have a1:atI (cs.map Cl.D) (pre.length:Int)=some (cs[pre.length]).D:=Zx (by rw[xl,hc];rfl)
   have hin:=KW xs (pre.length:Int)
   have hal:=VD xs
   have hnx:=VX xs hc
   rwa[cs[pre.length]=c]
   have hcd:c.D=.tuple [zb c.st,.bool c.w,zb c.wi]:=rfl
   rw[hcd]at a1
   have b0:atI [zb c.st,PyData.bool c.w,zb c.wi] 0=some (zb c.st):=rfl
   have b1:atI [zb c.st,PyData.bool c.w,zb c.wi] 1=some (.bool c.w):=rfl
   have b2:atI [zb c.st,PyData.bool c.w,zb c.wi] 2=some (zb c.wi):=rfl
   refine⟨[@&(za cs),@&(zb xs),@&(.int (pre.length:Nat))],true,_,rfl,rfl,λ_=>⟨.dat (yV xs pre.length c).D,[@&(za cs),@&(zb xs),@&(.int (pre.length:Nat))],(yV xs pre.length c).D,?_,rfl,?_,rfl⟩,λh=>nomatch h⟩
   ·unfold yV Cl.D jL
    have hxi:zb xs=.tuple (xs.map .int):=rfl
    have hbd:za cs=.list (cs.map Cl.D):=rfl
    rw[hxi,hbd]
    rwa[cs.map Cl.D=Y,zb c.st=A,zb c.wi=B,xs.map PyData.int=X,xs.contains (pre.length:Int)=ci]
    cases hw:c.w with
    |true=>
     rw[hw]at a1 b0 b1 b2
     simp![jaz,a1,b0,b1,b2]
    |false=>
     rw[hw]at a1 b0 b1 b2
     simp![jaz,a1,b0,b1,b2,hin,hal,zM]
   ·rw[hy]
    simp only[xB,xr,uh,uJ]
    rw[hnx,xG];rfl)
 rw[zj]at hy
 subst hy
 have hz: -1000000<=(cs.length:Int)/\(cs.length:Int)<=1000000:=by omega
 have hz2:cs.length<=1000000:=by omega
 have hml:(cs.map Cl.D).length=cs.length:=by simp
 have hvv:((yW xs cs cs.length).map Cl.D).map OV.d=(qc xs cs).map λc=>OV.d c.D:=by rw[xF];rfl
 rw[<- hvv]
 unfold za at *
 rwa[(yW xs cs cs.length).map Cl.D=WW,cs.map Cl.D=Y]
 simp![JB,hml,hz,hz2,zj,e]
theorem zcB(cf:CF)(hb:Bolt pots cs)(hd:d<pots) :
  runI 2 [false,false] [] jZ cf [.d (za cs),.d (.int d)]=.ok (.d (.bool (cs.any (zC d)))) [none,none]:=by
 obtain⟨ys,Γ',e,hy,rfl⟩:=zW (k:=1) (t:=.nm 0 2) (cond:=fYes) (elt:=(jar.ev cf).1) (ds:=cs.map Cl.D) (Γ:= [@&(za cs),@&(.int d)])
  (λpre ys Γ=>ys=((cs.take pre.length).map (zC d)).map .bool/\Γ= [@&(za cs),@&(.int d)]) ⟨rfl,rfl⟩ (by
   rintro pre x post e ys Γ ⟨hy,rfl⟩
   have hlt:pre.length<cs.length:=by have:=congrArg List.length e;simp at this;omega
   have hxe:x=(cs[pre.length]).D:=by
    have:(cs.map Cl.D)[pre.length]?=some x:=by rw[e];simp
    rw[xl,xg hlt]at this
    simpa using this.symm
   have hc:=hb.2 _ (uc hlt)
   have hnx:(cs.take (pre.length+1)).map (zC d)=(cs.take pre.length).map (zC d)++ [zC d cs[pre.length]]:=by
    rw[uf,xg hlt,xG];rfl
   rwa[cs[pre.length]=c]
   subst hxe
   have hdl:d<c.st.length:=by rw[hc.sl];exact hd
   have a1:=Wo (xs:=c.st) (d:=d) hdl
   have h9:c.st.getD d 0<=9:=by
    rw[xH,xg hdl]
    exact (hc.sn _ (uc hdl)).2
   have hq:(c.st.getD d 0==9)=decide (9<=c.st.getD d 0):=by
    rw[Bool.eq_iff_iff,beq_iff_eq,x0];omega
   refine⟨[@&(za cs),@&(.int d),some (.d c.D)],true,_,rfl,rfl,λ_=>⟨.dat (.bool (zC d c)),[@&(za cs),@&(.int d),some (.d c.D)],.bool (zC d c),?_,rfl,?_,rfl⟩,λh=>nomatch h⟩
   ·unfold zC Cl.D jL
    rw[<- hq]
    rwa[c.st.getD d 0=g]
    have a0:atI [zb c.st,PyData.bool c.w,zb c.wi] 0=some (zb c.st):=rfl
    have a2:atI [zb c.st,PyData.bool c.w,zb c.wi] 1=some (.bool c.w):=rfl
    unfold zb at *
    rwa[c.st.map PyData.int=X,c.wi.map PyData.int=Y]
    cases hw:c.w with
    |true=>
     rw[hw]at a0 a2
     simp![jar,a0,a2]
    |false=>
     rw[hw]at a0 a2
     simp![jar,a0,a2,a1,zM,zV]
   ·rw[hy]
    simp only[xB,xr,uh,uJ]
    rw[hnx,xG];rfl)
 have ht:(cs.take (cs.map Cl.D).length)=cs:=by rw[xn,ub]
 rw[ht]at hy
 subst hy
 have hz:cs.length<=1000000:=by have:=hb.1;omega
 have hb1:=Vc (cs.map (zC d))
 have ha:(cs.map (zC d)).any id=cs.any (zC d):=by rw[uR];rfl
 rw[ha]at hb1
 have hml:((cs.map (zC d)).map PyData.bool).length<=1000000:=by simpa using hz
 unfold za at *
 have hxl:(cs.map Cl.D).length<=1000000:=by simpa using hz
 rwa[(cs.map (zC d)).map PyData.bool=BB,cs.map Cl.D=X,cs.any (zC d)=b]
 simp![jZ,e,hb1,hxl,hml]
theorem zaZ(cf:CF)(d:Int):runI 2 [false,false] [] jZ cf [.d (za []),.d (.int d)]=.ok (.d (.bool false)) [none,none]:=by
 simp![jZ,za,zY,loopG,loopG,zL]
theorem ze2(cf:CF)(hl:st.length<=1000){d:Nat}{o0 o2 o4 o5:Option OV} :
  zY 1 (.nm 0 6) fYes (jac.ev cf).1 (zF st.length) [] [o0,@&(.int d),o2,@&(zb st),o4,o5]=.ok ((W7 d st).map .int,[o0,@&(.int d),o2,@&(zb st),o4,o5]):=by
 have e:=qv (k:=1) (t:=.nm 0 6) (cond:=fYes) (elt:=(jac.ev cf).1) (ds:=zF st.length) (Γ:= [o0,@&(.int d),o2,@&(zb st),o4,o5]) (λ_=>true) (λx=>match x with | .int i=>.int (st.getD i.toNat 0+(if i.toNat=d then 1 else 0)) | _=>.none) (by
  intro x hx
  obtain⟨i,hi,rfl⟩:=xE.mp hx
  have hi':i<st.length:=by simpa using hi
  have a1:=Wo (xs:=st) (d:=i) hi'
  refine⟨[o0,@&(.int d),o2,@&(zb st),o4,o5,@&(.int i)],_,rfl,rfl,by simp,λ_=>⟨.dat (.int (st.getD i 0+(if i=d then 1 else 0))),[o0,@&(.int d),o2,@&(zb st),o4,o5,@&(.int i)],?_,rfl,by simp⟩⟩
  have hq:((i:Int)==(d:Int))=decide (i=d):=by
   rw[Bool.eq_iff_iff,beq_iff_eq,x0];omega
  unfold zb
  rwa[st.getD i 0=g,st.map PyData.int=X]
  by_cases hid:i=d
  ·subst hid
   simp![jac,a1,zM,zV]
  ·have hn:((i:Int)==(d:Int))=false:=by rw[hq];simpa using hid
   simp![jac,a1,zM,zV,hn,hid])
 rw[e,qM]
 unfold zF W7
 rw[xF,xF]
 rfl
theorem ze3(cf:CF)(hp:pots<=1000)(hb:Bolt pots cs)(d:Nat) :
  runI 6 [false,false] [] jr cf [.d (za cs),.d (.int d)]=.ok (.l ((cs.map (zz d)).map λc=>.d c.D)) [none,none]:=by
 obtain⟨Γ',e,⟨o3,o4,o5,rfl⟩⟩:=Zn (t:=.tp (.cons (.nm 3 3) (.cons (.nm 4 4) (.cons (.nm 5 5) .nil)))) (body:=jaq.ex cf []) (ds:=cs.map Cl.D) (Γ:= [@&(za cs),@&(.int d),some (.l []),none,none,none])
  (λpre Γ=>∃ o3 o4 o5:Option OV,Γ= [@&(za cs),@&(.int d),some (.l (((cs.take pre.length).map (zz d)).map λc=>.d c.D)),o3,o4,o5]) ⟨_,_,_,rfl⟩ (by
   rintro pre x post e Γ ⟨o3,o4,o5,rfl⟩
   have hlt:pre.length<cs.length:=by have:=congrArg List.length e;simp at this;omega
   have hxe:x=(cs[pre.length]).D:=by
    have:(cs.map Cl.D)[pre.length]?=some x:=by rw[e];simp
    rw[xl,xg hlt]at this
    simpa using this.symm
   have hc:=hb.2 _ (uc hlt)
   have hnx:(cs.take (pre.length+1)).map (zz d)=(cs.take pre.length).map (zz d)++ [zz d cs[pre.length]]:=by
    rw[uf,xg hlt,xG];rfl
   have hz:(((cs.take pre.length).map (zz d)).map λc=>OV.d c.D).length<1000000:=by
    have:=hb.1
    simp;omega
   rwa[cs[pre.length]=c]
   subst hxe
   have hpl:(pre++ [c.D]).length=pre.length+1:=by simp
   rw[hpl,hnx,xG]
   have e1:=ze2 cf (st:=c.st) (by rw[hc.sl];exact hp) (d:=d) (o0:=some (.d (za cs))) (o2:=some (.l (((cs.take pre.length).map (zz d)).map λc=>.d c.D))) (o4:=some (.d (.bool c.w))) (o5:=some (.d (zb c.wi)))
   have hz1: -1000000<=(c.st.length:Int)/\(c.st.length:Int)<=1000000:=by rw[hc.sl];omega
   have hz2:c.st.length<=1000000:=by rw[hc.sl];omega
   have hz3:((W7 d c.st).map PyData.int).length<=1000000:=by simp[Ym];rw[hc.sl];omega
   rwa[((cs.take pre.length).map (zz d)).map (λc=>OV.d c.D)=AA]
   refine⟨[@&(za cs),@&(.int d),some (.l AA),@&(zb c.st),@&(.bool c.w),@&(zb c.wi)],[@&(za cs),@&(.int d),some (.l (AA++ [.d (zz d c).D])),@&(zb (zz d c).st),@&(.bool c.w),@&(zb c.wi)],rfl,?_,_,_,_,rfl⟩
   unfold zz
   have hl0:(c.st.map PyData.int).length=c.st.length:=by simp
   cases hw:c.w with
   |true=>
    simp![jaq,hw,Cl.D,jL,hz]
   |false=>
    rw[hw]at e1
    unfold zb at *
    rwa[c.st.map PyData.int=X]
    generalize hY:(W7 d c.st).map PyData.int=Y at *
    generalize hZ:c.wi.map PyData.int=Z at *
    simp![jaq,hw,Cl.D,jL,zb,hl0,hz1,hz2,hz3,e1,hz,zj]
    exact⟨⟨hY.symm,hZ.symm⟩,hY.symm⟩)
 have ht:(cs.take (cs.map Cl.D).length)=cs:=by rw[xn,ub]
 rw[ht]at e
 unfold za at *
 rwa[cs.map Cl.D=X,(cs.map (zz d)).map (λc=>OV.d c.D)=DD]
 simp![jr,e]
theorem zcz(cf:CF)(d:Int):runI 6 [false,false] [] jr cf [.d (za []),.d (.int d)]=.ok (.l []) [none,none]:=by
 simp![jr,za,qJ]
def KB (cf:CF):Prop:=(∀ (pots:Nat) (cs:List Cl) (d:Nat),Bolt pots cs->d<pots->cf "_law_full" [.d (za cs),.d (.int d)]=.ok (.d (.bool (cs.any (zC d)))) [none,none])/\∀ d:Int,cf "_law_full" [.d (za []),.d (.int d)]=.ok (.d (.bool false)) [none,none]
def zbJ (cf:CF):Prop:=(∀ (pots:Nat) (cs:List Cl) (d:Nat),pots<=1000->Bolt pots cs->cf "_law_dip" [.d (za cs),.d (.int d)]=.ok (.l ((cs.map (zz d)).map λc=>.d c.D)) [none,none])/\∀ d:Int,cf "_law_dip" [.d (za []),.d (.int d)]=.ok (.l []) [none,none]
theorem ku{α:Type}{k:Nat}{t:IT}{elt:EM FV}(g f:α->PyData){xs:List α}{Γ:Gv}
  (hs:∀ a∈xs,∃ Γ2 u Γ4,tgF t (g a) (Γ++List.replicate k none)=some Γ2/\elt Γ2=.ok (u,Γ4)/\derS Γ4 u=some (f a)/\Γ4.take Γ.length=Γ) :
  zY k t fYes elt (xs.map g) [] Γ=.ok (xs.map f,Γ):=by
 obtain⟨ys,Γ',e,hy,rfl⟩:=zW (k:=k) (cond:=fYes) (λpre ys Γ'=>ys=(xs.take pre.length).map f/\Γ'=Γ) (ds:=xs.map g) (Γ:=Γ) ⟨rfl,rfl⟩ (by
  rintro pre d post e ys Γ' ⟨rfl,rfl⟩
  have hlen:pre.length<xs.length:=by
   have:=congrArg List.length e
   simp at this;omega
  have hd:d=g xs[pre.length]:=by
   have h1:(xs.map g)[pre.length]?=some d:=by rw[e];simp
   rw[xl,xg hlen]at h1
   exact (Option.some.inj h1).symm
  obtain⟨Γ2,u,Γ4,e1,e2,e3,e4⟩:=hs xs[pre.length] (uc hlen)
  rw[<- hd]at e1
  refine⟨Γ2,true,Γ2,e1,rfl,λ_=>⟨u,Γ4,f xs[pre.length],e2,e3,?_,e4⟩,λz=>nomatch z⟩
  rw[xB,ui,uf,xG,xg hlen]
  rfl)
 rw[e]
 rw[hy]
 simp
theorem zhn{α:Type}{k:Nat}{t:IT}{ek ev:EM FV}(g:α->PyData)(ky:α->Str)(f:α->PyData){Γ:Gv}:∀(xs:List α)(acc:Ad),
  (∀ a∈xs,∃ Γ2 Γ4,tgF t (g a) (Γ++List.replicate k none)=some Γ2/\itD ek ev Γ2=.ok ((ky a,f a),Γ4)/\Γ4.take Γ.length=Γ) ->
  loopG k t fYes (itD ek ev) (λys y=>zy ys y.1 y.2) (xs.map g) acc Γ=.ok (zf acc (xs.map λa=>(ky a,f a)),Γ)
 |[],acc,_=>rfl
 |x::xs,acc,h=>by
  obtain⟨Γ2,Γ4,e1,e2,e3⟩:=h x (by simp)
  have ih:=zhn g ky f (Γ:=Γ) xs (zy acc (ky x) (f x)) λa ha=>h a (by simp[ha])
  rw[xw,loopG,e1]
  simp only[fYes,e2,e3]
  exact ih
section
variable {β:Type}
theorem YC{v:β}(h:n∉c.map (·.1)):zy c n v=c++ [(n,v)]:=by
 unfold zy
 rw[if_neg]
 intro z
 obtain⟨p,hp,e⟩:=uO.mp z
 exact h (xE.mpr ⟨p,hp,by simpa using e⟩)
theorem valG_none{c:List (Str×β)}:zq c n=none↔n∉c.map (·.1):=by
 unfold zq
 rw[Option.map_eq_none_iff,List.find?_eq_none]
 constructor
 ·intro h z
  obtain⟨p,hp,e⟩:=xE.mp z
  exact h p hp (by simpa using e)
 ·intro h p hp z
  exact h (xE.mpr ⟨p,hp,by simpa using z⟩)
theorem Zw(h:zq c n=some v):(n,v)∈c:=by
 unfold zq at h
 obtain⟨p,e,rfl⟩:=uu.mp h
 have h1:=List.mem_of_find?_eq_some e
 have h2:=List.find?_some e
 have:p.1=n:=by simpa using h2
 rw[<- this];exact h1
theorem zbc(c:List (Str×β))(n:Str)(v:β):(zy c n v).map (·.1)=if n∈c.map (·.1) then c.map (·.1) else c.map (·.1)++ [n]:=by
 by_cases h:n∈c.map (·.1)
 ·rw[if_pos h]
  unfold zy
  rw[if_pos (by
   obtain⟨p,hp,e⟩:=xE.mp h
   exact uO.mpr ⟨p,hp,by simpa using e⟩),xF]
  apply uB
  intro p hp
  show (if p.1=n then (p.1,v) else p).1=p.1
  split<;>rfl
 ·rw[if_neg h,YC h];simp
theorem vC(h:(c.map (·.1)).Nodup)(n:Str)(v:β):((zy c n v).map (·.1)).Nodup:=by
 rw[zbc]
 split
 ·exact h
 next hn=>
  rw[xL]
  exact⟨h,by simp,λa ha b hb e=>hn (by
   have hbn:b=n:=by simpa using hb
   rw[<- hbn,<- e];exact ha)⟩
theorem vB(h:p∈zy c n v):p∈c∨p=(n,v):=by
 unfold zy at h
 split at h
 ·obtain⟨q,hq,e⟩:=xE.mp h
  split at e
  next hn=>
   exact .inr (by rw[<- e,hn])
  ·exact .inl (by rw[<- e];exact hq)
 ·rcases xM.mp h with h | h
  ·exact .inl h
  ·exact .inr (by simpa using h)
theorem YV(v:β)(h:m≠n):zq (zy c n v) m=zq c m:=by
 unfold zq zy
 split
 ·congr 1
  rw[List.find?_map]
  have:((λp:Str×β=>decide (p.1=m))∘λp:Str×β=>if p.1=n then (p.1,v) else p)=λp=>decide (p.1=m):=by
   funext p
   show decide ((if p.1=n then (p.1,v) else p).1=m)=_
   split<;>rfl
  rw[this]
  cases q:c.find? λp=>decide (p.1=m) with
  |none=>rfl
  |some p=>
   have:=List.find?_some q
   have:p.1=m:=by simpa using this
   show some (if p.1=n then (p.1,v) else p)=some p
   rw[if_neg (by rw[this];exact h)]
 ·rw[List.find?_append]
  have:([(n,v)]:List (Str×β)).find? (λp=>decide (p.1=m))=none:=by
   rw[List.find?_eq_none]
   intro p hp
   have:p=(n,v):=by simpa using hp
   rw[this];simpa using λe:n=m=>h e.symm
  rw[this,Option.or_none]
theorem k9(c L:List (Str×β))(n:Str)(v:β):zf c (L++ [(n,v)])=zy (zf c L) n v:=by
 unfold zf;rw[List.foldl_append];rfl
theorem Ql:∀(L c:List (Str×β)){m:Str},m∉L.map (·.1)->zq (zf c L) m=zq c m
 |[],c,m,_=>rfl
 |p::L,c,m,h=>by
  have:=Ql L (zy c p.1 p.2) (λz=>h (by simp only[xw,xC];exact .inr z))
  rw[YV _ (λe=>h (by simp[e]))]at this
  exact this
theorem VJ:∀(L c:List (Str×β)),(L.map (·.1)).Nodup->(∀ p∈L,p.1∉c.map (·.1))->zf c L=c++L
 |[],c,_,_=>by simp[zf]
 |p::L,c,h,hd=>by
  rw[xw,xA]at h
  have e:=YC (v:=p.2) (hd p (by simp))
  have ih:=VJ L (c++ [p]) h.2 (λq hq z=>by
   rw[xG,xM]at z
   rcases z with z | z
   ·exact hd q (by simp[hq]) z
   ·have:q.1=p.1:=by simpa using z
    exact h.1 (xE.mpr ⟨q,hq,this⟩))
  show zf (zy c p.1 p.2) L=_
  rw[e,show (c++ [(p.1,p.2)])=c++ [p] from rfl,ih];simp
theorem wu:∀(L:List (Str×β)){c:List (Str×β)}{p:Str×β},p∈zf c L->p∈c∨p∈L
 |[],c,p,h=>.inl h
 |x::L,c,p,h=>by
  rcases wu L h with h | h
  ·rcases vB h with h | h
   ·exact .inl h
   ·exact .inr (by simp[h])
  ·exact .inr (by simp[h])
theorem wS:∀(L:List (Str×β)){c:List (Str×β)},(c.map (·.1)).Nodup->((zf c L).map (·.1)).Nodup
 |[],_,h=>h
 |x::L,c,h=>wS L (vC h x.1 x.2)
variable {γ:Type}(f:β->γ)
theorem zd4(c:List (Str×β))(n:Str):zq (c.map λp=>(p.1,f p.2)) n=(zq c n).map f:=by
 unfold zq
 rw[List.find?_map]
 have:((λp:Str×γ=>decide (p.1=n))∘λp:Str×β=>(p.1,f p.2))=λp=>decide (p.1=n):=rfl
 rw[this,Option.map_map,Option.map_map];rfl
theorem YB(c:List (Str×β))(n:Str)(v:β):zy (c.map λp=>(p.1,f p.2)) n (f v)=(zy c n v).map λp=>(p.1,f p.2):=by
 unfold zy
 rw[uR]
 have:((λp:Str×γ=>decide (p.1=n))∘λp:Str×β=>(p.1,f p.2))=λp=>decide (p.1=n):=rfl
 rw[this]
 split
 ·rw[xF,xF]
  apply uB
  intro p _
  show (if p.1=n then (p.1,f v) else (p.1,f p.2))=_
  show _=((if p.1=n then (p.1,v) else p).1,f (if p.1=n then (p.1,v) else p).2)
  split<;>rfl
 ·rw[xG];rfl
theorem vf:∀(L c:List (Str×β)),zf (c.map λp=>(p.1,f p.2)) (L.map λp=>(p.1,f p.2))=(zf c L).map λp=>(p.1,f p.2)
 |[],_=>rfl
 |p::L,c=>by
  have:=vf L (zy c p.1 p.2)
  rw[<- YB]at this
  exact this
end
noncomputable abbrev Cls:=List (Str×List Cl)
noncomputable def frD(fr:List Bool):Aa:=fr.map .bool
noncomputable def clD(c:Cls):Ad:=c.map λp=>(p.1,za p.2)
noncomputable def stA(fr:List Bool)(c:Cls):PyData:=stV (frD fr) (clD c)
noncomputable def zw(c:Cls)(n:Str):List Cl:=(zq c n).getD []
noncomputable def zN(p:Nat):Cl:=⟨List.replicate p 0,false,List.replicate p 0⟩
noncomputable def zp(c:Cl):Cl:=⟨c.st,false,c.wi⟩
theorem KF(p:Nat):(zN p).D=qq p:=by
 unfold zN Cl.D jL zb qq zs
 simp
theorem zar(p k:Nat):PyData.list (List.replicate k (qq p))=za (List.replicate k (zN p)):=by
 unfold za
 rw[uw,KF]
noncomputable def Deed.fr:Deed->List Bool->List Bool
 |.dip _ k,fr=>fr.set k.toNat false
 |.brew k,fr=>fr.set k.toNat true
 |_,fr=>fr
noncomputable def Deed.cl(p:Nat):Deed->Cls->Cls
 |.hang n k,c=>zy c n (List.replicate k.toNat (zN p))
 |.wax n xs,c=>zy c n (qc xs (zw c n))
 |.dip ns k,c=>zf c (ns.map λn=>(n,(zw c n).map (zz k.toNat)))
 |.boil ns,c=>zf c (ns.map λn=>(n,(zw c n).map zp))
 |.brew _,c=>c
def Qm(pool:Ab)(fr:List Bool)(c:Cls):Deed->Prop
 |.hang n k=>n∈pool/\zq c n=none/\0<=k/\k<=40
 |.wax n xs=>∃ cs,zq c n=some cs/\xs.all (QR cs.length)=true/\zaL xs=false/\xs.length<=60
 |.dip ns k=>0<=k/\k<fr.length/\fr[k.toNat]?=some true/\ns.Nodup/\ns.length<=60/\∀ n∈ns,∃ cs,zq c n=some cs/\cs.any (zC k.toNat)=false
 |.boil ns=>ns.Nodup/\ns.length<=60/\∀ n∈ns,∃ cs,zq c n=some cs
 |.brew k=>0<=k/\k<fr.length/\fr[k.toNat]?=some false
structure StOk(pool:Ab)(p:Nat)(fr:List Bool)(c:Cls):Prop where
 hp:p<=12
 hl:fr.length=p
 hb:∀ q∈c,Bolt p q.2
 nd:(c.map (·.1)).Nodup
 np:∀ q∈c,q.1∈pool
theorem vh:∀{l T:Ab},l.Nodup->(∀ x∈l,x∈T)->l.length<=T.length
 |[],_,_,_=>ug _
 |a::l,T,hn,hs=>by
  rw[xA]at hn
  have ha:=hs a (by simp)
  have:=vh hn.2 (λx hx=>by
   have hx2:=hs x (by simp[hx])
   have hne:x≠a:=λe=>hn.1 (e ▸ hx)
   exact (List.mem_erase_of_ne hne).mpr hx2)
  have h1:=List.length_erase_of_mem ha
  have h2:=List.length_pos_of_mem ha
  simp only[xr];omega
theorem StOk.len(h:StOk pool p fr c):c.length<=pool.length:=by
 have:=vh h.nd (λx hx=>by
  obtain⟨q,hq,rfl⟩:=xE.mp hx
  exact h.np q hq)
 rwa [xn]at this
theorem StOk.bolt(h:StOk pool p fr c)(e:zq c n=some cs):Bolt p cs:=h.hb _ (Zw e)
theorem qH(e:zq c n=some cs):zw c n=cs:=by unfold zw;rw[e];rfl
theorem KU(p:Nat):In9 (List.replicate p 0):=λx hx=>by
 have:=List.eq_of_mem_replicate hx
 omega
theorem zat(hk:k<=1000):Bolt p (List.replicate k (zN p)):=⟨by simpa using hk,λc hc=>by
 rw[List.eq_of_mem_replicate hc]
 exact⟨by simp[zN],by simp[zN],KU p,KU p⟩⟩
theorem zau(h:Bolt p cs):Bolt p (cs.map zp):=⟨by simpa using h.1,λc hc=>by
 obtain⟨a,ha,rfl⟩:=xE.mp hc
 have:=h.2 a ha
 exact⟨this.sl,this.wl,this.sn,this.wn⟩⟩
theorem zbU(xs:List Int)(h:Bolt p cs):Bolt p (qc xs cs):=⟨xJ (YX xs cs _) h.1,λc hc=>by
 obtain⟨i,_,e⟩:=uE.mp hc
 cases q:cs[i]? with
 |none=>rw[q]at e;cases e
 |some c0=>
  rw[q]at e
  cases e
  have:=h.2 c0 (uk q)
  exact⟨this.sl,this.wl,this.sn,this.wn⟩⟩
theorem zbT(h:Bolt p cs)(hf:cs.any (zC d)=false):Bolt p (cs.map (zz d)):=⟨by simpa using h.1,λc hc=>by
 obtain⟨a,ha,rfl⟩:=xE.mp hc
 have k:=h.2 a ha
 have hn:zC d a=false:=by
  cases q:zC d a with
  |false=>rfl
  |true=>rw[uO.mpr ⟨a,ha,q⟩]at hf;cases hf
 unfold zz
 split
 ·exact k
 next hw=>
  refine⟨by rw[Ym];exact k.sl,k.wl,λx hx=>?_,k.wn⟩
  obtain⟨i,hi,rfl⟩:=xE.mp hx
  have hi':i<a.st.length:=by simpa using hi
  have g:a.st.getD i 0=a.st[i]:=by rw[xH,xg hi'];rfl
  have b:=k.sn _ (uc hi')
  rw[g]
  split
  next e=>
   subst e
   unfold zC at hn
   have hw':a.w=false:=by simpa using hw
   rw[hw',g]at hn
   simp at hn
   omega
  ·omega⟩
theorem StOk.put(h:StOk pool p fr c)(hn:n∈pool)(hb:Bolt p cs):StOk pool p fr (zy c n cs):=⟨h.hp,h.hl,λq hq=>by
  rcases vB hq with hq | rfl
  ·exact h.hb q hq
  ·exact hb,vC h.nd _ _,λq hq=>by
  rcases vB hq with hq | rfl
  ·exact h.np q hq
  ·exact hn⟩
theorem StOk.merge(h:StOk pool p fr c)(hL:∀ q∈L,q.1∈pool/\Bolt p q.2):StOk pool p fr (zf c L):=⟨h.hp,h.hl,λq hq=>by
  rcases wu L hq with hq | hq
  ·exact h.hb q hq
  ·exact (hL q hq).2,wS L h.nd,λq hq=>by
  rcases wu L hq with hq | hq
  ·exact h.np q hq
  ·exact (hL q hq).1⟩
theorem StOk.step(h:StOk pool p fr c)(g:Qm pool fr c d):StOk pool p (d.fr fr) (d.cl p c):=by
 cases d with
 |hang n k=>exact h.put g.1 (zat (by have:=g.2.2.2;omega))
 |wax n xs=>
  obtain⟨cs,e,_⟩:=g
  show StOk pool p fr (zy c n (qc xs (zw c n)))
  rw[qH e]
  exact h.put (h.np _ (Zw e)) (zbU xs (h.bolt e))
 |dip ns k=>
  obtain⟨_,_,_,_,_,hh⟩:=g
  have:=h.merge (L:=ns.map λn=>(n,(zw c n).map (zz k.toNat))) (λq hq=>by
   obtain⟨n,hn,rfl⟩:=xE.mp hq
   obtain⟨cs,e,hf⟩:=hh n hn
   have hm:=h.np _ (Zw e)
   refine⟨hm,?_⟩
   show Bolt p ((zw c n).map _)
   rw[qH e]
   exact zbT (h.bolt e) hf)
  exact⟨this.hp,by show (fr.set _ _).length=p;rw[xS];exact h.hl,this.hb,this.nd,this.np⟩
 |boil ns=>
  obtain⟨_,_,hh⟩:=g
  exact h.merge (L:=ns.map λn=>(n,(zw c n).map zp)) (λq hq=>by
   obtain⟨n,hn,rfl⟩:=xE.mp hq
   obtain⟨cs,e⟩:=hh n hn
   have hm:=h.np _ (Zw e)
   refine⟨hm,?_⟩
   show Bolt p ((zw c n).map _)
   rw[qH e]
   exact zau (h.bolt e))
 |brew k=>exact⟨h.hp,by show (fr.set _ _).length=p;rw[xS];exact h.hl,h.hb,h.nd,h.np⟩
theorem QY(cs:List Cl):(OV.l (cs.map λc=>.d c.D)).view=za cs:=by
 have:=zZ (cs.map Cl.D)
 rw[xF]at this
 exact this
theorem z4(c:Cls)(n:Str):zq (clD c) n=(zq c n).map za:=zd4 za c n
theorem Z8(c:Cls)(n:Str)(cs:List Cl):zy (clD c) n (za cs)=clD (zy c n cs):=YB za c n cs
def Jw (cf:CF):Prop:=∀ cs:List Cl,cs.length<=1000->cf "boiled" [.d (za cs)]=.ok (.l ((cs.map zp).map λc=>.d c.D)) [none]
theorem km(cf:CF):Jw λ_=>runI 1 [false] [] vo cf:=λcs hl=>by
 have e:=ku (k:=3) (t:=.tp (.cons (.nm 0 1) (.cons (.nm 1 2) (.cons (.nm 2 3) .nil)))) (elt:=(jbg.ev cf).1) Cl.D (λc=>(zp c).D) (xs:=cs) (Γ:= [@&(za cs)]) (by
  intro c hc
  refine⟨[@&(za cs),@&(zb c.st),@&(.bool c.w),@&(zb c.wi)],.dat (zp c).D,[@&(za cs),@&(zb c.st),@&(.bool c.w),@&(zb c.wi)],rfl,?_,rfl,rfl⟩
  unfold zp Cl.D jL
  rwa[zb c.st=A,zb c.wi=B]
  simp![jbg])
 have hz:(cs.map Cl.D).length<=1000000:=by simp;omega
 have hvv:(cs.map λc=>(zp c).D).map OV.d=(cs.map zp).map λc=>OV.d c.D:=by rw[xF,xF];rfl
 rw[<- hvv]
 unfold za at *
 rwa[(cs.map λc=>(zp c).D)=DD,cs.map Cl.D=X]
 simp![vo,e,hz]
def KA (cf:CF):Prop:=∀ (fr:List Bool) (cl:Ad) (d:Nat),d<fr.length->cf "check_dye" [.d (stV (frD fr) cl),.d (.int d)]=.ok (.d .none) [none,none]
theorem zhq(cf:CF):KA λ_=>runI 2 [false,false] [] Zo cf:=λfr cl d hd=>by
 have h1:=qe (frD fr) cl
 have hz:(frD fr).length=fr.length:=by simp[frD]
 have h2:(0:Int)<=(d:Int):=by omega
 have h3:(d:Int)<(fr.length:Int):=by omega
 rwa[stV (frD fr) cl=D,frD fr=F,(d:Int)=I]
 dsimp! [Zo,h1,hz,h2,h3]
theorem zb5{α:Type}[DecidableEq α]:∀{l acc:List α},l.Nodup->(∀ x∈l,x∉acc)->l.foldl PyProof.Rows.step_dedup acc=acc++l
 |[],acc,_,_=>by simp
 |x::l,acc,hn,hd=>by
  rw[xA]at hn
  have e:PyProof.Rows.step_dedup acc x=acc++ [x]:=by
   unfold PyProof.Rows.step_dedup
   rw[if_neg]
   intro z
   obtain⟨y,hy,q⟩:=uO.mp z
   exact hd x (by simp) (by rw[<- eq_of_beq q];exact hy)
  rw[List.foldl_cons,e,zb5 hn.2 (λy hy z=>by
   rcases xM.mp z with z | z
   ·exact hd y (by simp[hy]) z
   ·have:y=x:=by simpa using z
    exact hn.1 (this ▸ hy))]
  simp
theorem wL{α:Type}[DecidableEq α]{l:List α}(h:l.Nodup):Tab.dedup l=l:=by
 unfold Tab.dedup
 rw[zb5 h (by simp)];rfl
def Q0 (cf:CF):Prop:=∀ (fr:Aa) (cl:Ad) (ns:Ab),ns.Nodup->ns.length<=60->(∀ n∈ns,(zq cl n).isSome=true)->cf "check_names" [.d (stV fr cl),.d (zx ns)]=.ok (.d .none) [none,none]
theorem zaE(cf:CF)(hh:Q6 cf):Q0 λ_=>runI 3 [false,false] [] jo cf:=λfr cl ns hn hl ha=>by
 obtain⟨Γ',e,⟨o2,rfl⟩⟩:=Zn (t:=.nm 2 2) (body:=jbb.ex cf []) (ds:=ns.map .str) (Γ:= [@&(stV fr cl),@&(zx ns),none])
  (λpre Γ=>∃ o2:Option OV,Γ= [@&(stV fr cl),@&(zx ns),o2]) ⟨_,rfl⟩ (by
   rintro pre x post e Γ ⟨o2,rfl⟩
   have hx:x∈ns.map PyData.str:=by rw[e];simp
   obtain⟨n,hm,rfl⟩:=xE.mp hx
   have e1:=hh fr cl n
   rw[if_pos (ha n hm)]at e1
   refine⟨_,[@&(stV fr cl),@&(zx ns),@&(.str n)],rfl,?_,_,rfl⟩
   rwa[stV fr cl=D,zx ns=NS]
   dsimp! [jbb,e1,zk])
 have hs:=vK ns
 have hd:=wL hn
 have hml:(ns.map PyData.str).length=ns.length:=by simp
 unfold zx at *
 rwa[stV fr cl=D]
 unfold jo
 rwa[jbb=B1,ns.map PyData.str=X]
 have hz:ns.length<=1000000:=by omega
 dsimp! [e,yu,hs,hd,hl,hml,hz,zM,zV,zk]
theorem wx(Γ:Gv)(F:Aa):Wj Γ (.dat (.list F))=some F:=rfl
def KD (cf:CF):Prop:=∀ (fr:List Bool) (cl:Ad) (d:Nat) (b:Bool),d<fr.length->cf "with_pot" [.d (stV (frD fr) cl),.d (.int d),.d (.bool b)]=.ok (.d (stV (frD (fr.set d b)) cl)) [none,none,none]
theorem zh6(cf:CF)(hs:Q7 cf):KD λ_=>runI 4 [false,false,false] [] QU cf:=λfr cl d b hd=>by
 have h1:=qe (frD fr) cl
 have h2:=zO (frD fr) cl
 have hz:((frD fr).map OV.d).length=fr.length:=by simp[frD]
 have e1:=hs (.list (frD (fr.set d b))) (.dict (cl.map dK))
 have hw:=yU (frD (fr.set d b)) cl
 have hst:((frD fr).map OV.d).set d (.d (.bool b))=(frD (fr.set d b)).map OV.d:=by
  unfold frD
  rw[uq,uq]
 have hv:=zZ (frD (fr.set d b))
 have hg:(frD fr)[d]?=some (.bool fr[d]):=by unfold frD;rw[xl,xg hd];rfl
 generalize fr[d]=g at hg
 have h4:¬ ((d:Int)<0):=by omega
 have h5:(d:Int)<(fr.length:Int):=by omega
 have h6:(d:Int).toNat=d:=by omega
 have h7:(0:Int)<=(d:Int):=by omega
 have hi:ixN ((frD fr).map OV.d).length (d:Int)=some d:=by
  unfold ixN
  rw[hz,if_pos h7,if_pos h5,h6]
 rwa[stV (frD fr) cl=D,stV (frD (fr.set d b)) cl=D2]
 generalize hF:frD fr=F at *
 rwa[frD (fr.set d b)=F2,cl.map dK=CD,(d:Int)=I]
 dsimp! [QU,wx,h1,h2,e1,hw,hst,hv,hg,hi,hz,h4,h5,h6,h7,zk,ixN]
def Y0 (cf:CF):Prop:=∀ (fr:List Bool) (cl:Ad) (d:Nat),fr[d]?=some false->cf "behind_brew" [.d (stV (frD fr) cl),.d (.list [.int d])]=.ok (.d (stV (frD (fr.set d true)) cl)) [none,none]
theorem Yj{d:Nat}(h:fr[d]?=some b):atI (frD fr) (d:Int)=some (.bool b):=Zx (by unfold frD;rw[xl,h];rfl)
theorem zet(cf:CF)(hd:KA cf)(hp:KD cf):Y0 λ_=>runI 3 [false,false] [] jl cf:=λfr cl d h=>by
 have hlt:=(xb.mp h).1
 have e1:=hd fr cl d hlt
 have e2:=hp fr cl d true hlt
 have h1:=qe (frD fr) cl
 have h2:=Yj h
 have h3:atI [PyData.int d] 0=some (.int d):=rfl
 rwa[stV (frD fr) cl=D,stV (frD (fr.set d true)) cl=D2,frD fr=F,(d:Int)=I]
 dsimp! [jl,e1,e2,h1,h2,h3,zk]
def Y8 (cf:CF):Prop:=∀ (fr:Aa) (cl:Ad) (n:Str) (cs:List Cl) (xs:List Int),zq cl n=some (za cs)->cs.length<=1000->xs.length<=60->xs.all (QR cs.length)=true->zaL xs=false->cl.length<=1000->cf "behind_wax" [.d (stV fr cl),.d (.list [.str n,zb xs])]=.ok (.d (stV fr (zy cl n (za (qc xs cs))))) [none,none]
theorem zgn(cf:CF)(hw:JA cf)(hh:Q6 cf)(hx:Y9 cf):Y8 λ_=>runI 4 [false,false] [] j9 cf:=λfr cl n cs xs h hc hx1 hx2 hx3 hl=>by
 have e1:=hh fr cl n
 rw[if_pos (by rw[h];rfl)]at e1
 have e2:=hx cs xs hc hx1
 unfold zi1 at e2
 rw[if_pos hx2,hx3,if_neg (by decide)]at e2
 have e3:cf "with_cloths" [.d (stV fr cl),.d (.dict ([(n,za (qc xs cs))].map dK))]=.ok (.d (stV fr (zy cl n (za (qc xs cs))))) [none,none]:=hw fr cl [(n,za (qc xs cs))] (by simp;omega)
 have h1:=zO fr cl
 have h2:=zR cl
 have hv:=jq [(n,za (qc xs cs))]
 have hb:=QY (qc xs cs)
 rwa[stV fr cl=D,stV fr (zy cl n (za (qc xs cs)))=D2,PyData.dict ([(n,za (qc xs cs))].map dK)=MD,cl.map dK=CD,OV.l ((qc xs cs).map λc=>.d c.D)=WL,za (qc xs cs)=WB,za cs=BB,zb xs=XX]
 dsimp! [j9,e1,e2,e3,h,h1,h2,hv,hb,zk]
theorem zg2{α:Type}(x:α):atI [x] 0=some x:=rfl
def VZ (cf:CF):Prop:=∀ (fr:Aa) (c:Cls) (ns:Ab),ns.Nodup->ns.length<=60->(∀ n∈ns,∃ cs,zq c n=some cs/\cs.length<=1000)->c.length<=1000->cf "behind_boil" [.d (stV fr (clD c)),.d (.list [zx ns])]=.ok (.d (stV fr (clD (zf c (ns.map λn=>(n,(zw c n).map zp)))))) [none,none]
theorem Vj(c:Cls)(f:List Cl->List Cl){ns:Ab}(hn:ns.Nodup):zf [] (ns.map λn=>(n,za (f (zw c n))))=ns.map λn=>(n,za (f (zw c n))):=by
 have:=VJ (ns.map λn=>(n,za (f (zw c n)))) [] (by rw[xF];simpa [Function.comp_def] using hn) (by simp)
 simpa using this
theorem VH(c:Cls)(f:List Cl->List Cl)(ns:Ab):zf (clD c) (ns.map λn=>(n,za (f (zw c n))))=clD (zf c (ns.map λn=>(n,f (zw c n)))):=by
 have:=vf za (ns.map λn=>(n,f (zw c n))) c
 rw[xF]at this
 exact this
theorem zbS(cf:CF)(hw:JA cf)(hcn:Q0 cf)(hx:Jw cf):VZ λ_=>runI 3 [false,false] [] jk cf:=λfr c ns hn hl ha hc=>by
 have e1:=hcn fr (clD c) ns hn hl (λn hm=>by
  obtain⟨cs,e,_⟩:=ha n hm
  rw[z4,e];rfl)
 have e3:=hw fr (clD c) (ns.map λn=>(n,za ((zw c n).map zp))) (by simp[clD];omega)
 rw[VH c (·.map zp)]at e3
 have h1:=zO fr (clD c)
 have h2:=zR (clD c)
 have e2:=zhn (k:=1) (t:=.nm 0 3) (ek:=(ja7.ev cf).1) (ev:=(ja8.ev cf).1) PyData.str id (λn=>za ((zw c n).map zp)) (Γ:= [@&(stV fr (clD c)),@&(.list [zx ns]),@&(zx ns)]) ns [] (by
  intro n hm
  obtain⟨cs,e,hcl⟩:=ha n hm
  have ev:=hx cs hcl
  have vb:=QY (cs.map zp)
  have hvn:zq (clD c) n=some (za cs):=by rw[z4,e];rfl
  rw[qH e]
  refine⟨_,[@&(stV fr (clD c)),@&(.list [zx ns]),@&(zx ns),@&(.str n)],rfl,?_,rfl⟩
  rwa[stV fr (clD c)=D,(clD c).map dK=CD,OV.l ((cs.map zp).map λc=>.d c.D)=WL,za (cs.map zp)=WB,za cs=BB]
  dsimp! [itD,ja7,ja8,ev,vb,hvn,h1,h2,zk])
 have ek:=Vj c (·.map zp) hn
 dsimp only [id]at e2
 rw[ek]at e2
 have hv:=jq (ns.map λn=>(n,za ((zw c n).map zp)))
 have hz:(ns.map PyData.str).length<=1000000:=by simp;omega
 rwa[stV fr (clD c)=D,stV fr (clD (zf c (ns.map λn=>(n,(zw c n).map zp))))=D2,(ns.map λn=>(n,za ((zw c n).map zp)))=ML]
 unfold jk
 rwa[ja7=B1,ja8=B2]
 unfold zx at *
 rwa[ns.map PyData.str=NS]
 dsimp! [e1,e2,e3,zg2,hv,hz,zk]
def Y2 (cf:CF):Prop:=∀ (fr:List Bool) (c:Cls) (ns:Ab) (d:Nat),d<13->fr.length<=12->fr[d]?=some true->ns.Nodup->ns.length<=60->(∀ n∈ns,∃ cs,zq c n=some cs/\Bolt fr.length cs/\cs.any (zC d)=false)->c.length<=1000->cf "behind_dip" [.d (stV (frD fr) (clD c)),.d (.list [zx ns,.int d])]=.ok (.d (stV (frD (fr.set d false)) (clD (zf c (ns.map λn=>(n,(zw c n).map (zz d))))))) [none,none]
theorem zeL(cf:CF)(hw:JA cf)(hcn:Q0 cf)(hdy:KA cf)(hpo:KD cf)(hx:yY cf):Y2 λ_=>runI 5 [false,false] [] j8 cf:=λfr c ns d h0 hf hfd hn hl ha hc=>by
 have hlt:=(xb.mp hfd).1
 have e0:=hdy fr (clD c) d hlt
 have e1:=hcn (frD fr) (clD c) ns hn hl (λn hm=>by
  obtain⟨cs,e,_⟩:=ha n hm
  rw[z4,e];rfl)
 have e3:=hw (frD fr) (clD c) (ns.map λn=>(n,za ((zw c n).map (zz d)))) (by simp[clD];omega)
 rw[VH c (·.map (zz d))]at e3
 have e4:=hpo fr (clD (zf c (ns.map λn=>(n,(zw c n).map (zz d))))) d false hlt
 have h1:=zO (frD fr) (clD c)
 have h2:=zR (clD c)
 have h3:=qe (frD fr) (clD c)
 have h4:=Yj hfd
 have e2:=zhn (k:=1) (t:=.nm 0 5) (ek:=(ja9.ev cf).1) (ev:=(jba.ev cf).1) PyData.str id (λn=>za ((zw c n).map (zz d))) (Γ:= [@&(stV (frD fr) (clD c)),@&(.list [zx ns,.int d]),@&(zx ns),@&(.int d),none]) ns [] (by
  intro n hm
  obtain⟨cs,e,hbo,hfu⟩:=ha n hm
  have ev:=hx.1 fr.length cs d (by omega) hbo hlt
  rw[hfu,if_neg (by decide)]at ev
  have vb:=QY (cs.map (zz d))
  have hvn:zq (clD c) n=some (za cs):=by rw[z4,e];rfl
  rw[qH e]
  refine⟨_,[@&(stV (frD fr) (clD c)),@&(.list [zx ns,.int d]),@&(zx ns),@&(.int d),none,@&(.str n)],rfl,?_,rfl⟩
  rwa[stV (frD fr) (clD c)=D,(clD c).map dK=CD,OV.l ((cs.map (zz d)).map λc=>.d c.D)=WL,za (cs.map (zz d))=WB,za cs=BB]
  dsimp! [itD,ja9,jba,ev,vb,hvn,h1,h2,zk])
 have ek:=Vj c (·.map (zz d)) hn
 dsimp only [id]at e2
 rw[ek]at e2
 have hv:=jq (ns.map λn=>(n,za ((zw c n).map (zz d))))
 have hz:(ns.map PyData.str).length<=1000000:=by simp;omega
 rwa[stV (frD fr) (clD c)=D,stV (frD (fr.set d false)) (clD (zf c (ns.map λn=>(n,(zw c n).map (zz d)))))=D3,stV (frD fr) (clD (zf c (ns.map λn=>(n,(zw c n).map (zz d)))))=D2,(ns.map λn=>(n,za ((zw c n).map (zz d))))=ML,frD fr=F]
 unfold j8
 rwa[ja9=B1,jba=B2]
 unfold zx at *
 rwa[ns.map PyData.str=NS,(d:Int)=I]
 dsimp! [e0,e1,e2,e3,e4,h3,h4,hv,hz,zk]
structure Kz(cf:CF):Prop where
 hang:Y3 cf
 wax:Y8 cf
 dip:Y2 cf
 boil:VZ cf
 brew:Y0 cf
def Wu (cf:CF):Prop:=∀ (pool:Ab) (p:Nat) (fr:List Bool) (c:Cls) (d:Deed),pool.length<=60->(∀ n∈pool,Nm n)->StOk pool p fr c->Qm pool fr c d->cf "behind" [.d (stA fr c),.d d.D]=.ok (.d (stA (d.fr fr) (d.cl p c))) [none,none]
theorem zas(cf:CF)(h:Kz cf):Wu λ_=>runI 5 [false,false] [] zU cf:=λpool p fr c d hpl hpn S G=>by
 have hcl:=S.len
 have hdl:(clD c).length<=1000:=by simp[clD];omega
 unfold stA
 cases d with
 |hang n k=>
  obtain⟨hn,hv,hk0,hk1⟩:=G
  obtain⟨j,rfl⟩:=xO hk0
  have e1:=h.hang (frD fr) (clD c) n j (hpn n hn) (by rw[z4,hv];rfl) (by simp[frD];have:=S.hl;have:=S.hp;omega) hdl (by omega)
  have hfl:(frD fr).length=p:=by simp[frD];exact S.hl
  rw[hfl,zar,show zf (clD c) [(n,za (List.replicate j (zN p)))]=zy (clD c) n (za (List.replicate j (zN p))) from rfl,Z8]at e1
  show _=RF.ok (.d (stV (frD fr) (clD (zy c n (List.replicate (j:Int).toNat (zN p)))))) [none,none]
  rw[show (j:Int).toNat=j from by omega]
  show runI 5 [false,false] [] zU cf [.d (stV (frD fr) (clD c)),.d (.tuple [.str "hang",.str n,.int j])]=_
  rwa[stV (frD fr) (clD c)=D,stV (frD fr) (clD (zy c n (List.replicate j (zN p))))=D2]
  dsimp! [zU,e1,zk,Jq,List.lookup]
 |wax n xs=>
  obtain⟨cs,hv,hx1,hx2,hx3⟩:=G
  have e1:=h.wax (frD fr) (clD c) n cs xs (by rw[z4,hv];rfl) (S.bolt hv).1 hx3 hx1 hx2 hdl
  rw[Z8]at e1
  show runI 5 [false,false] [] zU cf [.d (stV (frD fr) (clD c)),.d (.tuple [.str "wax",.str n,zb xs])]=RF.ok (.d (stV (frD fr) (clD (zy c n (qc xs (zw c n)))))) [none,none]
  rw[qH hv]
  rwa[stV (frD fr) (clD c)=D,stV (frD fr) (clD (zy c n (qc xs cs)))=D2,zb xs=SD]
  dsimp! [zU,e1,zk,Jq,List.lookup]
 |dip ns k=>
  obtain⟨hk0,hk1,hfd,hn,hl,ha⟩:=G
  obtain⟨j,rfl⟩:=xO hk0
  rw[show (j:Int).toNat=j from by omega]at *
  have hlf:=S.hl
  have hlp:=S.hp
  have e1:=h.dip fr c ns j (by omega) (by omega) hfd hn hl (λn hm=>by
   obtain⟨cs,e,hf⟩:=ha n hm
   exact⟨cs,e,by rw[hlf];exact S.bolt e,hf⟩) (by omega)
  show runI 5 [false,false] [] zU cf [.d (stV (frD fr) (clD c)),.d (.tuple [.str "dip",zx ns,.int j])]=RF.ok (.d (stV (frD (fr.set (j:Int).toNat false)) (clD (zf c (ns.map λn=>(n,(zw c n).map (zz (j:Int).toNat))))))) [none,none]
  rw[show (j:Int).toNat=j from by omega]
  rwa[stV (frD fr) (clD c)=D,stV (frD (fr.set j false)) (clD (zf c (ns.map λn=>(n,(zw c n).map (zz j)))))=D2,zx ns=SD]
  dsimp! [zU,e1,zk,Jq,List.lookup]
 |boil ns=>
  obtain⟨hn,hl,ha⟩:=G
  have e1:=h.boil (frD fr) c ns hn hl (λn hm=>by
   obtain⟨cs,e⟩:=ha n hm
   exact⟨cs,e,(S.bolt e).1⟩) (by omega)
  show runI 5 [false,false] [] zU cf [.d (stV (frD fr) (clD c)),.d (.tuple [.str "boil",zx ns])]=RF.ok (.d (stV (frD fr) (clD (zf c (ns.map λn=>(n,(zw c n).map zp)))))) [none,none]
  rwa[stV (frD fr) (clD c)=D,stV (frD fr) (clD (zf c (ns.map λn=>(n,(zw c n).map zp))))=D2,zx ns=SD]
  dsimp! [zU,e1,zk,Jq,List.lookup]
 |brew k=>
  obtain⟨hk0,hk1,hfd⟩:=G
  obtain⟨j,rfl⟩:=xO hk0
  rw[show (j:Int).toNat=j from by omega]at *
  have e1:=h.brew fr (clD c) j hfd
  show runI 5 [false,false] [] zU cf [.d (stV (frD fr) (clD c)),.d (.tuple [.str "brew",.int j])]=RF.ok (.d (stV (frD (fr.set (j:Int).toNat true)) (clD c))) [none,none]
  rw[show (j:Int).toNat=j from by omega]
  rwa[stV (frD fr) (clD c)=D,stV (frD (fr.set j true)) (clD c)=D2]
  dsimp! [zU,e1,zk,Jq,List.lookup]
noncomputable def zu(p:Nat)(fr:List Bool)(c:Cls):Aa:= [.int p,.list (frD fr),.dict ((clD c).map dK)]
noncomputable def zB(p:Nat)(fr:List Bool)(c:Cls):PyData:=.list (zu p fr c)
def WC (cf:CF):Prop:=∀ cs:List Cl,cs.length<=1000->cf "_law_boil" [.d (za cs)]=.ok (.l ((cs.map zp).map λc=>.d c.D)) [none]
theorem zaX(cf:CF):WC λ_=>runI 1 [false] [] Qo cf:=λcs hl=>by
 obtain⟨ys,Γ',e,hy,rfl⟩:=zW (k:=1) (t:=.nm 0 1) (cond:=fYes) (elt:=(jbc.ev cf).1) (ds:=zF cs.length) (Γ:= [@&(za cs)])
  (λpre ys Γ=>ys=((cs.take pre.length).map zp).map Cl.D/\Γ= [@&(za cs)]) ⟨rfl,rfl⟩ (by
   rintro pre x post e ys Γ ⟨rfl,rfl⟩
   have h1:(zF cs.length)[pre.length]?=some x:=by rw[e];simp
   obtain⟨hlt,rfl⟩:=qi h1
   have hc:=xg hlt
   have a1:atI (cs.map Cl.D) (pre.length:Int)=some (cs[pre.length]).D:=Zx (by rw[xl,hc];rfl)
   have hnx:(cs.take (pre.length+1)).map zp=(cs.take pre.length).map zp++ [zp cs[pre.length]]:=by
    rw[uf,hc,xG];rfl
   rwa[cs[pre.length]=c]
   refine⟨[@&(za cs),@&(.int (pre.length:Nat))],true,_,rfl,rfl,λ_=>⟨.dat (zp c).D,[@&(za cs),@&(.int (pre.length:Nat))],(zp c).D,?_,rfl,?_,rfl⟩,λh=>nomatch h⟩
   ·unfold zp
    have hbd:za cs=.list (cs.map Cl.D):=rfl
    rw[hbd]
    unfold Cl.D jL at *
    rwa[zb c.st=A,zb c.wi=B,(cs.map λc=>PyData.tuple [zb c.st,PyData.bool c.w,zb c.wi])=Y]
    simp![jbc,a1,y0,Vd]
   ·simp only[xB,xr,uh,uJ]
    rw[hnx,xG];rfl)
 rw[zj,ub]at hy
 subst hy
 have hz: -1000000<=(cs.length:Int)/\(cs.length:Int)<=1000000:=by omega
 have hz2:cs.length<=1000000:=by omega
 have hml:(cs.map Cl.D).length=cs.length:=by simp
 have hvv:((cs.map zp).map Cl.D).map OV.d=(cs.map zp).map λc=>OV.d c.D:=by rw[xF];rfl
 rw[<- hvv]
 unfold za at *
 rwa[(cs.map zp).map Cl.D=WW,cs.map Cl.D=Y]
 simp![Qo,hml,hz,hz2,zj,e]
theorem WM(n:Nat)(h:∀ i:Nat,∃ Γ2 u Γ4,tgF t (.int i) (Γ++List.replicate k none)=some Γ2/\B Γ2=.ok (u,Γ4)/\derS Γ4 u=some y/\Γ4.take Γ.length=Γ):zY k t fYes B (zF n) [] Γ=.ok (List.replicate n y,Γ):=by
 have e:=ku (λi:Nat=>.int i) (λ_=>y) (xs:=List.range n) (Γ:=Γ) (λi _=>h i)
 have:(List.range n).map (λi:Nat=>PyData.int i)=zF n:=rfl
 rw[this]at e
 rw[e,List.map_const',uK]
def Y4 (cf:CF):Prop:=∀ p:Nat,p<=12->cf "_law_kept" [.d (.int p)]=.ok (.l ((zu p (List.replicate p true) []).map .d)) [none]
theorem ze0(cf:CF):Y4 λ_=>runI 1 [false] [] Qq cf:=λp hp=>by
 have e:=WM (k:=1) (t:=.nm 0 1) (B:=(jas.ev cf).1) (Γ:= [@&(.int p)]) (y:=.bool true) p (λi=>⟨[@&(.int p),@&(.int i)],.dat (.bool true),[@&(.int p),@&(.int i)],rfl,by simp![jas],rfl,rfl⟩)
 have hz: -1000000<=(p:Int)/\(p:Int)<=1000000:=by omega
 have hz2:p<=1000000:=by omega
 have hn2:(p:Int).toNat=p:=by omega
 have v1:=zZ (List.replicate p (.bool true))
 have v2:(OV.m []).view=.dict []:=rfl
 have hk:zu p (List.replicate p true) []= [.int p,.list (List.replicate p (.bool true)),.dict []]:=by
  unfold zu frD clD
  rw[uw];rfl
 rw[hk]
 unfold Qq
 rwa[jas=B1,List.replicate p (PyData.bool true)=RP]
 generalize hI:(p:Int)=I at *
 dsimp! [e,hz,hz2,hn2,v1,v2,zj,zk]
def VY (cf:CF):Prop:=∀ p s:Nat,p<=12->s<=40->cf "_law_blank" [.d (.int p),.d (.int s)]=.ok (.l ((List.replicate s (zN p)).map λc=>.d c.D)) [none,none]
theorem zbR(cf:CF):VY λ_=>runI 3 [false,false] [] Zh cf:=λp s hp hs=>by
 have e1:=WM (k:=1) (t:=.nm 0 3) (B:=(jao.ev cf).1) (Γ:= [@&(.int p),@&(.int s),none]) (y:=.int 0) p (λi=>⟨[@&(.int p),@&(.int s),none,@&(.int i)],.dat (.int 0),[@&(.int p),@&(.int s),none,@&(.int i)],rfl,by simp![jao],rfl,rfl⟩)
 have e2:=WM (k:=1) (t:=.nm 0 3) (B:=(jap.ev cf).1) (Γ:= [@&(.int p),@&(.int s),@&(zs p)]) (y:=qq p) s (λi=>⟨[@&(.int p),@&(.int s),@&(zs p),@&(.int i)],.dat (qq p),[@&(.int p),@&(.int s),@&(zs p),@&(.int i)],rfl,by unfold qq;generalize zs p=Z;simp![jap],rfl,rfl⟩)
 have hz: -1000000<=(p:Int)/\(p:Int)<=1000000:=by omega
 have hz2:p<=1000000:=by omega
 have hn2:(p:Int).toNat=p:=by omega
 have gz: -1000000<=(s:Int)/\(s:Int)<=1000000:=by omega
 have gz2:s<=1000000:=by omega
 have gn2:(s:Int).toNat=s:=by omega
 have hzz:zs p=.tuple (List.replicate p (.int 0)):=rfl
 have hvv:(List.replicate s (zN p)).map (λc=>OV.d c.D)=(List.replicate s (qq p)).map OV.d:=by
  rw[uw,uw,KF]
 have hl0:(List.replicate p (PyData.int 0)).length<=1000000:=by simp;omega
 rw[hvv]
 rw[hzz]at e2
 unfold Zh
 rwa[jao=B1,jap=B2,List.replicate p (PyData.int 0)=Z0,List.replicate s (qq p)=Z1]
 generalize hI:(p:Int)=I at *
 generalize hJ:(s:Int)=J at *
 simp![e1,e2,hz,hz2,hn2,gz,gz2,gn2,hl0,zj,zk]
theorem zgv{α:Type}(a b:α):atI [a,b] 0=some a:=rfl
theorem zgw{α:Type}(a b:α):atI [a,b] 1=some b:=rfl
def zbG (cf:CF):Prop:=∀ (pool:Ab) (p:Nat) (fr:List Bool) (c:Cls) (d:Deed),pool.length<=60->StOk pool p fr c->Qm pool fr c d->cf "_law_did" [.d (zB p fr c),.d d.D]=.ok (.l ((zu p (d.fr fr) (d.cl p c)).map .d)) [none,none]
structure zgV(cf:CF):Prop where
 blank:VY cf
 wax:Y5 cf
 dip:zbJ cf
 boil:WC cf
theorem zaN{f:List Cl->List Cl}(hn:n∉pre):zf c ((pre++ [n]).map λm=>(m,f (zw c m)))=zy (zf c (pre.map λm=>(m,f (zw c m)))) n (f (zw c n))/\zq (zf c (pre.map λm=>(m,f (zw c m)))) n=zq c n:=by
 constructor
 ·rw[xG]
  exact k9 c _ n _
 ·refine Ql _ _ ?_
  rw[xF]
  simpa [Function.comp_def] using hn
theorem VI{β:Type}:∀(L c:List (Str×β)),(zf c L).length<=c.length+L.length
 |[],c=>by simp[zf]
 |p::L,c=>by
  have h1:=VI L (zy c p.1 p.2)
  have h2:=wO c p.1 p.2
  show (zf (zy c p.1 p.2) L).length<=_
  simp only[xr];omega
theorem zb6(cf:CF)(body:IB){F:List Cl->List Cl}{c:Cls}{K D S:OV}{o4:Option OV}(hc:c.length<=1000) :
  ∀(ns:Ab),ns.Nodup->ns.length<=60 ->
  (∀ n∈ns,∀(c1:Cls)(o5:Option OV),c1.length<=2000->zq c1 n=zq c n->body.ex cf [] [some K,some D,some S,some (.m (clD c1)),o4,@&(.str n)]=.ok (.next,[some K,some D,some S,some (.m (clD (zy c1 n (F (zw c n))))),o4,@&(.str n)])) ->
  ∃ o5,qJ (.nm 5 5) (body.ex cf []) (ns.map .str) [some K,some D,some S,some (.m (clD c)),o4,none]=.ok (.next,[some K,some D,some S,some (.m (clD (zf c (ns.map λn=>(n,F (zw c n)))))),o4,o5]):=by
 intro ns hn hl hb
 obtain⟨Γ',e,⟨o5,rfl⟩⟩:=Zn (t:=.nm 5 5) (ds:=ns.map .str) (Γ:= [some K,some D,some S,some (.m (clD c)),o4,none])
  (λpre Γ=>∃ o5:Option OV,Γ= [some K,some D,some S,some (.m (clD (zf c ((ns.take pre.length).map λn=>(n,F (zw c n)))))),o4,o5]) ⟨none,rfl⟩ (by
   rintro pre x post e Γ ⟨o5,rfl⟩
   have hlt:pre.length<ns.length:=by have:=congrArg List.length e;simp at this;omega
   have hx:x=.str ns[pre.length]:=by
    have:(ns.map PyData.str)[pre.length]?=some x:=by rw[e];simp
    rw[xl,xg hlt]at this
    simpa using this.symm
   subst hx
   have hnx:ns.take (pre.length+1)=ns.take pre.length++ [ns[pre.length]]:=by rw[uf,xg hlt];rfl
   have hni:ns[pre.length]∉ns.take pre.length:=λz=>by
    have h2:(ns.take pre.length++ [ns[pre.length]]).Nodup:=by rw[<- hnx];exact hn.sublist (List.take_sublist _ _)
    rw[xL]at h2
    exact h2.2.2 _ z _ (by simp) rfl
   obtain⟨f1',f2'⟩:=zaN (c:=c) hni
   have hlc:=VI ((ns.take pre.length).map λn=>(n,F (zw c n))) c
   have hb1:=hb ns[pre.length] (uc hlt) (zf c ((ns.take pre.length).map λn=>(n,F (zw c n)))) o5 (by
    rw[xn,xP]at hlc;omega) f2'
   refine⟨[some K,some D,some S,some (.m (clD (zf c ((ns.take pre.length).map λn=>(n,F (zw c n)))))),o4,@&(.str ns[pre.length])],_,rfl,hb1,@&(.str ns[pre.length]),?_⟩
   rw[xB,ui,hnx,f1'])
 refine⟨o5,?_⟩
 rw[e,xn,ub]
theorem zhm(cf:CF)(h:zgV cf):zbG λ_=>runI 6 [false,false] [] qr cf:=λpool p fr c d hpl S G=>by
 have hcl:=S.len
 have hlf:=S.hl
 have hlp:=S.hp
 have hz:(clD c).length<1000000:=by simp[clD];omega
 have k0:atI (zu p fr c) 0=some (.int p):=rfl
 have k1:atI (zu p fr c) 1=some (.list (frD fr)):=rfl
 have k2:atI (zu p fr c) 2=some (.dict ((clD c).map dK)):=rfl
 have hu:=zR (clD c)
 have hK:zB p fr c=.list (zu p fr c):=rfl
 rw[hK]
 cases d with
 |hang n k=>
  obtain⟨hn,hv,hk0,hk1⟩:=G
  obtain⟨j,rfl⟩:=xO hk0
  have e1:=h.blank p j hlp (by omega)
  have vb:=QY (List.replicate j (zN p))
  have ep:=Z8 c n (List.replicate j (zN p))
  have v1:=zZ (frD fr)
  have v2:=jq (clD (zy c n (List.replicate j (zN p))))
  have hf:zu p ((Deed.hang n j).fr fr) ((Deed.hang n j).cl p c)= [.int p,.list (frD fr),.dict ((clD (zy c n (List.replicate j (zN p)))).map dK)]:=rfl
  have hD:(Deed.hang n j).D=.tuple [.str "hang",.str n,.int j]:=rfl
  rw[hf,hD]
  rwa[zu p fr c=KL,OV.l ((List.replicate j (zN p)).map λc=>.d c.D)=WL,za (List.replicate j (zN p))=WB,clD (zy c n (List.replicate j (zN p)))=C2,(clD c).map dK=CD,clD c=C1,frD fr=F,(j:Int)=J]
  unfold qr
  rwa[zS=B1,zT=B2]
  dsimp! [k0,k1,k2,hu,e1,vb,ep,v1,v2,hz,y0,KE,Vd,wx,wq,vd,VR,zk]
 |wax n xs=>
  obtain⟨cs,hv,hx1,hx2,hx3⟩:=G
  have hvn:zq (clD c) n=some (za cs):=by rw[z4,hv];rfl
  have e1:=h.wax cs xs (S.bolt hv).1
  have vb:=QY (qc xs cs)
  have ep:=Z8 c n (qc xs cs)
  have v1:=zZ (frD fr)
  have v2:=jq (clD (zy c n (qc xs cs)))
  have hf:zu p ((Deed.wax n xs).fr fr) ((Deed.wax n xs).cl p c)= [.int p,.list (frD fr),.dict ((clD (zy c n (qc xs cs))).map dK)]:=by
   show zu p fr (zy c n (qc xs (zw c n)))=_
   rw[qH hv];rfl
  have hD:(Deed.wax n xs).D=.tuple [.str "wax",.str n,zb xs]:=rfl
  rw[hf,hD]
  rwa[zu p fr c=KL,OV.l ((qc xs cs).map λc=>.d c.D)=WL,za (qc xs cs)=WB,clD (zy c n (qc xs cs))=C2,(clD c).map dK=CD,clD c=C1,frD fr=F,zb xs=XX,za cs=BB]
  unfold qr
  rwa[zS=B1,zT=B2]
  dsimp! [k0,k1,k2,hu,hvn,e1,vb,ep,v1,v2,hz,y0,KE,Vd,wx,wq,vd,VR,zk]
 |dip ns k=>
  obtain⟨hk0,hk1,hfd,hn,hl,ha⟩:=G
  obtain⟨j,rfl⟩:=xO hk0
  rw[show (j:Int).toNat=j from by omega]at *
  have hj:j<fr.length:=by omega
  have hst:((frD fr).map OV.d).set j (.d (.bool false))=(frD (fr.set j false)).map OV.d:=by
   unfold frD
   rw[uq,uq]
  have hg:((frD fr).map OV.d)[j]?=some (.d (.bool fr[j])):=by unfold frD;rw[xl,xl,xg hj];rfl
  have hi:ixN ((frD fr).map OV.d).length (j:Int)=some j:=by
   unfold ixN
   rw[if_pos (by omega),if_pos (by simp[frD];omega)];simp
  obtain⟨o5,e1⟩:=zb6 cf zS (F:=λl=>l.map (zz j)) (c:=c) (K:=.d (.list (zu p fr c))) (D:=.d (.tuple [.str "dip",zx ns,.int j])) (S:=.l ((frD (fr.set j false)).map OV.d)) (o4:=none) (by omega) ns hn hl (by
   intro n hm c1 o5 hc1 hv1
   obtain⟨cs,e,hf⟩:=ha n hm
   have q1:=h.dip.1 p cs j (by omega) (S.bolt e)
   have vb:=QY (cs.map (zz j))
   have ep:=Z8 c1 n (cs.map (zz j))
   have hvn:zq (clD c1) n=some (za cs):=by rw[z4,hv1,e];rfl
   have hz1:(clD c1).length<1000000:=by simp[clD];omega
   rw[qH e]
   rwa[clD (zy c1 n (cs.map (zz j)))=C2,clD c1=C1,OV.l ((cs.map (zz j)).map λc=>.d c.D)=WL,za (cs.map (zz j))=WB,za cs=BB,zx ns=NS,(j:Int)=J,PyData.list (zu p fr c)=KP,OV.l ((frD (fr.set j false)).map OV.d)=SS]
   dsimp! [zS,q1,vb,ep,hvn,hz1,Vd,VR,zk])
  have v1:=zZ (frD (fr.set j false))
  have v2:=jq (clD (zf c (ns.map λn=>(n,(zw c n).map (zz j)))))
  have hf:zu p ((Deed.dip ns j).fr fr) ((Deed.dip ns j).cl p c)= [.int p,.list (frD (fr.set j false)),.dict ((clD (zf c (ns.map λn=>(n,(zw c n).map (zz j))))).map dK)]:=by
   show zu p (fr.set (j:Int).toNat false) (zf c (ns.map λn=>(n,(zw c n).map (zz (j:Int).toNat))))=_
   rw[show (j:Int).toNat=j from by omega];rfl
  have hD:(Deed.dip ns j).D=.tuple [.str "dip",zx ns,.int j]:=rfl
  have hzn:(ns.map PyData.str).length<=1000000:=by simp;omega
  rw[hf,hD]
  rwa[zu p fr c=KL,clD (zf c (ns.map λn=>(n,(zw c n).map (zz j))))=C2,(clD c).map dK=CD,clD c=C1,frD (fr.set j false)=F2]
  generalize hFO:(frD fr).map OV.d=FO at *
  rwa[frD fr=F,fr[j]=g]
  unfold qr
  rwa[zS=B1,zT=B2]
  unfold zx at *
  rwa[ns.map PyData.str=NS,(j:Int)=J]
  dsimp! [k0,k1,k2,hu,e1,hst,hg,hi,hFO,v1,v2,hz,hzn,y0,KE,Vd,wx,wq,vd,zk]
 |boil ns=>
  obtain⟨hn,hl,ha⟩:=G
  obtain⟨o5,e1⟩:=zb6 cf zT (F:=λl=>l.map zp) (c:=c) (K:=.d (.list (zu p fr c))) (D:=.d (.tuple [.str "boil",zx ns])) (S:=.l ((frD fr).map OV.d)) (o4:=none) (by omega) ns hn hl (by
   intro n hm c1 o5 hc1 hv1
   obtain⟨cs,e⟩:=ha n hm
   have q1:=h.boil cs (S.bolt e).1
   have vb:=QY (cs.map zp)
   have ep:=Z8 c1 n (cs.map zp)
   have hvn:zq (clD c1) n=some (za cs):=by rw[z4,hv1,e];rfl
   have hz1:(clD c1).length<1000000:=by simp[clD];omega
   rw[qH e]
   rwa[clD (zy c1 n (cs.map zp))=C2,clD c1=C1,OV.l ((cs.map zp).map λc=>.d c.D)=WL,za (cs.map zp)=WB,za cs=BB,zx ns=NS,PyData.list (zu p fr c)=KP,OV.l ((frD fr).map OV.d)=SS]
   dsimp! [zT,q1,vb,ep,hvn,hz1,VR,zk])
  have v1:=zZ (frD fr)
  have v2:=jq (clD (zf c (ns.map λn=>(n,(zw c n).map zp))))
  have hf:zu p ((Deed.boil ns).fr fr) ((Deed.boil ns).cl p c)= [.int p,.list (frD fr),.dict ((clD (zf c (ns.map λn=>(n,(zw c n).map zp)))).map dK)]:=rfl
  have hD:(Deed.boil ns).D=.tuple [.str "boil",zx ns]:=rfl
  have hzn:(ns.map PyData.str).length<=1000000:=by simp;omega
  rw[hf,hD]
  rwa[zu p fr c=KL,clD (zf c (ns.map λn=>(n,(zw c n).map zp)))=C2,(clD c).map dK=CD,clD c=C1,frD fr=F]
  unfold qr
  rwa[zS=B1,zT=B2]
  unfold zx at *
  rwa[ns.map PyData.str=NS]
  dsimp! [k0,k1,k2,hu,e1,v1,v2,hz,hzn,zgv,zgw,wx,wq,vd,zk]
 |brew k=>
  obtain⟨hk0,hk1,hfd⟩:=G
  obtain⟨j,rfl⟩:=xO hk0
  rw[show (j:Int).toNat=j from by omega]at *
  have hj:j<fr.length:=by omega
  have hst:((frD fr).map OV.d).set j (.d (.bool true))=(frD (fr.set j true)).map OV.d:=by
   unfold frD
   rw[uq,uq]
  have hg:((frD fr).map OV.d)[j]?=some (.d (.bool fr[j])):=by unfold frD;rw[xl,xl,xg hj];rfl
  have hi:ixN ((frD fr).map OV.d).length (j:Int)=some j:=by
   unfold ixN
   rw[if_pos (by omega),if_pos (by simp[frD];omega)];simp
  have v1:=zZ (frD (fr.set j true))
  have v2:=jq (clD c)
  have hf:zu p ((Deed.brew j).fr fr) ((Deed.brew j).cl p c)= [.int p,.list (frD (fr.set j true)),.dict ((clD c).map dK)]:=by
   show zu p (fr.set (j:Int).toNat true) c=_
   rw[show (j:Int).toNat=j from by omega];rfl
  have hD:(Deed.brew j).D=.tuple [.str "brew",.int j]:=rfl
  rw[hf,hD]
  rwa[zu p fr c=KL]
  generalize hCD:(clD c).map dK=CD at *
  rwa[clD c=C1,frD (fr.set j true)=F2]
  generalize hFO:(frD fr).map OV.d=FO at *
  rwa[frD fr=F,fr[j]=g]
  unfold qr
  rwa[zS=B1,zT=B2,(j:Int)=J]
  dsimp! [k0,k1,k2,hu,hst,hg,hi,hFO,v1,v2,hz,zgv,zgw,wx,wq,vd,zk]
theorem zeH{k:Nat}{t:IT}{cond:EM Bool}{elt:EM FV}(P:Nat->Bool){ds:Aa}{Γ:Gv}
  (h:∀(i:Nat)(d:PyData),ds[i]?=some d->∃ Γ2 Γ3,tgF t d (Γ++List.replicate k none)=some Γ2/\cond Γ2=.ok (P i,Γ3)/\Γ3.take Γ.length=Γ/\(P i=true->∃ u Γ4,elt Γ3=.ok (u,Γ4)/\derS Γ4 u=some (.int (i:Nat))/\Γ4.take Γ.length=Γ)) :
  zY k t cond elt ds [] Γ=.ok (zH ((List.range ds.length).filter P),Γ):=by
 obtain⟨ys,Γ',e,hy,rfl⟩:=zW (k:=k) (λpre ys Γ'=>ys=zH ((List.range pre.length).filter P)/\Γ'=Γ) (ds:=ds) (Γ:=Γ) ⟨rfl,rfl⟩ (by
  rintro pre d post e ys Γ' ⟨rfl,rfl⟩
  have hd:ds[pre.length]?=some d:=by rw[e];simp
  obtain⟨Γ2,Γ3,e1,e2,e3,h4⟩:=h pre.length d hd
  refine⟨Γ2,P pre.length,Γ3,e1,e2,λhp=>?_,λhp=>⟨?_,e3⟩⟩
  ·obtain⟨u,Γ4,f1',f2',f3'⟩:=h4 hp
   refine⟨u,Γ4,.int (pre.length:Nat),f1',f2',?_,f3'⟩
   rw[xB,ui,List.range_succ,uG]
   unfold zH
   rw[xG]
   simp[hp]
  ·rw[xB,ui,List.range_succ,uG]
   simp[hp])
 rw[e,hy]
noncomputable def rdP(fr:List Bool)(i:Nat):Bool:=fr.getD i false
noncomputable def z8(fr:List Bool):Ac:=(List.range fr.length).filter (rdP fr)
theorem zaR(cf:CF)(fr:List Bool){o0:Option OV}:zY 2 (.tp (.cons (.nm 0 1) (.cons (.nm 1 2) .nil))) (jai.ev cf) (jaj.ev cf).1 (z7 (frD fr)) [] [o0]=.ok (zH (z8 fr),[o0]):=by
 have e:=zeH (k:=2) (t:=.tp (.cons (.nm 0 1) (.cons (.nm 1 2) .nil))) (cond:=jai.ev cf) (elt:=(jaj.ev cf).1) (rdP fr) (ds:=z7 (frD fr)) (Γ:= [o0]) (by
  intro i d hd
  obtain⟨x,hx,rfl⟩:=Z7 hd
  unfold frD at hx
  rw[xl]at hx
  cases hb:fr[i]? with
  |none=>rw[hb]at hx;cases hx
  |some b=>
   rw[hb]at hx
   cases hx
   have hr:rdP fr i=b:=by unfold rdP;rw[xH,hb];rfl
   rw[hr]
   refine⟨[o0,@&(.int i),@&(.bool b)],[o0,@&(.int i),@&(.bool b)],rfl,?_,rfl,λ_=>⟨.dat (.int i),[o0,@&(.int i),@&(.bool b)],?_,rfl,rfl⟩⟩
   ·generalize (i:Int)=I
    dsimp! [jai]
   ·generalize (i:Int)=I
    dsimp! [jaj])
 rw[e]
 have:(z7 (frD fr)).length=fr.length:=by simp[z7,frD]
 rw[this];rfl
def Jx (cf:CF):Prop:=∀ (p:Int) (f:PyData) (dn un:Ao) (pl:Ad) (fr:List Bool) (cl:Ad),fr.length<=12->qh f dn=stV (frD fr) cl->cf "House.ready" [hV p f dn un pl]=.ok (.l ((zH (z8 fr)).map .d)) [some (hV p f dn un pl)]
theorem kO(cf:CF)(hn:WD cf):Jx λ_=>runI 1 [true] [0] ji cf:=λp f dn un pl fr cl hq hs=>by
 have e1:=hn p f dn un pl
 rw[hs]at e1
 have h1:=qe (frD fr) cl
 have e2:=zaR cf fr (o0:=some (hV p f dn un pl))
 have hl:(z7 (frD fr)).length<=1000000:=by simp[z7,frD];omega
 have hl2:(frD fr).length<=1000000:=by simp[frD];omega
 have hns:hV p f dn un pl=.o "House" ["pots","first","done","undone","places"] [.d (.int p),.d f,.l (prs dn),.l (prs un),.m pl]:=rfl
 rwa[stV (frD fr) cl=D,[OV.d (.int p),.d f,.l (prs dn),.l (prs un),.m pl]=XS,hV p f dn un pl=HH]
 subst hns
 unfold ji
 rwa[jai=B1,jaj=B2,frD fr=F,zH (z8 fr)=NR]
 dsimp! [e1,h1,e2,hl,hl2,zk,qT]
noncomputable def Zl(cl:Ad):Ab:=Zd (cl.map (·.1))
def Wy (cf:CF):Prop:=∀ (p:Int) (f:PyData) (dn un:Ao) (pl:Ad) (fr:Aa) (cl:Ad),cl.length<64->qh f dn=stV fr cl->cf "House.names" [hV p f dn un pl]=.ok (.l (((Zl cl).map .str).map .d)) [some (hV p f dn un pl)]
theorem zaQ(cf:CF)(hn:WD cf):Wy λ_=>runI 1 [true] [0] jh cf:=λp f dn un pl fr cl hl hs=>by
 have e1:=hn p f dn un pl
 rw[hs]at e1
 have h1:=zO fr cl
 have h2:=zR cl
 have hns:hV p f dn un pl=.o "House" ["pots","first","done","undone","places"] [.d (.int p),.d f,.l (prs dn),.l (prs un),.m pl]:=rfl
 have hk:Zl cl=Zd (cl.map (·.1)):=rfl
 rw[hk]
 rwa[stV fr cl=D,[OV.d (.int p),.d f,.l (prs dn),.l (prs un),.m pl]=XS,hV p f dn un pl=HH]
 subst hns
 dsimp! [jh,e1,h1,h2,hl,zk,qT]
noncomputable def qp(g:Cl->List Int)(cs:List Cl):Aa:=cs.map λc=>zb (g c)
def V1(nm:Str)(g:Cl->List Int)(cf:CF):Prop:=∀(p:Int)(f:PyData)(dn un:Ao)(pl:Ad)(fr:Aa)(cl:Ad)(n:Str)(cs:List Cl),cs.length<=1000->qh f dn=stV fr cl->zq cl n=some (za cs)->cf nm [hV p f dn un pl,.d (.str n)]=.ok (.l ((qp g cs).map .d)) [some (hV p f dn un pl),none]
theorem kP(cf:CF)(hc:Q3 cf)(p:Int)(f:PyData)(dn un:Ao)(pl:Ad)(fr:Aa)(cl:Ad)(n:Str)(cs:List Cl)(hl:cs.length<=1000)(hq:qh f dn=stV fr cl)(hv:zq cl n=some (za cs)):runI 2 [true,false] [0] qU cf [hV p f dn un pl,.d (.str n)]=.ok (.l ((qp Cl.st cs).map .d)) [some (hV p f dn un pl),none]:=by
 have e1:=hc p f dn un pl fr cl n hq
 rw[hv]at e1
 have e2:=ku (k:=3) (t:=.tp (.cons (.nm 0 2) (.cons (.nm 1 3) (.cons (.nm 2 4) .nil)))) (elt:=(ja3.ev cf).1) Cl.D (λc=>zb c.st) (xs:=cs) (Γ:= [some (hV p f dn un pl),@&(.str n)]) (by
  intro c hc
  refine⟨[some (hV p f dn un pl),@&(.str n),@&(zb c.st),@&(.bool c.w),@&(zb c.wi)],.dat (zb c.st),[some (hV p f dn un pl),@&(.str n),@&(zb c.st),@&(.bool c.w),@&(zb c.wi)],rfl,?_,rfl,rfl⟩
  rwa[zb c.st=A,zb c.wi=B]
  dsimp! [ja3])
 have hz:(cs.map Cl.D).length<=1000000:=by simp;omega
 have hns:hV p f dn un pl=.o "House" ["pots","first","done","undone","places"] [.d (.int p),.d f,.l (prs dn),.l (prs un),.m pl]:=rfl
 rwa[[OV.d (.int p),.d f,.l (prs dn),.l (prs un),.m pl]=XS,hV p f dn un pl=HH]
 subst hns
 unfold qU
 rwa[ja3=B1]
 unfold za qp at *
 rwa[(cs.map λc=>zb c.st)=PL,cs.map Cl.D=Y]
 dsimp! [e1,e2,hz,zk,qT]
theorem kQ(cf:CF)(hc:Q3 cf)(p:Int)(f:PyData)(dn un:Ao)(pl:Ad)(fr:Aa)(cl:Ad)(n:Str)(cs:List Cl)(hl:cs.length<=1000)(hq:qh f dn=stV fr cl)(hv:zq cl n=some (za cs)):runI 2 [true,false] [0] qV cf [hV p f dn un pl,.d (.str n)]=.ok (.l ((qp Cl.wi cs).map .d)) [some (hV p f dn un pl),none]:=by
 have e1:=hc p f dn un pl fr cl n hq
 rw[hv]at e1
 have e2:=ku (k:=3) (t:=.tp (.cons (.nm 0 2) (.cons (.nm 1 3) (.cons (.nm 2 4) .nil)))) (elt:=(ja6.ev cf).1) Cl.D (λc=>zb c.wi) (xs:=cs) (Γ:= [some (hV p f dn un pl),@&(.str n)]) (by
  intro c hc
  refine⟨[some (hV p f dn un pl),@&(.str n),@&(zb c.st),@&(.bool c.w),@&(zb c.wi)],.dat (zb c.wi),[some (hV p f dn un pl),@&(.str n),@&(zb c.st),@&(.bool c.w),@&(zb c.wi)],rfl,?_,rfl,rfl⟩
  rwa[zb c.st=A,zb c.wi=B]
  dsimp! [ja6])
 have hz:(cs.map Cl.D).length<=1000000:=by simp;omega
 have hns:hV p f dn un pl=.o "House" ["pots","first","done","undone","places"] [.d (.int p),.d f,.l (prs dn),.l (prs un),.m pl]:=rfl
 rwa[[OV.d (.int p),.d f,.l (prs dn),.l (prs un),.m pl]=XS,hV p f dn un pl=HH]
 subst hns
 unfold qV
 rwa[ja6=B1]
 unfold za qp at *
 rwa[(cs.map λc=>zb c.wi)=PL,cs.map Cl.D=Y]
 dsimp! [e1,e2,hz,zk,qT]
noncomputable def wxP(cs:List Cl)(i:Nat):Bool:=match cs[i]? with
 |some c=>c.w
 |none=>false
noncomputable def QZ(cs:List Cl):Ac:=(List.range cs.length).filter (wxP cs)
def Wz (cf:CF):Prop:=∀ (p:Int) (f:PyData) (dn un:Ao) (pl:Ad) (fr:Aa) (cl:Ad) (n:Str) (cs:List Cl),cs.length<=1000->qh f dn=stV fr cl->zq cl n=some (za cs)->cf "House.waxed" [hV p f dn un pl,.d (.str n)]=.ok (.l ((zH (QZ cs)).map .d)) [some (hV p f dn un pl),none]
theorem zaS(cf:CF)(hc:Q3 cf):Wz λ_=>runI 2 [true,false] [0] jj cf:=λp f dn un pl fr cl n cs hl hq hv=>by
 have e1:=hc p f dn un pl fr cl n hq
 rw[hv]at e1
 have e2:=zeH (k:=4) (t:=.tp (.cons (.nm 0 2) (.cons (.tp (.cons (.nm 1 3) (.cons (.nm 2 4) (.cons (.nm 3 5) .nil)))) .nil))) (cond:=ja4.ev cf) (elt:=(ja5.ev cf).1) (wxP cs) (ds:=z7 (cs.map Cl.D)) (Γ:= [some (hV p f dn un pl),@&(.str n)]) (by
  intro i d hd
  obtain⟨x,hx,rfl⟩:=Z7 hd
  rw[xl]at hx
  cases hb:cs[i]? with
  |none=>rw[hb]at hx;cases hx
  |some c=>
   rw[hb]at hx
   cases hx
   have hr:wxP cs i=c.w:=by unfold wxP;rw[hb]
   rw[hr]
   refine⟨[some (hV p f dn un pl),@&(.str n),@&(.int i),@&(zb c.st),@&(.bool c.w),@&(zb c.wi)],[some (hV p f dn un pl),@&(.str n),@&(.int i),@&(zb c.st),@&(.bool c.w),@&(zb c.wi)],rfl,?_,rfl,λ_=>⟨.dat (.int i),[some (hV p f dn un pl),@&(.str n),@&(.int i),@&(zb c.st),@&(.bool c.w),@&(zb c.wi)],?_,rfl,rfl⟩⟩
   ·generalize (i:Int)=I
    rwa[zb c.st=A,zb c.wi=B]
    dsimp! [ja4]
   ·generalize (i:Int)=I
    rwa[zb c.st=A,zb c.wi=B]
    dsimp! [ja5])
 have hel:(z7 (cs.map Cl.D)).length=cs.length:=by simp[z7]
 rw[hel]at e2
 have hz:cs.length<=1000000:=by omega
 have hz2:(cs.map Cl.D).length=cs.length:=by simp
 have hns:hV p f dn un pl=.o "House" ["pots","first","done","undone","places"] [.d (.int p),.d f,.l (prs dn),.l (prs un),.m pl]:=rfl
 rwa[[OV.d (.int p),.d f,.l (prs dn),.l (prs un),.m pl]=XS,hV p f dn un pl=HH]
 subst hns
 unfold jj QZ
 rwa[ja4=B1,ja5=B2]
 unfold za at *
 rwa[zH ((List.range cs.length).filter (wxP cs))=NW]
 generalize hY:cs.map Cl.D=Y at *
 dsimp! [e1,e2,hz,hz2,hel,zk,qT]
def Qn (cf:CF):Prop:=∀ (p:Nat) (g:Cl->List Int) (cs:List Cl),p<=12->cs.length<=1000->(∀ c∈cs,(g c).length=p)->cf "_law_pictures" [.d (.list (qp g cs)),.d (.list (qp g cs))]=.ok (.d (.bool true)) [none,none]
theorem zcx(n:Nat)(g:Cl->List Int)(cs:List Cl):lay (n+2) (.list (qp g cs))=true:=vc λx h=>by
 obtain⟨c,_,rfl⟩:=xE.mp h
 exact ze1 λx h=>by obtain⟨i,_,rfl⟩:=xE.mp h;exact zM _ _
theorem Yz(cf:CF)(hs:WE cf):Qn λ_=>runI 2 [false,false] [] qN cf:=λp g cs hp hl hg=>by
 have e:=ku (k:=1) (t:=.nm 0 2) (elt:=(jau.ev cf).1) (λc=>zb (g c)) (λ_=>.bool true) (xs:=cs) (Γ:= [@&(.list (qp g cs)),@&(.list (qp g cs))]) (by
  intro c hc
  have h1:=hg c hc
  have e1:=hs (g c) p h1 (by omega)
  refine⟨[@&(.list (qp g cs)),@&(.list (qp g cs)),@&(zb (g c))],.dat (.bool true),[@&(.list (qp g cs)),@&(.list (qp g cs)),@&(zb (g c))],rfl,?_,rfl,rfl⟩
  have hml:((g c).map PyData.int).length=p:=by simpa using h1
  unfold zb at *
  rwa[PyData.list (qp g cs)=PL,(g c).map PyData.int=X]
  simp![jau,e1,hml,zk])
 have hy:=zcx 18 g cs
 have hq:=Wq hy
 have ha:=zbL (ds:=qp g cs)
 have hpl:(qp g cs).map (λ_=>PyData.bool true)=cs.map λ_=>PyData.bool true:=by unfold qp;rw[xF];rfl
 rw[hpl]at ha
 have hz:(qp g cs).length<=1000000:=by simp[qp];omega
 have hz2:(cs.map λ_=>PyData.bool true).length<=1000000:=by simp;omega
 have hpc:(cs.map λc=>zb (g c))=qp g cs:=rfl
 rw[hpc]at e
 unfold qN
 rwa[jau=B1,qp g cs=PL,(cs.map λ_=>PyData.bool true)=BT]
 simp![e,hy,hq,ha,hz,hz2,zk]
theorem zcQ(cf:CF)(p:Nat)(fr:List Bool)(c:Cls)(hl:fr.length=p):zY 1 (.nm 0 8) (jad.ev cf) (jae.ev cf).1 (zF p) [] [o0,@&(zB p fr c),o2,o3,o4,o5,o6,o7]=.ok (zH (z8 fr),[o0,@&(zB p fr c),o2,o3,o4,o5,o6,o7]):=by
 have e:=zeH (k:=1) (t:=.nm 0 8) (cond:=jad.ev cf) (elt:=(jae.ev cf).1) (rdP fr) (ds:=zF p) (Γ:= [o0,@&(zB p fr c),o2,o3,o4,o5,o6,o7]) (by
  intro i d hd
  obtain⟨hlt,rfl⟩:=qi hd
  have hb:fr[i]?=some fr[i]:=xg (by omega)
  have hr:rdP fr i=fr[i]:=by unfold rdP;rw[xH,hb];rfl
  have a2:=Yj hb
  rw[hr]
  rwa[fr[i]=b]
  refine⟨[o0,@&(zB p fr c),o2,o3,o4,o5,o6,o7,@&(.int i)],[o0,@&(zB p fr c),o2,o3,o4,o5,o6,o7,@&(.int i)],rfl,?_,rfl,λ_=>⟨.dat (.int i),[o0,@&(zB p fr c),o2,o3,o4,o5,o6,o7,@&(.int i)],?_,rfl,rfl⟩⟩
  ·have hK:zB p fr c=.list (zu p fr c):=rfl
   have k1:atI (zu p fr c) 1=some (.list (frD fr)):=rfl
   rw[hK]
   rwa[zu p fr c=KL,frD fr=F,(i:Int)=I]
   dsimp! [jad,k1,a2]
  ·generalize zB p fr c=KL at *
   rwa[(i:Int)=I]
   dsimp! [jae])
 rw[e,zj]
 unfold z8
 rw[hl]
theorem VE(xs:Ac):lay 20 (.list (zH xs))=true:=vc λx h=>by
 obtain⟨i,_,rfl⟩:=xE.mp h
 exact zM _ _
theorem zcy{ss:Ab}(h:∀ s∈ss,PyData.strOk s=true):lay 20 (.list (ss.map .str))=true:=vc λx hx=>by
 obtain⟨s,hs,rfl⟩:=xE.mp hx
 exact h s hs
structure KC(cf:CF):Prop where
 ready:Jx cf
 names:Wy cf
 stains:V1 "House.stains" Cl.st cf
 wishes:V1 "House.wishes" Cl.wi cf
 waxed:Wz cf
 pics:Qn cf
 wholes:WG cf
theorem YF(cf:CF)(h:KC cf){P:Int}{dn un:Ao}{pl:Ad}(hq:qh f dn=stA fr c)(hp:p<=12)(hv:zq c n=some cs)(hb:Bolt p cs){o2 o3 o4 o6 o7:Option OV} :
  jaf.ex cf [0] [some (hV P f dn un pl),@&(zB p fr c),o2,o3,o4,@&(.str n),o6,o7]=.ok (.next,[some (hV P f dn un pl),@&(zB p fr c),o2,o3,o4,@&(.str n),@&(za cs),@&(.list (zH (QZ cs)))]):=by
 have hvn:zq (clD c) n=some (za cs):=by rw[z4,hv];rfl
 have e1:=h.stains P f dn un pl (frD fr) (clD c) n cs hb.1 hq hvn
 have e2:=h.wishes P f dn un pl (frD fr) (clD c) n cs hb.1 hq hvn
 have e3:=h.waxed P f dn un pl (frD fr) (clD c) n cs hb.1 hq hvn
 have q1:=h.pics p Cl.st cs hp hb.1 (λc hc=>(hb.2 c hc).sl)
 have q2:=h.pics p Cl.wi cs hp hb.1 (λc hc=>(hb.2 c hc).wl)
 have q3:=h.wholes (QZ cs) (by
  have:=List.length_filter_le (wxP cs) (List.range cs.length)
  rw[uK]at this
  have:=hb.1
  unfold QZ;omega)
 have v1:=zZ (qp Cl.st cs)
 have v2:=zZ (qp Cl.wi cs)
 have v3:=zZ (zH (QZ cs))
 have c1:=ku (k:=1) (t:=.nm 0 8) (elt:=(jav.ev cf).1) Cl.D (λc=>zb c.st) (xs:=cs) (Γ:= [some (hV P f dn un pl),@&(zB p fr c),o2,o3,o4,@&(.str n),@&(za cs),o7]) (by
  intro c' hc
  refine⟨[some (hV P f dn un pl),@&(zB p fr c),o2,o3,o4,@&(.str n),@&(za cs),o7,some (.d c'.D)],.dat (zb c'.st),[some (hV P f dn un pl),@&(zB p fr c),o2,o3,o4,@&(.str n),@&(za cs),o7,some (.d c'.D)],rfl,?_,rfl,rfl⟩
  unfold Cl.D jL
  rwa[zb c'.st=A,zb c'.wi=B]
  dsimp! [jav,y0])
 have c2:=ku (k:=1) (t:=.nm 0 8) (elt:=(jaw.ev cf).1) Cl.D (λc=>zb c.wi) (xs:=cs) (Γ:= [some (hV P f dn un pl),@&(zB p fr c),o2,o3,o4,@&(.str n),@&(za cs),o7]) (by
  intro c' hc
  refine⟨[some (hV P f dn un pl),@&(zB p fr c),o2,o3,o4,@&(.str n),@&(za cs),o7,some (.d c'.D)],.dat (zb c'.wi),[some (hV P f dn un pl),@&(zB p fr c),o2,o3,o4,@&(.str n),@&(za cs),o7,some (.d c'.D)],rfl,?_,rfl,rfl⟩
  unfold Cl.D jL
  rwa[zb c'.st=A,zb c'.wi=B]
  dsimp! [jaw,Vd])
 have c3:=zeH (k:=1) (t:=.nm 0 8) (cond:=jax.ev cf) (elt:=(jay.ev cf).1) (wxP cs) (ds:=zF cs.length) (Γ:= [some (hV P f dn un pl),@&(zB p fr c),o2,o3,o4,@&(.str n),@&(za cs),@&(.list (zH (QZ cs)))]) (by
  intro i d hd
  obtain⟨hlt,rfl⟩:=qi hd
  have hb:cs[i]?=some cs[i]:=xg hlt
  have hr:wxP cs i=(cs[i]).w:=by unfold wxP;rw[hb]
  have a1:atI (cs.map Cl.D) (i:Int)=some (cs[i]).D:=Zx (by rw[xl,hb];rfl)
  have hcd:(cs[i]).D=.tuple [zb (cs[i]).st,.bool (cs[i]).w,zb (cs[i]).wi]:=rfl
  rw[hr]
  rw[hcd]at a1
  have hbd:za cs=.list (cs.map Cl.D):=rfl
  rw[hbd]
  refine⟨[some (hV P f dn un pl),@&(zB p fr c),o2,o3,o4,@&(.str n),@&(.list (cs.map Cl.D)),@&(.list (zH (QZ cs))),@&(.int i)],[some (hV P f dn un pl),@&(zB p fr c),o2,o3,o4,@&(.str n),@&(.list (cs.map Cl.D)),@&(.list (zH (QZ cs))),@&(.int i)],rfl,?_,rfl,λ_=>⟨.dat (.int i),[some (hV P f dn un pl),@&(zB p fr c),o2,o3,o4,@&(.str n),@&(.list (cs.map Cl.D)),@&(.list (zH (QZ cs))),@&(.int i)],?_,rfl,rfl⟩⟩
  ·generalize zb (cs[i]).st=A at *
   rwa[zb (cs[i]).wi=B,(cs[i]).w=W1,zH (QZ cs)=NW,cs.map Cl.D=Y,(i:Int)=I,hV P f dn un pl=HH]
   dsimp! [jax,a1,KE]
  ·generalize cs.map Cl.D=Y at *
   rwa[zH (QZ cs)=NW,(i:Int)=I,hV P f dn un pl=HH]
   dsimp! [jay])
 rw[zj]at c3
 have hwn:zH ((List.range cs.length).filter (wxP cs))=zH (QZ cs):=rfl
 rw[hwn]at c3
 have hy:=VE (QZ cs)
 have hqv:=Wq hy
 have hK:zB p fr c=.list (zu p fr c):=rfl
 have k2:atI (zu p fr c) 2=some (.dict ((clD c).map dK)):=rfl
 have hu:=zR (clD c)
 have hl:=hb.1
 have hz:(cs.map Cl.D).length=cs.length:=by simp
 have hz1:cs.length<=1000000:=by omega
 have hz2: -1000000<=(cs.length:Int)/\(cs.length:Int)<=1000000:=by omega
 have hbd:za cs=.list (cs.map Cl.D):=rfl
 have hps:(cs.map λc=>zb c.st)=qp Cl.st cs:=rfl
 have hpw:(cs.map λc=>zb c.wi)=qp Cl.wi cs:=rfl
 rw[hps]at c1
 rw[hpw]at c2
 clear hK hbd hps hpw hwn
 unfold zB za at *
 have hns:hV P f dn un pl=.o "House" ["pots","first","done","undone","places"] [.d (.int P),.d f,.l (prs dn),.l (prs un),.m pl]:=rfl
 rwa[[OV.d (.int P),.d f,.l (prs dn),.l (prs un),.m pl]=XS,hV P f dn un pl=HH]
 subst hns
 rwa[zu p fr c=KL,(clD c).map dK=CD,clD c=C1]
 unfold jaf
 rwa[jav=B3,jaw=B4,jax=B5,jay=B6,qp Cl.st cs=PS,qp Cl.wi cs=PW,zH (QZ cs)=NW]
 generalize hYY:cs.map Cl.D=Y at *
 dsimp! [k2,hu,hvn,e1,e2,e3,q1,q2,q3,c1,c2,c3,v1,v2,v3,hy,hqv,hz,hz1,hz2,zj,zk,qT]
def WF (cf:CF):Prop:=∀ (pool:Ab) (p:Nat) (fr:List Bool) (c:Cls) (P:Int) (f:PyData) (dn un:Ao) (pl:Ad),pool.length<=60->(∀ n∈pool,Nm n)->StOk pool p fr c->qh f dn=stA fr c->cf "_law_stands" [hV P f dn un pl,.d (zB p fr c)]=.ok (.d (.bool true)) [some (hV P f dn un pl),none]
theorem Yr(h:n∈Zl (clD c)):∃ cs,zq c n=some cs:=by
 have h1:=(QV _).mem_iff.mp h
 cases q:zq c n with
 |some cs=>exact⟨cs,rfl⟩
 |none=>
  have:=valG_none.mp q
  refine absurd ?_ this
  have e:(clD c).map (·.1)=c.map (·.1):=by unfold clD;rw[xF];rfl
  rw[<- e];exact h1
theorem Km(cf:CF)(h:KC cf):WF λ_=>runI 8 [true,false] [0] jg cf:=λpool p fr c P f dn un pl hpl hpn S hq=>by
 have hcl:=S.len
 have hlf:=S.hl
 have hlp:=S.hp
 have hdl:(clD c).length<64:=by simp[clD];omega
 have e1:=h.ready P f dn un pl fr (clD c) (by omega) hq
 have e2:=h.names P f dn un pl (frD fr) (clD c) hdl hq
 have hrl:(z8 fr).length<=12:=by
  have:=List.length_filter_le (rdP fr) (List.range fr.length)
  rw[uK]at this
  unfold z8;omega
 have e3:=h.wholes (z8 fr) (by omega)
 have e4:=zcQ cf p fr c hlf (o0:=some (hV P f dn un pl)) (o2:=some (.d (.list (zH (z8 fr))))) (o3:=some (.d (.list ((Zl (clD c)).map .str)))) (o4:=none) (o5:=none) (o6:=none) (o7:=none)
 obtain⟨Γ',e5,⟨o5,o6,o7,rfl⟩⟩:=Zn (t:=.nm 5 5) (body:=jaf.ex cf [0]) (ds:=(Zl (clD c)).map .str) (Γ:= [some (hV P f dn un pl),@&(zB p fr c),@&(.list (zH (z8 fr))),@&(.list ((Zl (clD c)).map .str)),@&(.list (zH (z8 fr))),none,none,none])
  (λpre Γ=>∃ o5 o6 o7:Option OV,Γ= [some (hV P f dn un pl),@&(zB p fr c),@&(.list (zH (z8 fr))),@&(.list ((Zl (clD c)).map .str)),@&(.list (zH (z8 fr))),o5,o6,o7]) ⟨none,none,none,rfl⟩ (by
   rintro pre x post e Γ ⟨o5,o6,o7,rfl⟩
   have hx:x∈(Zl (clD c)).map PyData.str:=by rw[e];simp
   obtain⟨n,hm,rfl⟩:=xE.mp hx
   obtain⟨cs,hv⟩:=Yr hm
   exact⟨_,_,rfl,YF cf h hq hlp hv (S.bolt hv),_,_,_,rfl⟩)
 have v1:=zZ (zH (z8 fr))
 have v2:=zZ ((Zl (clD c)).map .str)
 have hy:=VE (z8 fr)
 have hqv:=Wq hy
 have hy2:=zcy (λs hs=>by
  obtain⟨cs,hv⟩:=Yr hs
  exact (hpn _ (S.np _ (Zw hv))).ok)
 have hqv2:=Wq hy2
 have hK:zB p fr c=.list (zu p fr c):=rfl
 have k0:atI (zu p fr c) 0=some (.int p):=rfl
 have k2:atI (zu p fr c) 2=some (.dict ((clD c).map dK)):=rfl
 have hu:=zR (clD c)
 have hz: -1000000<=(p:Int)/\(p:Int)<=1000000:=by omega
 have hz2:p<=1000000:=by omega
 have hn2:(p:Int).toNat=p:=by omega
 have hks:Zl (clD c)=Zd ((clD c).map (·.1)):=rfl
 clear hK hks
 unfold zB Zl at *
 have hns:hV P f dn un pl=.o "House" ["pots","first","done","undone","places"] [.d (.int P),.d f,.l (prs dn),.l (prs un),.m pl]:=rfl
 rwa[[OV.d (.int P),.d f,.l (prs dn),.l (prs un),.m pl]=XS,hV P f dn un pl=HH]
 subst hns
 rwa[zu p fr c=KL,(clD c).map dK=CD]
 generalize hKS:(Zd ((clD c).map (·.1))).map PyData.str=KS at *
 unfold jg
 rwa[jad=B1,jae=B2,jaf=B7,zH (z8 fr)=NR,(p:Int)=I]
 dsimp! [k0,k2,hu,e1,e2,e3,e4,e5,v1,v2,hy,hqv,hy2,hqv2,hz,hz2,hn2,hdl,hKS,zj,zk,qT]
theorem za2(f:PyData)(dn:Ao)(D S:PyData):qh f (dn++ [(D,S)])=S:=by
 unfold qh
 rw[List.getLast?_append];rfl
def zee(cf:CF):Prop:=∀(pool:Ab)(p:Nat)(fr:List Bool)(c:Cls)(d:Deed)(P:Int)(f:PyData)(dn un:Ao),pool.length<=60->(∀ n∈pool,Nm n)->StOk pool p fr c->Qm pool fr c d->dn.length<1000000->qh f dn=stA fr c ->
 cf "House.do" [hV P f dn un [],.d d.D]=.ok (.d .none) [some (hV P f (dn++ [(d.D,stA (d.fr fr) (d.cl p c))]) [] []),none]
theorem zji(cf:CF)(hn:WD cf)(hb:Wu cf):zee λ_=>runI 4 [true,false] [0] j7 cf:=λpool p fr c d P f dn un h1 h2 S G hl hq=>
 zho cf hn P f dn un d.D _ hl (by unfold yX;rw[hq];exact hb pool p fr c d h1 h2 S G)
def Q5(pool:Ab)(p:Nat):List Deed->List Bool->Cls->Prop
 |[],_,_=>True
 |d::r,fr,c=>Qm pool fr c d/\Q5 pool p r (d.fr fr) (d.cl p c)
noncomputable def zcb:List Deed->List Bool->List Bool
 |[],fr=>fr
 |d::r,fr=>zcb r (d.fr fr)
noncomputable def zca(p:Nat):List Deed->Cls->Cls
 |[],c=>c
 |d::r,c=>zca p r (d.cl p c)
theorem yb(cf:CF)(hd:zee cf){pool:Ab}{p:Nat}(h1:pool.length<=60)(h2:∀ n∈pool,Nm n)(body:IB)(P:Int)(f:PyData)(G:OV->Option OV->Gv)(hG:∀ x o d,tgF (.nm 4 4) d (G x o)=some (G x (@&d)))
  (hbody:∀ (dn dn':Ao) (D:PyData),cf "House.do" [hV P f dn [] [],.d D]=.ok (.d .none) [some (hV P f dn' [] []),none]->body.ex cf [0,1] (G (hV P f dn [] []) (@&D))=.ok (.next,G (hV P f dn' [] []) (@&D))) :
  ∀(ds:List Deed)(fr:List Bool)(c:Cls)(dn:Ao)(o:Option OV),StOk pool p fr c->Q5 pool p ds fr c->dn.length+ds.length<=1000000->qh f dn=stA fr c ->
  ∃ dn' o',dn'.length=dn.length+ds.length/\qh f dn'=stA (zcb ds fr) (zca p ds c)/\qJ (.nm 4 4) (body.ex cf [0,1]) (ds.map Deed.D) (G (hV P f dn [] []) o)=.ok (.next,G (hV P f dn' [] []) o')
 |[],fr,c,dn,o,S,_,_,hq=>⟨dn,o,rfl,hq,rfl⟩
 |d::ds,fr,c,dn,o,S,g,hl,hq=>by
  simp only[xr]at hl
  have e1:=hbody dn _ d.D (hd pool p fr c d P f dn [] h1 h2 S g.1 (by omega) hq)
  obtain⟨dn',o',hl',hq',e2⟩:=yb cf hd h1 h2 body P f G hG hbody ds (d.fr fr) (d.cl p c) (dn++ [(d.D,stA (d.fr fr) (d.cl p c))]) (some (.d d.D)) (S.step g.1) g.2 (by simp;omega) (za2 _ _ _ _)
  refine⟨dn',o',by rw[hl'];simp;omega,hq',?_⟩
  rw[xw,qJ,hG]
  simp only[e1]
  exact e2
def YZ(cf:CF):Prop:=∀(pool:Ab)(p:Nat)(fr1 fr2:List Bool)(c1 c2:Cls)(ds1 ds2:List Deed)(P1 P2:Int)(f1 f2:PyData)(dn1 dn2:Ao),pool.length<=60->(∀ n∈pool,Nm n)->StOk pool p fr1 c1->StOk pool p fr2 c2->Q5 pool p ds1 fr1 c1->Q5 pool p ds2 fr2 c2 ->
 dn1.length+ds1.length<=1000000->dn2.length+ds2.length<=1000000->qh f1 dn1=stA fr1 c1->qh f2 dn2=stA fr2 c2 ->
 ∃ dn1' dn2',dn1'.length=dn1.length+ds1.length/\dn2'.length=dn2.length+ds2.length/\qh f1 dn1'=stA (zcb ds1 fr1) (zca p ds1 c1)/\qh f2 dn2'=stA (zcb ds2 fr2) (zca p ds2 c2) /\
  cf "_law_both" [hV P1 f1 dn1 [] [],hV P2 f2 dn2 [] [],.d (.list (ds1.map Deed.D)),.d (.list (ds2.map Deed.D))]=.ok (.d .none) [some (hV P1 f1 dn1' [] []),some (hV P2 f2 dn2' [] []),none,none]
theorem zes(cf:CF)(hd:zee cf):YZ λ_=>runI 5 [true,true,false,false] [0,1] Qp cf:=λpool p fr1 fr2 c1 c2 ds1 ds2 P1 P2 g1 g2 dn1 dn2 h1 h2 S1 S2 G1 G2 l1 l2 q1 q2=>by
 have hns:∀ P f dn,∃ XS,hV P f dn [] []=.o "House" ["pots","first","done","undone","places"] XS:=λP f dn=>⟨_,rfl⟩
 obtain⟨dn1',o1,hl1,hq1,e1⟩:=yb cf hd h1 h2 qK P1 g1 (λx o=> [some x,some (hV P2 g2 dn2 [] []),@&(.list (ds1.map Deed.D)),@&(.list (ds2.map Deed.D)),o]) (λ_ _ _=>rfl) (by
  intro dn dn' D e
  obtain⟨X1,g1'⟩:=hns P1 g1 dn
  obtain⟨X2,g2'⟩:=hns P1 g1 dn'
  rw[g1',g2']at e
  rw[g1',g2']
  rwa[PyData.list (ds1.map Deed.D)=DD1,PyData.list (ds2.map Deed.D)=DD2,hV P2 g2 dn2 [] []=H2]
  dsimp! [qK,e,zk,qT]) ds1 fr1 c1 dn1 none S1 G1 l1 q1
 obtain⟨dn2',o2,hl2,hq2,e2⟩:=yb cf hd h1 h2 qL P2 g2 (λx o=> [some (hV P1 g1 dn1' [] []),some x,@&(.list (ds1.map Deed.D)),@&(.list (ds2.map Deed.D)),o]) (λ_ _ _=>rfl) (by
  intro dn dn' D e
  obtain⟨X1,g1'⟩:=hns P2 g2 dn
  obtain⟨X2,g2'⟩:=hns P2 g2 dn'
  rw[g1',g2']at e
  rw[g1',g2']
  rwa[PyData.list (ds1.map Deed.D)=DD1,PyData.list (ds2.map Deed.D)=DD2,hV P1 g1 dn1' [] []=H2]
  dsimp! [qL,e,zk,qT]) ds2 fr2 c2 dn2 o1 S2 G2 l2 q2
 refine⟨dn1',dn2',hl1,hl2,hq1,hq2,?_⟩
 rwa[ds1.map Deed.D=DD1,ds2.map Deed.D=DD2,hV P1 g1 dn1 [] []=A1,hV P1 g1 dn1' [] []=A2,hV P2 g2 dn2 [] []=A3,hV P2 g2 dn2' [] []=A4]
 unfold Qp
 rwa[qK=B1,qL=B2]
 dsimp! [e1,e2]
end Wx
namespace L3
open PySem L2
section
variable [Cs]{K:Ah}{mg:Aq}{h:Heap}{d:DefI}
theorem el0{α:Type}{P:List α->Prop}(h:P []):∀ us:List α,us.length=0->P us:=λus e=>by
 rw[List.length_eq_zero_iff.mp e];exact h
theorem el1{α:Type}{P:List α->Prop}(h:∀ a0,P [a0]):∀ us:List α,us.length=1->P us:=λus e=>by
 match us,e with
 |[a0],_=>exact h a0
theorem el2{α:Type}{P:List α->Prop}(h:∀ a0 a1,P [a0,a1]):∀ us:List α,us.length=2->P us:=λus e=>by
 match us,e with
 |[a0,a1],_=>exact h a0 a1
theorem el3{α:Type}{P:List α->Prop}(h:∀ a0 a1 a2,P [a0,a1,a2]):∀ us:List α,us.length=3->P us:=λus e=>by
 match us,e with
 |[a0,a1,a2],_=>exact h a0 a1 a2
theorem el4{α:Type}{P:List α->Prop}(h:∀ a0 a1 a2 a3,P [a0,a1,a2,a3]):∀ us:List α,us.length=4->P us:=λus e=>by
 match us,e with
 |[a0,a1,a2,a3],_=>exact h a0 a1 a2 a3
noncomputable def biOk(K:Ah)(L:Ab):Bool:=L.all λx=>match W.nsIn K mainGlobals x with
 |some none=>true
 |_=>false
theorem bi_all{L:Ab}(X:K.In h)(G:h.Ns mainGlobals mg)(hk:biOk K L=true)(x:Str)(hx:L.contains x=true):mg x=none:=by
 have:=xI.mp hk x (ud.mp hx)
 split at this
 ·exact W.mg_none_of X G (by assumption)
 ·cases this
noncomputable def giOk(K:Ah)(L:List (Str×Int)):Bool:=L.all λp=>match W.nsIn K mainGlobals p.1 with
 |some (some (.int i _))=>decide (i=p.2)
 |_=>false
theorem gi_of{L:List (Str×Int)}(X:K.In h)(G:h.Ns mainGlobals mg)(hk:giOk K L=true)(x:Str)(i:Int)(hx:L.contains (x,i)=true):∃ t,mg x=some (.int i t):=by
 have:=xI.mp hk _ (ud.mp hx)
 split at this
 next e=>
  exact⟨_,(W.mg_of X G e).trans (by rw[Xh this])⟩
 ·cases this
noncomputable def gsOk(K:Ah)(L:List (Str×Str)):Bool:=L.all λp=>match W.nsIn K mainGlobals p.1 with
 |some (some (.str i _))=>decide (i=p.2)
 |_=>false
theorem gs_of{L:List (Str×Str)}(X:K.In h)(G:h.Ns mainGlobals mg)(hk:gsOk K L=true)(x:Str)(i:Str)(hx:L.contains (x,i)=true):∃ t,mg x=some (.str i t):=by
 have:=xI.mp hk _ (ud.mp hx)
 split at this
 next e=>
  exact⟨_,(W.mg_of X G e).trans (by rw[Xh this])⟩
 ·cases this
noncomputable def exOk(K:Ah)(L:Ab):Bool:=L.all λx=>match W.nsIn K mainGlobals x with
 |some (some (.ref a))=>W.excIn K a bmV "ValueError.__new__" &&L.all λy=>match W.nsIn K mainGlobals y with
  |some (some (.ref b))=>decide ((mroIn K a).contains (.ref b)=decide (x=y))
  |_=>false
 |_=>false
theorem ex_of {L:Ab}(X:K.In h) (G:h.Ns mainGlobals mg) (hk:exOk K L=true):(∀ x,L.contains x=true->∃ C,mg x=some (.ref C)/\W.excIn K C bmV "ValueError.__new__" =true)/\∀ x C y C2,L.contains x=true->mg x=some (.ref C)->L.contains y=true->mg y=some (.ref C2)->(mroIn K C).contains (.ref C2)=decide (x=y):=by
 have hk:=xI.mp hk
 refine⟨λx hx=>?_,λx C y C2 hx e1 hy e2=>?_⟩
 ·have:=hk x (ud.mp hx)
  split at this
  next e=>
   simp only[xa]at this
   exact⟨_,W.mg_of X G e,this.1⟩
  ·cases this
 ·have:=hk x (ud.mp hx)
  split at this
  next e=>
   simp only[xa]at this
   have h2:=xI.mp this.2 y (ud.mp hy)
   split at h2
   next e'=>
    rw[W.mg_of X G e]at e1
    rw[W.mg_of X G e']at e2
    cases e1
    cases e2
    exact Xh h2
   ·cases h2
  ·cases this
noncomputable def fkOk(K:Ah)(L:List (Str×Str)):Bool:=L.all λp=>match W.nsIn K mainGlobals p.1 with
 |some (some (.ref C))=>W.plainGet K C Str.empty&&(W.hasDictIn K C&&(W.plainOver K C&&((match W.findIn K (.ref C) "__setattr__" with
   |some (some (.builtin b))=>decide (b= "object.__setattr__")
   |_=>false)&&match W.findIn K (.ref C) p.2 with
   |some none=>true
   |_=>false)))
 |_=>false
theorem fk_all{L:List (Str×Str)}(X:K.In h)(G:h.Ns mainGlobals mg)(hk:fkOk K L=true)(c f:Str)(hx:L.contains (c,f)=true):Cls K ((csOf mg).adr c)/\NoAttr K ((csOf mg).adr c) f:=by
 have:=xI.mp hk _ (ud.mp hx)
 split at this
 next e=>
  simp only[xa]at this
  obtain⟨a1,a2,a3,a4,a5⟩:=this
  refine zjk X G ⟨e,a1,a2,a3,?_⟩ ?_
  ·split at a4
   next e2=>
    rw[e2,Xh a4]
   ·cases a4
  ·split at a5
   ·assumption
   ·cases a5
 ·cases this
def AllX(K:Ah)(mg:Aq):List DefI->Prop
 |[]=>True
 |d::r=> @Dx (csOf mg) K mg d/\AllX K mg r
theorem dx_all{W:Wd}:{L:List DefI}->AllX K mg L->(L.all λd=>d.ok W)=true->∀ d∈L,@Dx (csOf mg) K mg d/\d.ok W=true
 |[],_,_=>λd hd=>nomatch hd
 |e::r,a,ok=>λd hd=>by
  simp only[ur,xa]at ok
  rcases xC.mp hd with rfl | hd
  ·exact⟨a.1,ok.1⟩
  ·exact dx_all a.2 ok.2 d hd
end
end L3
namespace Wx
open PySem L2 L3
noncomputable def top(i:Nat):Stmt:=PySem.Challenge.pw_waxcloth_k55_together_or_apart.main.body.getD i (.Pass ⟨0,0,0,0⟩)
noncomputable def qQ(i j:Nat):Stmt:=match top i with
 |.ClassDef _ _ _ b _ _ _ _ _ _ _=>b.getD j (.Pass ⟨0,0,0,0⟩)
 |s=>s
noncomputable abbrev mkD(a:Str)(s:Stmt)(N:Ab)(m:List Bool)(io:Ac)(b:IB)(k:Kd):DefI:=⟨a,s,N.take m.length,N,m,io,b,k⟩
noncomputable abbrev mkF(a:Str)(s:Nat)(N:Ab)(n:Nat)(b:IB):DefI:=mkD a (top s) N (.replicate n false) [] b .fn
noncomputable abbrev zhl:=mkF "_wall" 0 ["k"] 1 jQ
noncomputable abbrev zb3:=mkF "bare" 18 ["pots","size","clear"] 2 Kc
noncomputable abbrev v6:=mkF "with_wish" 19 ["bolt","at","wish","stain","waxed","gone"] 3 jR
noncomputable abbrev yq:=mkF "with_wax" 20 ["bolt","cells"] 2 qX
noncomputable abbrev kI:=mkF "dipped" 21 ["bolt","dye"] 2 jP
noncomputable abbrev kH:=mkF "boiled" 22 ["bolt"] 1 vo
noncomputable abbrev yo:=mkF "has_cell" 23 ["bolt","at"] 2 qW
noncomputable abbrev WV:=mkF "is_picture" 24 ["shades","pots"] 2 jQ
noncomputable abbrev yn:=mkF "deepened" 25 ["stain","dye"] 2 QT
noncomputable abbrev Ye:=mkF "is_name" 29 ["text"] 1 wv
noncomputable abbrev Qx:=mkD "Stand.__init__" (qQ 32 0) ["self","fresh","cloths"] [true,false,false] [0] jO (.ini "Stand")
noncomputable abbrev v5:=mkF "new_stand" 33 ["pots"] 1 Zr
noncomputable abbrev Wa:=mkF "behind_hang" 34 ["stand","parts","name","size"] 2 jm
noncomputable abbrev w9:=mkF "behind_fold" 35 ["stand","parts","name"] 2 ww
noncomputable abbrev Wb:=mkF "behind_twin" 36 ["stand","parts","name","new"] 2 jR
noncomputable abbrev Wc:=mkF "behind_wish" 37 ["stand","parts","name","at","wish"] 2 ww
noncomputable abbrev WU:=mkF "behind_wax" 38 ["stand","parts","name","cells"] 2 j9
noncomputable abbrev WT:=mkF "behind_dip" 39 ["stand","parts","names","dye","changed"] 2 j8
noncomputable abbrev w5:=mkF "behind_boil" 40 ["stand","parts","names"] 2 jk
noncomputable abbrev w6:=mkF "behind_brew" 41 ["stand","parts","dye"] 2 jl
noncomputable abbrev kG:=mkF "behind" 43 ["stand","deed","word","parts","change"] 2 zU
noncomputable abbrev Wg:=mkF "with_cloths" 44 ["stand","changed","cloths"] 2 jp
noncomputable abbrev yp:=mkF "with_pot" 45 ["stand","dye","is_fresh","fresh"] 3 QU
noncomputable abbrev vZ:=mkF "check_new" 46 ["stand","name"] 2 Zp
noncomputable abbrev We:=mkF "check_hangs" 47 ["stand","name"] 2 jn
noncomputable abbrev Wf:=mkF "check_names" 48 ["stand","names","name"] 2 jo
noncomputable abbrev vY:=mkF "check_dye" 49 ["stand","dye"] 2 Zo
noncomputable abbrev Yd:=mkF "bolt_of" 51 ["stand","names","bolt","name"] 2 jR
noncomputable abbrev Qw:=mkD "House.__init__" (qQ 53 0) ["self","pots"] [true,false] [0] qy (.ini "House")
noncomputable abbrev yk:=mkD "House.do" (qQ 53 1) ["self","deed","stand","many"] [true,false] [0] j7 (.me "House" "do")
noncomputable abbrev WS:=mkD "House.undo" (qQ 53 2) ["self","pair"] [true] [0] jR (.me "House" "undo")
noncomputable abbrev WR:=mkD "House.redo" (qQ 53 3) ["self","pair"] [true] [0] jR (.me "House" "redo")
noncomputable abbrev WP:=mkD "House.book" (qQ 53 4) ["self"] [true] [0] jQ (.me "House" "book")
noncomputable abbrev wW:=mkD "House.ahead" (qQ 53 5) ["self"] [true] [0] jQ (.me "House" "ahead")
noncomputable abbrev WQ:=mkD "House.mark" (qQ 53 6) ["self","word"] [true,false] [0] za6 (.me "House" "mark")
noncomputable abbrev ym:=mkD "House.go" (qQ 53 7) ["self","word"] [true,false] [0] ww (.me "House" "go")
noncomputable abbrev wY:=mkD "House.names" (qQ 53 9) ["self"] [true] [0] jh (.me "House" "names")
noncomputable abbrev wZ:=mkD "House.ready" (qQ 53 10) ["self"] [true] [0] ji (.me "House" "ready")
noncomputable abbrev wf:=mkD "House.stains" (qQ 53 11) ["self","name"] [true,false] [0] qU (.me "House" "stains")
noncomputable abbrev wg:=mkD "House.wishes" (qQ 53 12) ["self","name"] [true,false] [0] qV (.me "House" "wishes")
noncomputable abbrev w4:=mkD "House.waxed" (qQ 53 13) ["self","name"] [true,false] [0] jj (.me "House" "waxed")
noncomputable abbrev WO:=mkD "House.bolt" (qQ 53 14) ["self","names"] [true,false] [0] jQ (.me "House" "bolt")
noncomputable abbrev vX:=mkD "House.now" (qQ 53 21) ["self"] [true] [0] jc (.me "House" "now")
noncomputable abbrev wX:=mkD "House.cloth" (qQ 53 22) ["self","name","stand"] [true,false] [0] qD (.me "House" "cloth")
noncomputable abbrev Yc:=mkF "_law_whole" 55 ["_law_found"] 1 Zk
noncomputable abbrev yj:=mkF "_law_wholes" 56 ["_law_found"] 1 j1
noncomputable abbrev yh:=mkF "_law_shades" 57 ["_law_found","_law_pots"] 2 j0
noncomputable abbrev Ya:=mkF "_law_mixed" 59 ["_law_number","_law_turn","_law_one","_law_two"] 2 Zi
noncomputable abbrev kF:=mkD "_law_take" (top 60) ["_law_box_here","_law_many","_law_left","_law_cell"] [true,false] [0] qt .fn
noncomputable abbrev zaI:=mkF "_law_wax" 61 ["_law_rows","_law_cells"] 2 JB
noncomputable abbrev zaH:=mkF "_law_dip" 62 ["_law_rows","_law_dye","_law_found","_law_stain","_law_waxed","_law_want"] 2 jr
noncomputable abbrev kB:=mkF "_law_boil" 63 ["_law_rows"] 1 Qo
noncomputable abbrev kD:=mkF "_law_full" 64 ["_law_rows","_law_dye"] 2 y3
noncomputable abbrev vW:=mkF "_law_letters" 65 [] 0 jf
noncomputable abbrev Yb:=mkD "_law_named" (top 66) ["_law_box_here","_law_many"] [true] [0] Zj .fn
noncomputable abbrev kE:=mkF "_law_kept" 67 ["_law_pots"] 1 Qq
noncomputable abbrev y9:=mkF "_law_blank" 68 ["_law_pots","_law_size","_law_empty"] 2 Zh
noncomputable abbrev zaG:=mkF "_law_did" 69 ["_law_kept_here","_law_deed","_law_fresh","_law_cloths","_law_rows","_law_name"] 2 qr
noncomputable abbrev WN:=mkF "_law_pictures" 70 ["_law_found","_law_due"] 2 qN
noncomputable abbrev yi:=mkD "_law_stands" (top 71) ["_law_house","_law_kept_here","_law_ready","_law_names","_law_pans","_law_name","_law_rows","_law_waxed"] [true,false] [0] jg .fn
noncomputable abbrev kC:=mkD "_law_both" (top 72) ["_law_house","_law_other","_law_deeds","_law_apart_ones","_law_deed"] [true,true,false,false] [0,1] Qp .fn
noncomputable def ja0:IC:=(.one (.cmp .NotEq (.var 0 14) (.var 1 5)))
noncomputable def jbf:IE:=(.var 0 14)
noncomputable def ja1:IB:=(.cons (.expr (.call (.call "_law_both" 4 (.io 3 3 (.io 4 4 (.cons (.new (.lst (.cons (.var 8 8) .nil))) (.cons (.new (.lst (.cons (.var 8 8) .nil))) .nil))))))) (.cons (.asg 7 7 (.dat (.call (.call "_law_did" 2 (.cons (.var 7 7) (.cons (.var 8 8) .nil)))))) .nil))
noncomputable def jag:IC:=(.one (.cmp .Eq (.call (.call "_law_take" 2 (.io 1 1 (.cons (.cint 3) .nil)))) (.cint 0)))
noncomputable def ja2:IE:=(.var 0 14)
noncomputable def jah:IB:=(.cons (.asg 7 7 (.dat (.call (.call "_law_did" 2 (.cons (.var 7 7) (.cons (.var 8 8) .nil)))))) (.cons (.ite (.or (.not (.call (.call "_law_stands" 2 (.io 3 3 (.cons (.var 7 7) .nil))))) (.not (.call (.call "_law_stands" 2 (.io 4 4 (.cons (.var 7 7) .nil)))))) (.cons (.ret (.dat (.cbool false))) .nil) .nil) .nil))
noncomputable def jaa:IB:=(.cons (.ite (.cmp .Eq (.var 13 13) (.cint 0)) (.cons (.asg 8 8 (.dat (.tup (.cons (.cstr "boil") (.cons (.var 12 12) .nil))))) (.cons (.expr (.call (.call "_law_both" 4 (.io 3 3 (.io 4 4 (.cons (.new (.lst (.cons (.var 8 8) .nil))) (.cons (.new (.lst (.cons (.tup (.cons (.cstr "boil") (.cons (.tup (.cons (.var 6 6) .nil)) .nil))) (.cons (.tup (.cons (.cstr "boil") (.cons (.tup (.cons (.var 5 5) .nil)) .nil))) .nil)))) .nil))))))) .nil)) (.cons (.ite (.cmp .Eq (.var 13 13) (.cint 1)) (.cons (.asg 8 8 (.dat (.tup (.cons (.cstr "wax") (.cons (.var 11 11) (.cons (.tuple (.new (.comp 14 1 [1] ["_law_at","_law_box_here"] (.nm 0 14) (.range (.len (.dget (.ix (.var 7 7) (.cint 2)) (.var 11 11)))) jag ja2))) .nil)))))) (.cons (.expr (.call (.call "_law_both" 4 (.io 3 3 (.io 4 4 (.cons (.new (.lst (.cons (.var 8 8) .nil))) (.cons (.new (.lst (.cons (.var 8 8) .nil))) .nil))))))) .nil)) (.cons (.ite (.not (.ix (.ix (.var 7 7) (.cint 1)) (.var 10 10))) (.cons (.asg 8 8 (.dat (.tup (.cons (.cstr "brew") (.cons (.var 10 10) .nil))))) (.cons (.expr (.call (.call "_law_both" 4 (.io 3 3 (.io 4 4 (.cons (.new (.lst (.cons (.var 8 8) .nil))) (.cons (.new (.lst (.cons (.var 8 8) .nil))) .nil))))))) .nil)) (.cons (.ite (.not (.call (.call "_law_full" 2 (.cons (.new (.cat (.dget (.ix (.var 7 7) (.cint 2)) (.var 5 5)) (.dget (.ix (.var 7 7) (.cint 2)) (.var 6 6)))) (.cons (.var 10 10) .nil))))) (.cons (.asg 8 8 (.dat (.tup (.cons (.cstr "dip") (.cons (.var 12 12) (.cons (.var 10 10) .nil)))))) (.cons (.expr (.call (.call "_law_both" 4 (.io 3 3 (.io 4 4 (.cons (.new (.lst (.cons (.var 8 8) .nil))) (.cons (.new (.lst (.cons (.tup (.cons (.cstr "dip") (.cons (.tup (.cons (.var 5 5) .nil)) (.cons (.var 10 10) .nil)))) (.cons (.tup (.cons (.cstr "brew") (.cons (.var 10 10) .nil))) (.cons (.tup (.cons (.cstr "dip") (.cons (.tup (.cons (.var 6 6) .nil)) (.cons (.var 10 10) .nil)))) .nil))))) .nil))))))) .nil)) (.cons (.asg 8 8 (.dat (.tup (.cons (.cstr "boil") (.cons (.tup .nil) .nil))))) (.cons (.expr (.call (.call "_law_both" 4 (.io 3 3 (.io 4 4 (.cons (.new (.lst (.cons (.var 8 8) .nil))) (.cons (.new (.lst .nil)) .nil))))))) .nil))) .nil)) .nil)) .nil)) jah)
noncomputable def jab:IB:=(.cons (.asg 10 10 (.dat (.call (.call "_law_take" 2 (.io 1 1 (.cons (.var 2 2) .nil)))))) (.cons (.asg 11 11 (.dat (.ix (.new (.lst (.cons (.var 5 5) (.cons (.var 6 6) .nil)))) (.call (.call "_law_take" 2 (.io 1 1 (.cons (.cint 2) .nil))))))) (.cons (.asg 12 12 (.dat (.ix (.new (.lst (.cons (.tup (.cons (.var 5 5) (.cons (.var 6 6) .nil))) (.cons (.tup (.cons (.var 6 6) (.cons (.var 5 5) .nil))) .nil)))) (.call (.call "_law_take" 2 (.io 1 1 (.cons (.cint 2) .nil))))))) (.cons (.asg 13 13 (.dat (.call (.call "_law_take" 2 (.io 1 1 (.cons (.cint 5) .nil)))))) jaa))))
noncomputable def zcv:IB:=(.cons (.loop (.nm 9 9) (.range (.call (.call "_law_take" 2 (.io 1 1 (.cons (.cint 15) .nil))))) jab) (.cons (.ret (.dat (.cbool true))) .nil))
noncomputable def defs:List DefI:=(zhl::zb3::v6::yq::kI::kH::yo::WV::yn::Ye::Qx::v5::Wa::w9::Wb::Wc::WU::WT::w5::w6::kG::Wg::yp::vZ::We::Wf::vY::Yd::Qw::yk::WS::WR::WP::wW::WQ::ym::wY::wZ::wf::wg::w4::WO::vX::wX::Yc::yj::yh::Ya::kF::zaI::zaH::kB::kD::vW::Yb::kE::y9::zaG::WN::yi::kC:: [])
noncomputable def lawB:IB:=(.cons (.asg 2 2 (.dat (.bin .Add (.cint 1) (.call (.call "_law_take" 2 (.io 1 1 (.cons (.cint 5) .nil))))))) (.cons (.asg 3 3 (.make "House" "House.__init__" 2 (.cons (.var 2 2) .nil))) (.cons (.asg 4 4 (.make "House" "House.__init__" 2 (.cons (.var 2 2) .nil))) (.cons (.asg 5 5 (.dat (.call (.call "_law_named" 1 (.io 1 1 .nil))))) (.cons (.asg 6 6 (.dat (.ix (.new (.comp 14 1 [5] ["_law_name","_law_one"] (.nm 0 14) (.list (.new (.lst (.cons (.call (.call "_law_named" 1 (.io 1 1 .nil))) (.cons (.cstr "pw") (.cons (.cstr "ku") .nil)))))) ja0 jbf)) (.cint 0)))) (.cons (.asg 7 7 (.dat (.call (.call "_law_kept" 1 (.cons (.var 2 2) .nil))))) (.cons (.loop (.nm 8 8) (.list (.new (.lst (.cons (.tup (.cons (.cstr "hang") (.cons (.var 5 5) (.cons (.call (.call "_law_take" 2 (.io 1 1 (.cons (.cint 7) .nil)))) .nil)))) (.cons (.tup (.cons (.cstr "hang") (.cons (.var 6 6) (.cons (.call (.call "_law_take" 2 (.io 1 1 (.cons (.cint 7) .nil)))) .nil)))) .nil))))) ja1) zcv)))))))
noncomputable def W:Wd:=⟨["all","any","bool","dict","enumerate","int","isinstance","len","list","range","set","sorted","tuple"],[("DEEPEST",9),("MOST_CELLS",40),("MOST_LETTERS",8)],[("LETTERS","abcdefghijklmnopqrstuvwxyz")],defs.filterMap (λd=>match d.kd with | .fn=>some (d.name,d.ps.length) | _=>none),["BadSize","NoCell","NoCloth","NoDye","NoName","Spent","StillFresh","Taken","TooDeep","Twice"],[("DEEDS",[("hang","behind_hang"),("fold","behind_fold"),("twin","behind_twin"),("wish","behind_wish"),("wax","behind_wax"),("dip","behind_dip"),("boil","behind_boil"),("brew","behind_brew")])],[("House","done"),("House","first"),("House","places"),("House","pots"),("House","undone"),("Stand","cloths"),("Stand","fresh")],[("House","House.__init__",2),("Stand","Stand.__init__",3)],[("House","cloth","House.cloth",2),("House","do","House.do",2),("House","names","House.names",1),("House","now","House.now",1),("House","ready","House.ready",1),("House","stains","House.stains",2),("House","waxed","House.waxed",2),("House","wishes","House.wishes",2)],[],[],[]⟩
noncomputable abbrev sBox:Stmt:=top 58
noncomputable abbrev sLaw:Stmt:=top 73
noncomputable def LN:Ab:= ["_law_script","_law_box_here","_law_pots","_law_house","_law_other","_law_one","_law_two","_law_kept_here","_law_deed","_law_turn","_law_dye","_law_name","_law_pair","_law_way"]
theorem okLaw:lawB.chk W (defScope sLaw) LN (List.range LN.length) LN.length 0 (defBody sLaw).tail=true:=by kernel_rfl
structure Y7(cf:CF):Prop where
 take:V6 cf
 named:V4 cf
 house:V2 cf
 kept:Y4 cf
 both:YZ cf
 did:zbG cf
 stands:WF cf
 lfullH:KB cf
noncomputable abbrev cN:=Vo defs
theorem ok55(n:Nat):Y7 (cN (n+20)):=by
 have hmixed k:V3 (cN (k+1)):=zcE _
 have htake k:V6 (cN (k+2)):=zgh _ (hmixed k)
 have hletters k:Va (cN (k+1)):=kX _
 have hnamed k:V4 (cN (k+3)):=zcH _ (htake k) (hletters (k+1))
 have hstand k:Q7 (cN (k+1)):=zdF _
 have hnew k:zbK (cN (k+2)):=zhN _ (hstand k)
 have hhouse k:V2 (cN (k+3)):=zcp _ (hnew k)
 have hkept k:Y4 (cN (k+1)):=ze0 _
 have hnow k:WD (cN (k+1)):=zhO _
 have hwith k:JA (cN (k+2)):=zgq _ (hstand k)
 have hisname k:WA (cN (k+1)):=kU _
 have hnewname k:Jy (cN (k+2)):=Yu _ (hisname k)
 have hbare k:YY (cN (k+1)):=zer _
 have hhang k:Y3 (cN (k+3)):=zeV _ (hwith k) (hnewname k) (hbare (k+1))
 have hhangs k:Q6 (cN (k+1)):=zcm _
 have hhas k:zbI (cN (k+1)):=zhx _
 have hwax2 k:Y9 (cN (k+2)):=zgp _ (hhas k)
 have hwaxD k:Y8 (cN (k+3)):=zgn _ (hwith k) (hhangs (k+1)) (hwax2 k)
 have hcnames k:Q0 (cN (k+2)):=zaE _ (hhangs k)
 have hdye k:KA (cN (k+1)):=zhq _
 have hpot k:KD (cN (k+2)):=zh6 _ (hstand k)
 have hdeep k:V0 (cN (k+1)):=Yf _
 have hdipped k:yY (cN (k+2)):=⟨λpots cs d hp hb hd=>zaK (cN (k+1)) (hdeep k) hp hb hd,λd=>kJ (cN (k+1)) d⟩
 have hdipD k:Y2 (cN (k+3)):=zeL _ (hwith k) (hcnames k) (hdye (k+1)) (hpot k) (hdipped k)
 have hboiledH k:Jw (cN (k+1)):=km _
 have hboilD k:VZ (cN (k+3)):=zbS _ (hwith k) (hcnames k) (hboiledH (k+1))
 have hbrewD k:Y0 (cN (k+3)):=zet _ (hdye (k+1)) (hpot k)
 have hdeeds k:Kz (cN (k+3)):=⟨hhang k,hwaxD k,hdipD k,hboilD k,hbrewD k⟩
 have hbehind k:Wu (cN (k+4)):=zas _ (hdeeds k)
 have hdo k:zee (cN (k+5)):=zji _ (hnow (k+3)) (hbehind k)
 have hboth k:YZ (cN (k+6)):=zes _ (hdo k)
 have hblank k:VY (cN (k+1)):=zbR _
 have hlwax k:Y5 (cN (k+1)):=ze4 _
 have hldip k:zbJ (cN (k+1)):=⟨λpots cs d hp hb=>ze3 (cN k) hp hb d,λd=>zcz (cN k) d⟩
 have hlboilH k:WC (cN (k+1)):=zaX _
 have hdid k:zbG (cN (k+2)):=zhm _ ⟨hblank k,hlwax k,hldip k,hlboilH k⟩
 have hhreadyG k:Jx (cN (k+2)):=kO _ (hnow k)
 have hhnames k:Wy (cN (k+2)):=zaQ _ (hnow k)
 have hcloth k:Q3 (cN (k+2)):=zbZ _ (hnow k) (hhangs k)
 have hhstains k:V1 "House.stains" Cl.st (cN (k+3)):=λp f dn un pl fr cl n cs h1 h2 h3=>kP (cN (k+2)) (hcloth k) p f dn un pl fr cl n cs h1 h2 h3
 have hhwishes k:V1 "House.wishes" Cl.wi (cN (k+3)):=λp f dn un pl fr cl n cs h1 h2 h3=>kQ (cN (k+2)) (hcloth k) p f dn un pl fr cl n cs h1 h2 h3
 have hhwaxed k:Wz (cN (k+3)):=zaS _ (hcloth k)
 have hwhole k:Wm (cN (k+1)):=zd7 _
 have hshades k:WE (cN (k+2)):=zbi _ (hwhole k)
 have hpictures k:Qn (cN (k+3)):=Yz _ (hshades k)
 have hwholes k:WG (cN (k+2)):=zbA _ (hwhole k)
 have hstands k:WF (cN (k+4)):=Km _ ⟨hhreadyG (k+1),hhnames (k+1),hhstains k,hhwishes k,hhwaxed k,hpictures k,hwholes (k+1)⟩
 have hlfullH k:KB (cN (k+1)):=⟨λpots cs d hb hd=>zcB (cN k) hb hd,λd=>zaZ (cN k) d⟩
 exact⟨htake (n+18),hnamed (n+17),hhouse (n+17),hkept (n+19),hboth (n+14),hdid (n+18),hstands (n+16),hlfullH (n+19)⟩
theorem Yl (p:Int) (f:PyData) (dn:Ao):∃ XS,hV p f dn [] []=.o "House" ["pots","first","done","undone","places"] XS:=⟨_,rfl⟩
noncomputable def c2(x y:Str)(A B:List Cl):Cls:= [(x,A),(y,B)]
section
variable {x y:Str}{A B:List Cl}
theorem v1:zq (c2 x y A B) x=some A:=by simp[zq,c2]
theorem v2(h:x≠y):zq (c2 x y A B) y=some B:=by simp[zq,c2,h]
theorem u1(h:x≠y)(C:List Cl):zy (c2 x y A B) x C=c2 x y C B:=by simp[zy,c2,h.symm]
theorem u2(h:x≠y)(C:List Cl):zy (c2 x y A B) y C=c2 x y A C:=by simp[zy,c2,h]
theorem k1:zw (c2 x y A B) x=A:=qH v1
theorem k2(h:x≠y):zw (c2 x y A B) y=B:=qH (v2 h)
theorem m2(h:x≠y)(f:List Cl->List Cl){pr:Ab}(hp:pr= [x,y]∨pr= [y,x]):zf (c2 x y A B) (pr.map λn=>(n,f (zw (c2 x y A B) n)))=c2 x y (f A) (f B):=by
 rcases hp with rfl | rfl<;>simp[zf,k1,k2 h,u1 h,u2 h]
theorem mx(h:x≠y)(f:List Cl->List Cl):zf (c2 x y A B) [(x,f (zw (c2 x y A B) x))]=c2 x y (f A) B:=by simp[zf,k1,u1 h]
theorem my(h:x≠y)(f:List Cl->List Cl):zf (c2 x y A B) [(y,f (zw (c2 x y A B) y))]=c2 x y A (f B):=by simp[zf,k2 h,u2 h]
end
theorem zhp{xs:List Int}(h:xs.Nodup):zaL xs=false:=by
 simp[zaL,wL h]
structure Tn(x y:Str)(p:Nat)(F:PyData)(k:Nat)(b:OV)(fr:List Bool)(A B:List Cl)(dn1 dn2:Ao):Prop where
 hb:Qf b
 S:StOk [x,y] p fr (c2 x y A B)
 hA:A.length<=6
 hB:B.length<=6
 l1:dn1.length<=2+3*k
 l2:dn2.length<=2+3*k
 q1:qh F dn1=stA fr (c2 x y A B)
 q2:qh F dn2=stA fr (c2 x y A B)
section
variable (x y:Str)(p:Nat)(F:PyData)
noncomputable def GG(H1 H2:OV)(b:OV)(K:PyData)(o8 o9 o10 o11 o12 o13:Option OV):Gv:= [none,some b,@&(.int p),some H1,some H2,@&(.str x),@&(.str y),@&K,o8,o9,o10,o11,o12,o13]
noncomputable def TG(b:OV)(fr:List Bool)(A B:List Cl)(dn1 dn2:Ao)(o8 o9 o10 o11 o12 o13:Option OV):Gv:=GG x y p (hV p F dn1 [] []) (hV p F dn2 [] []) b (zB p fr (c2 x y A B)) o8 o9 o10 o11 o12 o13
def Jz(k:Nat)(X:R (FL×Gv)):Prop:=∃(b':OV)(fr':List Bool)(A' B':List Cl)(dn1' dn2':Ao)(o8 o9 o10 o11 o12 o13:Option OV),Tn x y p F (k+1) b' fr' A' B' dn1' dn2'/\X=.ok (.next,TG x y p F b' fr' A' B' dn1' dn2' o8 o9 o10 o11 o12 o13)
end
theorem hs6(cf:CF)(s:IS):IB.ex cf [] (.cons s jah)=sSeq (s.ex cf []) (jah.ex cf []):=rfl
section
variable {cf:CF}(h:Y7 cf){x y:Str}{p k:Nat}{F:PyData}{b b0:OV}{fr:List Bool}{A B:List Cl}{dn1 dn2:Ao}(hxy:x≠y)(hx:Nm x)(hy:Nm y)(hk:k<20)(T:Tn x y p F k b fr A B dn1 dn2){pr:Ab}{o8 o9 o10 o11 o12 o13:Option OV}
include h hx hy hk T in
/-- one deed in the one house,some in the other -/
theorem Je(d:Deed)(ds:List Deed)(fr':List Bool)(A' B':List Cl)(hd:ds.length<=3)
  (g1:Qm [x,y] fr (c2 x y A B) d) (g2:Q5 [x,y] p ds fr (c2 x y A B)) (e1:d.fr fr=fr') (e2:d.cl p (c2 x y A B)=c2 x y A' B') (e3:zcb ds fr=fr') (e4:zca p ds (c2 x y A B)=c2 x y A' B') (hA':A'.length<=6) (hB':B'.length<=6)
  (hX:∀ X1 X2 H1 H2 K,hV p F dn1 [] []=.o "House" ["pots","first","done","undone","places"] X1->hV p F dn2 [] []=.o "House" ["pots","first","done","undone","places"] X2->zB p fr (c2 x y A B)=.list K->atI K 1=some (.list (frD fr))->atI K 2=some (.dict ((clD (c2 x y A B)).map dK))->cf "_law_both" [.o "House" ["pots","first","done","undone","places"] X1,.o "House" ["pots","first","done","undone","places"] X2,.d (.list [d.D]),.d (.list (ds.map Deed.D))]=.ok (.d .none) [some H1,some H2,none,none] ->
   jaa.ex cf [] (TG x y p F b0 fr A B dn1 dn2 o8 o9 o10 o11 o12 o13)=jah.ex cf [] (GG x y p H1 H2 b (.list K) (some (.d d.D)) o9 o10 o11 o12 o13)) :
  Jz x y p F k (jaa.ex cf [] (TG x y p F b0 fr A B dn1 dn2 o8 o9 o10 o11 o12 o13)):=by
 have hn:∀ n∈ [x,y],Nm n:=by simp[hx,hy]
 have t1:=T.l1
 have t2:=T.l2
 obtain⟨dn1',dn2',a1,a2,a3,a4,a5⟩:=h.both [x,y] p fr fr (c2 x y A B) (c2 x y A B) [d] ds p p F F dn1 dn2 (by simp) hn T.S T.S ⟨g1,True.intro⟩ g2 (by simp;omega) (by omega) T.q1 T.q2
 have St:=T.S.step g1
 have c1:=h.did [x,y] p fr (c2 x y A B) d (by simp) T.S g1
 change qh F dn1'=stA (d.fr fr) (d.cl p (c2 x y A B)) at a3
 rw[e1,e2]at a3 c1 St
 rw[e3,e4]at a4
 have c2:=h.stands [x,y] p fr' _ p F dn1' [] [] (by simp) hn St a3
 have c3:=h.stands [x,y] p fr' _ p F dn2' [] [] (by simp) hn St a4
 rw[hX _ _ _ _ _ rfl rfl rfl rfl rfl a5]
 refine⟨b,fr',A',B',dn1',dn2',some (.d d.D),o9,o10,o11,o12,o13,⟨T.hb,St,hA',hB',by simp at a1;omega,by omega,a3,a4⟩,?_⟩
 have vv:=zZ (zu p fr' (Wx.c2 x y A' B'))
 unfold TG GG
 have kk:∀ fr c,zB p fr c=.list (zu p fr c):=λ_ _=>rfl
 rw[kk]at c1 c2 c3 |-
 rwa[zu p fr' (Wx.c2 x y A' B')=K2,zu p fr (Wx.c2 x y A B)=K1,hV p F dn1' [] []=H1,hV p F dn2' [] []=H2,d.D=DD]
 dsimp! [jah,c1,c2,c3,vv,zk]
include hxy in
theorem gB(hp:pr= [x,y]∨pr= [y,x]∨pr= [x]∨pr= [y]):Qm [x,y] fr (c2 x y A B) (.boil pr):=by
 rcases hp with rfl | rfl | rfl | rfl<;>exact⟨by simp[hxy,hxy.symm],by simp,by simp[v1,v2 hxy]⟩
include hxy in
theorem gD{k:Nat}(h1:fr[k]?=some true)(hA:A.any (zC k)=false)(hB:B.any (zC k)=false)(hp:pr= [x,y]∨pr= [y,x]∨pr= [x]∨pr= [y]):Qm [x,y] fr (c2 x y A B) (.dip pr k):=by
 have hl:=(xb.mp h1).1
 refine⟨by omega,by omega,h1,?_,?_,?_⟩<;>rcases hp with rfl | rfl | rfl | rfl<;>simp_all [hxy.symm,v1,v2 hxy]
end
theorem zi2(cf:CF)(h:Y7 cf){b:OV}(hb:Qf b)(m:Nat){o0 o2 o3 o4 o5 o6 o7 o8 o9 o10 o11 o12 o13:Option OV} :
  ∃(xs:List Int)(b':OV),Qf b'/\xs.length<=m/\xs.all (QR m)=true/\xs.Nodup/\zY 1 (.nm 0 14) (jag.ev cf) (ja2.ev cf).1 (zF m) [] [o0,some b,o2,o3,o4,o5,o6,o7,o8,o9,o10,o11,o12,o13]=.ok (xs.map .int,[o0,some b',o2,o3,o4,o5,o6,o7,o8,o9,o10,o11,o12,o13]):=by
 obtain⟨ys,Γ',e,b',xs,hb',hl,hy,ha,hn,rfl⟩:=zW (k:=1) (t:=.nm 0 14) (cond:=jag.ev cf) (elt:=(ja2.ev cf).1) (ds:=zF m) (Γ:= [o0,some b,o2,o3,o4,o5,o6,o7,o8,o9,o10,o11,o12,o13])
  (λpre ys Γ=>∃(b':OV)(xs:List Int),Qf b'/\xs.length<=pre.length/\ys=xs.map .int/\(∀ i∈xs,0<=i/\i<(pre.length:Int))/\xs.Nodup/\Γ= [o0,some b',o2,o3,o4,o5,o6,o7,o8,o9,o10,o11,o12,o13]) ⟨b,[],hb,xi _,rfl,by simp,by simp,rfl⟩ (by
   rintro pre d post e ys Γ ⟨b0,xs,hb0,hl,rfl,ha,hn,rfl⟩
   have h1:(zF m)[pre.length]?=some d:=by rw[e];simp
   obtain⟨hlt,rfl⟩:=qi h1
   obtain⟨r,b1,g1,g2,hb1,e1⟩:=h.take b0 hb0 3 (by decide) (by decide)
   refine⟨[o0,some b0,o2,o3,o4,o5,o6,o7,o8,o9,o10,o11,o12,o13,@&(.int pre.length)],(r==0),[o0,some b1,o2,o3,o4,o5,o6,o7,o8,o9,o10,o11,o12,o13,@&(.int pre.length)],rfl,?_,λ_=>⟨.dat (.int pre.length),_,.int pre.length,rfl,rfl,b1,xs++ [(pre.length:Int)],hb1,by simp;omega,by simp,?_,?_,rfl⟩,λ_=>⟨b1,xs,hb1,by simp;omega,rfl,λi hi=>by have:=ha i hi;simp;omega,hn,rfl⟩⟩
   ·generalize (pre.length:Int)=I
    dsimp! [jag,e1,zV,zM,zk]
   ·intro i hi
    rcases xM.mp hi with q | q
    ·have:=ha i q;simp;omega
    ·simp at q |-;omega
   ·rw[xL]
    exact⟨hn,by simp,λa ha1 c hc=>by have:=(ha a ha1).2;simp at hc;omega⟩)
 rw[zj]at hl ha
 exact⟨xs,b',hb',hl,xI.mpr λi hi=>decide_eq_true (ha i hi),hn,by rw[e,hy]⟩
section
variable {cf:CF}(h:Y7 cf){x y:Str}{p k:Nat}{F:PyData}{b:OV}{fr:List Bool}{A B:List Cl}{dn1 dn2:Ao}(hxy:x≠y)(hx:Nm x)(hy:Nm y)(hk:k<20)(T:Tn x y p F k b fr A B dn1 dn2){pr:Ab}(hpr:pr= [x,y]∨pr= [y,x]){q:Nat}{o8:Option OV}{i r1 w:Int}(hr:r1=(q:Nat)){N:Str}
include h hxy hx hy hk T
include hpr in
theorem zj8:Jz x y p F k (jaa.ex cf [] (TG x y p F b fr A B dn1 dn2 o8 (@&(.int i)) (@&(.int r1)) (@&(.str N)) (@&(zx pr)) (@&(.int 0)))):=by
 have m:=my (A:=A) (B:=B) hxy (List.map zp)
 refine Je h hx hy hk T (.boil pr) [.boil [y],.boil [x]] fr (A.map zp) (B.map zp) (by simp) (gB hxy (hpr.imp_right .inl)) ⟨gB hxy (by simp),?_⟩ rfl (m2 hxy (List.map zp) hpr) rfl ?_ (by simpa using T.hA) (by simpa using T.hB) λX1 X2 H1 H2 K g1 g2 g3 _ _ w1=>?_
 ·change Qm _ _ (zf (c2 x y A B) [(y,(zw (c2 x y A B) y).map zp)]) _/\_
  rw[m]
  exact⟨gB hxy (by simp),True.intro⟩
 ·change zf (zf (c2 x y A B) [(y,(zw (c2 x y A B) y).map zp)]) [(x,(zw (zf (c2 x y A B) [(y,(zw (c2 x y A B) y).map zp)]) x).map zp)]=_
  rw[m];exact mx hxy (List.map zp)
 ·unfold TG GG
  rw[g1,g2,g3]
  simp[Deed.D,zx]at w1
  dsimp! [jaa,hs6,w1,Deed.D,zx,zV,zM,zk,qT]
include hr in
theorem zj9(hf:fr[q]?=some false)(h0:(w==0)=false)(h1:(w==1)=false):Jz x y p F k (jaa.ex cf [] (TG x y p F b fr A B dn1 dn2 o8 (@&(.int i)) (@&(.int r1)) (@&(.str N)) (@&(zx pr)) (@&(.int w)))):=by
 have hl:=(xb.mp hf).1
 have gg:Qm [x,y] fr (c2 x y A B) (.brew q):=⟨by omega,by omega,hf⟩
 have a1:=Yj hf
 refine Je h hx hy hk T (.brew q) [.brew q] (fr.set q true) A B (by simp) gg ⟨gg,True.intro⟩ rfl rfl rfl rfl T.hA T.hB λX1 X2 H1 H2 K g1 g2 g3 k1 _ w1=>?_
 unfold TG GG
 rw[g1,g2,g3]
 simp[Deed.D]at w1
 rw[<- hr]at a1 w1
 dsimp! [jaa,hs6,h0,h1,a1,k1,w1,<- hr,Deed.D,zV,zM,zk,qT]
include hr hpr in
theorem ziQ(hf:fr[q]?=some true)(h0:(w==0)=false)(h1:(w==1)=false):Jz x y p F k (jaa.ex cf [] (TG x y p F b fr A B dn1 dn2 o8 (@&(.int i)) (@&(.int r1)) (@&(.str N)) (@&(zx pr)) (@&(.int w)))):=by
 have hl:=(xb.mp hf).1
 have hlp:=T.S.hl
 have hA6:=T.hA
 have hB6:=T.hB
 have ef:=h.lfullH.1 p (A++B) q ⟨by simp;omega,λc hc=>(xM.mp hc).elim ((T.S.bolt v1).2 c) ((T.S.bolt (v2 hxy)).2 c)⟩ (by omega)
 have a1:=Yj hf
 have vx:zq (clD (c2 x y A B)) x=some (.list (A.map Cl.D)):=by rw[z4,v1];rfl
 have vy:zq (clD (c2 x y A B)) y=some (.list (B.map Cl.D)):=by rw[z4,v2 hxy];rfl
 rw[show za (A++B)=.list (A.map Cl.D++B.map Cl.D) by unfold za;rw[xG]]at ef
 have hu:=zR (clD (c2 x y A B))
 have hz:A.length+B.length<=1000000:=by omega
 cases hfull:(A++B).any (zC q) with
 |true=>
  rw[hfull]at ef
  refine Je h hx hy hk T (.boil []) [] fr A B (by simp) ⟨by simp,by simp,by simp⟩ True.intro rfl rfl rfl rfl T.hA T.hB λX1 X2 H1 H2 K g1 g2 g3 k1 k2 w1=>?_
  unfold TG GG
  rw[g1,g2,g3]
  simp[Deed.D,zx]at w1
  rw[<- hr]at a1 ef
  dsimp! [jaa,hs6,h0,h1,a1,k1,k2,hu,vx,vy,ef,hz,zeQ,w1,Deed.D,zx,zV,zM,zk,qT]
 |false=>
  rw[hfull]at ef
  rw[List.any_append,Bool.or_eq_false_iff]at hfull
  have hs2:(fr.set q false).set q true=fr:=by
   rw[List.set_set]
   obtain⟨_,e⟩:=xb.mp hf
   rw[<- e];exact List.set_getElem_self hl
  have m:=mx (A:=A) (B:=B) hxy (List.map (zz q))
  refine Je h hx hy hk T (.dip pr q) [.dip [x] q,.brew q,.dip [y] q] (fr.set q false) (A.map (zz q)) (B.map (zz q)) (by simp) (gD hxy hf hfull.1 hfull.2 (hpr.imp_right .inl)) ⟨gD hxy hf hfull.1 hfull.2 (by simp),⟨by omega,by simp[Deed.fr];omega,by simp[Deed.fr,hl]⟩,?_,True.intro⟩ rfl (m2 hxy (List.map (zz q)) hpr) ?_ ?_ (by simpa using T.hA) (by simpa using T.hB) λX1 X2 H1 H2 K g1 g2 g3 k1 k2 w1=>?_
  ·change Qm _ ((fr.set q false).set q true) (zf (c2 x y A B) [(x,(zw (c2 x y A B) x).map (zz q))]) _
   rw[hs2,m]
   exact⟨by omega,by omega,hf,by simp,by simp,by simpa [v2 hxy] using hfull.2⟩
  ·change ((fr.set q false).set q true).set q false=_
   rw[hs2]
  ·change zf (zf (c2 x y A B) [(x,(zw (c2 x y A B) x).map (zz q))]) [(y,(zw (zf (c2 x y A B) [(x,(zw (c2 x y A B) x).map (zz q))]) y).map (zz q))]=_
   rw[m];exact my hxy (List.map (zz q))
  ·unfold TG GG
   rw[g1,g2,g3]
   simp[Deed.D,zx]at w1
   rw[<- hr]at a1 ef w1
   dsimp! [jaa,hs6,h0,h1,a1,k1,k2,hu,vx,vy,ef,hz,zeQ,w1,<- hr,Deed.D,zx,zV,zM,zk,qT]
theorem zgM{C:List Cl}(C':List Cl->List Cl×List Cl)(hv:zq (c2 x y A B) N=some C)(hp:∀ D,zy (c2 x y A B) N D=c2 x y (C' D).1 (C' D).2)(hc:C.length<=6)(hD:∀ D,D.length<=6->(C' D).1.length<=6/\(C' D).2.length<=6):Jz x y p F k (jaa.ex cf [] (TG x y p F b fr A B dn1 dn2 o8 (@&(.int i)) (@&(.int r1)) (@&(.str N)) (@&(zx pr)) (@&(.int 1)))):=by
 obtain⟨xs,b',hb',hl,ha,hn,e⟩:=zi2 cf h T.hb C.length (o0:=none) (o2:=some (.d (.int p))) (o3:=some (hV p F dn1 [] [])) (o4:=some (hV p F dn2 [] [])) (o5:=some (.d (.str x))) (o6:=some (.d (.str y))) (o7:=some (.d (zB p fr (c2 x y A B)))) (o8:=o8) (o9:=some (.d (.int i))) (o10:=some (.d (.int r1))) (o11:=some (.d (.str N))) (o12:=some (.d (zx pr))) (o13:=some (.d (.int 1)))
 have vx:zq (clD (c2 x y A B)) N=some (.list (C.map Cl.D)):=by rw[z4,hv];rfl
 have gg:Qm [x,y] fr (c2 x y A B) (.wax N xs):=⟨C,hv,ha,zhp hn,by omega⟩
 have ec:(Deed.wax N xs).cl p (c2 x y A B)=_:=hp (qc xs (zw (c2 x y A B) N))
 have hD:=hD (qc xs (zw (c2 x y A B) N)) (by rw[qH hv];exact xJ (YX xs C C.length) hc)
 have hu:=zR (clD (c2 x y A B))
 have hz1:C.length<=1000000:=by omega
 have hz2: -1000000<=(C.length:Int)/\(C.length:Int)<=1000000:=by omega
 refine Je h hx hy hk { T with hb:=hb' } (.wax N xs) [.wax N xs] fr _ _ (by simp) gg ⟨gg,True.intro⟩ rfl ec rfl ec hD.1 hD.2 λX1 X2 H1 H2 K g1 g2 g3 _ k2 w1=>?_
 unfold TG GG
 rw[g1,g2,g3]at e |-
 simp[Deed.D,zb]at w1
 simp only[jaa]
 rwa[jag=T4,ja2=T5]
 dsimp! [hs6,k2,hu,vx,e,hz1,hz2,zj,w1,Deed.D,zb,zV,zM,zk,qT]
theorem zgi(hp:1<=p)(o10 o11 o12 o13:Option OV):Jz x y p F k (jab.ex cf [] (TG x y p F b fr A B dn1 dn2 o8 (@&(.int i)) o10 o11 o12 o13)):=by
 have hp12:=T.S.hp
 obtain⟨r1,b1,g1,g1',hb1,e1⟩:=h.take b T.hb p (by omega) (by omega)
 obtain⟨r2,b2,g2,g2',hb2,e2⟩:=h.take b1 hb1 2 (by decide) (by decide)
 obtain⟨r3,b3,g3,g3',hb3,e3⟩:=h.take b2 hb2 2 (by decide) (by decide)
 obtain⟨r4,b4,g4,g4',hb4,e4⟩:=h.take b3 hb3 5 (by decide) (by decide)
 have hN:∃ N,(N=x∨N=y)/\atI [PyData.str x,.str y] r2=some (.str N):=by
  rcases (by omega:r2=0∨r2=1)with rfl | rfl
  ·exact⟨x,.inl rfl,rfl⟩
  ·exact⟨y,.inr rfl,rfl⟩
 have hP:∃ pr,(pr= [x,y]∨pr= [y,x])/\atI [PyData.tuple [.str x,.str y],.tuple [.str y,.str x]] r3=some (zx pr):=by
  rcases (by omega:r3=0∨r3=1)with rfl | rfl
  ·exact⟨[x,y],.inl rfl,rfl⟩
  ·exact⟨[y,x],.inr rfl,rfl⟩
 obtain⟨N,hN,a1⟩:=hN
 obtain⟨pr,hpr,a2⟩:=hP
 have T1:Tn x y p F k b4 fr A B dn1 dn2:={ T with hb:=hb4 }
 have ee:jab.ex cf [] (TG x y p F b fr A B dn1 dn2 o8 (@&(.int i)) o10 o11 o12 o13)=jaa.ex cf [] (TG x y p F b4 fr A B dn1 dn2 o8 (@&(.int i)) (@&(.int r1)) (@&(.str N)) (@&(zx pr)) (@&(.int r4))):=by
  obtain⟨X1,g1⟩:=Yl p F dn1
  obtain⟨X2,g2⟩:=Yl p F dn2
  have hs:∀ s,IB.ex cf [] (.cons s jaa)=sSeq (s.ex cf []) (jaa.ex cf []):=λs=>rfl
  unfold TG GG
  rw[g1,g2]
  rwa[zB p fr (c2 x y A B)=K1,(p:Int)=P]
  unfold jab
  rwa[jaa=T7]
  dsimp! [hs,e1,e2,e3,e4,a1,a2,zk,qT]
 rw[ee]
 obtain⟨q,hr⟩:=xO g1
 have hl:=T.S.hl
 by_cases z0:r4=0
 ·subst z0
  exact zj8 h hxy hx hy hk T1 hpr
 by_cases z1:r4=1
 ·subst z1
  rcases hN with rfl | rfl
  ·exact zgM h hxy hx hy hk T1 (λD=>(D,B)) v1 (u1 hxy) T.hA λD hD=>⟨hD,T.hB⟩
  ·exact zgM h hxy hx hy hk T1 (λD=>(A,D)) (v2 hxy) (u2 hxy) T.hB λD hD=>⟨T.hA,hD⟩
 have hw0:(r4==0)=false:=Xb.mpr z0
 have hw1:(r4==1)=false:=Xb.mpr z1
 have hq:fr[q]?=some fr[q]:=xg (by omega)
 cases hv:fr[q] with
 |false=>rw[hv]at hq;exact zj9 h hxy hx hy hk T1 hr hq hw0 hw1
 |true=>rw[hv]at hq;exact ziQ h hxy hx hy hk T1 hpr hr hq hw0 hw1
end
theorem ziR{cf:CF}{x:Str}(hx:PyData.strOk x=true){o0 o1 o2 o3 o4 o6 o7 o8 o9 o10 o11 o12 o13:Option OV}(ss:Ab)(hs:∀ s∈ss,PyData.strOk s=true) :
  zY 1 (.nm 0 14) (ja0.ev cf) (jbf.ev cf).1 (ss.map .str) [] [o0,o1,o2,o3,o4,@&(.str x),o6,o7,o8,o9,o10,o11,o12,o13]=.ok ((ss.filter (· !=x)).map .str,[o0,o1,o2,o3,o4,@&(.str x),o6,o7,o8,o9,o10,o11,o12,o13]):=by
 rw[qv (λd=> !PyData.eqv d (.str x)) id λd hd=>?_]
 ·rw[List.filter_map,List.map_id];rfl
 ·obtain⟨s,h,rfl⟩:=xE.mp hd
  have h1:lay 20 (.str s)=true:=hs s h
  have h2:lay 20 (.str x)=true:=hx
  exact⟨_,_,rfl,by dsimp! [ja0,h1,h2,zk];rfl,rfl,λ_=>⟨.dat (.str s),_,rfl,rfl,rfl⟩⟩
theorem nm_pw:Nm "pw" :=⟨by decide,by decide,by decide⟩
theorem nm_ku:Nm "ku" :=⟨by decide,by decide,by decide⟩
theorem zdN {x n:Str}(hn:Nm n):∃ y r,([n,"pw","ku"]:Ab).filter (· !=x)=y::r/\Nm y/\x≠y:=by
 by_cases h1:n=x
 ·subst h1
  by_cases h2:("pw" :Str)=n
  ·refine⟨"ku",[],?_,nm_ku,?_⟩
   ·have h3:(("ku" :Str) !=n)=true:=by rw[<- h2];decide
    rw[xU,xU,xU,h3,<- h2];simp
   ·rw[<- h2];decide
  ·have h3:(("pw" :Str) !=n)=true:=by simpa using h2
   exact⟨"pw",_,by rw[xU,xU,h3];simp only[bne_self_eq_false,if_true,uv,if_false];rfl,nm_pw,λe=>h2 e.symm⟩
 ·have h3:(n !=x)=true:=by simpa using h1
  exact⟨n,_,by rw[xU,h3];rfl,hn,λe=>h1 e.symm⟩
theorem Vz{cf:CF}(h:Y7 cf){pool:Ab}{p:Nat}{fr:List Bool}{c:Cls}{n:Str}{s:Int}{F:PyData}{dn1 dn2:Ao}(h1:pool.length<=60)(h2:∀ n∈pool,Nm n)(S:StOk pool p fr c)(g:Qm pool fr c (.hang n s))(l1:dn1.length<=60)(l2:dn2.length<=60)(q1:qh F dn1=stA fr c)(q2:qh F dn2=stA fr c) :
  ∃ dn1' dn2':Ao,dn1'.length=dn1.length+1/\dn2'.length=dn2.length+1/\qh F dn1'=stA fr ((Deed.hang n s).cl p c)/\qh F dn2'=stA fr ((Deed.hang n s).cl p c) /\
   ∀(o0 o1 o2 o5 o6 o9 o10 o11 o12 o13:Option OV),ja1.ex cf [] [o0,o1,o2,some (hV p F dn1 [] []),some (hV p F dn2 [] []),o5,o6,@&(zB p fr c),some (.d (Deed.hang n s).D),o9,o10,o11,o12,o13]=.ok (.next,[o0,o1,o2,some (hV p F dn1' [] []),some (hV p F dn2' [] []),o5,o6,@&(zB p fr ((Deed.hang n s).cl p c)),some (.d (Deed.hang n s).D),o9,o10,o11,o12,o13]):=by
 obtain⟨dn1',dn2',a1,a2,a3,a4,a5⟩:=h.both pool p fr fr c c [.hang n s] [.hang n s] p p F F dn1 dn2 h1 h2 S S ⟨g,True.intro⟩ ⟨g,True.intro⟩ (by simp;omega) (by simp;omega) q1 q2
 refine⟨dn1',dn2',a1,a2,a3,a4,λo0 o1 o2 o5 o6 o9 o10 o11 o12 o13=>?_⟩
 have e1:=h.did pool p fr c (.hang n s) h1 S g
 have hfr:(Deed.hang n s).fr fr=fr:=rfl
 rw[hfr]at e1
 have vv:=zZ (zu p fr ((Deed.hang n s).cl p c))
 have hk:zB p fr ((Deed.hang n s).cl p c)=.list (zu p fr ((Deed.hang n s).cl p c)):=rfl
 have u4: [Deed.hang n s].map Deed.D= [(Deed.hang n s).D]:=rfl
 rw[u4]at a5
 rw[hk]
 obtain⟨X1,g1⟩:=Yl p F dn1
 obtain⟨X2,g2⟩:=Yl p F dn2
 rw[g1,g2]at a5 |-
 rwa[zu p fr ((Deed.hang n s).cl p c)=K2,zB p fr c=K1,hV p F dn1' [] []=H1,hV p F dn2' [] []=H2,(Deed.hang n s).D=DD]
 dsimp! [ja1,e1,a5,vv,zk,qT]
theorem zdM{cf:CF}(h:Y7 cf){x y:Str}{p:Nat}{F:PyData}(hxy:x≠y)(hx:Nm x)(hy:Nm y)(hp:1<=p){b:OV}{fr:List Bool}{A B:List Cl}{dn1 dn2:Ao}(T:Tn x y p F 0 b fr A B dn1 dn2){m:Nat}(hm:m<=15)(o8 o9 o10 o11 o12 o13:Option OV) :
  ∃ Γ',qJ (.nm 9 9) (jab.ex cf []) (zF m) (TG x y p F b fr A B dn1 dn2 o8 o9 o10 o11 o12 o13)=.ok (.next,Γ'):=by
 obtain⟨Γ',e,_⟩:=Zn (t:=.nm 9 9) (body:=jab.ex cf []) (ds:=zF m) (Γ:=TG x y p F b fr A B dn1 dn2 o8 o9 o10 o11 o12 o13)
  (λpre Γ=>∃(b':OV)(fr':List Bool)(A' B':List Cl)(dn1' dn2':Ao)(o8 o9 o10 o11 o12 o13:Option OV),Tn x y p F pre.length b' fr' A' B' dn1' dn2'/\Γ=TG x y p F b' fr' A' B' dn1' dn2' o8 o9 o10 o11 o12 o13)
  ⟨_,_,_,_,_,_,_,_,_,_,_,_,T,rfl⟩ (by
   rintro pre d post e Γ ⟨b',fr',A',B',dn1',dn2',p8,p9,p10,p11,p12,p13,T',rfl⟩
   have h1:(zF m)[pre.length]?=some d:=by rw[e];simp
   obtain⟨hlt,rfl⟩:=qi h1
   obtain⟨b2,fr2,A2,B2,d1,d2,q8,q9,q10,q11,q12,q13,T2,e2⟩:=zgi h hxy hx hy (by omega) T' hp p10 p11 p12 p13
   exact⟨_,_,rfl,e2,b2,fr2,A2,B2,d1,d2,q8,q9,q10,q11,q12,q13,by rw[xB];exact T2,rfl⟩)
 exact⟨Γ',e⟩
theorem law_run(cf:CF)(h:Y7 cf)(cells:List Int)(i l t s:Int)(hi:0<=i):∃ Γ',lawB.ex cf [] (none::some (Qd cells i l t s)::List.replicate (LN.length-2) none)=.ok (.ret (.d (.bool true)),Γ'):=by
 have hB:Qf (Qd cells i l t s):=⟨_,_,_,_,_,hi,rfl⟩
 generalize Qd cells i l t s=b at hB
 obtain⟨r1,b1,p1,p2,hb1,e1⟩:=h.take b hB 5 (by decide) (by decide)
 obtain⟨q,rfl⟩:=xO p1
 have hq:q+1<=12:=by omega
 obtain⟨x,b2,hx,hb2,e2⟩:=h.named b1 hb1
 obtain⟨n2,b3,hn2,hb3,e3⟩:=h.named b2 hb2
 obtain⟨y,yr,ey,hy,hxy⟩:=zdN (x:=x) hn2
 obtain⟨s1,b4,s1a,s1b,hb4,e4⟩:=h.take b3 hb3 7 (by decide) (by decide)
 obtain⟨s2,b5,s2a,s2b,hb5,e5⟩:=h.take b4 hb4 7 (by decide) (by decide)
 obtain⟨s3,b6,s3a,s3b,hb6,e6⟩:=h.take b5 hb5 15 (by decide) (by decide)
 obtain⟨m,rfl⟩:=xO s3a
 generalize hP:q+1=p at *
 have w1:=h.house p hq
 have w2:=h.kept p hq
 have hF:stV (List.replicate p (.bool true)) []=stA (List.replicate p true) []:=by
  unfold stA frD clD;rw[uw];rfl
 rw[hF]at w1
 have hn:∀ n∈ [x,y],Nm n:=by simp[hx,hy]
 have S0:StOk [x,y] p (List.replicate p true) []:=⟨hq,by simp,by simp,by simp,by simp⟩
 have g1:Qm [x,y] (List.replicate p true) [] (.hang x s1):=⟨by simp,rfl,s1a,by omega⟩
 obtain⟨da1,da2,la1,la2,qa1,qa2,ea⟩:=Vz h (F:=stA (List.replicate p true) []) (dn1:= []) (dn2:= []) (by simp) hn S0 g1 (by simp) (by simp) rfl rfl
 have S1:=S0.step g1
 have c1:(Deed.hang x s1).cl p []= [(x,List.replicate s1.toNat (zN p))]:=rfl
 have hfr1:(Deed.hang x s1).fr (List.replicate p true)=List.replicate p true:=rfl
 rw[c1]at qa1 qa2 ea S1
 rw[hfr1]at S1
 have g2:Qm [x,y] (List.replicate p true) [(x,List.replicate s1.toNat (zN p))] (.hang y s2):=⟨by simp,by simp[zq,hxy],s2a,by omega⟩
 obtain⟨db1,db2,lb1,lb2,qb1,qb2,eb⟩:=Vz h (F:=stA (List.replicate p true) []) (dn1:=da1) (dn2:=da2) (by simp) hn S1 g2 (by simp at la1;omega) (by simp at la2;omega) qa1 qa2
 have S2:=S1.step g2
 have c2e:(Deed.hang y s2).cl p [(x,List.replicate s1.toNat (zN p))]=c2 x y (List.replicate s1.toNat (zN p)) (List.replicate s2.toNat (zN p)):=by
  show zy _ _ _=_
  simp[zy,c2,hxy]
 have hfr2:(Deed.hang y s2).fr (List.replicate p true)=List.replicate p true:=rfl
 rw[c2e]at qb1 qb2 eb S2
 rw[hfr2]at S2
 have T0:Tn x y p (stA (List.replicate p true) []) 0 b6 (List.replicate p true) (List.replicate s1.toNat (zN p)) (List.replicate s2.toNat (zN p)) db1 db2:=⟨hb6,S2,by simp;omega,by simp;omega,by simp at la1;omega,by simp at la2;omega,qb1,qb2⟩
 obtain⟨Γ',et⟩:=zdM h hxy hx hy (by omega) T0 (m:=m) (by omega) (some (.d (Deed.hang y s2).D)) none none none none none
 have t2:=ziR hx.ok (cf:=cf) (o0:=none) (o1:=some b3) (o2:=some (.d (.int p))) (o3:=some (hV p (stA (List.replicate p true) []) [] [] [])) (o4:=some (hV p (stA (List.replicate p true) []) [] [] [])) (o6:=none) (o7:=none) (o8:=none) (o9:=none) (o10:=none) (o11:=none) (o12:=none) (o13:=none) [n2,"pw","ku"] (by simp[hn2.ok,nm_pw.ok,nm_ku.ok])
 rw[ey]at t2
 have u1:PyData.tuple [.str "hang",.str x,.int s1]=(Deed.hang x s1).D:=rfl
 have u2:PyData.tuple [.str "hang",.str y,.int s2]=(Deed.hang y s2).D:=rfl
 have vv:=zZ (zu p (List.replicate p true) [])
 have hk:zB p (List.replicate p true) []=.list (zu p (List.replicate p true) []):=rfl
 have hu:([n2,"pw","ku"]:Ab).map PyData.str= [.str n2,.str "pw",.str "ku"]:=rfl
 have hat:atI (PyData.str y::yr.map PyData.str) 0=some (.str y):=Zx (j:=0) rfl
 have hrl:=zj m
 rw[hu,xw]at t2
 rw[hk]at ea
 obtain⟨X1,g1⟩:=Yl p (stA (List.replicate p true) []) []
 rw[g1]at w1 ea t2
 unfold TG GG at et
 have hm1:(1:Int)+(q:Int)=(p:Int):=by omega
 have hz: -1000000<=(m:Int)/\(m:Int)<=1000000:=by omega
 have hz1:m<=1000000:=by omega
 have a0:=ea none (some b5) (@&(.int p)) (@&(.str x)) (@&(.str y)) none none none none none
 have a1:=eb none (some b5) (@&(.int p)) (@&(.str x)) (@&(.str y)) none none none none none
 rwa[zB p (List.replicate p true) [(x,List.replicate s1.toNat (zN p))]=K1,zB p (List.replicate p true) (c2 x y (List.replicate s1.toNat (zN p)) (List.replicate s2.toNat (zN p)))=K2,zu p (List.replicate p true) []=K0,hV p (stA (List.replicate p true) []) da1 [] []=H1,hV p (stA (List.replicate p true) []) da2 [] []=H2,hV p (stA (List.replicate p true) []) db1 [] []=H3,hV p (stA (List.replicate p true) []) db2 [] []=H4,(Deed.hang x s1).D=D1,(Deed.hang y s2).D=D2,yr.map PyData.str=YR]
 clear ea eb T0 S2 g2 S1 g1 S0 hn
 rwa[(p:Int)=P,(q:Int)=Q]
 simp only[lawB,LN,zcv]
 rwa[ja0=L1,jbf=L2,ja1=L3',jab=L8]
 exact⟨_,by dsimp! [e1,e2,e3,e4,e5,e6,w1,w2,t2,hat,a0,a1,et,u1,u2,vv,hrl,hz,hz1,hm1,qJ,zk,yT,qT];rfl⟩
section
variable [L2.Cs]{P:Ar}{w:World}{K:Ah}{mg:Aq}{base:Heap}
theorem zb1(ns:List Int)(lo hi:Option Int):∃ ms:List Int,we (ns.map V.int) lo hi=ms.map V.int/\ms.length<=ns.length:=by
 refine⟨(ns.drop (HT.sIx (ns.map V.int).length 0 lo)).take (HT.sIx (ns.map V.int).length (ns.map V.int).length hi-HT.sIx (ns.map V.int).length 0 lo),?_,?_⟩
 ·unfold we
  rw[List.map_take,List.map_drop]
 ·rw[xP,List.length_drop];omega
theorem scBox:ja ["_law_script","_law_seed","_law_cell"] ["_law_script"] (defScope sBox):=⟨rfl,rfl,rfl,by decide +kernel,rfl,by decide +kernel,by decide +kernel⟩
theorem kn_box (D:Df K mg "_law_box" sBox ["_law_script"]) (B:mg "list" =none):Kn P w K mg base CX0 "_law_box" 1 (zdA K) :=
 D.kn (k:=0) scBox (λvs H Q E ⟨a,ns,e,_⟩=>by rw[e];rfl) λf cdv A outer s H vs Q E hr ⟨a,ns,e,hS,hlen,kk⟩=>by
  subst e
  refine PSs.wp (Zs (vA (i:=1) scBox.nd rfl (Or.inl rfl) pe_int)
   (Zs (zc8 PassesOwn.never rfl (K6 (vq zad (pv 0) yI (yJ pe_int))) (K5 (i:=2) scBox.nd rfl (Or.inl rfl))
    (Wt (vA (i:=1) scBox.nd rfl (Or.inl rfl) (vp zcO (vp Kb (vp Kb (vp zcP (pv 1) pe_int) (pv 2)) pe_int) pe_int))))
   (Wt (Ki (zc0 (zt (jS Jc rfl B Qs (zt (vq zad (pv 0) yI (yJ pe_int)) pa_nil)) (zt pe_int (zt pe_int (zt pe_int (zt (pv 1) pa_nil)))))))))) ?_
  obtain⟨ms,ems,hms⟩:=zb1 ns none (some 63)
  refine⟨_,rfl,_,rfl,a,_,rfl,hS,λq nq=>⟨q,rfl,⟨_,SqL.of zg⟩,zci (K:=K) (a:=q) (xs:=we (ns.map V.int) none (some 63)) (λi σ H2=>H2=upd H q (.lst (we (ns.map V.int) none (some 63)))/\∃ sd v,σ= [some (.ref a),some (.int sd),v])
   ⟨rfl,0,none,rfl⟩ (λi σ H2 _ ⟨e,_⟩=>by rw[e];exact SqL.of zg) ?_ ?_⟩⟩
  ·rintro i x σ H2 hx ⟨rfl,sd,v,rfl⟩
   obtain⟨z,rfl⟩:∃ z,x=V.int z:=by
    rw[ems]at hx
    have:=uk hx
    obtain⟨z,_,rfl⟩:=xE.mp this
    exact⟨z,rfl⟩
   refine⟨_,rfl,_,_,rfl,rfl,.inr (by decide),_,rfl,_,_,rfl,rfl,_,_,rfl,rfl,_,_,rfl,rfl,(by show (0:Int)<2147483647;decide),?_⟩
   exact⟨rfl,_,_,rfl⟩
  ·rintro σ H2 ⟨rfl,sd,v,rfl⟩
   have s1:Same H (upd H q (.lst (we (ns.map V.int) none (some 63)))):=zr nq
   refine⟨_,rfl,_,rfl,a,_,rfl,s1.seq hS,λq2 nq2=>⟨q2,_,rfl,.inl (SqL.of zg),λl nl=>⟨_,rfl,(by show 5<=sizeLine;decide),λb nb=>?_⟩⟩⟩
   have s2:=s1.trans (zr (o:=.lst (we (ns.map V.int) none (some 63))) nq2)
   have s3:=s2.trans (zr (o:=.lst (we (ns.map V.int) none (some 63))) nl)
   have hlb:l≠b:=λe=>by rw[<- e,zg]at nb;cases nb
   refine kk b _ (s3.trans (zr nb)) (s3.free nb) (by rw[zg];exact λz=>nomatch z) ⟨l,ms,0,0,0,sd,rfl,zg,?_,Int.le_refl 0⟩
   refine .list (vs:=ms.map V.int) (by rw[ze hlb,zg,ems]) hlb (RepL.ints ms)
theorem hw:wOk defs W=true:=by kernel_rfl
theorem hgd (GD0:GD w K mg "DEEDS" [("hang","behind_hang"),("fold","behind_fold"),("twin","behind_twin"),("wish","behind_wish"),("wax","behind_wax"),("dip","behind_dip"),("boil","behind_boil"),("brew","behind_brew")]):∀ x kf,W.gd.contains (x,kf)=true->GD w K mg x kf:=by
 intro x kf h
 have h2:=ud.mp h
 simp only[W,xC,List.not_mem_nil,or_false,Prod.mk.injEq]at h2
 obtain⟨rfl,rfl⟩:=h2
 ·exact GD0
theorem okS:vF LN ["_law_script"] (defScope sLaw)=true:=by kernel_rfl
theorem oks:(defs.all λd=>d.ok W)=true:=by kernel_rfl
end
noncomputable def dP(s:Stmt):Arguments:=match s with
 |.FunctionDef _ a _ _ _ _ _ _ _ _=>a
 |_=>⟨[],[],none,[],[],none,[]⟩
noncomputable abbrev dB:=L2.defBody
noncomputable abbrev dS:=L2.defScope
noncomputable abbrev dE(P:PySem.Params)(n:Str)(t:Nat)(v:Aj):DictEntry:=.mk (PySem.PyData.keyHash P n) (.str n t) v
noncomputable abbrev dR(P:PySem.Params)(n:Str)(t a:Nat):DictEntry:=.mk (PySem.PyData.keyHash P n) (.str n t) (.ref a)
noncomputable def v3(c:Nat):List (Nat×Nat)->An
 |[]=> []
 | (l,a)::r=>.int l 0::.int c 0::.ref a::v3 c r
noncomputable abbrev o3(c:Nat)(l:List (Nat×Nat)):Obj:=.mk .none none (.fields (v3 c l).toArray) #[]
noncomputable def rL:Ac->An
 |[]=> []
 |a::r=>.ref a::rL r
noncomputable abbrev rN(l:Ac):Array Aj:=(rL l).toArray
noncomputable abbrev oA:Obj:=PySem.Obj.mk (.type "tuple") none (.seq #[] 0) #[]
noncomputable abbrev oQ (s0:Str) (n1 n2 n3:Nat):Obj:=PySem.Obj.mk (.type "code") none (.fields #[(.str s0 n1),(.str s0 (n1+1)),(.str "/claim/cut.py" (n1+2)),(.int ((n2:Nat):Int) 0),(.int 0 0),(.int 0 0),(.int 0 0),(.int 0 0),(.ref n3),(.bool false),(.int 181 0),(.ref (n3+1)),.none,.none,.none,.none,(.int ((n1+3:Nat):Int) 0),(.int ((n2:Nat):Int) 0),(.str "/claim/cut.py" (n1+4))]) #[]
noncomputable abbrev oR (s2:Str) (n0 n1 n3:Nat):Obj:=PySem.Obj.mk (.type "frame") none .plain #[(some (.ref n0)),(some (.ref 3)),(some (.ref n1)),none,(some (.str s2 n3)),none,(some (.ref 0))]
noncomputable abbrev oS:Obj:=PySem.Obj.mk .none none (.fields #[]) #[]
noncomputable abbrev oT(s0:Str)(n1:Nat):Obj:=PySem.Obj.mk .none none (.func (PySem.FuncData.mk s0 s0 (dP (top n1)) (.stmts (dB (top n1))) (dS (top n1)) 0 [] .none .none .none .none none .none .none 0)) #[]
noncomputable abbrev oU:Obj:=PySem.Obj.mk (.type "builtin_function_or_method") none (.fields #[(.builtin "type.__prepare__"),(.type "type")]) #[]
noncomputable abbrev oV (P:PySem.Params) (s1:Str) (n0 n2 n3:Nat):Obj:=PySem.Obj.mk (.type "dict") none (.dict #[(dE P "__module__" n0 (.str "waxcloth.errors" 194)),(dE P "__qualname__" (n0+2) (.str s1 (n0+1))),(dE P "__firstlineno__" (n0+4) (.int ((n2:Nat):Int) (n0+3))),dR P "__static_attributes__" (n0+5) n3] 4) #[]
noncomputable abbrev oW (n0:Nat):Obj:=PySem.Obj.mk (.type "super") none (.fields (rN [n0,n0,n0])) #[]
noncomputable abbrev oX (n0:Nat):Obj:=PySem.Obj.mk (.type "builtin_function_or_method") none (.fields #[(.builtin "object.__init_subclass__"),(.ref n0)]) #[]
noncomputable abbrev oY(s0 s1:Str)(n2 n3:Nat):Obj:=PySem.Obj.mk .none none (.func (PySem.FuncData.mk s0 s1 (dP (qQ n2 n3)) (.stmts (dB (qQ n2 n3))) (dS (qQ n2 n3)) 0 [] .none .none .none .none none .none .none 0)) #[]
set_option hygiene false in
local macro_rules
 | `(tactic| o_head $_)=>`(tactic| exact hz)
theorem kz(hz:PySem.W.OpenRow.Holds (PySem.W.OpenLaw.row PySem.Challenge.rw_waxcloth_k55_together_or_apart)):PySem.W.OpenRow.Holds (PySem.W.OpenLaw.row PySem.Challenge.rw_waxcloth_k55_together_or_apart):=by
 k_head
noncomputable def kz.asL:List Nat:=[2,3,15,17,18,20,21,22,29,30,31,32,35,42,43,44,47,54,55,56,59,66,67,68,71,78,79,80,83,90,91,92,95,102,103,104,107,114,115,116,119,126,127,128,131,138,139,140,143,150,151,152,155,162,163,164,167,174,175,176,179,186,187,188,191,194,195,196,198,199,201,202,203,206,207,208,211,212,213,216,217,218,220,221,223,224,225,228,229,230,232,233,235,236,237,240,241,249,251,252,254,255,256,257,258,259,260,263,265,266,268,269,270,272,273,275,276,277,280,281,282,284,285,287,288,289,291,292,294,295,296,298,299,301,302,303,306,307,308,311,312,313,315,316,318,319,320,321,323,324,326,327,328,330,331,333,334,335,337,338,340,341,342,344,345,347,348,349,351,352,354,355,356,358,359,361,362,363,365,366,368,369,370,372,373,375,376,384,386,387,389,390,391,394,395,396,398,399,401,402,403,405,406,408,409,410,413,414,415,418,419,420,422,423,425,426,427,429,430,432,433,434,436,437,439,440,441,443,444,446,447,448,451,452,453,456,457,458,461,462,463,466,467,468,470,471,473,474,475,477,478,480,481,482,484,485,487,488,489,491,492,494,495,496,498,499,501,502,503,505,506,508,509,510,512,513,515,516,517,519,520,522,523,524,526,527,529,530,531,532,533,534,535,538,540,541,543,544,545,548,549,550,553,554,555,557,558,560,561,562,564,565,567,568,569,571,572,574,575,576,579,580,581,584,585,586,589,590,591,594,595,596,598,599,601,602,603,606,607,608,611,612,613,616,617,618,620,621,623,624,625,628,629,630,633,634,635,637,638,640,641,642,645,646]
noncomputable abbrev RR:PySem.W.RowW:=PySem.W.OpenRow.toRowW (PySem.W.OpenLaw.row PySem.Challenge.rw_waxcloth_k55_together_or_apart)
noncomputable def Q:Ar:={ RR.prog with main:={ RR.prog.main with body:= [top 0,top 2,top 3,top 4,top 5,top 6,top 7,top 8,top 9,top 10,top 11,top 12,top 13,top 14,top 15,top 17,top 18,top 19,top 20,top 21,top 22,top 23,top 24,top 25,top 27,top 28,top 29,top 31,top 32,top 33,top 34,top 35,top 36,top 37,top 38,top 39,top 40,top 41,top 42,top 43,top 44,top 45,top 46,top 47,top 48,top 49,top 51,top 53,top 55,top 56,top 57,top 58,top 59,top 60,top 61,top 62,top 63,top 64,top 65,top 66,top 67,top 68,top 69,top 70,top 71,top 72,top 73] } }
theorem asE:∀ P,kz.asL=(kz.heap_1 P).map (·.1):=λ_=>by kernel_rfl
noncomputable abbrev hK(n:Nat)(o:Obj)(r:List (Nat×Obj)):List (Nat×Obj):=(n,o)::r
noncomputable abbrev jA(n0 n1:Nat)(s0:Str)(r:List (Nat×Obj)):List (Nat×Obj):=hK n0 (oT s0 n1) <| hK (n0+4) oS r
noncomputable abbrev jB (n0:Nat) (r:List (Nat×Obj)):List (Nat×Obj):=hK (n0+4) (oR "waxcloth.errors" (n0+3) n0 194) <| hK (n0+8) (oW (n0+7)) r
noncomputable abbrev jC(n0 n1:Nat)(s0 s1:Str)(r:List (Nat×Obj)):List (Nat×Obj):=hK n0 (oY s0 s1 53 n1) <| hK (n0+4) oS r
noncomputable abbrev jD(n0 n1 n2:Nat)(s0:Str)(r:List (Nat×Obj)):List (Nat×Obj):=hK (n0+1) oS <| hK (n0+2) (oQ s0 n1 n2 n0) r
noncomputable abbrev jE(P:PySem.Params)(n0 n1 n2:Nat)(s0:Str)(r:List (Nat×Obj)):List (Nat×Obj):=hK n0 oU <| hK (n0+1) (oV P s0 n1 n2 (n0+6)) r
noncomputable abbrev jF(n0:Nat)(r:List (Nat×Obj)):List (Nat×Obj):=jB n0 <| hK (n0+9) (oX (n0+7)) r
noncomputable abbrev jG(n0 n1 n2:Nat)(s0:Str)(r:List (Nat×Obj)):List (Nat×Obj):=hK n0 oA <| jD n0 n1 n2 s0 r
noncomputable abbrev jH(P:PySem.Params)(n0 n1 n2:Nat)(s0:Str)(r:List (Nat×Obj)):List (Nat×Obj):=jE P n0 (n1+5) n2 s0 <| jG (n0+2) n1 n2 s0 r
noncomputable abbrev jI(n0 n1:Nat)(s0 s1:Str)(r:List (Nat×Obj)):List (Nat×Obj):=jA n0 n1 s0 <| jA (n0+7) (n1+1) s1 r
noncomputable def zju(P:PySem.Params):List (Nat×Obj) :=
 hK 0 (PySem.W.boot_o_0 P) <|
 hK 1 (PySem.W.boot_o_1 P) <|
 hK 4 (PySem.W.boot_o_4 P) <|
 hK 5 (PySem.W.boot_o_5 P) <|
 hK 6 (PySem.W.boot_o_6 P) <|
 hK 7 (PySem.W.boot_o_7 P) <|
 hK 8 (PySem.W.boot_o_8 P) <|
 hK 9 (PySem.W.boot_o_9 P) <|
 hK 10 (PySem.W.boot_o_10 P) <|
 hK 11 oA <|
 hK 12 (o3 0 [(1,20),(5,27),(7,40),(9,52),(11,64),(13,76),(15,88),(17,100),(19,112),(21,124),(23,136),(25,148),(27,160),(29,172),(31,184),(35,194),(38,201),(45,206),(51,211),(55,216),(57,223),(59,228),(61,235),(66,240),(70,247),(75,268),(77,275),(83,280),(87,287),(92,294),(96,301),(100,306),(108,311),(112,318),(119,326),(123,333),(127,340),(131,347),(136,354),(139,361),(144,368),(148,375),(155,382),(253,543),(255,548),(257,553),(259,560),(264,567),(268,574),(282,579),(284,584),(291,589),(293,594),(295,601),(297,606),(300,611),(302,616),(305,623),(330,628),(334,633),(350,640),(355,645)]) <|
 hK 13 (oQ "<module>" 182 1 11) <|
 hK 14 (oR "__main__" 13 3 164) <|
 hK 16 oS <|
 hK 19 (oT "_wall" 0) <|
 jH P 23 198 5 "WaxError" <|
 hK 28 (oR "waxcloth.errors" 27 24 194) <|
 hK 33 (oW 31) <|
 hK 34 (oX 31) <|
 jH P 36 216 7 "NoName" <|
 jF 37 <|
 jH P 48 232 9 "Taken" <|
 jF 49 <|
 jH P 60 248 11 "BadSize" <|
 jF 61 <|
 jH P 72 264 13 "NoCloth" <|
 jF 73 <|
 jH P 84 280 15 "NoCell" <|
 jF 85 <|
 jH P 96 296 17 "BadWish" <|
 jF 97 <|
 jH P 108 312 19 "Twice" <|
 jF 109 <|
 jH P 120 328 21 "NoDye" <|
 jF 121 <|
 jH P 132 344 23 "Spent" <|
 jF 133 <|
 jH P 144 360 25 "StillFresh" <|
 jF 145 <|
 jH P 156 376 27 "TooDeep" <|
 jF 157 <|
 jH P 168 392 29 "NothingLeft" <|
 jF 169 <|
 jH P 180 408 31 "NoMark" <|
 jF 181 <|
 hK 192 oS <|
 jI 193 18 "bare" "with_wish" <|
 jA 205 20 "with_wax" <|
 jA 210 21 "dipped" <|
 jI 215 22 "boiled" "has_cell" <|
 jI 227 24 "is_picture" "deepened" <|
 hK 239 (oT "is_name" 29) <|
 hK 242 oA <|
 hK 243 oU <|
 hK 244 (PySem.Obj.mk (.type "dict") none (.dict #[(dE P "__module__" 507 (.str "waxcloth.stand" 496)),(dE P "__qualname__" 509 (.str "Stand" 508)),(dE P "__firstlineno__" 511 (.int 70 510)),dR P "__init__" 520 255,dR P "__static_attributes__" 523 256] 5) #[]) <|
 hK 245 oA <|
 hK 246 (o3 4 [(72,254)]) <|
 hK 247 (oQ "Stand" 502 70 245) <|
 hK 248 (oR "waxcloth.stand" 247 244 496) <|
 hK 250 oS <|
 hK 253 (oY "__init__" "Stand.__init__" 32 0) <|
 hK 261 (oW 258) <|
 hK 262 (oX 258) <|
 hK 264 oS <|
 jI 267 33 "new_stand" "behind_hang" <|
 jI 279 35 "behind_fold" "behind_twin" <|
 jI 293 37 "behind_wish" "behind_wax" <|
 jA 305 39 "behind_dip" <|
 jA 310 40 "behind_boil" <|
 hK 317 (oT "behind_brew" 41) <|
 hK 322 oS <|
 jI 325 43 "behind" "with_cloths" <|
 jI 339 45 "with_pot" "check_new" <|
 jI 353 47 "check_hangs" "check_names" <|
 jA 367 49 "check_dye" <|
 hK 374 (oT "bolt_of" 51) <|
 hK 377 oA <|
 hK 378 oU <|
 hK 379 (PySem.Obj.mk (.type "dict") none (.dict #[(dE P "__module__" 707 (.str "waxcloth.house" 698)),(dE P "__qualname__" 709 (.str "House" 708)),(dE P "__firstlineno__" 711 (.int 155 710)),dR P "__init__" 719 390,dR P "do" 725 395,dR P "undo" 733 402,dR P "redo" 741 409,dR P "book" 747 414,dR P "ahead" 753 419,dR P "mark" 761 426,dR P "go" 769 433,dR P "marks" 776 440,dR P "names" 783 447,dR P "ready" 789 452,dR P "stains" 795 457,dR P "wishes" 801 462,dR P "waxed" 807 467,dR P "bolt" 815 474,dR P "hindered" 823 481,dR P "plan" 831 488,dR P "boilings" 839 495,dR P "held" 847 502,dR P "would" 856 509,dR P "sources" 866 516,dR P "now" 873 523,dR P "cloth" 882 530,dR P "__static_attributes__" 888 531] 27) #[]) <|
 hK 380 oA <|
 hK 381 (o3 4 [(157,389),(164,394),(171,401),(178,408),(185,413),(188,418),(191,425),(196,432),(204,439),(207,446),(210,451),(213,456),(216,461),(219,466),(222,473),(225,480),(228,487),(231,494),(234,501),(237,508),(240,515),(243,522),(248,529)]) <|
 hK 382 (oQ "House" 702 155 380) <|
 hK 383 (oR "waxcloth.house" 382 379 698) <|
 hK 385 oS <|
 jC 388 0 "__init__" "House.__init__" <|
 jC 393 1 "do" "House.do" <|
 jC 400 2 "undo" "House.undo" <|
 jC 407 3 "redo" "House.redo" <|
 jC 412 4 "book" "House.book" <|
 jC 417 5 "ahead" "House.ahead" <|
 jC 424 6 "mark" "House.mark" <|
 jC 431 7 "go" "House.go" <|
 jC 438 8 "marks" "House.marks" <|
 jC 445 9 "names" "House.names" <|
 jC 450 10 "ready" "House.ready" <|
 jC 455 11 "stains" "House.stains" <|
 jC 460 12 "wishes" "House.wishes" <|
 jC 465 13 "waxed" "House.waxed" <|
 jC 472 14 "bolt" "House.bolt" <|
 jC 479 15 "hindered" "House.hindered" <|
 jC 486 16 "plan" "House.plan" <|
 jC 493 17 "boilings" "House.boilings" <|
 jC 500 18 "held" "House.held" <|
 jC 507 19 "would" "House.would" <|
 jC 514 20 "sources" "House.sources" <|
 jC 521 21 "now" "House.now" <|
 hK 528 (oY "cloth" "House.cloth" 53 22) <|
 hK 536 (oW 533) <|
 hK 537 (oX 533) <|
 hK 539 oS <|
 jA 542 55 "_law_whole" <|
 jA 547 56 "_law_wholes" <|
 jI 552 57 "_law_shades" "_law_box" <|
 jI 566 59 "_law_mixed" "_law_take" <|
 jA 578 61 "_law_wax" <|
 jA 583 62 "_law_dip" <|
 jA 588 63 "_law_boil" <|
 jI 593 64 "_law_full" "_law_letters" <|
 jA 605 66 "_law_named" <|
 jA 610 67 "_law_kept" <|
 jI 615 68 "_law_blank" "_law_did" <|
 jA 627 70 "_law_pictures" <|
 jI 632 71 "_law_stands" "_law_both" <|
 hK 644 (oT "law" 73) []
noncomputable def mix:Nat->Nat->List (Nat×Obj)->List (Nat×Obj)->List Obj
 |0,_,_,_=> []
 |n+1,i,(a,x)::l,(b,y)::r=>match Nat.beq a i with
  |true=>x::mix n (i+1) l ((b,y)::r)
  |false=>y::mix n (i+1) ((a,x)::l) r
 |n+1,i,(_,x)::l,[]=>x::mix n (i+1) l []
 |n+1,i,[],(_,y)::r=>y::mix n (i+1) [] r
 |_+1,_,[],[]=> []
noncomputable def ev:Bool->List Obj->List Obj
 |_,[]=> []
 |true,x::r=>x::ev false r
 |false,_::r=>ev true r
noncomputable def bt:Nat->List Obj->PySem.W.BT
 |0,_=>.nil
 |_+1,[]=>.nil
 |n+1,x::r=>.node x (bt n (ev true r)) (bt n (ev false r))
noncomputable def lf:Life:=(.mk [] [] [] 0 [] [] false #[] [] 0 false false false 0 [2000,10,10] false 0 true [] [] 0 false)
noncomputable def ze8(P:PySem.Params):List Obj:=mix 647 0 (kz.heap_1 P) (zju P)
noncomputable def zbg:List Obj->Nat->Obj->List Obj
 |[],_,_=> []
 |x::r,n,y=>match n with
  |0=>y::r
  |n+1=>x::zbg r n y
noncomputable def zcc:Env:={ scope:=RR.prog.main.scope,locals:=mainNs,globals:=mainNs,cells:= [],code:=.ref 13,frame:=some 14 }
noncomputable def bH:List Stmt:=PySem.W.behindTheImports RR.prog
noncomputable def cH:Code:=.body bH zcc
noncomputable abbrev BH:List Frame:= [PySem.W.topFrame ⟨0,0,0,0⟩]
noncomputable def zhP (P:PySem.Params):List Obj:= [PySem.W.boot_o_0 P,PySem.W.boot_o_1 P,PySem.W.boot_o_2 P,PySem.W.boot_o_3 P,PySem.W.boot_o_4 P,PySem.W.boot_o_5 P,PySem.W.boot_o_6 P,PySem.W.boot_o_7 P,PySem.W.boot_o_8 P,PySem.W.boot_o_9 P,PySem.W.boot_o_10 P,oA,oS,(oQ "<module>" 182 1 11),(oR "__main__" 13 3 164)]
theorem preH:∀ w:World,(λos=>PySem.W.topGo treeTable RR.prog w 11 (some (.ref 6)) 12 ⟨PySem.W.boot_heap w.params,Array.mk [],PySem.W.boot_drawn,PySem.W.boot_toks,os⟩ (PySem.W.topStub RR.prog))=λos=>some (⟨⟨(zhP w.params).toArray,lf⟩,Array.mk [],PySem.W.boot_drawn,187,os⟩,⟨denote treeTable cH,cH,⟨0,0,0,0⟩,BH⟩):=λw=>by kernel_rfl
noncomputable def tr0(P:PySem.Params):PySem.W.BT:=bt 14 (zhP P)
theorem zg5:∀ w:World,(λos=>PySem.W.segRun treeTable RR.prog w 11 (some (.ref 6)) 1 1 ⟨⟨(zhP w.params).toArray,lf⟩,Array.mk [],PySem.W.boot_drawn,187,os⟩ (PySem.W.blockOf bH zcc cH ⟨0,0,0,0⟩ BH))=λos=>some (.next,(PySem.W.SharedT.mk (tr0 w.params) 15 lf (Array.mk []) PySem.W.boot_drawn 187 os).abs,cH,⟨0,0,0,0⟩):=λw=>by kernel_rfl
noncomputable def tr1 (P:PySem.Params):PySem.W.BT:=bt 14 (zbg (zbg (zbg ((ze8 P).take 167) 3 (PySem.Obj.mk (.type "dict") none (.dict #[(dE P "__name__" 165 (.str "waxcloth.errors" 194)),(dE P "__doc__" 166 .none),(dE P "__package__" 167 .none),(dE P "__loader__" 168 (.builtin "__main__.__loader__#opaque")),(dE P "__spec__" 169 .none),dR P "__annotations__" 170 6,dR P "__builtins__" 171 4,(dE P "__file__" 173 (.str "/claim/cut.py" 172)),(dE P "__cached__" 174 .none),dR P "_wall" 193 21,dR P "WaxError" 213 31,dR P "NoName" 229 44,dR P "Taken" 245 56,dR P "BadSize" 261 68,dR P "NoCloth" 277 80,dR P "NoCell" 293 92,dR P "BadWish" 309 104,dR P "Twice" 325 116,dR P "NoDye" 341 128,dR P "Spent" 357 140,dR P "StillFresh" 373 152,dR P "TooDeep" 389 164] 22) #[])) 12 (o3 0 [(1,20),(5,27),(7,40),(9,52),(11,64),(13,76),(15,88),(17,100),(19,112),(21,124),(23,136),(25,148),(27,160)])) 31 (PySem.Obj.mk (.type "type") none (.cls (PySem.ClassData.mk "WaxError" [(.type "ValueError")] [(.ref 31),(.type "ValueError"),(.type "Exception"),(.type "BaseException"),(.type "object")] 30 "WaxError" true [] (rL [44,56,68,80,92,104,116,128,140,152,164]) false none false)) #[(some (.ref 22)),none,(some (.str "WaxError" 196)),(some (.str "WaxError" 204)),(some (.builtin "ValueError.__new__")),(some (.bool true))]))
noncomputable def zjX:List Stmt:=(bH.drop 0).take 14
theorem zjH:∀ w:World,(λos=>PySem.W.segRunT treeTable RR.prog w 11 (some (.ref 6)) 1 2568 (PySem.W.SharedT.mk (tr0 w.params) 15 lf (Array.mk []) PySem.W.boot_drawn 187 os) (PySem.W.piecesOf zjX zcc cH ⟨0,0,0,0⟩ BH))=λos=>some (.next,(PySem.W.SharedT.mk (tr1 w.params) 167 lf (Array.mk []) PySem.W.boot_drawn 390 os),cH,⟨27,0,28,8⟩):=λw=>by kernel_rfl
noncomputable def tr2 (P:PySem.Params):PySem.W.BT:=bt 14 (zbg (zbg ((ze8 P).take 545) 3 (PySem.Obj.mk (.type "dict") none (.dict #[(dE P "__name__" 165 (.str "law_waxcloth_k55_together_or_apart" 896)),(dE P "__doc__" 166 .none),(dE P "__package__" 167 .none),(dE P "__loader__" 168 (.builtin "__main__.__loader__#opaque")),(dE P "__spec__" 169 .none),dR P "__annotations__" 170 6,dR P "__builtins__" 171 4,(dE P "__file__" 173 (.str "/claim/cut.py" 172)),(dE P "__cached__" 174 .none),dR P "_wall" 193 21,dR P "WaxError" 213 31,dR P "NoName" 229 44,dR P "Taken" 245 56,dR P "BadSize" 261 68,dR P "NoCloth" 277 80,dR P "NoCell" 293 92,dR P "BadWish" 309 104,dR P "Twice" 325 116,dR P "NoDye" 341 128,dR P "Spent" 357 140,dR P "StillFresh" 373 152,dR P "TooDeep" 389 164,dR P "NothingLeft" 405 176,dR P "NoMark" 421 188,(dE P "DEEPEST" 425 (.int 9 424)),dR P "bare" 431 195,dR P "with_wish" 443 202,dR P "with_wax" 449 207,dR P "dipped" 455 212,dR P "boiled" 461 217,dR P "has_cell" 469 224,dR P "is_picture" 475 229,dR P "deepened" 483 236,(dE P "LETTERS" 487 (.str "abcdefghijklmnopqrstuvwxyz" 486)),(dE P "MOST_LETTERS" 489 (.int 8 488)),dR P "is_name" 495 241,(dE P "MOST_CELLS" 499 (.int 40 498)),dR P "Stand" 530 258,dR P "new_stand" 537 269,dR P "behind_hang" 547 276,dR P "behind_fold" 553 281,dR P "behind_twin" 563 288,dR P "behind_wish" 574 295,dR P "behind_wax" 584 302,dR P "behind_dip" 590 307,dR P "behind_boil" 596 312,dR P "behind_brew" 605 319,dR P "DEEDS" 622 320,dR P "behind" 633 327,dR P "with_cloths" 642 334,dR P "with_pot" 652 341,dR P "check_new" 660 348,dR P "check_hangs" 668 355,dR P "check_names" 677 362,dR P "check_dye" 685 369,dR P "bolt_of" 697 376,dR P "House" 895 533,dR P "_law_whole" 904 544] 58) #[])) 12 (o3 0 [(1,20),(5,27),(7,40),(9,52),(11,64),(13,76),(15,88),(17,100),(19,112),(21,124),(23,136),(25,148),(27,160),(29,172),(31,184),(35,194),(38,201),(45,206),(51,211),(55,216),(57,223),(59,228),(61,235),(66,240),(70,247),(75,268),(77,275),(83,280),(87,287),(92,294),(96,301),(100,306),(108,311),(112,318),(119,326),(123,333),(127,340),(131,347),(136,354),(139,361),(144,368),(148,375),(155,382),(253,543)]))
noncomputable def zjY:List Stmt:=(bH.drop 14).take 42
theorem zjI:∀ w:World,(λos=>PySem.W.segRunT treeTable RR.prog w 11 (some (.ref 6)) 1 2577 (PySem.W.SharedT.mk (tr1 w.params) 167 lf (Array.mk []) PySem.W.boot_drawn 390 os) (PySem.W.piecesOf zjY zcc cH ⟨27,0,28,8⟩ BH))=λos=>some (.next,(PySem.W.SharedT.mk (tr2 w.params) 545 lf (Array.mk []) PySem.W.boot_drawn 905 os),cH,⟨253,0,254,77⟩):=by
 refine PySem.W.byRow2 "special-get-raises" ?_ ?_<;>exact λw=>by kernel_rfl
noncomputable def tr3(P:PySem.Params):PySem.W.BT:=bt 14 (ze8 P)
noncomputable def zjZ:List Stmt:=(bH.drop 56).take 18
theorem zjJ:∀ w:World,(λos=>PySem.W.segRunT treeTable RR.prog w 11 (some (.ref 6)) 1 503 (PySem.W.SharedT.mk (tr2 w.params) 545 lf (Array.mk []) PySem.W.boot_drawn 905 os) (PySem.W.piecesOf zjZ zcc cH ⟨253,0,254,77⟩ BH))=λos=>some (.next,(PySem.W.SharedT.mk (tr3 w.params) 647 lf (Array.mk []) PySem.W.boot_drawn 1035 os),cH,⟨355,0,389,15⟩):=λw=>by kernel_rfl
noncomputable def hE(P:PySem.Params):Heap:=⟨(ze8 P).toArray,lf⟩
theorem finH:∀ w:World,(λos=>PySem.W.topRun treeTable RR.prog w 11 (some (.ref 6)) 2 (PySem.W.SharedT.mk (tr3 w.params) 647 lf (Array.mk []) PySem.W.boot_drawn 1035 os).abs ⟨PySem.W.doneF .next,cH,⟨355,0,389,15⟩,BH⟩)=λos=>some ⟨hE w.params,Array.mk [],PySem.W.boot_drawn,1035,os⟩:=λw=>by kernel_rfl
theorem zje:bH=zjX++(zjY++(zjZ++([]))):=by kernel_rfl
theorem runH(w:World)(os:OsState):PySem.W.topRun treeTable RR.prog w 11 (some (.ref 6)) (12+(1+(2568+(2577+(503+2))))) ⟨PySem.W.boot_heap w.params,Array.mk [],PySem.W.boot_drawn,PySem.W.boot_toks,os⟩ (PySem.W.topStub RR.prog)=some ⟨hE w.params,Array.mk [],PySem.W.boot_drawn,1035,os⟩:=by
 refine PySem.W.go_top (congrFun (preH w) os) (PySem.W.piece_block (congrFun (zg5 w) os) ?_)
 rw[zje]
 exact PySem.W.piece_app (PySem.W.segRun_of (congrFun (zjH w) os)) (PySem.W.piece_app (PySem.W.segRun_of (congrFun (zjI w) os)) (PySem.W.piece_app (PySem.W.segRun_of (congrFun (zjJ w) os)) (PySem.W.piece_nil (congrFun (finH w) os))))
noncomputable abbrev XtH:Am->Bool:=λs=>PySem.W.xlAt Q [] s&&PySem.W.recOk (PySem.W.RowW.records RR) s
theorem zhK:∀ w:World,(λos=>((PySem.W.staticsOk (importedModules RR.prog.main.body) (PySem.W.boot_heap w.params) (hE w.params)&&PySem.W.namesBound RR.prog (hE w.params)&&PySem.W.gensDone ⟨hE w.params,Array.mk [],PySem.W.boot_drawn,1035,os⟩&&PySem.W.laidKept (PySem.W.boot_heap w.params) (hE w.params)),PySem.W.openSeen Q ["DEEDS"] (importedModules RR.prog.main.body) XtH true ⟨hE w.params,Array.mk [],PySem.W.boot_drawn,1035,os⟩,(PySem.W.Hook.obs (PySem.W.kHook kz.heap_1 kz.asL asE)) ⟨hE w.params,Array.mk [],PySem.W.boot_drawn,1035,os⟩))=λ_=>(true,PySem.W.openGood Q ["DEEDS"],PySem.W.Hook.val (PySem.W.kHook kz.heap_1 kz.asL asE) w):=λw=>by kernel_rfl
theorem zjz:PySem.W.opening RR.prog=PySem.W.plainProg RR.prog.main.scope.names:=by kernel_rfl
theorem zhv:∀ s,fenceModules? RR.prog s=some s:=λs=>by kernel_rfl
theorem zjR:∀ w:World,((PySem.W.boot_heap w.params).isNs mainGlobals&&(Array.mk ([]:List GenState)).size==0,(PySem.W.boot_heap w.params).objs.size,(PySem.W.boot_heap w.params).nsMap mainGlobals "__annotations__")=(true,11,(some (.ref 6))):=λw=>by kernel_rfl
theorem left:PySem.W.LeftO RR.prog Q ["DEEDS"] XtH (PySem.W.Hook.obs (PySem.W.kHook kz.heap_1 kz.asL asE)) (PySem.W.Hook.val (PySem.W.kHook kz.heap_1 kz.asL asE)) 11416 :=
 PySem.W.LeftO.of_pieces (PySem.W.boot_open zjz (by decide +kernel) zhv) zjR runH (by decide +kernel) zhK
theorem saidL:PySem.W.OpenLaw.wellSaid PySem.Challenge.rw_waxcloth_k55_together_or_apart=true:=by kernel_rfl
end Wx
open PySem PySem.W PyProof.Rows
theorem PySem.Challenge.cw_waxcloth_k55_together_or_apart_holds : PySem.Challenge.rw_waxcloth_k55_together_or_apart.Holds := by
 w_on;refine PySem.W.holds_law Wx.saidL λsaid=>?_
 refine PySem.W.holds_open (q:=Wx.Q) (loose:= ["DEEDS"]) (XP:=PySem.W.XL Wx.Q []) (YP:=PySem.W.Hook.says (PySem.W.kHook Wx.kz.heap_1 Wx.kz.asL Wx.asE)) (N:=11416) Wx.left (PySem.W.Hook.of (PySem.W.kHook Wx.kz.heap_1 Wx.kz.asL Wx.asE)) (PySem.W.Hook.keeps (PySem.W.kHook Wx.kz.heap_1 Wx.kz.asL Wx.asE)) (λs e=>PySem.W.xl_of s (xK.mp e).1) PySem.W.XL.keeps (by rfl) (by rfl) (by rfl) (λs e=>PySem.W.recFacts_of (xK.mp e).2) (by rfl) (by first | assumption | decide +kernel) (by decide +kernel) ⟨rfl,rfl,rfl,rfl,rfl,by decide +kernel⟩ ?hw ?hc
 (case hw=>w_witness2)
 k_fill
 haveI:L2.Cs:=⟨λ_=>0⟩
 refine L2.walkL (l:=PySem.Challenge.rw_waxcloth_k55_together_or_apart) (k:=43) (st:=Wx.sLaw) rfl rfl ⟨rfl,by decide,by decide⟩ (λw h Y=>PySem.W.kIn_of Y) ?F
 case F=>
  intro w mg fa h KX G hmg
  letI:L2.Cs:=L3.csOf mg
  have HD:L3.AllX (L2.KOf KX) mg Wx.defs:=by
   repeat' first | exact trivial | refine And.intro ?_ ?_ | (refine L3.dx_fn rfl ?_;first | (dsimp only [L2.KOf];refine' L2.Df.of KX G ?a ?l ?c ?k (λ_ _ _ _ _ _=>L3.el0 rfl);(case a=>k_is);(case l=>k_is);(case c=>k_is);(case k=>k_is)) | (dsimp only [L2.KOf];refine' L2.Df.of KX G ?a ?l ?c ?k (λ_ _ _ _ _ _=>L3.el1 λ_=>rfl);(case a=>k_is);(case l=>k_is);(case c=>k_is);(case k=>k_is)) | (dsimp only [L2.KOf];refine' L2.Df.of KX G ?a ?l ?c ?k (λ_ _ _ _ _ _=>L3.el2 λ_ _=>rfl);(case a=>k_is);(case l=>k_is);(case c=>k_is);(case k=>k_is)) | (dsimp only [L2.KOf];refine' L2.Df.of KX G ?a ?l ?c ?k (λ_ _ _ _ _ _=>L3.el3 λ_ _ _=>rfl);(case a=>k_is);(case l=>k_is);(case c=>k_is);(case k=>k_is)) | (dsimp only [L2.KOf];refine' L2.Df.of KX G ?a ?l ?c ?k (λ_ _ _ _ _ _=>L3.el4 λ_ _ _ _=>rfl);(case a=>k_is);(case l=>k_is);(case c=>k_is);(case k=>k_is))) | (refine L3.dx_me KX G rfl ?_;first | (dsimp only [L2.KOf];refine' L3.Dm.of (L3.ClsOf.mk ?n (L2.Cls.mk ?c1 ?c2 ?c3 ?c4)) ?a ?f ?l ?c ?k (λ_ _ _ _ _ _=>L3.el1 λ_=>rfl);(case n=>k_is);(case c1=>k_is);(case c2=>k_is);(case c3=>k_is);(case c4=>k_is);(case a=>k_is);(case f=>k_is);(case l=>k_is);(case c=>k_is);(case k=>k_is)) | (dsimp only [L2.KOf];refine' L3.Dm.of (L3.ClsOf.mk ?n (L2.Cls.mk ?c1 ?c2 ?c3 ?c4)) ?a ?f ?l ?c ?k (λ_ _ _ _ _ _=>L3.el2 λ_ _=>rfl);(case n=>k_is);(case c1=>k_is);(case c2=>k_is);(case c3=>k_is);(case c4=>k_is);(case a=>k_is);(case f=>k_is);(case l=>k_is);(case c=>k_is);(case k=>k_is))) | (refine L3.dx_ini KX G rfl ?_;first | (dsimp only [L2.KOf];refine' L3.Di.of (L3.ClsOf.mk ?n (L2.Cls.mk ?c1 ?c2 ?c3 ?c4)) ?m ?a ?f ?kc ?l ?c ?k (λ_ _ _ _ _ _=>L3.el2 λ_ _=>rfl);(case n=>k_is);(case c1=>k_is);(case c2=>k_is);(case c3=>k_is);(case c4=>k_is);(case m=>k_is);(case a=>k_is);(case f=>k_is);(case kc=>k_is);(case l=>k_is);(case c=>k_is);(case k=>k_is)) | (dsimp only [L2.KOf];refine' L3.Di.of (L3.ClsOf.mk ?n (L2.Cls.mk ?c1 ?c2 ?c3 ?c4)) ?m ?a ?f ?kc ?l ?c ?k (λ_ _ _ _ _ _=>L3.el3 λ_ _ _=>rfl);(case n=>k_is);(case c1=>k_is);(case c2=>k_is);(case c3=>k_is);(case c4=>k_is);(case m=>k_is);(case a=>k_is);(case f=>k_is);(case kc=>k_is);(case l=>k_is);(case c=>k_is);(case k=>k_is)))
  have DB:L2.Df (L2.KOf KX) mg "_law_box" Wx.sBox ["_law_script"]:=by
   (dsimp only [L2.KOf];refine' L2.Df.of KX G ?a ?l ?c ?k (λ_ _ _ _ _ _=>L3.el1 λ_=>rfl);(case a=>k_is);(case l=>k_is);(case c=>k_is);(case k=>k_is))
  have GD0:L2.GD w (L2.KOf KX) mg "DEEDS" [("hang","behind_hang"),("fold","behind_fold"),("twin","behind_twin"),("wish","behind_wish"),("wax","behind_wax"),("dip","behind_dip"),("boil","behind_boil"),("brew","behind_brew")]:=by
   dsimp only [L2.KOf]
   refine' L2.GD.of KX G (D:=320) (ep:=8) (l:= [("hang",606,276),("fold",607,281),("twin",608,288),("wish",609,295),("wax",610,302),("dip",611,307),("boil",612,312),("brew",613,319)]) ?hd ?hs ?ho ?hr ?hn
   (case hd=>k_is)
   (case hs=>decide)
   (case ho=>kernel_rfl)
   (case hr=>kernel_rfl)
   (case hn=>decide +kernel)
  have HB:∀ x,Wx.W.bi.contains x=true->mg x=none:=L3.bi_all (K:=L2.KOf KX) KX G (by kernel_rfl)
  have HX:=L3.ex_of (K:=L2.KOf KX) (L:=Wx.W.ex) KX G (by kernel_rfl)
  have L:L2.Dl (L2.KOf KX) "law" Wx.sLaw fa "_law_script" :=by
   dsimp only [L2.KOf]
   refine' L2.Dl.of KX G hmg ?a ?l ?c ?k ?b
   (case a=>k_is);(case l=>k_is);(case c=>k_is);(case k=>k_is)
   (case b=>exact λs u=>.of_eq rfl)
  refine⟨L,λfd Ff base=>?_⟩
  exact L3.law_ok Ff Wx.okS (Wx.kn_box DB (HB "list" (by kernel_rfl))) (by decide) (L3.wk_all (L3.dx_all HD Wx.oks) Wx.hw HB (L3.gi_of (K:=L2.KOf KX) KX G (by kernel_rfl)) (L3.gs_of (K:=L2.KOf KX) KX G (by kernel_rfl)) HX.1 HX.2 (Wx.hgd GD0) (L3.fk_all (K:=L2.KOf KX) KX G (by kernel_rfl)) 20) (by decide) rfl rfl rfl rfl (by first | exact Or.inl rfl | exact Or.inr rfl) rfl Wx.okLaw (λcells i l t s hi=>Wx.law_run _ (Wx.ok55 0) cells i l t s hi)
