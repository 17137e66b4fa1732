import PyProof.Rows.All
import Wide.All
import OpenK.AllK
import PySem.Challenge.RW_waxcloth_k60_would_refused
namespace Lake
end Lake
open Lake
set_option maxHeartbeats 0
set_option maxRecDepth 100000
set_option bootstrap.genMatcherCode false
set_option compiler.extract_closed false
abbrev xa:=@List.getElem?_eq_some_iff
abbrev xb:=@List.getElem?_append_left
abbrev xc:=@List.getElem?_eq_getElem
abbrev xf:=@Bool.and_eq_true
abbrev xg:=@List.getElem?_map
abbrev xh:=@Nat.le_refl
abbrev xi:=@List.getElem?_set_ne
abbrev xj:=@Nat.ne_of_lt
abbrev xk:=@List.getElem?_set_self
abbrev xm:=@List.size_toArray
abbrev xn:=@List.map_cons
abbrev xo:=@List.length_map
abbrev xr:=@List.getElem?_append_right
abbrev xt:=@List.mem_cons_of_mem
abbrev xu:=@Nat.lt_of_lt_of_le
abbrev xv:=@List.mem_map
abbrev xw:=@Int.eq_ofNat_of_zero_le
abbrev xy:=@List.map_map
abbrev xz:=@List.length_cons
abbrev xA:=@List.mem_cons
abbrev xB:=@List.length_append
abbrev xC:=@List.map_append
abbrev xD:=@List.lookup_cons
abbrev xE:=@List.mem_append_right
abbrev xF:=@List.mem_cons_self
abbrev xG:=@List.nodup_cons
abbrev xH:=@List.all_eq_true
abbrev xI:=@List.getElem?_eq_none
abbrev xJ:=@List.mem_append
abbrev xK:=@Nat.le_trans
abbrev xL:=@Bool.and_eq_true_iff
abbrev xM:=@List.length_take
abbrev xN:=@List.length_set
abbrev xO:=@List.nodup_append
abbrev xP:=@List.getD_eq_getElem?_getD
abbrev xQ:=@List.getElem?_replicate
abbrev xR:=@List.filterMap_cons
abbrev xS:=@List.replicate_succ
abbrev xT:=@List.append_nil
abbrev xU:=@List.mem_append_left
abbrev xV:=@Bool.or_eq_true
abbrev xW:=@List.getElem_mem
abbrev xX:=@List.any_cons
abbrev xY:=@Nat.zero_le
abbrev xZ:=@List.ext_getElem?
abbrev ua:=@Nat.lt_irrefl
abbrev ub:=@Option.isSome_iff_exists
abbrev uc:=@List.getElem?_take_of_lt
abbrev ud:=@List.elem_iff
abbrev ue:=@List.find?_cons
abbrev uf:=@List.all_cons
abbrev ug:=@Array.getElem?_eq_some_iff
abbrev uh:=@List.take_add_one
abbrev ui:=@List.map_set
abbrev uj:=@List.mem_singleton
abbrev uk:=@List.mem_of_getElem?
abbrev ul:=@List.flatten_cons
abbrev um:=@List.getElem?_cons_succ
abbrev uo:=@List.length_nil
abbrev uq:=@Nat.le_of_lt
abbrev ur:=@List.filter_cons
abbrev ut:=@List.any_eq_false
abbrev uu:=@List.getElem?_range
abbrev uv:=@List.map_congr_left
abbrev uw:=@List.not_mem_nil
abbrev ux:=@List.take_of_length_le
abbrev uy:=@List.map_replicate
abbrev uz:=@List.length_replicate
abbrev uA:=@List.length_singleton
abbrev uB:=@List.set_append_right
abbrev uC:=@List.append_assoc
abbrev uD:=@List.length_drop
abbrev uE:=@List.take_length
abbrev uF:=@List.eq_of_mem_replicate
abbrev uG:=@List.foldl_cons
abbrev uH:=@List.nil_append
abbrev uI:=@List.mem_filterMap
abbrev uJ:=@Bool.false_ne_true
abbrev uK:=@List.filterMap_map
abbrev uL:=@Bool.false_eq_true
abbrev uM:=@Int.emod_lt_of_pos
abbrev uN:=@List.mem_range
abbrev uO:=@List.reverse_cons
abbrev uP:=@List.any_map
abbrev uQ:=@Option.map_eq_some_iff
abbrev uR:=@List.range_succ_eq_map
abbrev uS:=@Array.all_eq_true
abbrev uT:=@Nat.zero_add
abbrev uU:=@Nat.lt_succ_self
abbrev uV:=@List.drop_length
abbrev uW:=@List.prefix_refl
abbrev uX:=@List.map_drop
abbrev uY:=@Nat.le_succ
abbrev uZ:=@List.mem_filter
abbrev pd:=@Option.map_some
abbrev pe:=@Int.emod_nonneg
abbrev pi:=@Nat.ne_of_gt
abbrev pj:=@List.all_map
abbrev pp:=@Nat.not_lt
set_option Elab.async false
set_option linter.all false
set_option bootstrap.genMatcherCode false
set_option compiler.extract_closed false
abbrev x0:=@decide_eq_true_eq
abbrev x5:=@PySem.wpAny_bind
abbrev x6:=@PySem.Heap.get?_push_of_some
abbrev x8:=@PySem.Heap.lt_size
abbrev x9:=@PySem.wpAny_pure
abbrev Xa:=@PySem.Heap.get?_push_size
abbrev Xb:=@beq_eq_false_iff_ne
abbrev Xc:=@decide_eq_false
abbrev Xd:=@PySem.wpAny_holding
abbrev Xe:=@PySem.wpAny_mono
abbrev Xf:=@PySem.Heap.get?_update_other
abbrev Xg:=@PySem.sizeLine_eq
abbrev Xh:=@of_decide_eq_true
abbrev Xi:=@PySem.wpAny_loadPart'
abbrev Xj:=@PySem.wpAny_truthy_bool
abbrev Xk:=@PySem.wpAny_Call_Name_kw
abbrev Xl:=@PySem.codeAny_mono
set_option hygiene false in
local macro_rules
  | `(∅) => `((PySem.wpAny (PySem.model X.prog X.w) X.A))
  | `(⋯) => `((X.comp N' scope cl C s2 H2 fp))
  | `($x⁻¹) => `(PySem.starEach [$x] X.env = [(false, PySem.eval $x X.env)])
  | `(↥$x) => `(($x == ("__debug__" : PySem.Str)) = false)
  | `(tactic| cbv) => `(tactic| intro pins s O H Q I h)
  | `(by? $t:tacticSeq) => `(fun M0 F U Z O H Q rs hs hp => by $t:tacticSeq)
local macro_rules|`(tactic|delta $xs:ident*)=>do let h:=xs[0]!;let t←`(tactic|((try dsimp only at $h:ident);split at $h:ident;rotate_left;exact ($h).elim));if xs.size<2 then return t else let y:=xs.extract 1 xs.size;`(tactic|($t;rename_i $[$y:ident]*))
local macro_rules
|`(command|def $i:declId $s:optDeclSig $v:declVal)=>do return (←if (" VP keyH qv RelV RelO KV kV upd ObjOk HOk Rd Mut trk yV frs Vis Loc Look EP TP AP SP PE PT PW PA PS PSs zmR tC Gl tAnd tOr tNot zmJ tOrV tIf SqL SqT absV zmO tSeq zmN tRet tIfS PG PGs zjz PIp W0 gNil zl2 gTup zl5 Yn tAug Jo PIE PI Itl Itt Itr zl9 iTup zma tFor vz OpR UnR j6 TruR tOp tUn rI rI0 rU CDiv zlK CMul zjr zar zgP jV NoAttr tFld sFld zlx zgp tTup tLst CE CR zmK Binds yk start Q9 tCB sIx PO ziT zmP SlR tSl JV rSlT ixN atI w9 IxR MtR rIxL rIxT rIxS zmt rSlL tyV tBM MtM zh4 rCat zjy jp defBody defScope Same vW JC WU V8 zlL zgN zmL zmy zlu Ji IsD zlt zlv zbd Cat zdH cS PF zmQ yv kG kH vR PEv ExO kK dK zlP TupM wpE wpT wpW wpA wpS wpB wpG wpF wpI Al zlM zms zkP qi zlF gU fU eU za6 Qc CX1 Up Sk Y5 HC.V HC.D HC.C QT zgs zjl zl6 fset MM WY R.bind R.get leaves derL Sees EPost FOk SE SN ST SW OpS Wl truD derSs SL Js SOp lenD wo gLen gInt qt gAll gAny zcY gMin gMax gNeg binD lay isN inD cmpD zmr ITs.len SG SGs JI SI SF mpC SNt APost OPost SA SO spX Ran PxOk toArg toArgs ios putBack cM cF SPost SS SB SOt qU isOwn Vg rIns Ite zl7 ZL BoxAt zgf Jg dedup tRev wD WOk zlO XPt yT Qp ZG WZ Itc zj7 yM V1 Zy zG zZ qy zO unD zmM qc Fz zeE Itk zl8 Iti zj8 Eqv Ju hid Wk JIw SIw loopG itL qR SD SDt itD eD zlw ixF objF setO updF zD ZOk zeJ gDin gDnin zS j8 ZD zgA zcw nmB okO zmS Yb attF Ya Wg jR zkg ck0 ckB ck1 ck2 ck3 ck4 tt cx vw nmk bik flk glk Ct.inn cfk up lok tgk AsC IE.x IE.frz IE.k IE.q IE.b IE.j IE.gstr IE.tup IE.new IE.n IE.p IE.h IE.not IE.neg IE.and IE.or IE.f IE.ix IE.len IE.int IE.all IE.any IE.tuple IE.min IE.max IE.cutT IE.call IE.lset IE.lsetS IE.sin IE.slen IE.join IE.six IE.g IE.dgd IE.d IE.dnin IE.t IE.newD IE.fdat IE.flen IE.ftru IE.flast IE.ffrz IL.nil IL.cons IA.nil IA.cons IA.io IN.lst IN.cut IN.back IN.cat IN.list IN.comp IN.lrng IN.mul IN.sortD IN.compW IP.non IP.one II.list II.tup II.alt II.range II.enum II.chars IC.yes IC.one IO.dat IO.own IO.call IO.move IO.ownD IO.make IO.m IM.nil IM.one IM.copy IM.comp IG.std IG.items IG.keys IG.fld wk zk hdk asgk IS.bad IS.a IS.t IS.e IS.f IS.loop IS.ret IS.app IS.set IS.ins IS.raise IS.tryq IS.aug IS.star IS.fset IS.fapp IS.dupd IS.u IS.dpop IB.nil IB.cons IB.disp outs fin DefI.run Vz vI IB.chk DefI.ok Lk wOk QO csOf Ql jO jao Q0 jbf QZ jbl ja3 Zm Zl ja7 jd jal j7 jae qQ ja9 JP ja0 ja1 ZO Jj jap ja4 ZI ja5 ZU j9 jbc Zf jbj vq ZB ja6 Qm ja2 jT qT jax jbi QL QK wf ZN Qr qM zP ZF jz jZ jS y4 y6 y7 ν6 jbm ν5 Zu jai jay jaz jn qZ q8 ji jab jac qH jba jbb jm qY Jk jaf qN jy vY Yu jbh Q4 jbd jbe Qk js jt qP jbk we ν4 jat Q5 ZV runI Nz kSq yj zQ zjA qF zE Qo In9 Cl.D zB Bolt zU Deed.D Nm Qz w5 Wn tps prs hV stV QB zds yg QP Vl jX zs νc kS Qi QA kZ Yr J8 qp qf ya Wm zaB in9 kj zdt qE zbb yp w6 Zk YQ Yp Yq jN zi2 yn k9 Qe zaC zaD yi zdr frD clD stA qe jv qk Deed.fr Deed.cl Qh Clo JL Ys ZH zaE kU kY Kg Kh yo V7 kX Qg zI Wo k6 V6 QQ zmb yb Zd qJ qm jas qV jc jar qA jaq qB jaj qq qd jI ju ZJ ja8 jam jg jo qI jau ZW qw odds Qy k8 QY nmB JN Asc Ze JO jq Zr J2 JM QW Deed.Fit Deed.w ZS Deed.nms Deed.mk ZR DnL Ki Wt Ws zdp zdq yd jag Qj jbg ZA Ke zaa wds Kb Kc ql Wi ye yh Wp Wq yc Wj Jn jaw ZE jh jad QC jak Q3 Kf zdn kT yf yq refs ym zdm kW V9 biOk giOk gsOk exOk fkOk AllX top ZM jav jah jaa jan defs lawB W LN GG dP v3 rL kz.asL Q zmf mix ev bt lfe zhF zcZ zeD bH cH zkm tr0 tr1 zmG tr2 zmH tr3 zmI hE ".splitOn s!" {i.raw[0].getId} ").length<2 then`(command|theorem $i $(⟨Lean.mkNode `Lean.Parser.Command.declSig #[s.raw[0],s.raw[1][0]]⟩) $v:declVal) else`(command|noncomputable def $i $s $v:declVal)).raw.rewriteBottomUp (·.setInfo .none)
|`(command|abbrev $i:declId $s:optDeclSig $v:declVal)=>`(command|noncomputable abbrev $i $s $v:declVal)
|`(command|private def $i:declId $s:optDeclSig $v:declVal)=>`(command|@[reducible] noncomputable def $i $s $v:declVal)
|`(command|protected def $i:declId $s:optDeclSig $v:declVal)=>`(command|@[elab_as_elim] noncomputable def $i $s $v:declVal)
local macro_rules|`(~~~$x)=>`(by simpa using $x)
section
open PySem
abbrev Ad:=List (Str × PyData)
abbrev Ao:=List (PyData × PyData)
abbrev Ak:=List (Addr × Obj)
abbrev Aa:=List PyData
abbrev Ab:=List Str
abbrev Ac:=List Nat
abbrev Ag:=List Expr
abbrev An:=List Value
abbrev Af:=Value → Shared → Prop
abbrev Aq:=Str → Option Value
abbrev Ae:=Addr → Prop
abbrev Ah:=W.Frag
abbrev Aj:=Value
abbrev Am:=Shared
abbrev Ap:=Addr
abbrev Ar:=Program
end
namespace Lake.L2
open PySem PySem.Spec PyProof.Rows
def defBody(s:Stmt):List Stmt:=match s with|.FunctionDef _ _ b _ _ _ _ _ _ _=>b|_=> []
def defScope(s:Stmt):Scope:=match s with|.FunctionDef _ _ _ _ _ _ sc _ _ _=>sc|_=>{ kind:=.function,names:= [],isGenerator:=false,isCoroutine:=false }
end Lake.L2
namespace Lake.Wx
open PySem L2
def top(i:Nat):Stmt:=PySem.Challenge.pw_waxcloth_k60_would_refused.main.body.getD i (.Pass ⟨0,0,0,0⟩)
def ZM(i j:Nat):Stmt:=match top i with|.ClassDef _ _ _ b _ _ _ _ _ _ _=>b.getD j (.Pass ⟨0,0,0,0⟩)|s=>s
end Lake.Wx
namespace Lake.Wh
open PySem L2 Wx
theorem sA : PySem.W.OpenRow.wellSaid (PySem.W.OpenLaw.row PySem.Challenge.rw_waxcloth_k60_would_refused)=true:=by kernel_rfl
theorem saidL:PySem.W.OpenLaw.wellSaid PySem.Challenge.rw_waxcloth_k60_would_refused=true:=by unfold PySem.W.OpenLaw.wellSaid;rw[sA];kernel_rfl
def dP(s:Stmt):Arguments:=match s with
|.FunctionDef _ a _ _ _ _ _ _ _ _=>a
|_=>⟨[],[],none,[],[],none,[]⟩
abbrev dB:=L2.defBody
abbrev dS:=L2.defScope
abbrev dE(P:PySem.Params)(n:Str)(t:Nat)(v:Aj):DictEntry:=.mk (PySem.PyData.keyHash P n) (.str n t) v
abbrev dR(P:PySem.Params)(n:Str)(t a:Nat):DictEntry:=.mk (PySem.PyData.keyHash P n) (.str n t) (.ref a)
def v3(c:Nat):List (Nat×Nat)->An
|[]=> []
| (l,a)::r=>.int l 0::.int c 0::.ref a::v3 c r
abbrev o3(c:Nat)(l:List (Nat×Nat)):Obj:=.mk .none none (.fields (v3 c l).toArray) #[]
def rL:Ac->An
|[]=> []
|a::r=>.ref a::rL r
abbrev rN(l:Ac):Array Aj:=(rL l).toArray
abbrev oA:Obj:=PySem.Obj.mk (.type "tuple") none (.seq #[] 0) #[]
abbrev oC (s0 s2:Str) (n1 n3 n4 n5 n6:Nat):Obj:=PySem.Obj.mk (.type "code") none (.fields #[(.str s0 n1),(.str s2 (n1+1)),(.str "/claim/cut.py" (n1+2)),(.int ((n3:Nat):Int) 0),(.int ((n4:Nat):Int) 0),(.int 0 0),(.int 0 0),(.int 3 0),(.ref n5),(.bool true),(.int 181 0),(.ref (n5+1)),.none,(.ref (n5+2)),(.ref (n5+3)),(.ref (n5+4)),(.int ((n6:Nat):Int) 0),(.int ((n3:Nat):Int) 0),(.str "/claim/cut.py" (n6+1))]) #[]
abbrev oD (s0 s2:Str) (n1 n3 n4:Nat):Obj:=PySem.Obj.mk (.type "function") none (.func (PySem.FuncData.mk s0 s0 (dP (top n1)) (.stmts (dB (top n1))) (dS (top n1)) 3 [] .none .none .none (.str s2 n3) none (.ref n4) .none 0)) #[]
abbrev oS (s0:Str) (n1 n2 n3:Nat):Obj:=PySem.Obj.mk (.type "code") none (.fields #[(.str s0 n1),(.str s0 (n1+1)),(.str "/claim/cut.py" (n1+2)),(.int ((n2:Nat):Int) 0),(.int 0 0),(.int 0 0),(.int 0 0),(.int 0 0),(.ref n3),(.bool false),(.int 181 0),(.ref (n3+1)),.none,.none,.none,.none,(.int ((n1+3:Nat):Int) 0),(.int ((n2:Nat):Int) 0),(.str "/claim/cut.py" (n1+4))]) #[]
abbrev oT (s2:Str) (n0 n1 n3:Nat):Obj:=PySem.Obj.mk (.type "frame") none .plain #[(some (.ref n0)),(some (.ref 3)),(some (.ref n1)),none,(some (.str s2 n3)),none,(some (.ref 0))]
abbrev oU:Obj:=PySem.Obj.mk .none none (.fields #[]) #[]
abbrev oV(s0:Str)(n1:Nat):Obj:=PySem.Obj.mk .none none (.func (PySem.FuncData.mk s0 s0 (dP (top n1)) (.stmts (dB (top n1))) (dS (top n1)) 0 [] .none .none .none .none none .none .none 0)) #[]
abbrev oW:Obj:=PySem.Obj.mk (.type "builtin_function_or_method") none (.fields #[(.builtin "type.__prepare__"),(.type "type")]) #[]
abbrev oX (P:PySem.Params) (s1:Str) (n0 n2 n3:Nat):Obj:=PySem.Obj.mk (.type "dict") none (.dict #[(dE P "__module__" n0 (.str "waxcloth.errors" 194)),(dE P "__qualname__" (n0+2) (.str s1 (n0+1))),(dE P "__firstlineno__" (n0+4) (.int ((n2:Nat):Int) (n0+3))),dR P "__static_attributes__" (n0+5) n3] 4) #[]
abbrev oY (n0:Nat):Obj:=PySem.Obj.mk (.type "super") none (.fields (rN [n0,n0,n0])) #[]
abbrev oZ (n0:Nat):Obj:=PySem.Obj.mk (.type "builtin_function_or_method") none (.fields #[(.builtin "object.__init_subclass__"),(.ref n0)]) #[]
abbrev o10(s0 s1:Str)(n2 n3:Nat):Obj:=PySem.Obj.mk .none none (.func (PySem.FuncData.mk s0 s1 (dP (ZM n2 n3)) (.stmts (dB (ZM n2 n3))) (dS (ZM n2 n3)) 0 [] .none .none .none .none none .none .none 0)) #[]
open PySem L2
set_option hygiene false in
local macro_rules
  | `(tactic| o_head $_)=>`(tactic| exact hz)
def kz(hz:PySem.W.OpenRow.Holds (PySem.W.OpenLaw.row PySem.Challenge.rw_waxcloth_k60_would_refused)):PySem.W.OpenRow.Holds (PySem.W.OpenLaw.row PySem.Challenge.rw_waxcloth_k60_would_refused):=by
 k_head
def kz.asL:List Nat:=[2,3,15,17,18,20,21,22,29,30,31,32,35,42,43,44,47,54,55,56,59,66,67,68,71,78,79,80,83,90,91,92,95,102,103,104,107,114,115,116,119,126,127,128,131,138,139,140,143,150,151,152,155,162,163,164,167,174,175,176,179,186,187,188,191,194,195,196,198,199,201,202,203,206,207,208,211,212,213,216,217,218,220,221,223,224,225,228,229,230,232,233,235,236,237,240,241,249,251,252,254,255,256,257,258,259,260,263,265,266,268,269,270,272,273,275,276,277,280,281,282,284,285,287,288,289,291,292,294,295,296,298,299,301,302,303,306,307,308,311,312,313,315,316,318,319,320,321,323,324,326,327,328,330,331,333,334,335,337,338,340,341,342,344,345,347,348,349,351,352,354,355,356,358,359,361,362,363,365,366,368,369,370,373,374,375,378,379,380,383,384,385,387,388,390,391,392,395,396,397,399,400,402,403,404,406,407,409,410,411,414,415,416,419,420,421,423,424,426,427,428,430,431,433,434,435,437,438,440,441,449,451,452,454,455,456,459,460,461,463,464,466,467,468,470,471,473,474,475,478,479,480,483,484,485,487,488,490,491,492,494,495,497,498,499,501,502,504,505,506,508,509,511,512,513,515,516,518,519,520,522,523,525,526,527,530,531,532,535,536,537,539,540,542,543,544,546,547,549,550,551,553,554,556,557,558,560,561,563,564,565,567,568,570,571,572,574,575,577,578,579,581,582,584,585,586,588,589,591,592,593,595,596,598,599,600,601,602,603,604,607,609,610,612,613,614,616,617,619,620,621,623,624,626,627,628,630,631,633,634,635,637,638,640,641,642,644,645,647,648,649,652,653,654,657,658,659,662,663,664,667,668,669,671,672,674,675,676,678,679,681,682,683,686,687,688,691,692,693,696,697,698,701,702,703,705,706,708,709,710,713,714,715,718,719,720,723,724,725,727,728,730,731,732,734,735,737,738,739,741,742,744,745,746,748,749,751,752,753,755,756,758,759,760,762,763,765,766,767,770,771,772,774,775,777,778,779,781,782,784,785,786,788,789,791,792,793,795,796,798,799,800,802,803,805,806,807,809,810,812,813,814,816,817,819,820,821,823,824,826,827,828,830,831,833,834,835,837,838,840,841]
abbrev RR:PySem.W.RowW:=PySem.W.OpenRow.toRowW (PySem.W.OpenLaw.row PySem.Challenge.rw_waxcloth_k60_would_refused)
def Q:Ar:={ RR.prog with main:={ RR.prog.main with body:= [top 0,top 2,top 3,top 4,top 5,top 6,top 7,top 8,top 9,top 10,top 11,top 12,top 13,top 14,top 15,top 17,top 18,top 19,top 20,top 21,top 22,top 23,top 24,top 25,top 27,top 28,top 29,top 31,top 32,top 33,top 34,top 35,top 36,top 37,top 38,top 39,top 40,top 41,top 42,top 43,top 44,top 45,top 46,top 47,top 48,top 49,top 51,top 52,top 54,top 55,top 56,top 58,top 59,top 60,top 61,top 62,top 64,top 65,top 67,top 69,top 70,top 71,top 72,top 73,top 74,top 75,top 76,top 77,top 78,top 79,top 80,top 81,top 82,top 83,top 84,top 85,top 86,top 87,top 88,top 89,top 90,top 91,top 92,top 93,top 94,top 95,top 96,top 97,top 98,top 99,top 100,top 101,top 102,top 103,top 104,top 105] } }
def asE:∀ P,kz.asL=(kz.heap_1 P).map (·.1):=λ_=>by kernel_rfl
abbrev hK(n:Nat)(o:Obj)(r:List (Nat×Obj)):List (Nat×Obj):=(n,o)::r
abbrev jA(n0 n1:Nat)(s0:Str)(r:List (Nat×Obj)):List (Nat×Obj):=hK n0 (oV s0 n1) <| hK (n0+4) oU r
abbrev jB (n0:Nat) (r:List (Nat×Obj)):List (Nat×Obj):=hK (n0+4) (oT "waxcloth.errors" (n0+3) n0 194) <| hK (n0+8) (oY (n0+7)) r
abbrev jC(n0 n1 n2:Nat)(s0:Str)(r:List (Nat×Obj)):List (Nat×Obj):=hK (n0+1) oU <| hK (n0+2) (oS s0 n1 n2 n0) r
abbrev jD(P:PySem.Params)(n0 n1 n2:Nat)(s0:Str)(r:List (Nat×Obj)):List (Nat×Obj):=hK n0 oW <| hK (n0+1) (oX P s0 n1 n2 (n0+6)) r
abbrev jE(n0:Nat)(r:List (Nat×Obj)):List (Nat×Obj):=jB n0 <| hK (n0+9) (oZ (n0+7)) r
abbrev jF(n0 n1 n2:Nat)(s0 s1:Str)(r:List (Nat×Obj)):List (Nat×Obj):=jA n0 n1 s0 <| jA (n0+7) n2 s1 r
abbrev jG(n0 n1 n2:Nat)(s0:Str)(r:List (Nat×Obj)):List (Nat×Obj):=hK n0 oA <| jC n0 n1 n2 s0 r
abbrev jH(P:PySem.Params)(n0 n1 n2:Nat)(s0:Str)(r:List (Nat×Obj)):List (Nat×Obj):=jD P n0 (n1+5) n2 s0 <| jG (n0+2) n1 n2 s0 r
def zmf(P:PySem.Params):List (Nat×Obj) :=
 hK 0 (PySem.W.boot_o_0 P) <|
 hK 1 (PySem.W.boot_o_1 P) <|
 hK 4 (PySem.W.boot_o_4 P) <|
 hK 5 (PySem.W.boot_o_5 P) <|
 hK 6 (PySem.W.boot_o_6 P) <|
 hK 7 (PySem.W.boot_o_7 P) <|
 hK 8 (PySem.W.boot_o_8 P) <|
 hK 9 (PySem.W.boot_o_9 P) <|
 hK 10 (PySem.W.boot_o_10 P) <|
 hK 11 oA <|
 hK 12 (o3 0 [(1,20),(5,27),(7,40),(9,52),(11,64),(13,76),(15,88),(17,100),(19,112),(21,124),(23,136),(25,148),(27,160),(29,172),(31,184),(35,194),(38,201),(45,206),(51,211),(55,216),(57,223),(59,228),(61,235),(66,240),(70,247),(75,268),(77,275),(83,280),(87,287),(92,294),(96,301),(100,306),(108,311),(112,318),(119,326),(123,333),(127,340),(131,347),(136,354),(139,361),(144,368),(148,373),(150,378),(156,383),(158,390),(164,395),(167,402),(169,409),(172,414),(181,419),(186,426),(195,433),(201,440),(204,447),(305,612),(310,619),(314,626),(328,633),(332,640),(346,647),(353,652),(355,657),(362,662),(364,667),(366,674),(372,681),(374,686),(377,691),(379,696),(381,701),(384,708),(390,713),(396,718),(405,723),(414,730),(435,737),(460,744),(467,751),(471,758),(481,765),(485,770),(491,777),(495,784),(516,791),(527,798),(534,805),(539,812),(543,819),(570,826),(576,833),(582,840)]) <|
 hK 13 (oS "<module>" 182 1 11) <|
 hK 14 (oT "__main__" 13 3 164) <|
 hK 16 oU <|
 hK 19 (oV "_wall" 0) <|
 jH P 23 198 5 "WaxError" <|
 hK 28 (oT "waxcloth.errors" 27 24 194) <|
 hK 33 (oY 31) <|
 hK 34 (oZ 31) <|
 jH P 36 216 7 "NoName" <|
 jE 37 <|
 jH P 48 232 9 "Taken" <|
 jE 49 <|
 jH P 60 248 11 "BadSize" <|
 jE 61 <|
 jH P 72 264 13 "NoCloth" <|
 jE 73 <|
 jH P 84 280 15 "NoCell" <|
 jE 85 <|
 jH P 96 296 17 "BadWish" <|
 jE 97 <|
 jH P 108 312 19 "Twice" <|
 jE 109 <|
 jH P 120 328 21 "NoDye" <|
 jE 121 <|
 jH P 132 344 23 "Spent" <|
 jE 133 <|
 jH P 144 360 25 "StillFresh" <|
 jE 145 <|
 jH P 156 376 27 "TooDeep" <|
 jE 157 <|
 jH P 168 392 29 "NothingLeft" <|
 jE 169 <|
 jH P 180 408 31 "NoMark" <|
 jE 181 <|
 hK 192 oU <|
 jF 193 18 19 "bare" "with_wish" <|
 jA 205 20 "with_wax" <|
 jA 210 21 "dipped" <|
 jF 215 22 23 "boiled" "has_cell" <|
 jF 227 24 25 "is_picture" "deepened" <|
 hK 239 (oV "is_name" 29) <|
 hK 242 oA <|
 hK 243 oW <|
 hK 244 (PySem.Obj.mk (.type "dict") none (.dict #[(dE P "__module__" 507 (.str "waxcloth.stand" 496)),(dE P "__qualname__" 509 (.str "Stand" 508)),(dE P "__firstlineno__" 511 (.int 70 510)),dR P "__init__" 520 255,dR P "__static_attributes__" 523 256] 5) #[]) <|
 hK 245 oA <|
 hK 246 (o3 4 [(72,254)]) <|
 hK 247 (oS "Stand" 502 70 245) <|
 hK 248 (oT "waxcloth.stand" 247 244 496) <|
 hK 250 oU <|
 hK 253 (o10 "__init__" "Stand.__init__" 32 0) <|
 hK 261 (oY 258) <|
 hK 262 (oZ 258) <|
 hK 264 oU <|
 jF 267 33 34 "new_stand" "behind_hang" <|
 jF 279 35 36 "behind_fold" "behind_twin" <|
 jF 293 37 38 "behind_wish" "behind_wax" <|
 jA 305 39 "behind_dip" <|
 jA 310 40 "behind_boil" <|
 hK 317 (oV "behind_brew" 41) <|
 hK 322 oU <|
 jF 325 43 44 "behind" "with_cloths" <|
 jF 339 45 46 "with_pot" "check_new" <|
 jF 353 47 48 "check_hangs" "check_names" <|
 jA 367 49 "check_dye" <|
 jA 372 51 "lacking" <|
 jA 377 52 "needed" <|
 jF 382 54 55 "with_cells" "is_lower" <|
 jF 394 56 58 "lacking_under_wax" "boilings" <|
 jA 408 59 "boilings_for" <|
 jA 413 60 "places_above" <|
 jF 418 61 62 "followers" "settle" <|
 jA 432 64 "bolt_of" <|
 hK 439 (oV "boilings_of" 65) <|
 hK 442 oA <|
 hK 443 oW <|
 hK 444 (PySem.Obj.mk (.type "dict") none (.dict #[(dE P "__module__" 796 (.str "waxcloth.house" 787)),(dE P "__qualname__" 798 (.str "House" 797)),(dE P "__firstlineno__" 800 (.int 204 799)),dR P "__init__" 808 455,dR P "do" 814 460,dR P "undo" 822 467,dR P "redo" 830 474,dR P "book" 836 479,dR P "ahead" 842 484,dR P "mark" 850 491,dR P "go" 858 498,dR P "marks" 865 505,dR P "names" 872 512,dR P "ready" 879 519,dR P "stains" 887 526,dR P "wishes" 893 531,dR P "waxed" 899 536,dR P "bolt" 907 543,dR P "hindered" 915 550,dR P "plan" 923 557,dR P "boilings" 931 564,dR P "held" 939 571,dR P "would" 950 578,dR P "sources" 960 585,dR P "now" 967 592,dR P "cloth" 976 599,dR P "__static_attributes__" 982 600] 27) #[]) <|
 hK 445 oA <|
 hK 446 (o3 4 [(206,454),(213,459),(220,466),(227,473),(234,478),(237,483),(240,490),(245,497),(253,504),(256,511),(259,518),(262,525),(265,530),(268,535),(271,542),(274,549),(277,556),(280,563),(283,570),(286,577),(292,584),(295,591),(300,598)]) <|
 hK 447 (oS "House" 791 204 445) <|
 hK 448 (oT "waxcloth.house" 447 444 787) <|
 hK 450 oU <|
 hK 453 (o10 "__init__" "House.__init__" 67 0) <|
 hK 457 oU <|
 hK 458 (o10 "do" "House.do" 67 1) <|
 hK 462 oU <|
 hK 465 (o10 "undo" "House.undo" 67 2) <|
 hK 469 oU <|
 hK 472 (o10 "redo" "House.redo" 67 3) <|
 hK 476 oU <|
 hK 477 (o10 "book" "House.book" 67 4) <|
 hK 481 oU <|
 hK 482 (o10 "ahead" "House.ahead" 67 5) <|
 hK 486 oU <|
 hK 489 (o10 "mark" "House.mark" 67 6) <|
 hK 493 oU <|
 hK 496 (o10 "go" "House.go" 67 7) <|
 hK 500 oU <|
 hK 503 (o10 "marks" "House.marks" 67 8) <|
 hK 507 oU <|
 hK 510 (o10 "names" "House.names" 67 9) <|
 hK 514 oU <|
 hK 517 (o10 "ready" "House.ready" 67 10) <|
 hK 521 oU <|
 hK 524 (o10 "stains" "House.stains" 67 11) <|
 hK 528 oU <|
 hK 529 (o10 "wishes" "House.wishes" 67 12) <|
 hK 533 oU <|
 hK 534 (o10 "waxed" "House.waxed" 67 13) <|
 hK 538 oU <|
 hK 541 (o10 "bolt" "House.bolt" 67 14) <|
 hK 545 oU <|
 hK 548 (o10 "hindered" "House.hindered" 67 15) <|
 hK 552 oU <|
 hK 555 (o10 "plan" "House.plan" 67 16) <|
 hK 559 oU <|
 hK 562 (o10 "boilings" "House.boilings" 67 17) <|
 hK 566 oU <|
 hK 569 (o10 "held" "House.held" 67 18) <|
 hK 573 oU <|
 hK 576 (o10 "would" "House.would" 67 19) <|
 hK 580 oU <|
 hK 583 (o10 "sources" "House.sources" 67 20) <|
 hK 587 oU <|
 hK 590 (o10 "now" "House.now" 67 21) <|
 hK 594 oU <|
 hK 597 (o10 "cloth" "House.cloth" 67 22) <|
 hK 605 (oY 602) <|
 hK 606 (oZ 602) <|
 hK 608 oU <|
 jF 611 69 70 "_law_box" "_law_mixed" <|
 jF 625 71 72 "_law_take" "_law_place" <|
 jF 639 73 74 "_law_picks" "_law_picks_word" <|
 jA 651 75 "_law_wax" <|
 jA 656 76 "_law_dip" <|
 jA 661 77 "_law_boil" <|
 jF 666 78 79 "_law_full" "_law_deal" <|
 jA 680 80 "_law_letters" <|
 jA 685 81 "_law_named" <|
 jA 690 82 "_law_is_name" <|
 jA 695 83 "_law_kept" <|
 jF 700 84 85 "_law_blank" "_law_new_word" <|
 jA 712 86 "_law_group_word" <|
 jA 717 87 "_law_dip_word" <|
 jF 722 88 89 "_law_cell_word" "_law_word" <|
 jF 736 90 91 "_law_did" "_law_pool" <|
 jF 750 92 93 "_law_any_name" "_law_group" <|
 jA 764 94 "_law_dye" <|
 jF 769 95 96 "_law_wanted" "_law_hang_size" <|
 jF 783 97 98 "_law_deed" "_law_begun" <|
 jF 797 99 100 "_law_worked" "_law_bolt_of" <|
 jF 811 101 102 "_law_pots" "_law_would_said" <|
 jF 825 103 104 "_law_bad" "_law_deep" <|
 hK 839 (oV "law" 105) []
def mix:Nat->Nat->List (Nat×Obj)->List (Nat×Obj)->List Obj
 |0,_,_,_=> []
 |n+1,i,(a,x)::l,(b,y)::r=>match Nat.beq a i with
  |true=>x::mix n (i+1) l ((b,y)::r)
  |false=>y::mix n (i+1) ((a,x)::l) r
 |n+1,i,(_,x)::l,[]=>x::mix n (i+1) l []
 |n+1,i,[],(_,y)::r=>y::mix n (i+1) [] r
 |_+1,_,[],[]=> []
def ev:Bool->List Obj->List Obj|_,[]=> []|true,x::r=>x::ev false r|false,_::r=>ev true r
def bt:Nat->List Obj->PySem.W.BT|0,_=>.nil|_+1,[]=>.nil|n+1,x::r=>.node x (bt n (ev true r)) (bt n (ev false r))
def lfe:Life:=(.mk [] [] [] 0 [] [] false #[] [] 0 false false false 0 [2000,10,10] false 0 true [] [] 0 false)
def zhF(P:PySem.Params):List Obj:=mix 842 0 (kz.heap_1 P) (zmf P)
def zcZ:List Obj->Nat->Obj->List Obj
 |[],_,_=> []
 |x::r,n,y=>match n with
  |0=>y::r
  |n+1=>x::zcZ r n y
def zeD:Env:={ scope:=RR.prog.main.scope,locals:=mainNs,globals:=mainNs,cells:= [],code:=.ref 13,frame:=some 14 }
def bH:List Stmt:=PySem.W.behindTheImports RR.prog
def cH:Code:=.body bH zeD
abbrev BH:List Frame:= [PySem.W.topFrame ⟨0,0,0,0⟩]
def zkm (P:PySem.Params):List Obj:= [PySem.W.boot_o_0 P,PySem.W.boot_o_1 P,PySem.W.boot_o_2 P,PySem.W.boot_o_3 P,PySem.W.boot_o_4 P,PySem.W.boot_o_5 P,PySem.W.boot_o_6 P,PySem.W.boot_o_7 P,PySem.W.boot_o_8 P,PySem.W.boot_o_9 P,PySem.W.boot_o_10 P,oA,oU,(oS "<module>" 182 1 11),(oT "__main__" 13 3 164)]
def preH:∀ w:World,(λos=>PySem.W.topGo treeTable RR.prog w 11 (some (.ref 6)) 12 ⟨PySem.W.boot_heap w.params,Array.mk [],PySem.W.boot_drawn,PySem.W.boot_toks,os⟩ (PySem.W.topStub RR.prog))=λos=>some (⟨⟨(zkm w.params).toArray,lfe⟩,Array.mk [],PySem.W.boot_drawn,187,os⟩,⟨denote treeTable cH,cH,⟨0,0,0,0⟩,BH⟩):=λw=>by kernel_rfl
def tr0(P:PySem.Params):PySem.W.BT:=bt 14 (zkm P)
def zjH:∀ w:World,(λos=>PySem.W.segRun treeTable RR.prog w 11 (some (.ref 6)) 1 1 ⟨⟨(zkm w.params).toArray,lfe⟩,Array.mk [],PySem.W.boot_drawn,187,os⟩ (PySem.W.blockOf bH zeD cH ⟨0,0,0,0⟩ BH))=λos=>some (.next,(PySem.W.SharedT.mk (tr0 w.params) 15 lfe (Array.mk []) PySem.W.boot_drawn 187 os).abs,cH,⟨0,0,0,0⟩):=λw=>by kernel_rfl
def tr1 (P:PySem.Params):PySem.W.BT:=bt 14 (zcZ (zcZ (zcZ ((zhF P).take 167) 3 (PySem.Obj.mk (.type "dict") none (.dict #[(dE P "__name__" 165 (.str "waxcloth.errors" 194)),(dE P "__doc__" 166 .none),(dE P "__package__" 167 .none),(dE P "__loader__" 168 (.builtin "__main__.__loader__#opaque")),(dE P "__spec__" 169 .none),dR P "__annotations__" 170 6,dR P "__builtins__" 171 4,(dE P "__file__" 173 (.str "/claim/cut.py" 172)),(dE P "__cached__" 174 .none),dR P "_wall" 193 21,dR P "WaxError" 213 31,dR P "NoName" 229 44,dR P "Taken" 245 56,dR P "BadSize" 261 68,dR P "NoCloth" 277 80,dR P "NoCell" 293 92,dR P "BadWish" 309 104,dR P "Twice" 325 116,dR P "NoDye" 341 128,dR P "Spent" 357 140,dR P "StillFresh" 373 152,dR P "TooDeep" 389 164] 22) #[])) 12 (o3 0 [(1,20),(5,27),(7,40),(9,52),(11,64),(13,76),(15,88),(17,100),(19,112),(21,124),(23,136),(25,148),(27,160)])) 31 (PySem.Obj.mk (.type "type") none (.cls (PySem.ClassData.mk "WaxError" [(.type "ValueError")] [(.ref 31),(.type "ValueError"),(.type "Exception"),(.type "BaseException"),(.type "object")] 30 "WaxError" true [] (rL [44,56,68,80,92,104,116,128,140,152,164]) false none false)) #[(some (.ref 22)),none,(some (.str "WaxError" 196)),(some (.str "WaxError" 204)),(some (.builtin "ValueError.__new__")),(some (.bool true))]))
def zmG:List Stmt:=(bH.drop 0).take 14
def zmv:∀ w:World,(λos=>PySem.W.segRunT treeTable RR.prog w 11 (some (.ref 6)) 1 2568 (PySem.W.SharedT.mk (tr0 w.params) 15 lfe (Array.mk []) PySem.W.boot_drawn 187 os) (PySem.W.piecesOf zmG zeD cH ⟨0,0,0,0⟩ BH))=λos=>some (.next,(PySem.W.SharedT.mk (tr1 w.params) 167 lfe (Array.mk []) PySem.W.boot_drawn 390 os),cH,⟨27,0,28,8⟩):=λw=>by kernel_rfl
def tr2 (P:PySem.Params):PySem.W.BT:=bt 14 (zcZ (zcZ ((zhF P).take 442) 3 (PySem.Obj.mk (.type "dict") none (.dict #[(dE P "__name__" 165 (.str "waxcloth.house" 787)),(dE P "__doc__" 166 .none),(dE P "__package__" 167 .none),(dE P "__loader__" 168 (.builtin "__main__.__loader__#opaque")),(dE P "__spec__" 169 .none),dR P "__annotations__" 170 6,dR P "__builtins__" 171 4,(dE P "__file__" 173 (.str "/claim/cut.py" 172)),(dE P "__cached__" 174 .none),dR P "_wall" 193 21,dR P "WaxError" 213 31,dR P "NoName" 229 44,dR P "Taken" 245 56,dR P "BadSize" 261 68,dR P "NoCloth" 277 80,dR P "NoCell" 293 92,dR P "BadWish" 309 104,dR P "Twice" 325 116,dR P "NoDye" 341 128,dR P "Spent" 357 140,dR P "StillFresh" 373 152,dR P "TooDeep" 389 164,dR P "NothingLeft" 405 176,dR P "NoMark" 421 188,(dE P "DEEPEST" 425 (.int 9 424)),dR P "bare" 431 195,dR P "with_wish" 443 202,dR P "with_wax" 449 207,dR P "dipped" 455 212,dR P "boiled" 461 217,dR P "has_cell" 469 224,dR P "is_picture" 475 229,dR P "deepened" 483 236,(dE P "LETTERS" 487 (.str "abcdefghijklmnopqrstuvwxyz" 486)),(dE P "MOST_LETTERS" 489 (.int 8 488)),dR P "is_name" 495 241,(dE P "MOST_CELLS" 499 (.int 40 498)),dR P "Stand" 530 258,dR P "new_stand" 537 269,dR P "behind_hang" 547 276,dR P "behind_fold" 553 281,dR P "behind_twin" 563 288,dR P "behind_wish" 574 295,dR P "behind_wax" 584 302,dR P "behind_dip" 590 307,dR P "behind_boil" 596 312,dR P "behind_brew" 605 319,dR P "DEEDS" 622 320,dR P "behind" 633 327,dR P "with_cloths" 642 334,dR P "with_pot" 652 341,dR P "check_new" 660 348,dR P "check_hangs" 668 355,dR P "check_names" 677 362,dR P "check_dye" 685 369,dR P "lacking" 693 374,dR P "needed" 699 379,dR P "with_cells" 707 384,dR P "is_lower" 719 391,dR P "lacking_under_wax" 725 396,dR P "boilings" 734 403,dR P "boilings_for" 743 410,dR P "places_above" 749 415,dR P "followers" 755 420,dR P "settle" 766 427,dR P "bolt_of" 778 434,dR P "boilings_of" 786 441] 67) #[])) 12 (o3 0 [(1,20),(5,27),(7,40),(9,52),(11,64),(13,76),(15,88),(17,100),(19,112),(21,124),(23,136),(25,148),(27,160),(29,172),(31,184),(35,194),(38,201),(45,206),(51,211),(55,216),(57,223),(59,228),(61,235),(66,240),(70,247),(75,268),(77,275),(83,280),(87,287),(92,294),(96,301),(100,306),(108,311),(112,318),(119,326),(123,333),(127,340),(131,347),(136,354),(139,361),(144,368),(148,373),(150,378),(156,383),(158,390),(164,395),(167,402),(169,409),(172,414),(181,419),(186,426),(195,433),(201,440)]))
def zmH:List Stmt:=(bH.drop 14).take 53
def zmw:∀ w:World,(λos=>PySem.W.segRunT treeTable RR.prog w 11 (some (.ref 6)) 1 1976 (PySem.W.SharedT.mk (tr1 w.params) 167 lfe (Array.mk []) PySem.W.boot_drawn 390 os) (PySem.W.piecesOf zmH zeD cH ⟨27,0,28,8⟩ BH))=λos=>some (.next,(PySem.W.SharedT.mk (tr2 w.params) 442 lfe (Array.mk []) PySem.W.boot_drawn 789 os),cH,⟨203,0,203,8⟩):=by
 refine PySem.W.byRow2 "special-get-raises" ?_ ?_<;>exact λw=>by kernel_rfl
def tr3(P:PySem.Params):PySem.W.BT:=bt 14 (zhF P)
def zmI:List Stmt:=(bH.drop 67).take 39
def zmx:∀ w:World,(λos=>PySem.W.segRunT treeTable RR.prog w 11 (some (.ref 6)) 1 2042 (PySem.W.SharedT.mk (tr2 w.params) 442 lfe (Array.mk []) PySem.W.boot_drawn 789 os) (PySem.W.piecesOf zmI zeD cH ⟨203,0,203,8⟩ BH))=λos=>some (.next,(PySem.W.SharedT.mk (tr3 w.params) 842 lfe (Array.mk []) PySem.W.boot_drawn 1322 os),cH,⟨582,0,608,147⟩):=λw=>by kernel_rfl
def hE(P:PySem.Params):Heap:=⟨(zhF P).toArray,lfe⟩
def finH:∀ w:World,(λos=>PySem.W.topRun treeTable RR.prog w 11 (some (.ref 6)) 2 (PySem.W.SharedT.mk (tr3 w.params) 842 lfe (Array.mk []) PySem.W.boot_drawn 1322 os).abs ⟨PySem.W.doneF .next,cH,⟨582,0,608,147⟩,BH⟩)=λos=>some ⟨hE w.params,Array.mk [],PySem.W.boot_drawn,1322,os⟩:=λw=>by kernel_rfl
def zlU:bH=zmG++(zmH++(zmI++([]))):=by kernel_rfl
def runH(w:World)(os:OsState):PySem.W.topRun treeTable RR.prog w 11 (some (.ref 6)) (12+(1+(2568+(1976+(2042+2))))) ⟨PySem.W.boot_heap w.params,Array.mk [],PySem.W.boot_drawn,PySem.W.boot_toks,os⟩ (PySem.W.topStub RR.prog)=some ⟨hE w.params,Array.mk [],PySem.W.boot_drawn,1322,os⟩:=by
 refine PySem.W.go_top (congrFun (preH w) os) (PySem.W.piece_block (congrFun (zjH w) os) ?_);rw[zlU];exact PySem.W.piece_app (PySem.W.segRun_of (congrFun (zmv w) os)) (PySem.W.piece_app (PySem.W.segRun_of (congrFun (zmw w) os)) (PySem.W.piece_app (PySem.W.segRun_of (congrFun (zmx w) os)) (PySem.W.piece_nil (congrFun (finH w) os))))
abbrev XtH:Am->Bool:=λs=>PySem.W.xlAt Q [] s&&PySem.W.recOk (PySem.W.RowW.records RR) s
abbrev sE(w:World)(os:OsState):Am:=⟨hE w.params,Array.mk [],PySem.W.boot_drawn,1322,os⟩
def lk1(w:World)(os:OsState):(PySem.W.staticsOk (importedModules RR.prog.main.body) (PySem.W.boot_heap w.params) (hE w.params)&&PySem.W.namesBound RR.prog (hE w.params)&&PySem.W.gensDone (sE w os)&&PySem.W.laidKept (PySem.W.boot_heap w.params) (hE w.params))=true:=by kernel_rfl
def lk2 (w:World) (os:OsState):PySem.W.openSeen Q ["DEEDS"] (importedModules RR.prog.main.body) XtH true (sE w os)=PySem.W.openGood Q ["DEEDS"]:=by kernel_rfl
def lk3(w:World)(os:OsState):(PySem.W.Hook.obs (PySem.W.kHook kz.heap_1 kz.asL asE)) (sE w os)=PySem.W.Hook.val (PySem.W.kHook kz.heap_1 kz.asL asE) w:=by kernel_rfl
def zmk:PySem.W.opening RR.prog=PySem.W.plainProg RR.prog.main.scope.names:=by kernel_rfl
def zj3:∀ s,fenceModules? RR.prog s=some s:=λs=>by kernel_rfl
def zmE:∀ w:World,((PySem.W.boot_heap w.params).isNs mainGlobals&&(Array.mk ([]:List GenState)).size==0,(PySem.W.boot_heap w.params).objs.size,(PySem.W.boot_heap w.params).nsMap mainGlobals "__annotations__")=(true,11,(some (.ref 6))):=λw=>by kernel_rfl
theorem left:PySem.W.LeftO RR.prog Q ["DEEDS"] XtH (PySem.W.Hook.obs (PySem.W.kHook kz.heap_1 kz.asL asE)) (PySem.W.Hook.val (PySem.W.kHook kz.heap_1 kz.asL asE)) 13292 :=
 PySem.W.LeftO.of_pieces (PySem.W.boot_open zmk (by decide +kernel) zj3) zmE runH (by decide +kernel) λw=>funext λos=>Prod.ext (lk1 w os) (Prod.ext (lk2 w os) (lk3 w os))
end Lake.Wh
section
local macro_rules
|`(tactic|let $x:ident:=$e)=>`(tactic|have $x:ident:=$e)
|`(tactic|let $x:ident : $t := $e)=>`(tactic|have $x:ident : $t := $e)
|`(tactic|let $p:term:=$e)=>do
 let rec go:Nat->Lean.Term->Lean.MacroM (Lean.TSyntax `rcasesPat)
 |n+1,p=>match p with
  |`(⟨$ps,*⟩)=>do
   let q←ps.getElems.mapM λp=>do `(Lean.Parser.Tactic.rcasesPatLo|$(← go n p):rcasesPat)
   `(rcasesPat|⟨$q,*⟩)
  |`(($p,$ps,*))=>do
   let q←(#[p]++ps.getElems).mapM λp=>do `(Lean.Parser.Tactic.rcasesPatLo|$(← go n p):rcasesPat)
   `(rcasesPat|⟨$q,*⟩)
  |`(_)=>`(rcasesPat|_)
  |`($i:ident)=>`(rcasesPat|$i:ident)
  |_=>Lean.Macro.throwUnsupported
 |0,_=>Lean.Macro.throwUnsupported
 `(tactic|obtain $(← go 9 p):rcasesPat:=$e)
local macro_rules|`(tactic|erw[$e:term])=>`(tactic|refine $e)
local macro_rules|`(tactic|lia)=>`(tactic|first|(with_reducible assumption)|(with_reducible exact Nat.le_trans (by assumption) (by decide))|(with_reducible exact Nat.lt_of_le_of_lt (by assumption) (by decide))|(with_reducible exact Nat.lt_of_lt_of_le (by assumption) (by decide))|(with_reducible exact Nat.le_trans (by assumption) (Nat.le_trans (by assumption) (by decide)))|omega)
local macro_rules
  | `(tactic| rwa [$xs,*]) => do
    let ts ← xs.getElems.mapM fun x => match x with
      | `(Lean.Parser.Tactic.rwRule| $a:term = $b:ident) => `(tactic| generalize $a:term = $b at *)
      | _ => Lean.Macro.throwUnsupported
    `(tactic| ($[$ts];*))
  | `(⇑$x) => `((PySem.Shared.heap $x).objs.size)
  | `(@& $x) => `(some (.d $x))
local macro_rules|`(#[$xs,*])=>`(⟨$xs,*⟩)
local macro_rules|`($a\$b)=>`($a=some $b)
local macro_rules|`(↑$x)=>`(($x).length)
namespace Lake.L2
open PySem PySem.Spec PyProof.Rows
abbrev Key:=Sum Int Str
def VP:Key->Aj->Bool|.inl k,v=>Value.isInt k v|.inr x,v=>Value.isStrOf x v
def keyH(w:World):Key->Int|.inl k=>hashInt k|.inr x=>hashStr w x
def qz:∀{k:Key}{v:Aj},VP k v=true->(∃ i t,k=Sum.inl i/\v=Value.int i t)∨(∃ x t,k=Sum.inr x/\v=Value.str x t)
 |.inl i,v,h=>by
  let(t,e):=Value.isInt_shape h;erw[.inl #[i,t,rfl,e]]
 |.inr x,v,h=>by
  let(t,e):=Value.isStrOf_shape h;erw[.inr #[x,t,rfl,e]]
def zcB(i:Int)(t:Tok):VP (.inl i) (.int i t)=true:=by simp[VP,Value.isInt]
def zcC(x:Str)(t:Tok):VP (.inr x) (.str x t)=true:=by simp[VP,Value.isStrOf]
def zkc(a b:Int):decide ((Sum.inl a:Key)=Sum.inl b)=(a==b):=by
 by_cases e:a=b
 ·subst e;simp
 ·let h:¬ (Sum.inl a:Key)=Sum.inl b:=λq=>e (Sum.inl.inj q);rw[Xc h];erw[(Xb.mpr e).symm]
def zkf(a b:Str):decide ((Sum.inr a:Key)=Sum.inr b)=decide (a=b):=by
 by_cases e:a=b
 ·subst e;simp
 ·let h:¬ (Sum.inr a:Key)=Sum.inr b:=λq=>e (Sum.inr.inj q);rw[Xc h,Xc e]
def zkd(a:Int)(b:Str):decide ((Sum.inl a:Key)=Sum.inr b)=false:=Xc (λq=>nomatch q)
def zke(a:Str)(b:Int):decide ((Sum.inr a:Key)=Sum.inl b)=false:=Xc (λq=>nomatch q)
def qv(prog:Ar)(w:World):PySem.KeyKind prog w Key where
 is:=VP
 hash:=keyH w
 inj:=λv a b c hb=>by
  rcases qz c with ⟨i,t,rfl,rfl⟩ | ⟨x,t,rfl,rfl⟩
  ·rcases qz hb with ⟨j,u,rfl,e⟩ | ⟨y,u,rfl,e⟩
   ·injection e with e1 _;rw[e1]
   ·erw[nomatch e]
  ·rcases qz hb with ⟨j,u,rfl,e⟩ | ⟨y,u,rfl,e⟩
   ·erw[nomatch e]
   ·injection e with e1 _;rw[e1]
 byValue:=λk v h=>by
  rcases qz h with ⟨i,t,rfl,rfl⟩ | ⟨x,t,rfl,rfl⟩<;>rfl
 pyHash:=λhv h=>by
  rcases qz hv with ⟨i,t,rfl,rfl⟩ | ⟨x,t,rfl,rfl⟩
  ·erw[wpAny_pyHash_int h]
  ·erw[wpAny_pyHash_str h]
 eqBool:=λd hv h=>by
  rcases qz d with ⟨i,t,rfl,rfl⟩ | ⟨x,t,rfl,rfl⟩
  ·rcases qz hv with ⟨j,u,rfl,rfl⟩ | ⟨y,u,rfl,rfl⟩
   ·rw[zkc]at h;exact wpAny_eqBool_int h
   ·rw[zkd]at h;exact SeqAt.EqAt.int_str i t y u _ _ _ _ h
  ·rcases qz hv with ⟨j,u,rfl,rfl⟩ | ⟨y,u,rfl,rfl⟩
   ·rw[zke]at h;exact SeqAt.EqAt.str_int x t j u _ _ _ _ h
   ·rw[zkf]at h;exact wpAny_eqBool_str h
 «strs»:=λk x t v h=>by
  rcases qz h with ⟨i,u,rfl,e⟩ | ⟨y,u,rfl,e⟩
  ·erw[nomatch e]
  ·injection e with e1 _
   subst e1;cases v<;>rfl
def Y3(prog:Ar)(w:World)(i:Int)(t:Tok):(qv prog w).is (.inl i) (.int i t)=true:=zcB i t
def Y4(prog:Ar)(w:World)(x:Str)(t:Tok):(qv prog w).is (.inr x) (.str x t)=true:=zcC x t
inductive V where|non | bl (b:Bool) | int (i:Int) | str (x:Str) | ref (a:Ap) | ty (n:String)
 deriving DecidableEq
def RelV:V->Aj->Prop|.non,u=>u=Value.none|.bl b,u=>u=Value.bool b|.int i,u=>∃ t,u=Value.int i t|.str x,u=>∃ t,u=Value.str x t|.ref a,u=>u=Value.ref a|.ty n,u=>u=Value.type n
abbrev Vals:List V->An->Prop:=Paired RelV
def Vals.length{xs:List V}{us:An}(r:Vals xs us):↑xs=↑us:=Paired.length r
def Vals.get:∀{xs:List V}{us:An}{i:Nat}{x:V},Vals xs us->xs[i]?\x->∃ u,us[i]?\u/\RelV x u
 |_,_,_,_,.nil,e=>by simp at e
 |_,_,0,_,.cons r _,e=>by simp at e;subst e;exact#[_,rfl,r]
 |_,_,i+1,x,.cons _ t,e=>by
  let(u,a,b):=Vals.get t (~~~e);exact#[u,~~~a,b]
def Vals.set(r:RelV x u):∀{xs:List V}{us:An}(i:Nat),Vals xs us->Vals (xs.set i x) (us.set i u)|_,_,_,.nil=>.nil|_,_,0,.cons _ t=>.cons r t|_,_,i+1,.cons q t=>.cons q (Vals.set r i t)
def Vals.append{xs:List V}(r:Vals xs us)(s:Vals o ws):Vals (xs++o) (us++ws):=by
 induction r with|nil=>erw[s]|cons r _ a=>erw[.cons r a]
def Vals.take:∀{xs:List V}{us:An}(n:Nat),Vals xs us->Vals (xs.take n) (us.take n)|_,_,0,_=>.nil|_,_,_+1,.nil=>.nil|_,_,n+1,.cons r t=>.cons r (Vals.take n t)
def Vals.drop:∀{xs:List V}{us:An}(n:Nat),Vals xs us->Vals (xs.drop n) (us.drop n)|_,_,0,r=>r|_,_,_+1,.nil=>.nil|_,_,n+1,.cons _ t=>Vals.drop n t
def RelO:Option V->Option Aj->Prop|some v,some u=>RelV v u|none,none=>True|_,_=>False
def KV{c:Type}:List (c×V)->List (c×Value)->Prop:=Paired λ(p:c×V)(q:c×Value)=>p.1=q.1/\RelV p.2 q.2
def kV:Key->V|.inl i=>.int i|.inr x=>.str x
inductive HO where|lst (xs:List V)|tup (xs:List V)|dK (kvs:List (Key×V))|set (S:Int->Bool) (n:Nat)|ins (C dx:Ap) (fs:List (Str×V))|own (x:Ap)|xd (fs:List (Str×V))|met (f x:Ap)|rng (lo hi:Int)|frz (o:Obj) (u:HO)|tbl (ps:Array Aj)|ext (φ:Heap->Prop)
abbrev Hp:=Ap->Option HO
def upd(H:Hp)(a:Ap)(o:HO):Hp:=λb=>if b=a then some o else H b
def zK:upd H a o a\o:=by unfold upd;rw[if_pos rfl]
def zH(h:b≠a):upd H a o b=H b:=by unfold upd;rw[if_neg h]
def zmd{H:Hp}(h:H a\o)(c:H b\u)(d:o≠u):a≠b:=by
 intro e;subst e;rw[h]at c;exact d (Option.some.inj c)
def qC{H:Hp}(h:H a\o)(c:H b=none):a≠b:=by
 grind
section
variable (P:Ar)(w:World)
def ObjOk(H:Hp)(h:Heap)(a:Ap):HO->Prop
 |.lst xs=>↑xs<=sizeLine/\∃ (b:An) (n:Nat),Vals xs b/\h.get? a\{ cls:=.type "list",data:=.seq b.toArray n }
 |.tup xs=>↑xs<=sizeLine/\∃ b:An,Vals xs b/\IsTup h a b.toArray
 |.dK d=>↑d<=sizeLine/\(a==sysModules)=false/\∃ k,KV d k/\h.DictOf (qv P w) a k
 |.set S n=>h.SetOf (intKind P w) a S n
 |.ins C e fs=>H e\(.own a)/\↑fs<=1000/\e≠a/\h.get? a\(W.instObj C e) /\
   ∃ c,h.Ns1 e c/\(∀ f,RelO (fs.lookup f) (c f))/\PySem.Within c (fs.map (·.1))
 |.own _=>∃ o,h.get? a\o
 |.xd fs=>∃ c,h.Ns1 a c/\∀ f,RelO (fs.lookup f) (c f)
 |.rng lo hi=>∃ t u v,h.get? a\{ cls:=.type "range",data:=.fields (List.toArray [.int lo t,.int hi u,.int 1 v]) }
 |.frz o u=>h.get? a\o/\ObjOk H h a u
 |.tbl ps=>h.get? a\{ cls:=.none,data:=.fields ps }
 |.met f x=>h.get? a\(W.methodObj (.ref f) (.ref x))
 |.ext g=>g h/\(∃ o,h.get? a\o)/\∀ i j:Heap,g i->(∀ o,i.get? a\o->j.get? a\o)->g j
def HOk(H:Hp)(h:Heap):=∀ a o,H a\o->ObjOk P w H h a o
end
section
variable {P:Ar}{w:World}{H H':Hp}{h h':Heap}{a:Ap}{o:HO}
def ObjOk.lt(x:ObjOk P w H h a o):a<h.objs.size:=by
 cases o with|lst xs=>let⟨_,_,_,_,e⟩:=x;exact x8 e|tup xs=>let⟨_,_,_,p⟩:=x;exact p.lt|dK b=>let⟨_,_,_,_,o,_,_,e,_⟩:=x;exact x8 e|set S n=>let⟨o,_,_,_,e,_⟩:=x;exact x8 e|ins C c fs=>let⟨_,_,_,e,_⟩:=x;exact x8 e|own y=>let⟨_,e⟩:=x;exact x8 e|xd fs=>let⟨_,⟨_,_,_,e,_⟩,_⟩:=x;exact x8 e|rng lo hi=>let⟨_,_,_,e⟩:=x;exact x8 e|frz d u=>let⟨e,_⟩:=x;exact x8 e|tbl ps=>erw[x8 (show h.get? a\_ from x)]|met f y=>erw[x8 (show h.get? a\_ from x)]|ext g=>let⟨_,⟨_,e⟩,_⟩:=x;exact x8 e
def ObjOk.stay(x:ObjOk P w H h a o)(k:∀ b u,(b=a∨H b\(.own a))->h.get? b\u->h'.get? b\u)
  (ho:∀ b,H b\(.own a)->H' b\(.own a)) (G:∀ b xs,H b\(.tup xs)->H' b\(.tup xs)):ObjOk P w H' h' a o:=by
 induction o with
 |lst xs=>let⟨z,l,n,r,e⟩:=x;exact#[z,l,n,r,k _ _ (.inl rfl) e]
 |tup xs=>let⟨z,l,r,g,e,c⟩:=x;exact#[z,l,r,g,k _ _ (.inl rfl) e,c]
 |dK D=>let⟨z,y,E,r,g,j,i,e,c⟩:=x;exact#[z,y,E,r,g,j,i,k _ _ (.inl rfl) e,c]
 |set S n=>let⟨g,j,i,t,e,c⟩:=x;exact#[g,j,i,t,k _ _ (.inl rfl) e,c]
 |ins C F fs=>
  let(d,z,ne,e,m,(s,j,i,A,c),r):=x;exact#[ho _ d,z,ne,k _ _ (.inl rfl) e,m,#[s,j,i,k _ _ (.inr d) A,c],r]
 |own y=>let⟨g,e⟩:=x;exact#[g,k _ _ (.inl rfl) e]
 |xd fs=>let⟨m,⟨s,j,i,e,c⟩,r⟩:=x;exact#[m,#[s,j,i,k _ _ (.inl rfl) e,c],r]
 |rng lo hi=>let⟨t,u,v,e⟩:=x;exact#[t,u,v,k _ _ (.inl rfl) e]
 |frz g u B=>let⟨e,q⟩:=x;exact#[k _ _ (.inl rfl) e,B q]
 |tbl ps=>
  let e:=x;erw[k a _ (.inl rfl) e]
 |met f y=>
  let e:=x;erw[k a _ (.inl rfl) e]
 |ext I=>let⟨p,⟨o,e⟩,st⟩:=x;exact#[st _ _ p λo q=>k _ _ (.inl rfl) q,#[o,k _ _ (.inl rfl) e],st]
def HOk.lt(x:HOk P w H h)(e:H a\o):a<h.objs.size:=(x a o e).lt
def HOk.fresh(x:HOk P w H h)(e:h.objs.size<=a):H a=none:=by
 cases q:H a with|none=>rfl|some u=>erw[absurd (xu (x.lt q) e) (ua _)]
def HOk.kept(x:HOk P w H h)(k:∀ b u,h.get? b\u->h'.get? b\u):HOk P w H h':=λa o e=>
 (x a o e).stay (λb u _ q=>k b u q) (λ_ q=>q) λ_ _ q=>q
def HOk.laid(x:HOk P w H h)(k:∀ b u,h.get? b\u->h'.get? b\u)(hp:h.objs.size<=a)(new:ObjOk P w (upd H a o) h' a o):HOk P w (upd H a o) h':=λb u e=>by
 let d:=x.fresh hp;by_cases hb:b=a
 ·subst hb;rw[zK]at e;cases e;exact new
 ·rw[zH hb]at e;exact (x b u e).stay (λc v _ q=>k c v q) (λc q=>by rw[zH (qC q d)];exact q) λc xs q=>by rw[zH (qC q d)];exact q
end
def Rd(H:Hp)(a:Ap)(u:HO):Prop:=H a\u∨∃ o,H a\(.frz o u)
def Rd.ok{P:Ar}{w:World}{H:Hp}{h:Heap}{a:Ap}{u:HO}(r:Rd H a u)(x:HOk P w H h):ObjOk P w H h a u:=by
 rcases r with r | ⟨o,r⟩
 ·erw[x a u r]
 ·let(_,q):=x a _ r;erw[q]
def Mut:Option HO->Prop|some (.lst _)=>True|some (.dK _)=>True|some (.set _ _)=>True|some (.ins _ _ _)=>True|some (.ext _)=>True|_=>False
section
variable {P:Ar}{w:World}{H:Hp}{h h':Heap}{x e:Ap}{o':HO}
def HOk.write(ok:HOk P w H h)(i:Mut (H x))(he:e=x∨H e\(.own x))(k:∀ b u,b≠e->h.get? b\u->h'.get? b\u)(l:∃ u,h'.get? e\u)
  (new:ObjOk P w (upd H x o') h' x o'):HOk P w (upd H x o') h':=λb u q=>by
 let g:∀ c y,H c\(.own y)->c≠x:=λc y r z=>by subst z;rw[r]at i;exact i
 let f:∀ c xs,H c\(.tup xs)->c≠x:=λc xs r z=>by subst z;rw[r]at i;exact i
 by_cases hb:b=x
 ·subst hb;rw[zK]at q;cases q;exact new
 ·rw[zH hb]at q;by_cases a:b=e
  ·let d:H b\(.own x):=by
    rcases he with z | z
    ·erw[absurd (a.trans z) hb]
    ·rw[a];exact z
   rw[q]at d;cases d;let(v,hv):=l;exact#[v,by rw[a];exact hv]
  ·refine (ok b u q).stay (λc v hc r=>k c v ?_ r) (λc r=>by rw[zH (g c b r)];exact r) λc xs r=>by rw[zH (f c xs r)];exact r
   grind
end
structure Un(fs ex:List Ap)(H H':Hp)(h h':Heap):Prop where
 keep:∀ b o,h.get? b\o->H b=none->b∉fs->b∉ex->h'.get? b\o
 slot:∀ b o,h.get? b\o->H b=none->b∈fs->b∉ex->∃ sl,h'.get? b\{ o with slots:=sl }
 free:∀ b o,h.get? b\o->H b=none->b∉ex->H' b=none
 there:∀ b o,h.get? b\o->b∉ex->∃ o',h'.get? b\o'
 tups:∀ b xs,H b\(.tup xs)->H' b\(.tup xs)
 frzs:∀ b o u,H b\(.frz o u)->H' b\(.frz o u)
 tbls:∀ b ps,H b\(.tbl ps)->∃ more,H' b\(.tbl (ps++more))
section
variable {fs ex:List Ap}{H H1:Hp}{h h1 h':Heap}{a x e:Ap}{o:HO}
def Un.any(u:Un fs ex H H1 h h1){b:Ap}{i:Obj}(q:h.get? b\i)(n:H b=none)(hx:b∉ex):∃ sl,h1.get? b\{ i with slots:=sl }:=by
 by_cases hb:b∈fs
 ·erw[u.slot b i q n hb hx]
 ·exact#[i.slots,u.keep b i q n hb hx]
def Un.kept(k:∀ b u,h.get? b\u->h'.get? b\u):Un fs ex H H h h' :=
 #[λb a q _ _ _=>k b a q,λb a q _ _ _=>#[a.slots,k b a q],λ_ _ _ n _=>n,λb a q _=>#[a,k b a q],λ_ _ q=>q,λ_ _ _ q=>q,λ_ ps q=>#[(List.toArray []),by rw[q];simp]]
def Un.refl:Un fs ex H H h h:=Un.kept λ_ _ q=>q
def Un.laid(k:∀ b u,h.get? b\u->h'.get? b\u)(hp:h.objs.size<=a)(c:H a=none):Un fs ex H (upd H a o) h h' where
 keep:=λb u q _ _ _=>k b u q
 slot:=λb u q _ _ _=>#[u.slots,k b u q]
 free:=λb u q n _=>by rw[zH (xj (xu (x8 q) hp))];exact n
 there:=λb u q _=>#[u,k b u q]
 tups:=λb xs q=>by rw[zH (qC q c)];exact q
 frzs:=λb u xs q=>by rw[zH (qC q c)];exact q
 tbls:=λb ps q=>#[(List.toArray []),by rw[zH (qC q c),q];simp]
def Un.write(c:Mut (H x))(he:e=x∨H e\(.own x))(k:∀ b u,b≠e->h.get? b\u->h'.get? b\u)(i:∃ u,h'.get? e\u):Un fs ex H (upd H x o) h h':=by
 let hx:∀ b,H b=none->b≠x:=λb n z=>by subst z;rw[n]at c;exact c
 let hb:∀ b,H b=none->b≠e:=λb n z=>by
  subst z;rcases he with r | r
  ·erw[hx b n r]
  ·rw[n]at r;cases r
 let hm:∀ b u,H b\u->¬ Mut (some u)->b≠x:=λb u q nm z=>by subst z;rw[q]at c;exact nm c
 refine⟨λb u q n _ _=>k b u (hb b n) q,λb u q n _ _=>⟨u.slots,k b u (hb b n) q⟩,λb u q n _=>by rw[zH (hx b n)];exact n,λb u q _=>?_,
  λb xs q=>by rw[zH (hm b _ q λz=>z)];exact q,λb u xs q=>by rw[zH (hm b _ q λz=>z)];exact q,λb ps q=>#[(List.toArray []),by rw[zH (hm b _ q λz=>z),q];simp]⟩
 by_cases a:b=e
 ·subst a;exact i
 ·exact#[u,k b u a q]
end
def trk(h:Heap)(H:Hp):List Ap:=(List.range h.objs.size).filter λa=>(H a).isSome
def yV(h:Heap)(H:Hp):Heap:=W.hideAll h (trk h H)
def zcy(h:Heap)(H:Hp):(yV h H).objs.size=h.objs.size:=W.hideAll_size _ _
def zeT(e:h.get? b\o)(n:H b=none):(yV h H).get? b\o :=
 W.hideAll_get _ e λhm=>by
  let q:=(uZ.mp hm).2;rw[n]at q;simp at q
def zhG(e:(yV h H).get? b\o):h.get? b\o/\H b=none:=by
 let a:=W.of_hideAll (trk h H) e;refine#[a,?_];cases q:H b with
 |none=>rfl
 |some x=>
  let hm:b∈trk h H:=uZ.mpr #[uN.mpr (x8 a),by simp[q]];let z:(yV h H).get? b=none:=W.hideAll_none (trk h H) hm;rw[z]at e;cases e
structure Mod(K:Ah)(mg:Aq)(base:Heap):Prop where
 kin:K.In base
 glob:base.Ns mainGlobals mg
 blt:∃ mb,base.Ns builtinsNs mb/\∀ x:Str,x≠ "__name__" ->mb x=bootBuiltins x
 nolimit:base.NoLimit
structure Cx where
 prog:Ar
 w:World
 K:Ah
 mg:Aq
 base:Heap
 A:Around
 N:Ab
 s₀:Am
 H₀:Hp
 env:Env
 outer:List Env
 stack:List Env
 ex:List Ap
 fn:Str->Bool
 calm:Bool
 pn:Ak
 xe:Af
 xp:Str->List (Option V)->Hp->Prop
def frs(l:List Env):List Ap:=l.filterMap (·.frame)
abbrev Cx.fs(X:Cx):List Ap:=frs X.outer
def Vis(sc:Scope)(x:Str):Prop:=sc.names.lookup x\.local∨sc.names.lookup x\.cell∨sc.names.lookup x\.free
def Loc(sc:Scope)(x:Str):Prop:=sc.names.lookup x\.local∨sc.names.lookup x\.cell
def Look(env:Env)(h:Heap)(m:Aq)(x:Str)(u:Aj):Prop :=
 (env.kindOf x\.local/\m x\u)∨((env.kindOf x\.cell∨env.kindOf x\.free)/\∃ c,env.cells.lookup x\c/\h.IsCell c (some u))
structure Cx.Ok(X:Cx):Prop where
 mod:Mod X.K X.mg X.base
 kind:X.env.scope.kind=.function
 glob:X.env.globals=mainGlobals
 blt:X.env.builtins=builtinsNs
 above:X.s₀.heap.objs.size<=X.env.locals
 inj:∀ x y c,X.env.cells.lookup x\c->X.env.cells.lookup y\c->x=y
 has:∀ x,(X.env.kindOf x\.cell∨X.env.kindOf x\.free)->∃ c,X.env.cells.lookup x\c
 cab:∀ x c,X.fn x=true->X.env.cells.lookup x\c->X.s₀.heap.objs.size<=c
 hd:X.calm=true->X.A.handled=none
 frames:X.A.frames\X.stack
 stk:X.stack=X.outer∨(X.stack=X.env::X.outer/\X.env.frame\X.env.locals)
 exf:∀ b∈X.ex,b≠X.env.locals/\∀ x c,X.env.cells.lookup x\c->c≠b
 bs:∀ b o,X.base.get? b\o->X.s₀.heap.get? b\o/\X.H₀ b=none
 bsz:X.base.objs.size<=X.s₀.heap.objs.size
 noex:∀ b o,X.base.get? b\o->b∉X.ex
 exfs:∀ b∈X.ex,b∉X.fs
 funs:X.s₀.heap.FunFrames X.base X.outer
 frf:∀ b∈X.fs,X.H₀ b=none
structure Inv(X:Cx)(pins:Ak)(O:List (Option V))(H:Hp)(s:Am):Prop where
 ok:X.Ok
 os:s.os=X.s₀.os
 bare:AllBare s.gens
 base:Un X.fs X.ex X.H₀ H X.s₀.heap s.heap
 loc:∃ m,s.heap.Ns X.env.locals m/\∀(i:Nat)(x:Str)(v:V),X.N[i]?\x->O[i]?\(some v)->Vis X.env.scope x->∃ u,RelV v u/\Look X.env s.heap m x u
 cell:∀ x c,X.env.cells.lookup x\c->∃ v,s.heap.IsCell c v
 free:H X.env.locals=none
 freeC:∀ x c,X.env.cells.lookup x\c->H c=none
 pin:∀ p∈X.pn++pins,s.heap.get? p.1\p.2/\H p.1=none/\p.1≠X.env.locals/\p.1∉X.fs/\∀ v,p.2.data≠ .cell v
 hok:HOk X.prog X.w H s.heap
 len:↑O=X.N.length
section
variable {X:Cx}{pins:Ak}{O:List (Option V)}{H H':Hp}{s:Am}{h':Heap}
def Cx.Ok.nofr(ok:X.Ok)(e:X.base.get? b\o):b∉X.fs:=λhb=>by
 have:=(ok.funs.mem hb).1;rw[e]at this;cases this
def Inv.bs(I:Inv X pins O H s):∀ b o,X.base.get? b\o->s.heap.get? b\o/\H b=none:=λb o e=>
 #[I.base.keep b o (I.ok.bs b o e).1 (I.ok.bs b o e).2 (I.ok.nofr e) (I.ok.noex b o e),I.base.free b o (I.ok.bs b o e).1 (I.ok.bs b o e).2 (I.ok.noex b o e)]
def Inv.bk(I:Inv X pins O H s):∀ b o,X.base.get? b\o->s.heap.get? b\o:=λb o e=>(I.bs b o e).1
def Inv.mod(I:Inv X pins O H s):Mod X.K X.mg X.base:=I.ok.mod
def Inv.kIn(I:Inv X pins O H s):X.K.In s.heap:=I.ok.mod.kin.keeps I.bk
def Inv.fr(I:Inv X pins O H s):∃ m,Fr X.base X.env.locals s.heap m :=
 let ⟨m,a,_⟩:=I.loc
 #[m,a,I.bk,xK I.ok.bsz I.ok.above]
def Inv.lt(I:Inv X pins O H s):X.env.locals<⇑s:=let #[_,a,_]:=I.loc;a.lt
def Inv.sz(I:Inv X pins O H s):X.s₀.heap.objs.size<=⇑s:=xK I.ok.above (uq I.lt)
def Inv.nofs(I:Inv X pins O H s)(h:⇑s<=a):a∉X.fs:=λhb=>by
 let(_,o,ho,_):=I.ok.funs.mem hb;erw[absurd (xu (x8 ho) (xK I.sz h)) (ua _)]
def Inv.cne(I:Inv X pins O H s):∀ x c,X.env.cells.lookup x\c->c≠X.env.locals:=λx c e z=>by
 let(v,o,ho,hd):=I.cell x c e;let(m,(g,f,d,b,a,_),_):=I.loc;grind
def Inv.funs(I:Inv X pins O H s):s.heap.FunFrames X.base X.outer:=by
 let all:∀(l:List Env),(∀ b∈frs l,b∈X.fs)->X.s₀.heap.FunFrames X.base l->s.heap.FunFrames X.base l:=by
  intro l
  induction l with
  |nil=>intro _ _;trivial
  |cons env r g=>
   intro c hl;let(hk,(L,o,hf,d,ho,hd),f):=hl;let a:=c L (by unfold frs;rw[xR,hf];exact xF);let(sl,e):=I.base.slot L o ho (I.ok.frf L a) a λz=>I.ok.exfs L z a;exact#[hk,#[L,_,hf,d,e,hd],g (λb hb=>c b (by unfold frs;rw[xR,hf];exact xt _ hb)) f]
 erw[all X.outer (λ_ hb=>hb) I.ok.funs]
def Inv.stack(I:Inv X pins O H s):s.heap.FunFrames X.base X.stack:=by
 rcases I.ok.stk with e | ⟨e,hf⟩
 ·rw[e];exact I.funs
 ·rw[e];let(m,a,_):=I.loc;refine .cons (by rw[I.ok.kind];decide) hf a ?_ I.funs;erw[Heap.get?_none_of_le (xK I.ok.bsz I.ok.above)]
def Inv.stkSub(I:Inv X pins O H s):∀ b∈frs X.stack,b∈X.env.locals::X.fs:=λb hb=>by
 rcases I.ok.stk with e | ⟨e,hf⟩
 ·rw[e]at hb;exact xt _ hb
 ·rw[e]at hb;unfold frs at hb;rw[xR,hf]at hb;erw[hb]
def Inv.stkFree(I:Inv X pins O H s):∀ b∈frs X.stack,H b=none:=λb hb=>by
 rcases xA.mp (I.stkSub b hb)with e | hb
 ·rw[e];exact I.free
 ·let(_,o,ho,_):=I.ok.funs.mem hb;erw[I.base.free b o ho (I.ok.frf b hb) λz=>I.ok.exfs b z hb]
def Inv.step{B:Array GenState}{J:Nat}{E:Drawn}{ch:List Ap}(I:Inv X pins O H s)
  (y:∀ b∈ch,(b∈X.ex∨X.s₀.heap.objs.size<=b)/\b≠X.env.locals/\(∀ x c,X.env.cells.lookup x\c->c≠b)/\∀ p∈X.pn++pins,p.1≠b)
  (keep:∀ b o,b≠X.env.locals->b∉X.fs->b∉ch->s.heap.get? b\o->H b=none->h'.get? b\o)
  (slot:∀ b o,b≠X.env.locals->b∈X.fs->b∉ch->s.heap.get? b\o->H b=none->∃ sl,h'.get? b\{ o with slots:=sl }) (free:∀ b o,b∉ch->s.heap.get? b\o->H b=none->H' b=none)
  (there:∀ b o,b∉ch->s.heap.get? b\o->∃ A,h'.get? b\A)
  (tups:∀ b xs,H b\(.tup xs)->H' b\(.tup xs)) (frzs:∀ b o u,H b\(.frz o u)->H' b\(.frz o u)) (tbls:∀ b ps,H b\(.tbl ps)->∃ more,H' b\(.tbl (ps++more)))
  (ns:∀ m,s.heap.Ns X.env.locals m->h'.Ns X.env.locals m) (hok:HOk X.prog X.w H' h') (hg:AllBare B) :
  Inv X pins O H' { s with heap:=h',gens:=B,drawn:=E,toks:=J }:=by
 let j:∀ b o,X.s₀.heap.get? b\o->b≠X.env.locals:=λb o e=>xj (xu (x8 e) I.ok.above);let h:∀ b o,X.s₀.heap.get? b\o->b∉X.ex->b∉ch:=λb o e hx hb=>by
  rcases (y b hb).1 with z | z
  ·erw[hx z]
  ·erw[absurd (xu (x8 e) z) (ua _)]
 let cellK:∀ x c,X.env.cells.lookup x\c->∀ v,s.heap.IsCell c v->h'.IsCell c v:=λx c e v ⟨o,ho,hd⟩=>by
  let g:c∉ch:=λz=>(y c z).2.2.1 x c e rfl;by_cases hc:c∈X.fs
  ·let(sl,q):=slot c o (I.cne x c e) hc g ho (I.freeC x c e);exact#[_,q,hd]
  ·exact#[o,keep c o (I.cne x c e) hc g ho (I.freeC x c e),hd]
 refine#[I.ok,I.os,hg,#[λb o e n hb hx=>?_,λb o e n hb hx=>?_,λb o e n hx=>?_,λb o e hx=>?_,λb xs e=>tups b xs (I.base.tups b xs e),λb o xs e=>frzs b o xs (I.base.frzs b o xs e),λb ps e=>?_],?_,λx c e=>?_,?_,λx c e=>?_,λp hp=>?_,hok,I.len]
 ·erw[keep b o (j b o e) hb (h b o e hx) (I.base.keep b o e n hb hx) (I.base.free b o e n hx)]
 ·let(sl,a):=I.base.slot b o e n hb hx;let(w,f):=slot b _ (j b o e) hb (h b o e hx) a (I.base.free b o e n hx);exact#[w,f]
 ·let(A,a):=I.base.there b o e hx;erw[free b A (h b o e hx) a (I.base.free b o e n hx)]
 ·let(A,a):=I.base.there b o e hx;erw[there b A (h b o e hx) a]
 ·let(F,a):=I.base.tbls b ps e;let(G,f):=tbls b _ a;exact#[F++G,by rw[f,Array.append_assoc]]
 ·let(m,D,hl):=I.loc;refine#[m,ns m D,λi x v a f C=>?_];let(u,r,l):=hl i x v a f C;refine#[u,r,?_];rcases l with l | ⟨k,c,e,z⟩
  ·erw[.inl l]
  ·erw[.inr #[k,c,e,cellK x c e _ z]]
 ·let(v,z):=I.cell x c e;exact#[v,cellK x c e v z]
 ·let(m,(o,_,_,ho,_),_):=I.loc;erw[free _ o (λz=>(y _ z).2.1 rfl) ho I.free]
 ·let(v,o,ho,hd):=I.cell x c e;erw[free c o (λz=>(y c z).2.2.1 x c e rfl) ho (I.freeC x c e)]
 ·let(e,n,ne,t,d):=I.pin p hp;let g:p.1∉ch:=λz=>(y p.1 z).2.2.2 p hp rfl;exact#[keep p.1 p.2 ne t g e n,free p.1 p.2 g e n,ne,t,d]
def Inv.un(I:Inv X pins O H s)(u:Un X.fs [] H H' s.heap h')(hok:HOk X.prog X.w H' h'):Inv X pins O H' { s with heap:=h',toks:=J }:=by
 let(m,(o,i,h,ho,r),_):=id I.loc;let(sl,f):=u.any ho I.free (by simp);exact I.step (ch:= []) (λ_ z=>nomatch z) (λb o _ hb _ e n=>u.keep b o e n hb (by simp)) (λb o _ hb _ e n=>u.slot b o e n hb (by simp)) (λb o _ e n=>u.free b o e n (by simp)) (λb o _ e=>u.there b o e (by simp)) u.tups u.frzs u.tbls (λj hm=>by
  let(k,c,d,a,g):=hm;rw[ho]at a;cases a;exact#[_,c,d,f,g]) hok I.bare
def Inv.call{i:Array GenState}{y:Nat}{v:Drawn}{ch:List Ap}(I:Inv X pins O H s)(u:Un (frs X.stack) ch H H' s.heap h')(hok:HOk X.prog X.w H' h')(hg:AllBare i)
  (l:∀ b∈ch,(b∈X.ex∨X.s₀.heap.objs.size<=b)/\b≠X.env.locals/\(∀ x c,X.env.cells.lookup x\c->c≠b)/\∀ p∈X.pn++pins,p.1≠b) :
  Inv X pins O H' { s with heap:=h',gens:=i,drawn:=v,toks:=y }:=by
 let(m,(o,k,j,ho,r),_):=id I.loc;let(sl,a):=u.any ho I.free λz=>(l _ z).2.1 rfl;exact I.step l (λb o a hb hc e n=>u.keep b o e n (λz=>(xA.mp (I.stkSub b z)).elim a hb) hc) (λb o _ _ hc e n=>u.any e n hc) (λb o hc e n=>u.free b o e n hc) (λb o hc e=>u.there b o e hc) u.tups u.frzs u.tbls (λq hm=>by
  let(t,f,g,d,h):=hm;rw[ho]at d;cases d;exact#[_,f,g,a,h]) hok hg
def Inv.turned{t':Nat}(I:Inv X pins O H s)(k:∀ b o,b≠it->s.heap.get? b\o->h'.get? b\o)(B:H it=none)(i:it≠X.env.locals)
  (l:it∈X.ex∨X.s₀.heap.objs.size<=it) (y:∀ x c,X.env.cells.lookup x\c->c≠it) (A:∀ p∈X.pn++pins,p.1≠it):Inv X pins O H { s with heap:=h',toks:=t' }:=by
 let a:∀ b u,H b\u->b≠it:=λb u e z=>by rw[z,B]at e;cases e
 refine I.step (ch:= [it]) (λb hb=>?_) (λb o _ _ hc e _=>k b o (λz=>hc (by simp[z])) e) (λb o _ _ hc e _=>#[o.slots,k b o (λz=>hc (by simp[z])) e]) (λ_ _ _ _ n=>n)
  (λb o hc e=>#[o,k b o (λz=>hc (by simp[z])) e]) (λ_ _ e=>e) (λ_ _ _ e=>e) (λb ps e=>#[(List.toArray []),by rw[e];simp]) (λm hm=>?_) (λb u e=>?_) I.bare
 ·let e:b=it:= ~~~hb;subst e;exact#[l,i,y,A]
 ·let(o,f,d,ho,r):=hm;exact#[o,f,d,k _ o (Ne.symm i) ho,r]
 ·refine (I.hok b u e).stay (λc v hc q=>k c v ?_ q) (λ_ q=>q) λ_ _ q=>q;rcases hc with z | z
  ·rw[z];exact a b u e
  ·erw[a c _ z]
def Inv.tok(I:Inv X pins O H s)(t:Nat):Inv X pins O H { s with toks:=t }:=I.un Un.refl I.hok
def Inv.kept{t':Nat}(I:Inv X pins O H s)(k:∀ b u,s.heap.get? b\u->h'.get? b\u):Inv X pins O H { s with heap:=h',toks:=t' }:=I.un (Un.kept k) (I.hok.kept k)
def Inv.laid{a:Ap}{o:HO}{t':Nat}(I:Inv X pins O H s)(k:∀ b u,s.heap.get? b\u->h'.get? b\u)(hp:⇑s<=a)(new:ObjOk X.prog X.w (upd H a o) h' a o) :
  Inv X pins O (upd H a o) { s with heap:=h',toks:=t' }:=I.un (Un.laid k hp (I.hok.fresh hp)) (I.hok.laid k hp new)
def Inv.write{o:HO}{l:Nat}(I:Inv X pins O H s)(c:Mut (H x))(he:e=x∨H e\(.own x))(k:∀ b u,b≠e->s.heap.get? b\u->h'.get? b\u)(i:∃ u,h'.get? e\u)
  (new:ObjOk X.prog X.w (upd H x o) h' x o):Inv X pins O (upd H x o) { s with heap:=h',toks:=l }:=I.un (Un.write c he k i) (I.hok.write c he k i new)
def Inv.weak(I:Inv X pins O H s)(hl:↑O'=↑O)(w:∀(i:Nat) v,O'[i]?\(some v)->O[i]?\(some v)):Inv X pins O' H s :=
 #[I.ok,I.os,I.bare,I.base,let #[m,e,a]:=I.loc;#[m,e,λi x v b c d=>a i x v b (w i v c) d],I.cell,I.free,I.freeC,I.pin,I.hok,hl.trans I.len]
def Inv.pins_of(I:Inv X pins O H s)(h:∀ p∈pins',s.heap.get? p.1\p.2/\H p.1=none/\p.1≠X.env.locals/\p.1∉X.fs/\∀ v,p.2.data≠ .cell v):Inv X pins' O H s :=
 #[I.ok,I.os,I.bare,I.base,I.loc,I.cell,I.free,I.freeC,λp hp=>(xJ.mp hp).elim (λz=>I.pin p (xU _ z)) (h p),I.hok,I.len]
def Y8{N:Ab}(hN:N.Nodup){i j:Nat}(a:N[i]?\x)(b:N[j]?\x):i=j:=by
 let(e,c):=xa.mp a;let(f,d):=xa.mp b;erw[(List.getElem_inj hN).mp (c.trans d.symm)]
def wm{M:Model}{A:Around}{E:Af}{x:Str}{v:V}{u:Aj}{Q:Unit->Am->Prop}(I:Inv X pins O H s)(hN:X.N.Nodup)(hi:X.N[i]?\x)(hx:Loc X.env.scope x)(r:RelV v u)
  (h:∀ S,Inv X pins (O.set i (some v)) H S->(∃ a,Heap.SameBut a s.heap S.heap/\(a=X.env.locals∨X.env.cells.lookup x\a))->Q () S) (hf:X.fn x=true∨X.env.scope.names.lookup x\.local:=by first | exact .inl rfl | exact .inr rfl | assumption):wpAny M A (storeName X.env x u) Q E s:=by
 let(m,J,hl):=id I.loc;let Z:(X.env.scope.kind==.class||(X.env.scope.kind==.module&&X.env.locals !=X.env.globals))=false:=by rw[I.ok.kind];rfl
 have t:i<↑O:=by rw[I.len];exact (xa.mp hi).1
 let cne:=I.cne;let tracked:∀{a:Ap}{h':Heap},(∃ o,s.heap.get? a\o/\H a=none)->Heap.SameBut a s.heap h'->HOk X.prog X.w H h':=λ{a h'} ha f b ob e=>by
  let(_,_,DO):=ha;erw[(I.hok b ob e).stay (λc D hc q=>(f.2 c ?_).trans q) (λ_ q=>q) λ_ _ q=>q];grind
 rcases hx with hk | hk
 ·refine wpAny_storeName_local hk J (λh' K f=>?_) Z;let(oL,_,_,tm,_):=id J;refine h _ #[I.ok,I.os,I.bare,#[λb o e n hb hx=>?_,λb o e n hb hx=>?_,I.base.free,λb o e hx=>?_,I.base.tups,I.base.frzs,I.base.tbls],#[_,K,λj y T g l G=>?_],λy c e=>?_,I.free,I.freeC,λp hp=>?_,tracked #[oL,tm,I.free] f,~~~I.len] #[_,f,.inl rfl]
  ·erw[(f.2 b (xj (xu (x8 e) I.ok.above))).trans (I.base.keep b o e n hb hx)]
  ·let(sl,g):=I.base.slot b o e n hb hx;exact#[sl,(f.2 b (xj (xu (x8 e) I.ok.above))).trans g]
  ·let(N,g):=I.base.there b o e hx;exact#[N,(f.2 b (xj (xu (x8 e) I.ok.above))).trans g]
  ·by_cases w:j=i
   ·subst w;rw[hi]at g;cases g;rw[xk t]at l;cases l;exact#[u,r,.inl #[hk,by simp]]
   ·rw[xi (Ne.symm w)]at l;let(R,P,q):=hl j y T g l G;refine#[R,P,?_];rcases q with ⟨k,e⟩ | ⟨k,c,e,z⟩
    ·refine .inl #[k,?_];have:y≠x:=λe=>w (Y8 hN g (e ▸ hi));simp[this,e]
    ·erw[.inr #[k,c,e,z.sameBut f (cne y c e)]]
  ·let(D,z):=I.cell y c e;exact#[D,z.sameBut f (cne y c e)]
  ·let(e,n,ne,L,d):=I.pin p hp;exact#[(f.2 p.1 ne).trans e,n,ne,L,d]
 ·let F:X.fn x=true:=by grind
  let(c,hc):=I.ok.has x (.inl hk);let(D,z):=I.cell x c hc;erw[wpAny_storeName_cell I.ok.kind hk hc z (λh' B f=>?_)];let(oc,U,Y):=id z;refine h { s with heap:=h' } #[I.ok,I.os,I.bare,#[λb o e n hb hx=>?_,λb o e n hb hx=>?_,I.base.free,λb o e hx=>?_,I.base.tups,I.base.frzs,I.base.tbls],#[m,J.sameBut f (Ne.symm (cne x c hc)),λj y T g l G=>?_],λy C e=>?_,I.free,I.freeC,λp hp=>?_,tracked #[oc,U,I.freeC x c hc] f,~~~I.len] #[c,f,.inr hc]
  ·erw[(f.2 b (xj (xu (x8 e) (I.ok.cab x c F hc)))).trans (I.base.keep b o e n hb hx)]
  ·let(sl,g):=I.base.slot b o e n hb hx;exact#[sl,(f.2 b (xj (xu (x8 e) (I.ok.cab x c F hc)))).trans g]
  ·let(N,g):=I.base.there b o e hx;exact#[N,(f.2 b (xj (xu (x8 e) (I.ok.cab x c F hc)))).trans g]
  ·by_cases w:j=i
   ·subst w;rw[hi]at g;cases g;rw[xk t]at l;cases l;exact#[u,r,.inr #[.inl hk,c,hc,B]]
   ·rw[xi (Ne.symm w)]at l;let(R,P,q):=hl j y T g l G;refine#[R,P,?_];rcases q with q | ⟨k,C,e,z'⟩
    ·erw[.inl q]
    ·refine .inr #[k,C,e,z'.sameBut f ?_];rintro rfl;erw[w (Y8 hN g (I.ok.inj _ _ _ e hc ▸ hi))]
  ·by_cases W:C=c
   ·subst W;exact#[_,B]
   ·let(w2,z2):=I.cell y C e;exact#[w2,z2.sameBut f W]
  ·let(e,n,ne,L,d):=I.pin p hp;refine#[(f.2 p.1 ?_).trans e,n,ne,L,d];intro q;rw[q,U]at e;let q':=Option.some.inj e;exact d D (by rw[<- q'];exact Y)
def Qw{M:Model}{A:Around}{E:Af}{i:Nat}{x:Str}{v:V}{u:Aj}{Q:Unit->Am->Prop}(I:Inv X pins O H s)(hN:X.N.Nodup)(hi:X.N[i]?\x)(hx:Loc X.env.scope x)(r:RelV v u)
  (h:∀ c,Inv X pins (O.set i (some v)) H c->Q () c) (hf:X.fn x=true∨X.env.scope.names.lookup x\.local:=by first | exact .inl rfl | exact .inr rfl | assumption):wpAny M A (storeName X.env x u) Q E s :=
 wm I hN hi hx r (λc a _=>h c a) hf
def Inv.call'(I:Inv X pins O H s)(ho:s'.os=s.os)(u:Un (frs X.stack) ch H H' s.heap s'.heap)(hok:HOk X.prog X.w H' s'.heap)(hg:AllBare s'.gens)
  (i:∀ b∈ch,(b∈X.ex∨X.s₀.heap.objs.size<=b)/\b≠X.env.locals/\(∀ x c,X.env.cells.lookup x\c->c≠b)/\∀ p∈X.pn++pins,p.1≠b):Inv X pins O H' s':=by
 let(h',d,a,g,f):=s';let e:=ho;subst e;erw[I.call u hok hg i]
end
abbrev XK:=Aj->Option Ap->Hp->Prop
abbrev St:=List (Option V)
abbrev VK:=V->Hp->Prop
abbrev TE:=St->Hp->VK->Prop
abbrev TT:=St->Hp->(Bool->Hp->Prop)->Prop
abbrev TA:=St->Hp->(List V->Hp->Prop)->Prop
structure Zz where
 nx:St->Hp->Prop
 rt:VK
 bk:St->Hp->Prop:=λ_ _=>False
 ct:St->Hp->Prop:=λ_ _=>False
abbrev TS:=Zz->St->Hp->Prop
def EP(X:Cx)(pins:Ak)(O:St)(Q:VK)(u:Aj)(c:Am):=∃ v a,Inv X pins O a c/\RelV v u/\Q v a
def TP(X:Cx)(pins:Ak)(O:St)(Q:Bool->Hp->Prop)(b:Bool)(c:Am):=∃ a,Inv X pins O a c/\Q b a
def AP(X:Cx)(pins:Ak)(O:St)(Q:List V->Hp->Prop)(us:An)(c:Am):=∃ b a,Inv X pins O a c/\Vals b us/\Q b a
def SP(X:Cx)(pins:Ak)(D:Zz)(f:Flow)(c:Am):Prop :=
 match f with|.next=>∃ b a,Inv X pins b a c/\D.nx b a|.brk=>∃ b a,Inv X pins b a c/\D.bk b a|.cont=>∃ b a,Inv X pins b a c/\D.ct b a|.ret u=>∃ v b a,Inv X pins b a c/\RelV v u/\D.rt v a
def PE(X:Cx)(e:Expr)(t:TE):Prop :=
 ∀(pins:Ak)(s:Am)(O:St)(H:Hp)(Q:VK),Inv X pins O H s->t O H Q->∅ (eval e X.env) (EP X pins O Q) X.xe s
def PT(X:Cx)(e:Expr)(t:TT):Prop :=
 ∀(pins:Ak)(s:Am)(O:St)(H:Hp)(Q:Bool->Hp->Prop),Inv X pins O H s->t O H Q->∅ (isTrue e X.env (eval e X.env)) (TP X pins O Q) X.xe s
def PW(X:Cx)(e:Expr)(t:TT):Prop :=
 ∀(whole:Sem Aj)(pins:Ak)(s:Am)(O:St)(H:Hp)(Q:Bool->Hp->Prop),Inv X pins O H s->t O H Q->∅ (isTrue e X.env whole) (TP X pins O Q) X.xe s
def PA(X:Cx)(c:Ag)(t:TA):Prop :=
 ∀(pos:Pos)(pins:Ak)(s:Am)(O:St)(H:Hp)(Q:List V->Hp->Prop),Inv X pins O H s->t O H Q->∅ (spliced (backTo pos (starEach c X.env))) (AP X pins O Q) X.xe s
def PS(X:Cx)(st:Stmt)(t:TS):Prop :=
 ∀(pins:Ak)(s:Am)(O:St)(H:Hp)(D:Zz),Inv X pins O H s->t D O H->∅ (exec st X.env) (SP X pins D) X.xe s
def PSs(X:Cx)(st:List Stmt)(t:TS):Prop :=
 ∀(pins:Ak)(s:Am)(O:St)(H:Hp)(D:Zz),Inv X pins O H s->t D O H->∅ (execs st X.env) (SP X pins D) X.xe s
def thn{α:Type}{t:Sem α}{Q c:α->Am->Prop}{M:Model}{A:Around}{E:Af}{s:Am}(h:wpAny M A t Q E s)(l:∀ a s,Q a s->c a s):wpAny M A t c E s:=Xe h l λ_ _ x=>x
section
variable {X:Cx}
def zmR(i:Nat):TE:=λO H Q=>∃ v,O[i]?\(some v)/\Q v H
def tC(v:V):TE:=λ_ H Q=>Q v H
def qG (hN:X.N[i]?\x) (hv:Vis X.env.scope x) (hd:(↥x):=by decide) (hcd:(x==("__classdict__" :Str))=false:=by decide):PE X (.Name x pos) (zmR i):=by
 cbv;let(v,e,h):=h;let(m,b,hl):=I.loc;let(u,r,l):=hl i x v hN e hv;let fin:EP X pins O Q u s:=#[v,H,I,r,h];rcases l with ⟨hk,hm⟩ | ⟨hk,c,hc,a⟩
 ·erw[wpAny_Name (wpAny_loadName_local I.ok.kind hk b hm fin) hd]
 ·rcases hk with hk | hk
  ·erw[wpAny_Name (wpAny_loadName_cell I.ok.kind hk hc a fin) hd]
  ·erw[wpAny_Name (wpAny_loadName_free I.ok.kind hk hc a fin hcd) hd]
def pe_int{i j pos}:PE X (.Constant (.int i) j pos) (tC (.int i)):=λ_ _ _ H _ I h=>wpAny_Constant_int #[.int i,H,I.tok _,#[_,rfl],h]
def pe_bl{b j pos}:PE X (.Constant (.bool b) j pos) (tC (.bl b)):=λ_ _ _ H _ I h=>Constant_bool #[.bl b,H,I,rfl,h]
def pe_str{x j pos}:PE X (.Constant (.str x) j pos) (tC (.str x)):=λ_ _ _ H _ I h=>Calls.Constant_str #[.str x,H,I.tok _,#[_,rfl],h]
def Gl(X:Cx)(x:Str):Prop:=X.env.kindOf x\.globalImplicit
def Zt{E:Af}{pins:Ak}{s:Am}{O:St}{H:Hp}{x:Str}{u:Aj}{pos:Pos}{Q:Af}(I:Inv X pins O H s)(hg:Gl X x)(hm:X.mg x\u)(h:Q u s)
  (hd:(↥x):=by decide):∅ (eval (.Name x pos) X.env) Q E s :=
 Calls.Name_function_global I.ok.kind hg (Calls.loadGlobal_global (by rw[I.ok.glob];exact I.mod.glob.keeps I.bk) hm h) hd
def wb{E:Af}{pins:Ak}{s:Am}{O:St}{H:Hp}{x:Str}{u:Aj}{pos:Pos}{Q:Af}(I:Inv X pins O H s)(hg:Gl X x)(hm:X.mg x=none)(hv:bootBuiltins x\u)(h:Q u s)
  (c:x≠ "__name__" :=by decide) (hd:(↥x):=by decide):∅ (eval (.Name x pos) X.env) Q E s:=by
 let(mb,a,b):=I.mod.blt;exact Calls.Name_function_global I.ok.kind hg (Calls.loadGlobal_builtin (by rw[I.ok.glob];exact I.mod.glob.keeps I.bk) hm (by rw[I.ok.blt];exact a.keeps I.bk) ((b x c).trans hv) h) hd
def zaY (hg:Gl X x) (hm:X.mg x\u) (r:RelV v u) (hd:(↥x):=by decide):PE X (.Name x pos) (tC v) :=
 λ_ _ _ H _ I h=>Zt I hg hm #[v,H,I,r,h] hd
variable {a b:Expr}{ta tb:TE}{pos:Pos}
variable {tA tB':TT}{rest:Ag}
def tAnd(t u:TT):TT:=λO H Q=>t O H λc H1=>if c=true then u O H1 Q else Q false H1
def tOr(t u:TT):TT:=λO H Q=>t O H λc H1=>if c=true then Q true H1 else u O H1 Q
def tNot(t:TT):TT:=λO H Q=>t O H λc H1=>Q (!c) H1
def zh2(i:PT X a tA):PW X (.BoolOp .And [a] pos) tA:=by
 intro b pins s O H Q I h;erw[isTrue_and (thn (i pins s O H Q I h) λc s1 e=>?_)];cases c with|true=>erw[isTrue_and_nil e]|false=>erw[e]
def zkM(i:PT X a tA):PW X (.BoolOp .Or [a] pos) tA:=by
 intro b pins s O H Q I h;erw[isTrue_or (thn (i pins s O H Q I h) λc s1 e=>?_)];cases c with|false=>erw[isTrue_or_nil e]|true=>erw[e]
def zkL(i:PT X a tA)(hb:PW X (.BoolOp .And (b::rest) pos) tB'):PW X (.BoolOp .And (a::b::rest) pos) (tAnd tA tB'):=by
 intro f pins s O H Q I h;erw[isTrue_and (thn (i pins s O H _ I h) λc s1 ⟨H1,d,e⟩=>?_)];cases c with|true=>erw[hb f pins s1 O H1 Q d e]|false=>exact#[H1,d,e]
def zmq(i:PT X a tA)(hb:PW X (.BoolOp .Or (b::rest) pos) tB'):PW X (.BoolOp .Or (a::b::rest) pos) (tOr tA tB'):=by
 intro f pins s O H Q I h;erw[isTrue_or (thn (i pins s O H _ I h) λc s1 ⟨H1,d,e⟩=>?_)];cases c with|true=>exact#[H1,d,e]|false=>erw[hb f pins s1 O H1 Q d e]
def zkJ(i:PT X a tA):PT X (.UnaryOp .Not a pos) (tNot tA):=by
 cbv;erw[isTrue_not (i pins s O H (λc H1=>Q (!c) H1) I h)]
def zmJ(ta tb:TE):TE:=λO H Q=>ta O H λx H1=>∃ c,x=.bl c/\if c=true then tb O H1 Q else Q (.bl false) H1
def tOrV(ta tb:TE):TE:=λO H Q=>ta O H λx H1=>∃ c,x=.bl c/\if c=true then Q (.bl true) H1 else tb O H1 Q
def zky{op}(h:PE X a t):PE X (.BoolOp op [a] pos) t:=λpins s O H Q I hw=>BoolOp_one (h pins s O H Q I hw)
def zkx(i:PE X a ta)(hb:PE X (.BoolOp .And (b::rest) pos) tb):PE X (.BoolOp .And (a::b::rest) pos) (zmJ ta tb):=by
 cbv;erw[BoolOp_and (thn (i pins s O H _ I h) λv s1 ⟨x,H1,e,f,d⟩=>?_)];let(c,rfl,d):=d;cases f;erw[Xj ?_];cases c with|true=>erw[hb pins s1 O H1 Q e d]|false=>exact#[.bl false,H1,e,rfl,d]
def zmn(i:PE X a ta)(hb:PE X (.BoolOp .Or (b::rest) pos) tb):PE X (.BoolOp .Or (a::b::rest) pos) (tOrV ta tb):=by
 cbv;erw[BoolOp_or (thn (i pins s O H _ I h) λv s1 ⟨x,H1,e,f,d⟩=>?_)];let(c,rfl,d):=d;cases f;erw[Xj ?_];cases c with|false=>erw[hb pins s1 O H1 Q e d]|true=>exact#[.bl true,H1,e,rfl,d]
def tIf(t:TT)(ta tb:TE):TE:=λO H Q=>t O H λc H1=>if c=true then ta O H1 Q else tb O H1 Q
def zft{c:Expr}(hc:PT X c tA)(i:PE X a ta)(hb:PE X b tb):PE X (.IfExp c a b pos) (tIf tA ta tb):=by
 cbv;erw[wpAny_IfExp (thn (hc pins s O H _ I h) λd s1 ⟨H1,e,f⟩=>?_)];cases d with|true=>erw[i pins s1 O H1 Q e f]|false=>erw[hb pins s1 O H1 Q e f]
end
def SqL(K:Ah)(H:Hp)(a:Ap)(xs:List V):Prop :=
 Rd H a (.lst xs) ∨
  ∃ (o:Obj) (b:Array Aj) (n:Nat),K.lookup a\o/\o.cls=.type "list" /\o.dict=none/\o.data=.seq b n/\b.size<=sizeLine/\Vals xs b.toList
def SqT(K:Ah)(H:Hp)(a:Ap)(xs:List V):Prop :=
 Rd H a (.tup xs) ∨
  ∃ (o:Obj) (b:Array Aj) (n:Nat),K.lookup a\o/\o.cls=.type "tuple" /\o.data=.seq b n/\b.size<=sizeLine/\Vals xs b.toList
def absV:Aj->Option V|.none=>some .non|.bool b=>some (.bl b)|.int i _=>some (.int i)|.str x _=>some (.str x)|.ref a=>some (.ref a)|.type n=>some (.ty n)|_=>none
def RelV.abs(r:RelV x u):absV u\x:=by
 cases x with|non=>cases r;rfl|bl _=>cases r;rfl|int _=>let⟨t,rfl⟩:=r;rfl|str _=>let⟨t,rfl⟩:=r;rfl|ref _=>cases r;rfl|ty _=>cases r;rfl
def RelV.inj{x y:V}{u:Aj}(r:RelV x u)(q:RelV y u):x=y:=Option.some.inj (r.abs.symm.trans q.abs)
def Vals.inj{xs:List V}(r:Vals xs us):∀{c:List V},Vals c us->xs=c:=by
 induction r with
 |nil=>intro _ s;cases s;rfl
 |cons r _ a=>
  intro _ s;cases s with
  |cons b d=>rw[r.inj b,a d]
section
variable {X:Cx}{pins:Ak}{O:St}{H:Hp}{s:Am}{a:Ap}{xs ys:List V}
def SqL.of{K:Ah}(h:H a\(.lst xs)):SqL K H a xs:=.inl (.inl h)
def SqT.of{K:Ah}(h:H a\(.tup xs)):SqT K H a xs:=.inl (.inl h)
def Inv.list(I:Inv X pins O H s)(h:SqL X.K H a xs):∃ l:An,Vals xs l/\PlainL s.heap a l.toArray/\↑xs<=sizeLine:=by
 rcases h with h | ⟨o,l,n,hk,hc,hd,b,c,r⟩
 ·let(z,l,n,r,e):=h.ok I.hok;exact#[l,r,#[_,n,e,rfl,rfl,rfl],z]
 ·refine#[l.toList,r,#[o,n,I.kIn a o hk,hc,hd,~~~b],?_];let e:=↑r;simp only[Array.length_toList]at e;lia
def Inv.tuple(I:Inv X pins O H s)(h:SqT X.K H a xs):∃ l:An,Vals xs l/\IsTup s.heap a l.toArray/\↑xs<=sizeLine:=by
 rcases h with h | ⟨o,l,n,hk,hc,b,c,r⟩
 ·let(z,l,r,p):=h.ok I.hok;exact#[l,r,p,z]
 ·refine#[l.toList,r,#[o,I.kIn a o hk,hc,n,~~~b],?_];let e:=↑r;simp only[Array.length_toList]at e;lia
def Inv.list_inj(I:Inv X pins O H s)(h:SqL X.K H a xs)(i:SqL X.K H a ys):xs=ys:=by
 let(b,r,(o,n,e,_,_,d),_):=I.list h;let(g,j,(l,k,f,_,_,c),_):=I.list i;rw[e]at f;cases f;rw[d]at c;injection c with d1 _
 have:b=g:=by simpa using congrArg Array.toList d1
 subst this;erw[r.inj j]
def Inv.tuple_inj(I:Inv X pins O H s)(h:SqT X.K H a xs)(i:SqT X.K H a ys):xs=ys:=by
 let(b,r,(o,e,_,n,d),_):=I.tuple h;let(g,j,(l,f,_,k,c),_):=I.tuple i;rw[e]at f;cases f;rw[d]at c;injection c with d1 _
 have:b=g:=by simpa using congrArg Array.toList d1
 subst this;erw[r.inj j]
end
abbrev Cx.wish(X:Cx)(E:Af):Cx:={ X with xe:=E,xp:=λ_ _ _=>False }
abbrev Cx.nox(X:Cx):Cx:=X.wish λ_ _=>False
def Cx.Ok.wish{X:Cx}(ok:X.Ok)(E:Af):(X.wish E).Ok :=
 #[ok.mod,ok.kind,ok.glob,ok.blt,ok.above,ok.inj,ok.has,ok.cab,ok.hd,ok.frames,ok.stk,ok.exf,ok.bs,ok.bsz,ok.noex,ok.exfs,ok.funs,ok.frf]
def Cx.Ok.unwish{X:Cx}(ok:(X.wish E).Ok):X.Ok :=
 #[ok.mod,ok.kind,ok.glob,ok.blt,ok.above,ok.inj,ok.has,ok.cab,ok.hd,ok.frames,ok.stk,ok.exf,ok.bs,ok.bsz,ok.noex,ok.exfs,ok.funs,ok.frf]
section
variable {X:Cx}{pins:Ak}{O:St}{H:Hp}{s:Am}{E:Af}
def Inv.wish(I:Inv X pins O H s)(E:Af):Inv (X.wish E) pins O H s:=#[I.ok.wish E,I.os,I.bare,I.base,I.loc,I.cell,I.free,I.freeC,I.pin,I.hok,I.len]
def Inv.unwish(I:Inv (X.wish E) pins O H s):Inv X pins O H s:=#[I.ok.unwish,I.os,I.bare,I.base,I.loc,I.cell,I.free,I.freeC,I.pin,I.hok,I.len]
def SP.unwish(h:SP (X.wish E) pins D f o):SP X pins D f o:=by
 cases f with|next=>let⟨b,a,I,q⟩:=h;exact⟨b,a,I.unwish,q⟩|brk=>let⟨b,a,I,q⟩:=h;exact#[b,a,I.unwish,q]|cont=>let⟨b,a,I,q⟩:=h;exact#[b,a,I.unwish,q]|ret u=>let⟨v,b,a,I,r,q⟩:=h;exact#[v,b,a,I.unwish,r,q]
def PSs.nox{st:List Stmt}(h:PSs X.nox st t):PSs X st t:=λpins s O H D I hw=>
 Xe (h pins s O H D (I.wish _) hw) (λ_ _ q=>q.unwish) λ_ _ z=>False.elim z
end
section
variable {X:Cx}{st:Stmt}{rest:List Stmt}{t u:TS}{e:Expr}{te:TE}{pos:Pos}
def zmO:TS:=λD O H=>D.nx O H
def tSeq(t u:TS):TS:=λD O H=>t { D with nx:=u D } O H
def pss_nil:PSs X [] zmO:=λ_ _ O H _ I h=>wpAny_execs_nil #[O,H,I,h]
def Qt(l:PS X st t)(r:PSs X rest u):PSs X (st::rest) (tSeq t u):=by
 intro pins s O H D I h;erw[wpAny_execs_cons (thn (l pins s O H { D with nx:=u D } I h) λf s1 q=>?_)];cases f with
 |next=>
  let(c,a,b,q):=q;erw[r pins s1 c a D b q]
 |ret v=>erw[q]
 |brk=>erw[q]
 |cont=>erw[q]
def JA(c:PS X st t):PSs X [st] t:=by
 intro pins s O H D I h;erw[wpAny_execs_cons (thn (c pins s O H D I h) λf s1 q=>?_)];cases f with|next=>erw[wpAny_execs_nil q]|ret v=>erw[q]|brk=>erw[q]|cont=>erw[q]
def Inv.quiet{pins:Ak}{O:St}{H:Hp}{s:Am}(I:Inv X pins O H s):interactive X.env=false:=by simp[interactive,I.ok.kind]
def zmN(te:TE):TS:=λD O H=>te O H λ_ H1=>D.nx O H1
def QM(he:PE X e te)(c:swapsWith e none pos.line X.env=pure false:=by rfl):PS X (.Expr e pos) (zmN te):=by
 intro pins s O H D I h;erw[wpAny_Expr_any (thn (he pins s O H _ I h) λv s1 ⟨x,H1,a,d,b⟩=>#[O,H1,a,b]) I.quiet c]
def tRet(te:TE):TS:=λD O H=>te O H D.rt
def zal(he:PE X e te):PS X (.Return (some e) pos) (tRet te):=by
 intro pins s O H D I h;erw[wpAny_Return_some (thn (he pins s O H _ I h) λv s1 ⟨x,H1,a,c,b⟩=>#[x,O,H1,a,c,b])]
def tIfS(c:TT)(t u:TS):TS:=λD O H=>c O H λb H1=>if b=true then t D O H1 else u D O H1
def zmp{c:Expr}{a b:List Stmt}{i:TT}(hc:PT X c i)(l:PSs X a t)(hb:PSs X b u):PS X (.If c a b pos) (tIfS i t u):=by
 intro pins s O H D I h;erw[wpAny_If (thn (hc pins s O H _ I h) λd s1 ⟨H1,e,f⟩=>?_)];cases d with|true=>erw[l pins s1 O H1 D e f]|false=>erw[hb pins s1 O H1 D e f]
end
abbrev TG:=V->St->Hp->(St->Hp->Prop)->Prop
abbrev TGs:=List V->St->Hp->(St->Hp->Prop)->Prop
def PG(X:Cx)(target:Expr)(t:TG):Prop :=
 ∀(pins:Ak)(s:Am)(O:St)(H:Hp)(v:V)(u:Aj)(Q:St->Hp->Prop),Inv X pins O H s->RelV v u->t v O H Q ->
  ∅ (assign target X.env u) (λ_ c=>∃ b a,Inv X pins b a c/\Q b a) X.xe s
def PGs(X:Cx)(i:Ag)(t:TGs):Prop :=
 ∀(pins:Ak)(s:Am)(O:St)(H:Hp)(c:List V)(us:An)(Q:St->Hp->Prop),Inv X pins O H s->Vals c us->t c O H Q ->
  ∅ (assignInOrder ((assignEach i X.env).map (·.2)) us) (λ_ d=>∃ b a,Inv X pins b a d/\Q b a) X.xe s
abbrev zgO:=V->V->V->Hp->(Hp->Prop)->Prop
def zjz(X:Cx)(t:zgO):Prop :=
 ∀(pins:Ak)(s:Am)(O:St)(H:Hp)(o i v:V)(c b u:Aj)(Q:Hp->Prop),Inv X pins O H s->RelV o c->RelV i b->RelV v u->t o i v H Q ->
  ∅ (setItem c b u) (λ_ d=>∃ a,Inv X pins O a d/\Q a) X.xe s
abbrev TIp:=V->V->Hp->VK->Prop
def PIp(X:Cx)(op:Operator)(t:TIp):Prop :=
 ∀(pins:Ak)(s:Am)(O:St)(H:Hp)(x y:V)(v u:Aj)(Q:VK),Inv X pins O H s->RelV x v->RelV y u->t x y H Q ->
  ∅ (inplaceOp op v u) (EP X pins O Q) X.xe s
section
variable {X:Cx}{pos:Pos}
def W0(i:Nat):TG:=λv O H Q=>Q (O.set i (some v)) H
def zaZ(hN:X.N.Nodup)(hi:X.N[i]?\x)(hx:Loc X.env.scope x)(hf:X.fn x=true∨X.env.scope.names.lookup x\.local:=by first | exact .inl rfl | exact .inr rfl | assumption):PG X (.Name x pos) (W0 i):=by
 intro pins s O H v u Q I r h;erw[wpAny_assign_Name (Qw I hN hi hx r (λb a=>#[_,H,a,h]) hf)]
def gNil:TGs:=λa O H Q=>a= []/\Q O H
def zl2(t:TG)(u:TGs):TGs:=λc O H Q=>∃ v r,c=v::r/\t v O H λb a=>u r b a Q
def pgs_nil:PGs X [] gNil:=by
 intro pins s O H a us Q I r h;let(e,h):=h;subst e;cases r;erw[assignInOrder_nil #[O,H,I,h]]
def zfA{e:Expr}{c:Ag}{t:TG}{u:TGs}(i:PG X e t)(l:PGs X c u)
  (o:(assignEach (e::c) X.env).map (·.2)=assign e X.env::(assignEach c X.env).map (·.2):=by rfl):PGs X (e::c) (zl2 t u):=by
 intro pins s O H k us Q I r h;let(v,j,d,h):=h;subst d;cases r with
 |cons r g=>
  rw[o];erw[assignInOrder_cons (thn (i pins s O H _ _ _ I r h) λ_ s1 ⟨b,H1,a,f⟩=>?_)];erw[l pins s1 b H1 _ _ Q a g f]
def gTup(K:Ah)(n:Nat)(t:TGs):TG:=λv O H Q=>∃ a xs,v=.ref a/\SqT K H a xs/\↑xs=n/\t xs O H Q
def zkC{k:Nat}{n:Nat}(hc:X.calm=true)(h:PGs X J t)
  (i:↑(assignEach J X.env)=n:=by rfl) (c:(assignEach J X.env).findIdx? (·.1)=none:=by rfl):PG X (.Tuple J k pos) (gTup X.K n t):=by
 intro pins s O H v u Q I r hw;let(a,xs,g,j,hl,hw):=hw;subst g;cases r;let(m,d,l,q):=I.tuple j;refine assign_Tuple_tuple (I.ok.hd hc) l (by simp[i,<- hl,d.length]) c λp hx=>?_;let f:=I.kept (t':=s.toks) λb o e=>hx b o (xj (x8 e)) e;exact h pins _ O H xs _ Q f (~~~d) hw
def zl5(to c:TE)(t:zgO):TG:=λv O H Q=>to O H λo H1=>c O H1 λi a=>t o i v a λb=>Q O b
def zkB{o i:Expr}{to z:TE}{t:zgO}(ho:PE X o to)(hi:PE X i z)(B:zjz X t)
  (A:∀ v,assign (.Subscript o i pos) X.env v=(do
   let c<-holding [v] (eval o X.env);let l<-holding [v,c] (eval i X.env)
   standAt pos
   holding [v,c,l] (setItem c l v)
   release [v,c,l] []):=by intro _;rfl):PG X (.Subscript o i pos) (zl5 to z t):=by
 intro pins s O H v u Q I r h;rw[A];erw[x5 (Xd (thn (ho pins s O H _ I h) λc s1 ⟨x,H1,d,m,g⟩=>?_))];erw[x5 (Xd (thn (hi pins s1 O H1 _ d g) λl s2 ⟨y,a,e,n,j⟩=>?_))];erw[x5 (wpAny_standAt (x5 (Xd (thn (B pins s2 O a x y v c l u _ e m n r j) λ_ s3 ⟨b,f,k⟩=>?_))))];erw[wpAny_release #[O,b,f,k]]
def Yn(c:TE)(g:TG):TS:=λD O H=>c O H λx H1=>g x O H1 D.nx
def zak{c e:Expr}{l:TE}{g:TG}(he:PE X e l)(hg:PG X c g)(r:swapsWithSole [c] e pos.line X.env=pure false:=by rfl)(hw:swappedStores [c] e X.env=pure none:=by rfl)
    (o:(assignEach [c] X.env).map (·.2)= [assign c X.env]:=by rfl):PS X (.Assign [c] e pos) (Yn l g):=by
  intro pins s O H D I h;erw[wpAny_Assign_stores (thn (he pins s O H _ I h) λv s1 ⟨x,H1,a,d,b⟩=>?_) r hw];rw[o];erw[thn (hg pins s1 O H1 x v _ a d b) λ_ s2 q=>q]
def wg{i:Nat}{x:Str}{e:Expr}{c:TE}{pos':Pos}(hN:X.N.Nodup)(hi:X.N[i]?\x)(hx:Loc X.env.scope x)(he:PE X e c)(l:swapsWith e (some (.Name x pos')) pos.line X.env=pure false:=by rfl)(hf:X.fn x=true∨X.env.scope.names.lookup x\.local:=by first | exact .inl rfl | exact .inr rfl | assumption) :
    PS X (.Assign [.Name x pos'] e pos) (Yn c (W0 i)):=by
  intro pins s O H D I h;erw[wpAny_Assign_Name (thn (he pins s O H _ I h) λv s1 ⟨y,H1,a,f,d⟩=>?_) l];erw[Qw a hN hi hx f (λs2 b=>#[_,H1,b,d]) hf]
def tAug(i:Nat)(c:TE)(l:TIp):TS:=λD O H=>∃ x,O[i]?\(some x)/\c O H λy H1=>l x y H1 λz a=>D.nx (O.set i (some z)) a
def zkH{i:Nat}{x:Str}{e:Expr}{o:TE}{op:Operator}{A:TIp}{pos':Pos}(hN:X.N.Nodup)(hi:X.N[i]?\x)(hx:Loc X.env.scope x)(he:PE X e o)(ho:PIp X op A)(hf:X.fn x=true∨X.env.scope.names.lookup x\.local:=by first | exact .inl rfl | exact .inr rfl | assumption) :
    PS X (.AugAssign (.Name x pos') op e pos) (tAug i o A):=by
  intro pins s O H D I h;let(v,p,h):=h;let(m,q,hl):=I.loc;let vis:Vis X.env.scope x:=by rcases hx with k | k;exact .inl k;exact .inr (.inl k)
  let(u,r,l):=hl i x v hi p vis;erw[wpAny_AugAssign_Name ?_];let go:∅ (eval e X.env) (λw a=>∅ (inplaceOp op u w) (λr b=>∅ (storeName X.env x r) (λ_=>SP X pins D .next) X.xe b) X.xe a) X.xe s:=by
    erw[thn (he pins s O H _ I h) λw s1 ⟨y,H1,f,C,t⟩=>?_];erw[thn (ho pins s1 O H1 v y u w _ f r C t) λz s2 ⟨F,d,g,E,B⟩=>?_];erw[Qw g hN hi hx E (λs3 j=>#[_,d,j,B]) hf]
  rcases l with ⟨hk,hm⟩ | ⟨hk,c,hc,n⟩
  · exact wpAny_loadName_local I.ok.kind hk q hm go
  · rcases hk with hk | hk
    · exact wpAny_loadName_cell I.ok.kind hk hc n go
    · rcases hx with k | k
      · have : X.env.scope.names.lookup x = some .free := hk
        rw[k]at this;cases this
      · have : X.env.scope.names.lookup x = some .free := hk
        rw[k]at this;cases this
end
structure It where
 go:Nat->Hp->Prop
 yld:Nat->Hp->V->Hp->Prop
 stop:Nat->Hp->Prop
def Jo(X:Cx)(pins:Ak)(H:Hp)(b:Ap):Prop :=
 H b=none/\b≠X.env.locals/\b∉X.fs/\(b∈X.ex∨X.s₀.heap.objs.size<=b)/\(∀ x c,X.env.cells.lookup x\c->c≠b)/\∀ p∈X.pn++pins,p.1≠b
def Inv.fpOk{X:Cx}{pins:Ak}{O:St}{H i:Hp}{s:Am}{b:Ap}(I:Inv X pins O H s)(hb:⇑s<=b)(l:i b=none):Jo X pins i b:=by
 refine#[l,pi (xu I.lt hb),I.nofs hb,.inr (xK I.sz hb),λx c e z=>?_,λp hp z=>?_]
 ·let(v,q):=I.cell x c e;exact absurd (xu q.lt (by rw[z];exact hb)) (ua _)
 ·exact absurd (xu (x8 (I.pin p hp).1) (by rw[z];exact hb)) (ua _)
structure Wr(P:Ar)(w:World)(K:Ah)(tg:Expr)(J:It)(fp:List Ap)(it:Ap)(tn:Nat->Heap->Prop):Prop where
 mem:it∈fp
 obj:∀ i h,tn i h->∀ b∈fp,∃ o,h.get? b\o/\∀ v,o.data≠ .cell v
 keep:∀ i h h',tn i h->(∀ b∈fp,∀ o,h.get? b\o->h'.get? b\o)->tn i h'
 item:∀(X:Cx),X.prog=P->X.w=w->X.K=K->X.calm=true->∀(i:Nat)(pins:Ak)(s:Am)(O:St)(H:Hp)(E:Af),Inv X pins O H s->(∀ b∈fp,Jo X pins H b)->tn i s.heap->J.go i H ->
  wpAny (model P w) X.A (pyNext (.ref it)) (λr s1=>∃ u,r\u /\
   wpAny (model P w) X.A (letOwnedTupleGo tg (.ref it) u) (λ_ s2=>∃ x H',Inv X pins O H' s2/\RelV x u/\J.yld i H x H'/\tn (i+1) s2.heap/\∀ b∈fp,H' b=none) E s1) E s
 done:∀(X:Cx),X.prog=P->X.w=w->X.K=K->X.calm=true->∀(i:Nat)(pins:Ak)(s:Am)(O:St)(H:Hp)(E:Af),Inv X pins O H s->(∀ b∈fp,Jo X pins H b)->tn i s.heap->J.stop i H ->
  wpAny (model P w) X.A (pyNext (.ref it)) (λr s1=>r=none/\Inv X pins O H s1) E s
 self:∀(A:Around)(i:Nat)(s:Am)(Q:Af)(E:Af),tn i s.heap->Q (.ref it) s->wpAny (model P w) A (pyIter (.ref it)) Q E s
abbrev TI:=St->Hp->(It->Hp->Prop)->Prop
def PIE(X:Cx)(pins:Ak)(O:St)(l:Expr)(R:It->Hp->Prop)(i:Aj)(s2:Am):Prop :=
 ∃(it:Ap)(c:List Ap)(d:Nat->Heap->Prop)(J:It)(a:Hp),i=.ref it/\Inv X pins O a s2/\Wr X.prog X.w X.K l J c it d/\d 0 s2.heap/\(∀ b∈c,Jo X pins a b)/\R J a
def PI(X:Cx)(c iter:Expr)(wi:TI):Prop :=
 ∀(pins:Ak)(s:Am)(O:St)(H:Hp)(R:It->Hp->Prop),Inv X pins O H s->wi O H R ->
  ∅ (eval iter X.env) (λv s1=>∅ (pyIter v) (PIE X pins O c R) X.xe s1) X.xe s
def YS{M:Model}{A:Around}{E:Af}{i:Expr}{u:Aj}{Q:Unit->Am->Prop}(ho:s.heap.get? it\o)(hc:o.cls=.type n)(hd:o.data=.fields I)
    (l: ["enumerate","zip","dict_itemiterator","dict_reverseitemiterator","odict_iterator","itertools.zip_longest","itertools.pairwise"].contains n=false) (c:Q () s):wpAny M A (letOwnedTupleGo i (.ref it) u) Q E s:=by
  unfold letOwnedTupleGo;cases i<;>first
    |exact x9 c
    | (cases u<;>first
        |exact x9 c
        | (refine x5 (wpAny_load ho ?_)
           rw[hc,hd];show wpAny M A (if (["enumerate","zip","dict_itemiterator","dict_reverseitemiterator","odict_iterator","itertools.zip_longest","itertools.pairwise"].contains n&&I[0]?==some (rawInt _))=true then _ else _) Q E s;rw[if_neg (by intro h;rw[l,Bool.false_and]at h;cases h)];exact x9 c))
def Itl(K:Ah)(a:Ap):It :=
 #[λi H=>∃ xs x,SqL K H a xs/\xs[i]?\x,λi H x b=>b=H/\∀ xs,SqL K H a xs->xs[i]?\x,λi H=>∃ xs,SqL K H a xs/\↑xs<=i]
def Itt(K:Ah)(a:Ap):It :=
 #[λi H=>∃ xs x,SqT K H a xs/\xs[i]?\x,λi H x b=>b=H/\∀ xs,SqT K H a xs->xs[i]?\x,λi H=>∃ xs,SqT K H a xs/\↑xs<=i]
def Itr(lo:Int)(n:Nat):It:=#[λi _=>i<n,λi H x a=>a=H/\x=.int (lo+i),λi _=>n<=i]
def zdb{P:Ar}{w:World}{K:Ah}{G:Expr}(a it:Ap):Wr P w K G (Itl K a) [it] it (λi h=>h.IsListIter it a i) where
 mem:=by simp
 obj:=λi h st b hb=>by
  let e:b=it:= ~~~hb;subst e;let(o,e,c,d):=st;exact#[o,e,λv z=>by rw[d]at z;cases z]
 keep:=λi h r st k=>st.at λo e=>k it (by simp) o e
 item:=by
  intro X l hw hK hc i pins s O H E I hf st hg;subst l hw hK;let(xs,x,f,hx):=hg;let(m,n,p,C):=I.list f;let(u,A,D):=n.get hx;let(f0,f1,f2,g,f4,j):=hf it (by simp);refine wpAny_pyNext_list_item st p.isList (x:=u) (~~~A) λr q F=>?_;let t:=I.turned (t':=s.toks) (λb o hb e=>(F.2 b hb).trans e) f0 f1 g f4 j;let(o,e,c,d):=id q;exact#[u,rfl,YS e c d (by decide) #[x,H,t,D,#[rfl,λJ B=>by rw[I.list_inj B f];exact hx],q,λb hb=>(hf b hb).1]]
 done:=by
  intro X l hw hK hc i pins s O H E I hf st hg;subst l hw hK;let(xs,f,hx):=hg;let(m,n,p,C):=I.list f;let(f0,f1,f2,g,f4,j):=hf it (by simp);let hl:=↑n;exact wpAny_pyNext_list_end (I.ok.hd hc) st p.isList (by simp;lia) λr y=>#[rfl,I.turned (t':=s.toks) (λb o hb e=>y b o hb e) f0 f1 g f4 j]
 self:=λ_ _ _ _ _ st h=>wpAny_pyIter_listiter st h
def zax{P:Ar}{w:World}{K:Ah}{G:Expr}(a it:Ap):Wr P w K G (Itt K a) [it] it (λi h=>h.IsTupleIter it a i) where
 mem:=by simp
 obj:=λi h st b hb=>by
  let e:b=it:= ~~~hb;subst e;let(o,e,c,d):=st;exact#[o,e,λv z=>by rw[d]at z;cases z]
 keep:=λi h r st k=>st.at λo e=>k it (by simp) o e
 item:=by
  intro X m hw hK hc i pins s O H E I hf st hg;subst m hw hK;let(xs,x,g,hx):=hg;let(f,n,p,C):=I.tuple g;let(u,A,D):=n.get hx;let(f0,f1,f2,j,f4,l):=hf it (by simp);refine wpAny_pyNext_tuple_item st (show s.heap.IsTuple a f.toArray from p) (x:=u) (~~~A) λr q F=>?_;let t:=I.turned (t':=s.toks) (λb o hb e=>(F.2 b hb).trans e) f0 f1 j f4 l;let(o,e,c,d):=id q;exact#[u,rfl,YS e c d (by decide) #[x,H,t,D,#[rfl,λJ B=>by rw[I.tuple_inj B g];exact hx],q,λb hb=>(hf b hb).1]]
 done:=by
  intro X m hw hK hc i pins s O H E I hf st hg;subst m hw hK;let(xs,g,hx):=hg;let(f,n,p,C):=I.tuple g;let(f0,f1,f2,j,f4,l):=hf it (by simp);let hl:=↑n;exact wpAny_pyNext_tuple_end (I.ok.hd hc) st (show s.heap.IsTuple a f.toArray from p) (by simp;lia) λr y=>#[rfl,I.turned (t':=s.toks) (λb o hb e=>y b o hb e) f0 f1 j f4 l]
 self:=λ_ _ _ _ _ st h=>wpAny_pyIter_tupleiter st h
def zaw{w:World}{K:Ah}(it:Ap)(lo:Int)(n:Nat):Wr P w K J (Itr lo n) [it] it (λi h=>IsRangeIter h it (lo+(i:Nat)*1) ((n:Int)-(i:Nat)) 1) where
 mem:=by simp
 obj:=λi h st b hb=>by
  let e:b=it:= ~~~hb;subst e;exact⟨_,st,λv z=>by
   let q:Data.fields _=Data.cell v:=z;cases q⟩
 keep:=λi h a st k=>k it (by simp) _ st
 item:=by
  intro X f hw hK hc i pins s O H E I hf st hg;subst f hw hK;let(f0,f1,f2,c,f4,d):=hf it (by simp);let W:=Walks.range (prog:=X.prog) (w:=X.w) (I.ok.hd hc) it lo 1 n;erw[W.item i s _ _ hg st λv a j hv g p=>?_];let(t,rfl):=hv;let l:Inv X pins O H { s with heap:=a,toks:=j }:=I.turned (λb o hb e=>p b o (~~~hb) e) f0 f1 c f4 d;refine#[_,rfl,YS (s:={ s with heap:=a,toks:=j }) (n:= "range_iterator") g rfl rfl (by decide) #[.int (lo+i),H,l,#[t,?_],#[rfl,rfl],g,λb hb=>(hf b hb).1]];rw[Int.mul_one]
 done:=by
  intro X f hw hK hc i pins s O H E I hf st hg;subst f hw hK;let(f0,f1,f2,c,f4,d):=hf it (by simp);exact wpAny_pyNext_range_end (I.ok.hd hc) st (by have:n<=i:=hg;lia) λa m=>#[rfl,I.turned (t':=s.toks) (λb o hb e=>m b o hb e) f0 f1 c f4 d]
 self:=λ_ _ _ _ _ st h=>wpAny_pyIter_rangeiter st h
section
variable {X:Cx}{tg:Expr}
def zl9(K:Ah)(c:TE):TI:=λO H R=>c O H λx H1=>∃ a,x=.ref a/\(∃ xs,SqL K H1 a xs)/\R (Itl K a) H1
def iTup(K:Ah)(c:TE):TI:=λO H R=>c O H λx H1=>∃ a,x=.ref a/\(∃ xs,SqT K H1 a xs)/\R (Itt K a) H1
def y9{l:Expr}{r:TE}(hl:PE X l r):PI X tg l (zl9 X.K r):=by
 intro pins s O H R I h;erw[thn (hl pins s O H _ I h) λv s1 ⟨x,H1,c,i,g⟩=>?_];let(a,e,(xs,d),q):=g;subst e;cases i;let(f,k,p,j):=c.list d;erw[wpAny_pyIter_list p.isList ?_];refine#[⇑s1,[⇑s1],_,_,H1,rfl,c.kept λb o e=>x6 _ e,zdb a _,#[_,Xa _ rfl,rfl,rfl],λb hb=>?_,q];let e:b=⇑s1:= ~~~hb;subst e;erw[c.fpOk (xh _) (c.hok.fresh (xh _))]
def zkD{l:Expr}{i:TE}(hl:PE X l i):PI X tg l (iTup X.K i):=by
 intro pins s O H R I h;erw[thn (hl pins s O H _ I h) λv s1 ⟨x,H1,c,j,g⟩=>?_];let(a,e,(xs,f),q):=g;subst e;cases j;let(d,m,p,k):=c.tuple f;erw[wpAny_pyIter_tuple (show s1.heap.IsTuple a d.toArray from p) ?_];refine#[⇑s1,[⇑s1],_,_,H1,rfl,c.kept λb o e=>x6 _ e,zax a _,#[_,Xa _ rfl,rfl,rfl],λb hb=>?_,q];let e:b=⇑s1:= ~~~hb;subst e;erw[c.fpOk (xh _) (c.hok.fresh (xh _))]
def zfP{pins:Ak}{O:St}{H:Hp}{s:Am}{R:It->Hp->Prop}{E:Af}{lo hi:Int}{t u v:Tok}{c:Nat}(I:Inv X pins O H s)(i: -(2 ^ 62)<=lo)(l:lo<2 ^ 62)(r: -(2 ^ 62)<=hi)(y:hi<2 ^ 62)
  (q:R (Itr lo (hi-lo).toNat) H):∅ (pyIter (.ref ⇑s)) (PIE X pins O tg R) E { s with heap:=s.heap.push { cls:=.type "range",data:=.fields (List.toArray [.int lo t,.int hi u,.int 1 v]) },toks:=c }:=by
 erw[wpAny_pyIter_range (IsRange.new ..) (small_one i l r y) ?_];let a:Inv X pins O H { s with heap:=s.heap.push { cls:=.type "range",data:=.fields (List.toArray [.int lo t,.int hi u,.int 1 v]) },toks:=c }:=I.kept λb o e=>x6 _ e;refine⟨(s.heap.push { cls:=.type "range",data:=.fields (List.toArray [.int lo t,.int hi u,.int 1 v]) }).objs.size,[(s.heap.push { cls:=.type "range",data:=.fields (List.toArray [.int lo t,.int hi u,.int 1 v]) }).objs.size],_,_,H,rfl,
  a.kept λb o e=>x6 _ e,zaw _ lo (hi-lo).toNat,?_,λb hb=>?_,q⟩
 ·let d:lo+((0:Nat):Int)*1=lo:=by simp
  let f:(((hi-lo).toNat:Nat):Int)-((0:Nat):Int)=Builtin.Range.rangeSize lo hi 1:=by rw[rangeSize_one];split<;>lia
  rw[d,f];erw[Xa _ rfl]
 ·let e:b=(s.heap.push { cls:=.type "range",data:=.fields (List.toArray [.int lo t,.int hi u,.int 1 v]) }).objs.size:= ~~~hb;subst e;erw[a.fpOk (xh _) (a.hok.fresh (xh _))]
def zma(c:TA):TI:=λO H R=>c O H λa H1=>∃ j:Int,a= [.int j]/\ -(2 ^ 62)<=j/\j<2 ^ 62/\R (Itr 0 j.toNat) H1
def zcN {a:Expr}{c:TA}{p pos:Pos}(hg:Gl X "range") (hm:X.mg "range" =none) (i:PA X [a] c) (l:a⁻¹:=by rfl):PI X tg (.Call (.Name "range" p) [a] [] pos) (zma c):=by
 intro pins s O H R I h;erw[Call_ (wb I hg hm boot_range (PyProof.Rows.callWith_type1 (thn (i pos pins s O H _ I h) λus s1 ⟨m,H1,d,g,b⟩=>?_) l rfl))];let(j,e,b,f,q):=b;subst e;cases g with
 |cons r k=>
  cases k;let(t,rfl):=r;exact call_range_1 (zfP d (by lia) (by lia) b f (~~~q))
def tFor(wi:TI)(g:TG)(l:TS):TS:=λD O H=>wi O H λJ H1=>∃ W:Nat->Nat->St->Hp->Prop,(∃ m,W 0 m O H1)/\∀ i m O H,W i m O H ->
 (J.stop i H/\D.nx O H)∨(J.go i H/\∃ N:St->Hp->Prop,(∀ b a,N b a->∃ c,c<m/\W (i+1) c b a)/\∀ x a,J.yld i H x a->g x O a λe d=>l { D with nx:=N,ct:=N,bk:=D.nx } e d)
def vz(c:List Ap)(h:Heap):Ak:=c.filterMap λb=>(h.get? b).map λo=>(b,o)
def Zj{fp:List Ap}{h:Heap}{b:Ap}{o:Obj}(hb:b∈fp)(e:h.get? b\o):(b,o)∈vz fp h:=uI.mpr #[b,hb,by rw[e];rfl]
def zcI(hp:p∈vz I h):p.1∈I/\h.get? p.1\p.2:=by
 let(b,hb,e):=uI.mp hp;cases q:h.get? b with
 |none=>rw[q]at e;cases e
 |some o=>
  rw[q]at e;let a:=Option.some.inj e;subst a;exact#[hb,q]
def Inv.pinned{pins:Ak}{O:St}{H:Hp}{s:Am}{fp:List Ap}(I:Inv X pins O H s)(hf:∀ b∈fp,Jo X pins H b)(ho:∀ b∈fp,∃ o,s.heap.get? b\o/\∀ v,o.data≠ .cell v):Inv X (pins++vz fp s.heap) O H s :=
 I.pins_of λp hp=>(xJ.mp hp).elim (λz=>I.pin p (xE _ z)) λz=>by
  let(hb,e):=zcI z;let(f0,f1,f2,_):=hf p.1 hb;let(o,a,d):=ho p.1 hb;rw[e]at a;cases a;exact#[e,f0,f1,f2,d]
def Inv.unpinned{pins c:Ak}{O:St}{H:Hp}{s:Am}(I:Inv X (pins++c) O H s):Inv X pins O H s:=I.pins_of λp hp=>I.pin p (xE _ (xU _ hp))
def zfJ{iter:Expr}{body:List Stmt}{wi:TI}{g:TG}{P:TS}{pos:Pos}(hp:PassesOwn (model X.prog X.w) X.A X.env X.xe)(hc:X.calm=true)(hi:PI X tg iter wi)(hg:PG X tg g)(hb:PSs X body P)
  (hs:∀ x,foldedSetIterable iter X.env x=pure x:=by intro _;rfl):PS X (.For tg iter body [] pos) (tFor wi g P):=by
 intro pins s O H D I h;erw[wpAny_For (thn (hi pins s O H _ I h) λv s1 h1=>thn h1 λou s2 h2=>?_) hs];let(it,t,Q,J,S,e,V,T,cg,f2,W,(m0,w0),turn):=h2;subst e;let C:∀{k:Hp},(∀ b∈t,k b=none)->∀ b∈t,Jo X pins k b:=λhn b hb=>#[hn b hb,(f2 b hb).2];erw[codeAny_forLoop_any (λn M=>∃ i p k,Inv X pins p k M/\Q i M.heap/\(∀ b∈t,k b=none)/\W i n p k) ?_ m0 #[0,O,S,V,cg,λb hb=>(f2 b hb).1,w0]];rintro n s3 ⟨i,q,y,G,L,K,w3⟩;rcases turn i n q y w3 with ⟨stop,qn⟩ | ⟨go,N,hN,step⟩
 ·refine wpAny_passesOwn hp (thn (T.done X rfl rfl rfl hc i pins s3 q y X.xe G (C K) L stop) λr s4 ⟨A,Y⟩=>?_);subst A;erw[wpAny_execs_nil #[q,y,Y,qn]]
 ·refine wpAny_passesOwn hp (thn (T.item X rfl rfl rfl hc i pins s3 q y X.xe G (C K) L go) λr s4 ⟨u,A,h4⟩=>?_);subst A;erw[wpAny_passesOwn hp (thn h4 λ_ s5 ⟨x,F,Z,r5,y5,B,R⟩=>?_)];let z:=Z.pinned (C R) (T.obj _ _ B);erw[wpAny_passesOwn hp (thn (hg _ s5 q F x u _ z r5 (step x F y5)) λ_ s6 ⟨O6,U,I6,q6⟩=>?_)];erw[wpAny_passesOwn hp (thn (hb _ s6 O6 U _ I6 q6) λf E l=>?_)];let again:∀{j:St}{a:Hp},Inv X (pins++vz t s5.heap) j a E->N j a->∃ m,m<n/\∃ i p k,Inv X pins p k E/\Q i E.heap/\(∀ b∈t,k b=none)/\W i m p k:=λ{j a} c w=>by
   let(m',hm,w7):=hN j a w;refine#[m',hm,i+1,j,a,c.unpinned,T.keep _ _ _ B λb hb o e=>(c.pin (b,o) (xE _ (xE _ (Zj hb e)))).1,λb hb=>?_,w7];let(o,e,d):=T.obj _ _ B b hb;erw[(c.pin (b,o) (xE _ (xE _ (Zj hb e)))).2.1]
  cases f with|next=>let⟨j,a,c,w⟩:=l;exact again c w|cont=>let⟨j,a,c,w⟩:=l;exact again c w|brk=>let⟨j,a,c,l⟩:=l;exact#[j,a,c.unpinned,l]|ret v=>let⟨x7,j,a,c,r7,l⟩:=l;exact#[x7,j,a,c.unpinned,r7,l]
end
def zeK{K:Ah}{g:TG}{z:TS}{D:Zz}{O:St}{H:Hp}(Pv:Nat->St->Hp->Prop)(h0:Pv 0 O H)(hl:∀ i O H,i<=↑xs->Pv i O H->SqL K H a xs)
  (A:∀ i x O H,xs[i]?\x->Pv i O H->g x O H λs l=>z { D with nx:=Pv (i+1),ct:=Pv (i+1),bk:=D.nx } s l) (hd:∀ O H,Pv ↑xs O H->D.nx O H) :
  ∃ W:Nat->Nat->St->Hp->Prop,(∃ m,W 0 m O H)/\∀ i m O H,W i m O H ->
   ((Itl K a).stop i H/\D.nx O H)∨((Itl K a).go i H/\∃ N:St->Hp->Prop,(∀ r c,N r c->∃ v,v<m/\W (i+1) v r c)/\∀ x c,(Itl K a).yld i H x c->g x O c λs l=>z { D with nx:=N,ct:=N,bk:=D.nx } s l):=by
 refine#[λi m O H=>m=↑xs-i/\i<=↑xs/\Pv i O H,#[↑xs,by simp,xY _,h0],?_];rintro i m O H ⟨rfl,hi,p⟩;let q:=hl i O H hi p;by_cases b:i<↑xs
 ·refine .inr #[#[xs,xs[i],q,by simp[b]],Pv (i+1),λr c d=>#[↑xs-(i+1),by lia,rfl,b,d],λx c y=>?_];let(e,y):=y;subst e;erw[A i x O _ (y xs q) p]
 ·let e:i=↑xs:=by lia
  subst e;erw[.inl #[#[xs,q,xh _],hd O H p]]
abbrev R2:=V->V->Hp->VK->Prop
def OpR(X:Cx)(f:Aj->Aj->Sem Aj)(r:R2):Prop :=
 ∀(pins:Ak)(s:Am)(O:St)(H:Hp)(x y:V)(v u:Aj)(Q:VK),Inv X pins O H s->RelV x v->RelV y u->r x y H Q ->
  ∅ (f v u) (EP X pins O Q) X.xe s
def UnR(X:Cx)(f:Aj->Sem Aj)(r:V->Hp->VK->Prop):Prop :=
 ∀(pins:Ak)(s:Am)(O:St)(H:Hp)(x:V)(v:Aj)(Q:VK),Inv X pins O H s->RelV x v->r x H Q ->
  ∅ (f v) (EP X pins O Q) X.xe s
def j6(X:Cx)(f:Aj)(r:List V->Hp->VK->Prop):Prop :=
 ∀(pins:Ak)(s:Am)(O:St)(H:Hp)(xs:List V)(us:An)(Q:VK),Inv X pins O H s->Vals xs us->r xs H Q ->
  ∅ (call f us) (EP X pins O Q) X.xe s
def TruR(X:Cx)(r:V->Hp->(Bool->Hp->Prop)->Prop):Prop :=
 ∀(pins:Ak)(s:Am)(O:St)(H:Hp)(x:V)(v:Aj)(Q:Bool->Hp->Prop),Inv X pins O H s->RelV x v->r x H Q ->
  ∅ (truthy v) (TP X pins O Q) X.xe s
def tOp(r:R2)(c i:TE):TE:=λO H Q=>c O H λx H1=>i O H1 λy a=>r x y a Q
def tUn(r:V->Hp->VK->Prop)(c:TE):TE:=λO H Q=>c O H λx H1=>r x H1 Q
def rI(C:Int->Int->Prop)(g:Int->Int->V):R2:=λx y H Q=>∃ i j,x=.int i/\y=.int j/\C i j/\Q (g i j) H
def rI0(g:Int->Int->V):R2:=λx y H Q=>∃ i j,x=.int i/\y=.int j/\Q (g i j) H
def rU(g:Int->V):V->Hp->VK->Prop:=λx H Q=>∃ i,x=.int i/\Q (g i) H
section
variable {X:Cx}{a b:Expr}{ta tb:TE}{pos:Pos}
def zjF(o:PE X a ta)(hb:PE X b tb){pins:Ak}{s:Am}{O:St}{H:Hp}{R:V->V->Hp->Prop}(I:Inv X pins O H s)
  (h:ta O H λx H1=>tb O H1 λy c=>R x y c) {Q:Af} {f:Aj->Aj->Sem Aj}
  (hf:∀ v u s2 x y c,Inv X pins O c s2->RelV x v->RelV y u->R x y c->∅ (f v u) Q X.xe s2) :
  ∅ (eval a X.env) (λv i=>∅ (eval b X.env) (λu l=>∅ (f v u) Q X.xe l) X.xe i) X.xe s:=by
 erw[thn (o pins s O H _ I h) λv s1 ⟨x,H1,d,k,g⟩=>?_];erw[thn (hb pins s1 O H1 _ d g) λu s2 ⟨y,c,e,m,j⟩=>?_];erw[hf v u s2 x y c e k m j]
def vt(ho:OpR X (binaryOp op) r)(l:PE X a ta)(hb:PE X b tb):PE X (.BinOp a op b pos) (tOp r ta tb):=by
 cbv;erw[wpAny_BinOp (zjF l hb I h λv u s2 x y c d e f q=>ho pins s2 O c x y v u Q d e f q)]
def zfx{op:UnaryOp}{r:V->Hp->VK->Prop}(ho:UnR X (unaryOp op) r)(c:PE X a ta):PE X (.UnaryOp op a pos) (tUn r ta):=by
 cbv;erw[UnaryOp_ (thn (c pins s O H _ I h) λv s1 ⟨x,H1,b,e,d⟩=>ho pins s1 O H1 x v Q b e d)]
def opI{f:Aj->Aj->Sem Aj}{C:Int->Int->Prop}{g:Int->Int->Int}
  (rule:∀(i j:Int)(t u:Tok)(s:Am)(Q:Af)(E:Af),C i j->Q (.int (g i j) s.toks) { s with toks:=s.toks+1 }->∅ (f (.int i t) (.int j u)) Q E s) :
  OpR X f (rI C λi j=>.int (g i j)):=by
 intro pins s O H x y v u Q I a b h;let(i,j,rfl,rfl,hc,q):=h;let(t,rfl):=a;let(c,rfl):=b;erw[rule i j t c s _ _ hc #[.int (g i j),H,I.tok _,#[_,rfl],q]]
def zkn{f:Aj->Aj->Sem Aj}{g:Int->Int->Int}
  (rule:∀(i j:Int)(t u:Tok)(s:Am)(Q:Af)(E:Af),Q (.int (g i j) s.toks) { s with toks:=s.toks+1 }->∅ (f (.int i t) (.int j u)) Q E s) :
  OpR X f (rI0 λi j=>.int (g i j)):=by
 intro pins s O H x y v u Q I a b h;let(i,j,rfl,rfl,q):=h;let(t,rfl):=a;let(c,rfl):=b;erw[rule i j t c s _ _ #[.int (g i j),H,I.tok _,#[_,rfl],q]]
def zhH{f:Aj->Aj->Sem Aj}{g:Int->Int->Bool}
  (rule:∀(i j:Int)(t u:Tok)(s:Am)(Q:Af)(E:Af),Q (.bool (g i j)) s->∅ (f (.int i t) (.int j u)) Q E s) :
  OpR X f (rI0 λi j=>.bl (g i j)):=by
 intro pins s O H x y v u Q I a b h;let(i,j,rfl,rfl,q):=h;let(t,rfl):=a;let(c,rfl):=b;erw[rule i j t c s _ _ #[.bl (g i j),H,I,rfl,q]]
def CDiv(i j:Int):Prop:=0<j/\j<1073741824
def zlK(i j:Int):Prop:=0<=j/\j<=1000000/\i.natAbs<2 ^ 64
def CMul(i j:Int):Prop:=(-(2 ^ 64)<i/\i<2 ^ 64)∨(-(2 ^ 64)<j/\j<2 ^ 64)
def CMul.ok{i j:Int}(h:CMul i j):IntMulOk i j:=by
 rcases h with ⟨a,b⟩ | ⟨a,b⟩
 ·erw[.of_left (intBits_le_64 a b)]
 ·erw[.of_right (intBits_le_64 a b)]
def zay(k:Nat):(0:Int)<=2 ^ k:=by
 rw[two_pow_cast];erw[Int.natCast_nonneg _]
def zai:OpR X (binaryOp .Add) (rI0 λi j=>.int (i+j)):=zkn λ_ _ _ _ _ _ _ q=>add_int q
def zkw:OpR X (binaryOp .Sub) (rI0 λi j=>.int (i-j)):=zkn λ_ _ _ _ _ _ _ q=>sub_int q
def zfm:OpR X (binaryOp .Mult) (rI CMul λi j=>.int (i*j)):=opI λ_ _ _ _ _ _ _ hc q=>mul_int q hc.ok
def zhJ:OpR X (binaryOp .FloorDiv) (rI CDiv λi j=>.int (i / j)):=opI λi j _ _ _ _ _ hc q=>by
 let a:=hc.1;let b:=hc.2;exact floordiv_int (by lia) (by rw[Int.fdiv_eq_ediv_of_nonneg i (by lia)];exact q) (.inl (PyProof.noPylong_small (by lia)))
def zfl:OpR X (binaryOp .Mod) (rI (λ_ j=>0<j) λi j=>.int (i % j)):=opI λi j _ _ _ _ _ hc q=>by
 let a:=hc;exact mod_int' (by lia) (by rw[Int.fmod_eq_emod_of_nonneg i (by lia)];exact q)
def zks:OpR X (binaryOp .Pow) (rI zlK λi j=>.int (i ^ j.toNat)):=opI λ_ _ _ _ _ _ _ hc q=>pow_int_small hc.1 hc.2.1 hc.2.2 q
def zkt:OpR X (binaryOp .LShift) (rI zlK λi j=>.int (i*2 ^ j.toNat)):=opI λ_ _ _ _ _ _ _ hc q=>lshift_int_small hc.1 hc.2.1 hc.2.2 q
def zku:OpR X (binaryOp .RShift) (rI (λ_ j=>0<=j) λi j=>.int (i / 2 ^ j.toNat)):=opI λi j _ _ _ _ _ hc q=>
 rshift_int hc (by rw[Int.fdiv_eq_ediv_of_nonneg i (zay _)];exact q)
def zko:OpR X (binaryOp .BitAnd) (rI0 λi j=>.int (Builtin.bitAnd i j)):=zkn λ_ _ _ _ _ _ _ q=>and_int q
def unI{f:Aj->Sem Aj}{g:Int->Int}
  (rule:∀(i:Int)(t:Tok)(s:Am)(Q:Af)(E:Af),Q (.int (g i) s.toks) { s with toks:=s.toks+1 }->∅ (f (.int i t)) Q E s) :
  UnR X f (rU λi=>.int (g i)):=by
 intro pins s O H x v Q I a h;let(i,rfl,q):=h;let(t,rfl):=a;erw[rule i t s _ _ #[.int (g i),H,I.tok _,#[_,rfl],q]]
def zgu:UnR X (unaryOp .USub) (rU λi=>.int (-i)):=unI λ_ _ _ _ _ q=>neg_int q
end
section
variable {X:Cx}{a b c:Expr}{ta tb tc:TE}{pos:Pos}
def zeI(I:Inv X pins O H s)(q:Q (.bl k) H)(e:k=o):EP X pins O Q (.bool o) s:=by
 subst e;exact#[.bl k,H,I,rfl,q]
def zmj:OpR X (compareOp .Lt) (rI0 λi j=>.bl (decide (i<j))):=zhH λ_ _ _ _ _ _ _ q=>lt_int q
def zmi:OpR X (compareOp .LtE) (rI0 λi j=>.bl (decide (i<=j))):=zhH λ_ _ _ _ _ _ _ q=>le_int q
def zmh:OpR X (compareOp .Gt) (rI0 λi j=>.bl (decide (j<i))):=zhH λ_ _ _ _ _ _ _ q=>gt_int q
def zmg:OpR X (compareOp .GtE) (rI0 λi j=>.bl (decide (j<=i))):=zhH λ_ _ _ _ _ _ _ q=>ge_int q
def zkr:OpR X (compareOp .Is) (λx y H Q=>y=.non/\Q (.bl (decide (x=.non))) H):=by
 intro pins s O H x y v u Q I a b h;let(rfl,q):=h;cases b;erw[is_none_gen (zeI I q ?_)];cases x<;>first| (cases a;rfl)| (let⟨t,rfl⟩:=a;rfl)
def zhL:OpR X (compareOp .IsNot) (λx y H Q=>y=.non/\Q (.bl (!decide (x=.non))) H):=by
 intro pins s O H x y v u Q I a b h;let(rfl,q):=h;cases b;erw[isnot_none_gen (zeI I q ?_)];cases x<;>first| (cases a;rfl)| (let⟨t,rfl⟩:=a;rfl)
def zhO(ho:OpR X (compareOp op) r)(i:PE X a ta)(hb:PE X b tb)(hm:behindInMarks op b=false):PE X (.Compare a [op] [b] pos) (tOp r ta tb):=by
 cbv;erw[wpAny_Compare1 (zjF i hb I h λv u s2 x y c d e f q=>ho pins s2 O c x y v u Q d e f q) hm]
def zjr(t:TE):TT:=λO H Q=>t O H λx a=>∃ k,x=.bl k/\Q k a
def zh1{op:CmpOp}{r:R2}(ho:OpR X (compareOp op) r)(l:PE X a ta)(hb:PE X b tb)(hm:behindInMarks op b=false):PT X (.Compare a [op] [b] pos) (zjr (tOp r ta tb)):=by
 cbv;refine wpAny_isTrue_Compare1 (thn (l pins s O H _ I h) λv s1 ⟨x,H1,g,p,m⟩=>thn (hb pins s1 O H1 _ g m) λu s2 ⟨y,d,i,q,n⟩=>
  thn (ho pins s2 O d x y v u _ i p q n) λc s3 ⟨z,f,j,t,k,e,o⟩=>?_) hm
 subst e;cases t;erw[Xj #[f,j,o]]
def zar(r i:R2)(ta tb tc:TE):TE:=λO H Q=>ta O H λx H1=>tb O H1 λy b=>r x y b λz a=>∃ k,z=.bl k /\
 (if k=true then tc O a λd c=>i y d c Q else Q (.bl false) a)
def zfn{op i:CmpOp}{r l:R2}(ho:OpR X (compareOp op) r)(A:OpR X (compareOp i) l)(B:PE X a ta)(hb:PE X b tb)(hc:PE X c tc)
  (hm:lastMarks [op,i] [b,c]=false:=by with_unfolding_all rfl):PE X (.Compare a [op,i] [b,c] pos) (zar r l ta tb tc):=by
 cbv;refine Compare_chain (thn (B pins s O H _ I h) λv s1 ⟨x,H1,p,E,w⟩=>chain_link (thn (hb pins s1 O H1 _ p w) λu s2 ⟨y,n,q,m,C⟩=>
  thn (ho pins s2 O n x y v u _ q E m C) λd s3 ⟨z,f,g,F,k,e,j⟩=>?_)) hm
 subst e;cases F;erw[Xj ?_];cases k with|false=>erw[ite_ff #[.bl false,f,g,rfl,j]]|true=>erw[ite_tt (chain_last (thn (hc pins s3 O f _ g j) λJ s4 ⟨K,o,t,G,D⟩=>A pins s4 O o y K u J Q t m G D))]
def zfM{op i:CmpOp}{r l:R2}(ho:OpR X (compareOp op) r)(B:OpR X (compareOp i) l)(E:PE X a ta)(hb:PE X b tb)(hc:PE X c tc)
  (hm:lastMarks [op,i] [b,c]=false:=by with_unfolding_all rfl):PT X (.Compare a [op,i] [b,c] pos) (zjr (zar r l ta tb tc)):=by
 cbv;refine isTrue_chain (thn (E pins s O H _ I h) λv s1 ⟨x,H1,q,M,G⟩=>test_link (thn (hb pins s1 O H1 _ q G) λu s2 ⟨y,n,t,m,J⟩=>
  thn (ho pins s2 O n x y v u _ t M m J) λd s3 ⟨z,f,g,N,k,e,j⟩=>?_)) hm
 subst e;cases N;erw[Xj ?_];cases k with
 |false=>
  let(V,C,F):=j;cases C;erw[ite_ff #[f,g,F]]
 |true=>
  erw[ite_tt (test_last (thn (hc pins s3 O f _ g j) λS s4 ⟨T,o,w,P,K⟩=>thn (B pins s4 O o y T u S _ w m P K) λU s5 ⟨Y,p,A,R,W,D,L⟩=>?_))];subst D;cases R;erw[Xj #[p,A,L]]
def zgP(K:Ah)(x:V)(H:Hp)(k:Bool):Prop :=
 match x with|.non=>k=false|.bl b=>k=b|.int i=>k=(i !=0)|.str y=>↑y<=sizeLine/\k=((↑y:Int) !=0)|.ref p=>(∃ xs,SqL K H p xs/\k= !xs.isEmpty)∨(∃ xs,SqT K H p xs/\k= !xs.isEmpty)∨∃ a,H p\(.dK a)/\k= !a.isEmpty|_=>False
def K8{o:Type}{i:List (o×V)}{l:List (o×Value)}(r:KV i l):(!l.isEmpty)= !i.isEmpty:=by
 cases r<;>rfl
def W9{xs:List V}{i:An}(r:Vals xs i):(!i.toArray.isEmpty)= !xs.isEmpty:=by
 cases r<;>simp
def wc:(sizeLine:Nat)<2 ^ 63:=by rw[Xg];decide
def zgr:TruR X (λx H Q=>∃ k,zgP X.K x H k/\Q k H):=by
 intro pins s O H x v Q I d h;let(k,e,q):=h;let hl:=wc;let o:=Xg;cases x with
 |non=>
  cases d;let a:=e;subst a;erw[truthy_none #[H,I,q]]
 |bl b=>
  cases d;let a:=e;subst a;erw[Xj #[H,I,q]]
 |int i=>
  let(t,rfl):=d;let a:=e;subst a;erw[PySem.P.truthy_int #[H,I,q]]
 |str y=>
  let(t,rfl):=d;obtain⟨u,a⟩:↑y<=sizeLine/\k=((↑y:Int) !=0):=e;subst a;exact PySem.P.truthy_str (by lia) #[H,I.tok _,q]
 |ref p=>
  cases d;let a:=e;rcases a with ⟨xs,hx,a⟩ | ⟨xs,hx,a⟩ | ⟨c,hx,a⟩
  ·subst a;let(f,r,g,l):=I.list hx;let hlen:=↑r;exact wpAny_truthy_list g.isList (by simp only[xm];lia) #[H,I.tok _,by rw[W9 r];exact q]
  ·subst a;let(f,r,g,l):=I.tuple hx;let hlen:=↑r;exact truthy_tuple g (by simp only[xm];lia) #[H,I.tok _,by rw[W9 r];exact q]
  ·subst a;obtain⟨l,n,j,r,m⟩:↑c<=sizeLine/\(p==sysModules)=false/\∃ j,KV c j/\s.heap.DictOf (qv X.prog X.w) p j:=I.hok p _ hx;let hlen:=Paired.length r;exact wpAny_truthy_dict n m (by lia) #[H,I.tok _,by rw[K8 r];exact q]
 |_=>erw[(show False from e).elim]
def km(l:PE X a ta)(he:∀ whole,isTrue a X.env whole=(do let v<-whole;standAt a.pos;holding [v] (truthy v))) :
  PT X a (λO H Q=>ta O H λx i=>∃ k,zgP X.K x i k/\Q k i):=by
 cbv;erw[isTrue_plain (thn (l pins s O H _ I h) λv s1 ⟨x,H1,b,d,c⟩=>zgr pins s1 O H1 x v Q b d c) (he _)]
def Zo(r:Vals [x] us):∃ u,us= [u]/\RelV x u:=by
 cases r with|cons a b=>cases b;exact#[_,rfl,a]
def zgz(r:Vals [x,y] us):∃ u i,us= [u,i]/\RelV x u/\RelV y i:=by
 cases r with
 |cons a b=>
  cases b with
  |cons c d=>cases d;exact#[_,_,rfl,a,c]
def zbx (hc:X.calm=true):j6 X (.builtin "max") (λxs H Q=>∃ i j,xs= [.int i,.int j]/\Q (.int (if j>i then j else i)) H):=by
 intro pins s O H xs us Q I r h;let(i,j,rfl,q):=h;let(u,e,rfl,(t,rfl),(c,rfl)):=zgz r;erw[max_two_ints (I.ok.hd hc) λb d k=>#[_,H,I.kept k,?_,q]];by_cases a:j>i
 ·rw[if_pos a,if_pos a];exact#[_,rfl]
 ·rw[if_neg a,if_neg a];exact#[_,rfl]
def zby (hc:X.calm=true):j6 X (.builtin "min") (λxs H Q=>∃ i j,xs= [.int i,.int j]/\Q (.int (if j<i then j else i)) H):=by
 intro pins s O H xs us Q I r h;let(i,j,rfl,q):=h;let(u,e,rfl,(t,rfl),(c,rfl)):=zgz r;erw[min_two_ints (I.ok.hd hc) λb d k=>#[_,H,I.kept k,?_,q]];by_cases a:j<i
 ·rw[if_pos a,if_pos a];exact#[_,rfl]
 ·rw[if_neg a,if_neg a];exact#[_,rfl]
def VA:j6 X (.type "int") (λxs H Q=>(∃ i,xs= [.int i]/\Q (.int i) H)∨∃ k,xs= [.bl k]/\Q (.int (if k then 1 else 0)) H):=by
 intro pins s O H xs us Q I r h;rcases h with ⟨i,rfl,q⟩ | ⟨k,rfl,q⟩
 ·let(u,rfl,t,rfl):=Zo r;erw[call_int_int #[.int i,H,I,#[_,rfl],q]]
 ·let(u,rfl,a):=Zo r;cases a;erw[call_int_bool #[.int (if k then 1 else 0),H,I.tok _,#[_,rfl],q]]
end
structure ObjM(h:Heap)(x dx C:Ap)(mA:Aq):Prop where
 obj:h.get? x\(W.instObj C dx)
 ns:h.Ns1 dx mA
 ne:dx≠x
def zcG{h:Heap}(n:h.Ns1 I J):∃ c,h.get? I\c/\∀ name,W.lookIn name c\(J name):=by
 let(o,b,i,ho,hd,hk,_,hm):=n;refine#[o,ho,λname=>?_];let e:=hm name;unfold nsFind findBy at e;rw[<- Array.find?_toList]at e;unfold W.lookIn;rw[hd];dsimp only
 split
 next y q=>
  rw[q]at e;erw[congrArg some e]
 next q=>
  rw[q]at e;let a:b.toList.any (·.refKey)=false:=by
   rw[ut];intro y g;let(z,t,d):=hk y (Array.mem_toList_iff.mp g);simp[DictEntry.refKey,d]
  let f:¬ b.toList.any (·.refKey)=true:=by rw[a];exact uJ
  rw[if_neg f];erw[congrArg some e]
def ObjM.look(I:ObjM h x o C J):∃ c,W.InstAt h x (W.instObj C o) C (some c)/\∀ name,W.lookIn name c\(J name) :=
 let ⟨c,ho,hl⟩:=zcG I.ns
 #[c,#[I.obj,rfl,rfl,ho],hl]
section
variable {prog:Ar}{w:World}{A:Around}{E:Af}{s:Am}{K:Ah}{x dx C f:Ap}{mA:Aq}{name:Str}{v:Aj}
def zhl{expr:Bool}{Q:Af}(X:K.In s.heap)(I:ObjM s.heap x dx C mA)(hg:W.plainGet K C name=true)(l:W.hasDictIn K C=true)
  (i:W.findIn K (.ref C) name\none) (hv:mA name\v) (c:W.handedIn v=true) (h:Q v { s with toks:=s.toks+1 }) :
  wpAny (model prog w) A (getAttr (.ref x) name expr) Q E s:=by
 let(a,J,hl):=I.look;exact W.get_value X J (W.plainGet_of hg).1 (W.findObj_own l i rfl (by rw[hl,hv])) c h
def zeO{i:Sem Bool}{Q:Aj×An->Am->Prop}(X:K.In s.heap)(I:ObjM s.heap x dx C mA)(hg:W.plainGet K C name=true)
  (hf:W.findIn K (.ref C) name\(some (.ref f))) (c:W.isFn K (.ref f)=true) (hv:mA name=none) (h:Q (.ref f,[.ref x]) s) :
  wpAny (model prog w) A (getMethod (.ref x) name i) Q E s:=by
 let(a,J,hl):=I.look;exact W.method_fn X J (W.plainGet_of hg).1 (W.plainGet_of hg).2 hf (beq_iff_eq.mp c) (by show (W.lookIn name a).map (·.isSome)\false;rw[hl,hv];rfl) h
def ziq{ns:Ab}{Q:Unit->Am->Prop}(X:K.In s.heap)(I:ObjM s.heap x dx C mA)
  (o:W.findIn K (.ref C) "__setattr__" =some (some (.builtin "object.__setattr__"))) (hp:W.plainOver K C=true) (z:W.takerIn K C name\none) (l:W.hasDictIn K C=true)
  (hw:PySem.Within mA ns) (r:↑ns<=sizeLine)
  (h:∀ c,ObjM c x dx C (λy=>if y=name then some v else mA y)->Heap.SameBut dx s.heap c->Q () { s with heap:=c,toks:=s.toks+2 }) :
  wpAny (model prog w) A (setAttr (.ref x) name v) Q E s:=by
 let(m,J,hl):=I.look;erw[W.set_plain X J o (W.osa_open X J hp z λb=>?_)];let(cd,hc,e):=W.any_some l;let hx:=I.obj;erw[x5 (x9 (x5 (x5 (wpAny_loadPart hx (x5 (W.Looks.here (W.looks_clsIn X hc) ?_))))))];rw[e];erw[x9 (x5 (x9 (x5 ?_)))];erw[wpAny_nsSet1 I.ns λc d a=>?_];let(oD,j,k,f,g,i):=d.count (PySem.Within.cons name v hw);refine x5 (wpAny_lookBehind f (by rw[g];exact pastItsLine_dict (xK i (by rw[xz];lia))) ?_);erw[x9 (h _ #[(a.2 _ (Ne.symm I.ne)).trans I.obj,d,I.ne] a)]
def ze9{R:Result->Am->Prop}{c:An}{kw:List (Str×Value)}(X:K.In s.heap)(hm:W.makesIn K C=true)
  (hi:W.findIn K (.ref C) "__init__" =some (some (.ref f))) (hf:W.typeIn K (.ref f)\(.type "function"))
  (h:codeAny (model prog w) (A.under (.builtin "type.__call__" #[.ref C::c,kw])) (.call (.ref f) #[.ref (⇑s+1)::c,kw]) (W.InitBack (⇑s+1) R)
   { s with heap:=(s.heap.push W.emptyDict).push (W.instObj C ⇑s) }) :
  codeAny (model prog w) A (.call (.ref C) #[c,kw]) R s:=by
 let(a,g,d,t,os):=s;erw[W.make_core (W.makes_of X hm) (W.looks_findIn X hi) (λself=>W.bind_fn X self hf) (.inl rfl) h]
end
def jV(f:Str)(v:V):List (Str×V)->List (Str×V)|[]=> [(f,v)]| (g,x)::r=>if g=f then (g,v)::r else (g,x)::jV f v r
def wB(f g:Str)(v:V):∀ fs:List (Str×V),(jV f v fs).lookup g=if g=f then some v else fs.lookup g
 |[]=>by
  show List.lookup g [(f,v)]=_;by_cases h:g=f
  ·let hb:=beq_iff_eq.mpr h;simp only[List.lookup,hb,if_pos h]
  ·let hb:=Xb.mpr h;simp only[List.lookup,hb,if_neg h]
 | (k,x)::r=>by
  let a:=wB f g v r;rw[show jV f v ((k,x)::r)=(if k=f then (k,v)::r else (k,x)::jV f v r) from rfl];by_cases hk:k=f
  ·rw[if_pos hk];by_cases h:g=k
   ·let hb:=beq_iff_eq.mpr h;simp only[List.lookup,hb,if_pos (h.trans hk)]
   ·let hb:=Xb.mpr h;simp only[List.lookup,hb,if_neg (λe:g=f=>h (e.trans hk.symm))]
  ·rw[if_neg hk];by_cases h:g=k
   ·let hb:=beq_iff_eq.mpr h;simp only[List.lookup,hb,if_neg (λe:g=f=>hk (h.symm.trans e))]
   ·let hb:=Xb.mpr h;simp only[List.lookup,hb];erw[a]
def J9(f:Str)(v:V):∀ fs:List (Str×V),f∈(jV f v fs).map (·.1)/\∀ g,g∈fs.map (·.1)->g∈(jV f v fs).map (·.1)
 |[]=>#[by simp[jV],λg h=>by simp at h]
 | (k,x)::r=>by
  let(a,b):=J9 f v r;rw[show jV f v ((k,x)::r)=(if k=f then (k,v)::r else (k,x)::jV f v r) from rfl];by_cases hk:k=f
  ·rw[if_pos hk];subst hk;exact#[by simp,λg h=>~~~h]
  ·rw[if_neg hk];refine#[?_,λg h=>?_]
   ·rw[xn];erw[xt _ a]
   ·rw[xn]at h |-
    rcases xA.mp h with e | e
    ·erw[xA.mpr (.inl e)]
    ·erw[xt _ (b g e)]
def wx(f:Str)(v:V):∀ fs:List (Str×V),↑(jV f v fs)<=↑fs+1
 |[]=>by simp[jV]
 | (k,x)::r=>by
  let a:=wx f v r;rw[show jV f v ((k,x)::r)=(if k=f then (k,v)::r else (k,x)::jV f v r) from rfl];by_cases hk:k=f
  ·rw[if_pos hk,xz,xz];lia
  ·rw[if_neg hk,xz,xz];lia
def RelO.some_of(r:RelO (some v) o):∃ u,o\u/\RelV v u:=by
 cases o with|none=>erw[(show False from r).elim]|some u=>exact#[u,rfl,r]
def RelO.none_of(r:RelO none o):o=none:=by
 cases o with|none=>rfl|some u=>erw[(show False from r).elim]
def zcx(r:RelV v u):W.handedIn u=true:=by
 cases v with|non=>cases (show u=Value.none from r);rfl|bl b=>cases (show u=Value.bool b from r);rfl|int i=>let⟨t,e⟩:=(show ∃ t,u=Value.int i t from r);cases e;rfl|str x=>let⟨t,e⟩:=(show ∃ t,u=Value.str x t from r);cases e;rfl|ref a=>cases (show u=Value.ref a from r);rfl|ty n=>cases (show u=Value.type n from r);rfl
section
variable {P:Ar}{w:World}{H:Hp}{h:Heap}{a C dx:Ap}{fs:List (Str×V)}
def yY(hok:HOk P w H h)(e:H a\(.ins C dx fs)):∃ c,ObjM h a dx C c/\(∀ f,RelO (fs.lookup f) (c f))/\PySem.Within c (fs.map (·.1))/\↑fs<=1000/\H dx\(.own a):=by
 let(d,z,ne,b,c,n,r,q):=(show ObjOk P w H h a (.ins C dx fs) from hok a _ e);exact#[c,#[b,n,ne],r,q,z,d]
end
structure Cls(K:Ah)(C:Ap):Prop where
 pg:W.plainGet K C Str.empty=true
 hd:W.hasDictIn K C=true
 po:W.plainOver K C=true
 sa:W.findIn K (.ref C) "__setattr__" =some (some (.builtin "object.__setattr__"))
def Cls.get{K:Ah}{C:Ap}(c:Cls K C)(f:Str):W.plainGet K C f=true:=c.pg
def NoAttr(K:Ah)(C:Ap)(f:Str):Prop:=W.findIn K (.ref C) f\none
def NoAttr.taker{K:Ah}(n:NoAttr K C f):W.takerIn K C f\none:=by
 unfold W.takerIn;rw[show W.findIn K (.ref C) f\none from n];rfl
structure Ka(K:Ah)(C:Ap)(m:Str)(f:Ap):Prop where
 at_:W.findIn K (.ref C) m\(some (.ref f))
 fn:W.isFn K (.ref f)=true
 kp:W.keepIn K (.ref f)=true
section
variable {X:Cx}{pins:Ak}{O:St}{H:Hp}{s:Am}{a C dx:Ap}{fs:List (Str×V)}{f:Str}{v:V}{A:Around}{E:Af}
def K6{b:Bool}{Q:Af}(I:Inv X pins O H s)(e:H a\(.ins C dx fs))(c:Cls X.K C)(n:NoAttr X.K C f)(l:fs.lookup f\v)
  (h:∀ u i,Inv X pins O H i->RelV v u->Q u i):wpAny (model X.prog X.w) A (getAttr (.ref a) f b) Q E s:=by
 let(j,σ,r,_,_,_):=yY I.hok e;let(u,g,d):=RelO.some_of (by rw[<- l];exact r f);erw[zhl I.kIn σ (c.get f) c.hd n g (zcx d) (h u _ (I.tok _) d)]
def W1{m:Str}{g:Ap}{i:Sem Bool}{Q:Aj×An->Am->Prop}(I:Inv X pins O H s)(e:H a\(.ins C dx fs))(c:Cls X.K C)(k:Ka X.K C m g)(l:fs.lookup m=none)
  (h:Q (.ref g,[.ref a]) s):wpAny (model X.prog X.w) A (getMethod (.ref a) m i) Q E s:=by
 let(d,σ,r,_,_,_):=yY I.hok e;let b:=RelO.none_of (by rw[<- l];exact r m);erw[zeO I.kIn σ (c.get m) k.at_ k.fn b h]
def zao{y:V}{u:Aj}{Q:Unit->Am->Prop}(I:Inv X pins O H s)(e:H a\(.ins C dx fs))(c:Cls X.K C)(n:NoAttr X.K C f)(hl:↑fs<1000)(B:RelV y u)
  (h:∀ l,Inv X pins O (upd H a (.ins C dx (jV f y fs))) l->Q () l):wpAny (model X.prog X.w) A (setAttr (.ref a) f u) Q E s:=by
 let(i,σ,r,wi,_,ho):=yY I.hok e;let m:↑(fs.map (·.1))<=sizeLine:=by rw[xo,Xg];lia
 erw[ziq I.kIn σ c.sa c.po n.taker c.hd wi m λk d p=>h _ ?_];let hd:∃ o,k.get? dx\o:=let #[o,_,_,j,_]:=d.ns;#[o,j];refine I.write (by rw[e];exact True.intro) (.inr ho) (λb q hb z=>(p.2 b hb).trans z) hd ?_;refine#[by rw[zH σ.ne];exact ho,?_,σ.ne,d.obj,_,d.ns,λg=>?_,λg hg=>?_]
 ·have:=wx f y fs;lia
 ·show RelO ((jV f y fs).lookup g) (if g=f then some u else i g);rw[wB];by_cases q:g=f
  ·rw[if_pos q,if_pos q];exact B
  ·rw[if_neg q,if_neg q];exact r g
 ·by_cases q:g=f
  ·rw[q];exact (J9 f y fs).1
  ·refine (J9 f y fs).2 g (wi g λz=>hg ?_);show (if g=f then some u else i g)=none;rw[if_neg q];exact z
def Inv.made(I:Inv X pins O H s):Inv X pins O (upd (upd H ⇑s (.own (⇑s+1))) (⇑s+1) (.ins C ⇑s []))
  { s with heap:=(s.heap.push W.emptyDict).push (W.instObj C ⇑s) }:=by
 let c:(s.heap.push W.emptyDict).get? ⇑s=some W.emptyDict:=Xa s.heap rfl;let f:((s.heap.push W.emptyDict).push (W.instObj C ⇑s)).get? (⇑s+1)\(W.instObj C ⇑s):=by
  have:=Xa (s.heap.push W.emptyDict) (o:=W.instObj C ⇑s) rfl;rwa [Heap.size_push]at this
 let g:(s.heap.push W.emptyDict).Ns ⇑s (λ_=>none):=#[W.emptyDict,(List.toArray []),_,c,rfl,(λe he=>absurd he (by simp)),λ_=>rfl];let d:=I.laid (a:=⇑s) (o:=.own (⇑s+1)) (h':=s.heap.push W.emptyDict) (t':=s.toks) (λb u q=>x6 _ q) (xh _) #[_,c];erw[d.laid (a:=⇑s+1) (o:=.ins C ⇑s []) (t':=s.toks) (λb u q=>x6 _ q) (Nat.le_of_eq (Heap.size_push _ _)) ?_];let ne:⇑s≠⇑s+1:=xj (uU _);refine#[by rw[zH ne,zK],xY _,ne,f,λ_=>none,(Heap.Ns1.of_empty g).at λo q=>x6 _ q,λ_=>True.intro,λy h=>absurd rfl h]
def zgU{prog:Ar}{w:World}{env:Env}{e:Expr}{f:Str}{pos:Pos}{s:Am}{Q:Af}(hb:attributeBase e f env (eval e env)=eval e env)
  (h:wpAny (model prog w) A (eval e env) (λo c=>wpAny (model prog w) A (getAttr o f true) Q E c) E s):wpAny (model prog w) A (eval (.Attribute e f pos) env) Q E s :=
 Attribute_any_ h (by rw[arm_eval_Attribute,hb])
end
def tFld(K:Ah)(c:TE)(f:Str):TE:=λO H Q=>c O H λx H1=>∃ a C b fs v,x=.ref a/\H1 a\(.ins C b fs)/\Cls K C/\NoAttr K C f/\fs.lookup f\v/\Q v H1
def sFld(K:Ah)(i l:TE)(f:Str):TS:=λD O H=>l O H λy H1=>i O H1 λx b=>∃ a C c fs,x=.ref a/\b a\(.ins C c fs)/\Cls K C/\NoAttr K C f/\↑fs<1000 /\
 D.nx O (upd b a (.ins C c (jV f y fs)))
section
variable {X:Cx}{o e value:Expr}{f:Str}{pos pos':Pos}{ta tv:TE}
def zfs(he:PE X e ta)(hb:attributeBase e f X.env (eval e X.env)=eval e X.env):PE X (.Attribute e f pos) (tFld X.K ta f):=by
 cbv;erw[zgU hb (thn (he pins s O H _ I h) λu s1 ⟨x,H1,b,j,a,C,k,fs,v,ex,g,c,n,l,q⟩=>?_)];subst ex;obtain rfl:u=Value.ref a:=j;erw[K6 b g c n l λm s2 d i=>#[v,H1,d,i,q]]
def zkI(i:PE X o ta)(hv:PE X value tv)(r:swapsWith value (some (.Attribute o f pos')) pos.line X.env=pure false):PS X (.Assign [.Attribute o f pos'] value pos) (sFld X.K ta tv f):=by
 intro pins s O H D I h;erw[plainObj_wpAny_Assign_Attribute (thn (hv pins s O H _ I h) λu s1 ⟨y,H1,b,p,q⟩=>thn (i pins s1 O H1 _ b q) λj s2 ⟨x,t,d,m,a,C,v,fs,ex,g,c,n,l,k⟩=>?_) r];subst ex;obtain rfl:j=Value.ref a:=m;erw[zao d g c n l p λs3 e=>#[O,_,e,k]]
end
structure Room(k:Nat)(A:Around):Prop where
 hd:A.handled=none
 dp:A.depth+3*k+5<recursionLimit
 un:A.units+16*k+200<cLine
def Room.mono(r:Room k A)(h:j<=k):Room j A:=#[r.hd,by have:=r.dp;lia,by have:=r.un;lia]
def Room.deeper(r:Room (k+1) A)(env:Env):Room k (A.deeper env) :=
 #[r.hd,by have:=r.dp;show A.depth+1+3*k+5<_;lia,by have:=r.un;show A.units+3+16*k+200<_;lia]
def Room.in1(r:Room (k+1) A):Room k A.in1 :=
 #[r.hd,by have:=r.dp;show A.depth+3*k+5<_;lia,by have:=r.un;show A.units+1+16*k+200<_;lia]
def zad {A:Around}{C:Ap}:(A.under (.builtin "type.__call__" #[.ref C::us,kw])).depth=A.depth+1:=by
 first | rfl | simp[Around.under,Code.weight,Code.isCreation,Code.isGuard,Code.isCaller,Code.frames,Code.isFrame,guardIds]
def zae {A:Around}{C:Ap}:(A.under (.builtin "type.__call__" #[.ref C::us,kw])).units=A.units+1:=by
 first | rfl | simp[Around.under,Code.cUnits,Code.frames,Code.isFrame]
def Room.make (r:Room (k+1) A) (C:Ap) (us:An) (kw:List (Str×Value)):Room k (A.under (.builtin "type.__call__" #[.ref C::us,kw])) :=
 #[r.hd,by have:=r.dp;rw[zad];lia,by have:=r.un;rw[zae];lia]
def Room.depth(r:Room k A):A.depth<recursionLimit:=by have:=r.dp;lia
def Room.units(r:Room k A):A.units+64<cLine:=by have:=r.un;lia
def zlx:TA:=λ_ H Q=>Q [] H
def zgp(c:TE)(tr:TA):TA:=λO H Q=>c O H λx H1=>tr O H1 λxs a=>Q (x::xs) a
section
variable {X:Cx}{e:Expr}{es:Ag}{te:TE}{t:TA}{pos:Pos}
def pa_nil:PA X [] zlx:=λ_ _ _ _ H Q I h=>Calls.spliced_nil #[[],H,I,.nil,h]
def zY(l:PE X e te)(r:PA X es t)(v:starEach (e::es) X.env=(false,eval e X.env)::starEach es X.env:=by rfl):PA X (e::es) (zgp te t):=by
 intro pos pins s O H Q I h;rw[v];erw[Calls.spliced_cons (thn (l pins s O H _ I h) λu s1 ⟨x,H1,b,g,d⟩=>?_)];erw[thn (r pos pins s1 O H1 _ b d) λus s2 ⟨xs,a,c,i,f⟩=>#[x::xs,a,c,.cons g i,f]]
def tTup(t:TA):TE:=λO H Q=>t O H λxs H1=>↑xs<=sizeLine/\∀ p,H1 p=none->Q (.ref p) (upd H1 p (.tup xs))
def tLst(t:TA):TE:=λO H Q=>t O H λxs H1=>↑xs<=sizeLine/\∀ p,H1 p=none->Q (.ref p) (upd H1 p (.lst xs))
def zfw{o}(h:PA X es t):PE X (.Tuple es o pos) (tTup t):=by
 intro pins s O H Q I c;refine wpAny_Tuple_spliced (thn (h pos pins s O H _ I c) λus s1 ⟨xs,H1,a,r,z,q⟩=>#[by rw[<- ↑r];exact z,?_]);let hf:=a.hok.fresh (xh _);refine#[.ref ⇑s1,upd H1 ⇑s1 (.tup xs),a.laid (λb u e=>x6 _ e) (xh _) ?_,rfl,q _ hf];exact#[z,us,r,#[_,Xa _ rfl,rfl,_,rfl]]
def zfv(h:PA X es t):PE X (.List es pos) (tLst t):=by
 intro pins s O H Q I c;refine wpAny_List_spliced (thn (h pos pins s O H _ I c) λus s1 ⟨xs,H1,a,r,z,q⟩=>#[by rw[<- ↑r];exact z,?_]);let hf:=a.hok.fresh (xh _);refine#[.ref ⇑s1,upd H1 ⇑s1 (.lst xs),a.laid (λb u e=>x6 _ e) (xh _) ?_,rfl,q _ hf];exact#[z,us,0,r,Xa _ rfl]
end
abbrev Sp:=List V->Hp->VK->XK->Prop
abbrev CXT:=List Env->Hp->Am->XK->Af
structure Env0(P:Ar)(w:World)(K:Ah)(mg:Aq)(base:Heap)(A:Around)(outer:List Env)(s:Am)(H:Hp):Prop where
 frames:A.frames\outer
 mod:Mod K mg base
 bs:∀ b o,base.get? b\o->s.heap.get? b\o/\H b=none
 bsz:base.objs.size<=⇑s
 funs:s.heap.FunFrames base outer
 frf:∀ b∈frs outer,H b=none
 hok:HOk P w H s.heap
 bare:AllBare s.gens
def CE(outer:List Env)(P:Ar)(w:World)(H:Hp)(s:Am)(Q:VK)(u:Aj)(c:Am):Prop :=
 ∃ v a,c.os=s.os/\AllBare c.gens/\Un (frs outer) [] H a s.heap c.heap/\HOk P w a c.heap/\RelV v u/\Q v a
def CR(i:CXT)(outer:List Env)(P:Ar)(w:World)(H:Hp)(s:Am)(Q:VK)(E:XK)(r:Result)(c:Am):Prop :=
 match r with|.ok (.ret u)=>CE outer P w H s Q u c|.ok _=>False|.error e=>i outer H s E e c
structure FnOk(P:Ar)(w:World)(K:Ah)(mg:Aq)(base:Heap)(CX:CXT)(k:Nat)(f:Ap)(fd:FuncData)(ps:Ab)(sp:Sp):Prop where
 len:∀ vs H Q E,sp vs H Q E->↑vs=↑ps
 run:∀(A:Around)(outer:List Env)(s:Am)(H:Hp)(args:Args)(us:An)(vs:List V)(Q:VK)(E:XK),Room k A->Env0 P w K mg base A outer s H->BindsTo s fd args (ps.zip us)->Vals vs us->sp vs H Q E ->
  codeAny (model P w) A (.call (.ref f) args) (CR CX outer P w H s Q E) s
def FnOk.mono{P:Ar}{w:World}{K:Ah}{base:Heap}{c:CXT}{j k:Nat}{f:Ap}{ps:Ab}{sp:Sp}(F:FnOk P w K mg base c j f fd ps sp)(h:j<=k) :
  FnOk P w K mg base c k f fd ps sp:=#[F.len,λA outer s H args us b Q E a=>F.run A outer s H args us b Q E (a.mono h)]
def Env0.make{P:Ar}{w:World}{K:Ah}{base:Heap}{A:Around}{s:Am}{H:Hp}(e:Env0 P w K mg base A outer s H)(C:Ap)(us:An)(kw:List (Str×Value)) :
  Env0 P w K mg base (A.under (.builtin "type.__call__" #[.ref C::us,kw])) outer s H:=#[by first | exact e.frames | (simpa [Around.under,Code.envs,Code.isFrame,pushEnvs] using e.frames),e.mod,e.bs,e.bsz,e.funs,e.frf,e.hok,e.bare]
section
variable {X:Cx}{pins:Ak}{O:St}{H:Hp}{s s':Am}
def Inv.env0(I:Inv X pins O H s):Env0 X.prog X.w X.K X.mg X.base X.A X.stack s H :=
 #[I.ok.frames,I.ok.mod,I.bs,xK I.ok.bsz I.sz,I.stack,I.stkFree,I.hok,I.bare]
def Inv.after(I:Inv X pins O H s)(h:CE X.stack X.prog X.w H s Q u s'):EP X pins O Q u s':=by
 let(v,c,os,bare,un,hok,r,q):=h;let(e,g,d,t,a):=s';obtain rfl:a=s.os:=os;exact#[v,c,I.call un hok bare (λb z=>absurd z (by simp)),r,q]
end
def zmK(sp:Sp)(c:List V)(E:XK)(t:TA):TE:=λO H Q=>t O H λa H1=>sp (a++c) H1 Q E
def Binds(K:Ah)(fd:FuncData)(ps:Ab)(ds:An):Prop :=
 ∀(s:Am)(us:An),K.In s.heap->↑(us++ds)=↑ps->BindsTo s fd #[us,[]] (ps.zip (us++ds))
def Binds.all{K:Ah}{fd:FuncData}{ps:Ab}(h:∀ us:An,↑us=↑ps->bindArgs fd #[us,[]]=pure (ps.zip us)):Binds K fd ps []:=λs us _ hl=>by
 rw[xT]at hl |-
 erw[.of_eq (h us hl)]
def yk(c:CXT)(X:Cx)(E:XK):=∀(pins:Ak)(O:St)(H:Hp)(s:Am)(e:Aj)(a:Am),Inv X pins O H s->c X.stack H s E e a->X.xe e a
section
variable {X:Cx}{CX:CXT}{k:Nat}{f C:Ap}{fd:FuncData}{ps:Ab}{sp:Sp}{oj:List V}{ds:An}{E:XK}{x:Str}{p pos:Pos}{e:Expr}{es:Ag}{t:TA}
def zkQ{pins:Ak}{O:St}{H:Hp}{s:Am}{Q:VK}{us:An}{c:List V}(F:FnOk X.prog X.w X.K X.mg X.base CX k f fd ps sp)(i:Room k X.A)(hb:Binds X.K fd ps ds)(hd:Vals oj ds)(hx:yk CX X E)
  (I:Inv X pins O H s) (r:Vals c us) (h:sp (c++oj) H Q E):∅ (call (.ref f) us) (EP X pins O Q) X.xe s:=by
 let b:=r.append hd;let hl:↑(us++ds)=↑ps:=by rw[<- ↑b];exact F.len _ _ _ _ h
 erw[wpAny_call (Xl (F.run X.A X.stack s H #[us,[]] (us++ds) (c++oj) Q E i I.env0 (hb s us I.kIn hl) b h) λr d a=>?_)];cases r with
 |error e=>erw[hx pins O H s e d I a]
 |ok fl=>
  cases fl with
  |ret u=>erw[I.after a]
  |next=>erw[False.elim a]
  |brk=>erw[False.elim a]
  |cont=>erw[False.elim a]
def zhN(F:FnOk X.prog X.w X.K X.mg X.base CX k f fd ps sp)(o:Room k X.A)(hg:Gl X x)(hm:X.mg x\(.ref f))(hk:W.keepIn X.K (.ref f)=true)(hb:Binds X.K fd ps ds)(hd:Vals oj ds)(hx:yk CX X E)
  (l:PA X (e::es) t) (i:(↥x):=by decide) (he:starEach (e::es) X.env=(false,eval e X.env)::starEach es X.env:=by rfl) (c:(backTo pos (starEach es X.env)).any (·.1)=false:=by rfl) :
  PE X (.Call (.Name x p) (e::es) [] pos) (zmK sp oj E t):=by
 cbv;erw[Xk (Zt I hg hm ?_ i)];erw[W.callWith_K I.ok.mod.kin hk (thn (l pos pins s O H _ I h) λus s1 ⟨b,H1,a,r,q⟩=>#[a.kIn,?_]) he c];erw[zkQ F o hb hd hx a r q]
structure Mk(K:Ah)(C f:Ap):Prop where
 makes:W.makesIn K C=true
 init:W.findIn K (.ref C) "__init__" =some (some (.ref f))
 fn:W.isFn K (.ref f)=true
 kp:W.keepIn K (.ref C)=true
end
structure Zq(N P:Ab)(sc:Scope):Prop where
 kind:sc.kind=.function
 co:sc.isCoroutine=false
 gen:sc.isGenerator=false
 nd:N.Nodup
 pre:N.take ↑P=P
 par:∀ x∈P,sc.names.lookup x\.local∨sc.names.lookup x\.cell
 nofree:∀ y∈sc.names,y.2≠ .free
def Vv{kindOf:Str->Option NameKind}:∀{binds:List (Str×Value)}{m:Aq},(∀ v,(x,v)∉binds)->bindL kindOf binds m x=m x
 |[],_,_=>rfl
 | (n,v)::r,m,h=>by
  unfold bindL;rw[Vv λw hw=>h w (xt _ hw)]
  split
  ·have:x≠n:=by rintro rfl;exact h v xF
   simp[this]
  ·rfl
def Vt{kindOf:Str->Option NameKind}:∀{binds:List (Str×Value)}{m:Aq},(∀ v,(x,v)∉binds)->bindC kindOf binds m x=m x
 |[],_,_=>rfl
 | (n,v)::r,m,h=>by
  unfold bindC;rw[Vt λw hw=>h w (xt _ hw)]
  split
  ·rfl
  ·have:x≠n:=by rintro rfl;exact h v xF
   simp[this]
def Vu{kindOf:Str->Option NameKind}:∀{P:Ab}{c:An}{i:Nat}{m:Aq},P.Nodup->P[i]?\x->c[i]?\v->kindOf x\.local ->
  bindL kindOf (P.zip c) m x\v
 |[],_,_,_,_,h,_,_=>by simp at h
 |_::_,[],_,_,_,_,h,_=>by simp at h
 |p::P,w::c,0,m,nd,a,b,hk=>by
  simp at a b;subst a;subst b;show bindL kindOf ((p,w)::P.zip c) m p=_;unfold bindL;rw[Vv λv hv=>(xG.mp nd).1 (List.of_mem_zip hv).1,if_pos hk];simp
 |p::P,w::c,i+1,m,nd,a,b,hk=>by
  unfold bindL;exact Vu (xG.mp nd).2 (~~~a) (~~~b) hk
def Vs{kindOf:Str->Option NameKind}:∀{P:Ab}{c:An}{i:Nat}{m:Aq},P.Nodup->P[i]?\x->c[i]?\v->kindOf x≠some .local ->
  bindC kindOf (P.zip c) m x\v
 |[],_,_,_,_,h,_,_=>by simp at h
 |_::_,[],_,_,_,_,h,_=>by simp at h
 |p::P,w::c,0,m,nd,a,b,hk=>by
  simp at a b;subst a;subst b;show bindC kindOf ((p,w)::P.zip c) m p=_;unfold bindC;rw[Vt λv hv=>(xG.mp nd).1 (List.of_mem_zip hv).1,if_neg hk];simp
 |p::P,w::c,i+1,m,nd,a,b,hk=>by
  show bindC kindOf ((p,w)::P.zip c) m x=_;unfold bindC;exact Vs (xG.mp nd).2 (~~~a) (~~~b) hk
def start(N:Ab)(c:List V):St:=c.map some++List.replicate (↑N-↑c) none
def Q9(c:CXT)(P:Ar)(w:World)(K:Ah)(mg:Aq)(base:Heap)(N:Ab)(qual:Str)(scope:Scope)(f:Ap)(cd:Aj)(A:Around)(outer:List Env)(s:Am)(H:Hp)(E:XK):Cx where
 prog:=P
 w:=w
 K:=K
 mg:=mg
 base:=base
 A:=A.deeper (envOfC qual scope ⇑s f cd)
 N:=N
 s₀:=s
 H₀:=H
 env:=envOfC qual scope ⇑s f cd
 outer:=outer
 stack:=envOfC qual scope ⇑s f cd::outer
 ex:= []
 calm:=true
 fn:=λ_=>true
 pn:= []
 xe:=λe g=>wpAny (model P w) (A.deeper (envOfC qual scope ⇑s f cd)) (leaving (envOfC qual scope ⇑s f cd) e) (λ_ a=>c outer H s E e a) (λd a=>c outer H s E d a) g
 xp:=λx _ b=>∀ C,mg x\(.ref C)->E (.ref C) none b
def Jq{sc:Scope}(h:sc.names.lookup x\.cell):∃ c,(cellsFrom n sc.names []).lookup x\c:=by
 let q:=W.cellsFrom_some sc.names n [] (.inl h);erw[ub.mp q]
def zcz{B:CXT}{P:Ar}{w:World}{K:Ah}{mg:Aq}{base:Heap}{N ps:Ab}{qual:Str}{scope:Scope}{f:Ap}{cd:Aj}{A:Around}{outer:List Env}{s s1:Am}{H:Hp}{E:XK}{us:An}{o:List V}
  (S:Zq N ps scope) (hd:A.handled=none) (l:Env0 P w K mg base A outer s H) (hl:↑o=↑ps) (r:Vals o us)
  (x:InCallC s ⇑s (bindL (envOfC qual scope ⇑s f cd).kindOf (ps.zip us) λ_=>none) (cellsFrom (⇑s+1) scope.names []) (bindC (envOfC qual scope ⇑s f cd).kindOf (ps.zip us) λ_=>none) s1) :
  Inv (Q9 B P w K mg base N qual scope f cd A outer s H E) [] (start N o) H s1:=by
 let D:↑ps<=↑N:=by have:=congrArg List.length S.pre;rw[xM]at this;lia
 let(j,I,rfl,hk):=x.done;let m:∀ b:Ap,b∉(Q9 B P w K mg base N qual scope f cd A outer s H E).ex:=λb z=>absurd (show b∈([]:List Ap) from z) (by simp);refine⟨⟨l.mod,S.kind,rfl,rfl,xh _,λy z c j d=>?_,λy g=>?_,λy c _ h=>?_,λ_=>hd,Around.frames_deeper l.frames,.inr ⟨rfl,rfl⟩,λb z=>absurd z (m b),l.bs,l.bsz,λb _ _=>m b,λb z=>absurd z (m b),l.funs,l.frf⟩,
  rfl,l.bare,Un.kept hk,#[_,x.toInCall.ns,λi y v j d G=>?_],λy c h=>#[_,x.cell y c h],l.hok.fresh (xh _),λy c h=>?_,λp hp=>absurd (show p∈([]:Ak) from hp) (by simp),l.hok.kept hk,?_⟩
 ·erw[name_of_addr x.apart (PySem.mem_of_lookup j) (PySem.mem_of_lookup d)]
 ·let g:=g;rcases g with g | g
  ·erw[Jq g]
  ·erw[absurd rfl (S.nofree _ (PySem.mem_of_lookup g))]
 ·erw[uq (x.above y c (PySem.mem_of_lookup h))]
 ·let hi:i<↑o:=by
   unfold start at d;by_cases hi:i<↑o
   ·erw[hi]
   ·rw[xr (~~~hi)]at d;rw[xQ]at d
    split at d<;>cases d
  let C:o[i]?\v:=by
   unfold start at d;rw[xb (~~~hi),xg]at d;cases e:o[i]? with|none=>rw[e]at d;cases d|some a=>rw[e]at d;cases d;rfl
  let(u,t,F):=r.get C;let hp:ps[i]?\y:=by
   rw[<- S.pre,uc (by lia)];exact j
  let n:ps.Nodup:=by rw[<- S.pre];exact S.nd.sublist (List.take_sublist _ _)
  refine#[u,F,?_];rcases S.par y (uk hp)with k | k
  ·erw[.inl #[k,Vu n hp t k]]
  ·let(c,e):=Jq k;erw[.inr #[.inl k,c,e,?_]];let q:=x.cell y c e;rw[Vs n hp t (by show scope.names.lookup y≠_;rw[k];decide)]at q;erw[q]
 ·erw[l.hok.fresh (uq (x.above y c (PySem.mem_of_lookup h)))]
 ·unfold start;show _=↑N;rw[xB,xo,uz];lia
def zjk{z:CXT}{P:Ar}{w:World}{K:Ah}{mg:Aq}{base:Heap}{k:Nat}{f:Ap}{name qual:Str}{params:Arguments}{body:List Stmt}{scope:Scope}{F kV doc pm l ct T:Aj}{an U:Option Ap}
  {L:Array (Option Aj)} {N ps:Ab} {sp:Sp} (O:K.lookup f\#[T,U,.func (W.fnOf name qual params body scope F kV doc pm an l ct),L]) (hcd:W.codeIn K l qual=true) (S:Zq N ps scope)
  (len:∀ c H Q E,sp c H Q E->↑c=↑ps)
  (G:∀(A:Around)(outer:List Env)(s:Am)(H:Hp)(c:List V)(Q:VK)(E:XK),Room k (A.deeper (envOfC qual scope ⇑s f l))->sp c H Q E ->
   ∃ t,PSs (Q9 z P w K mg base N qual scope f l A outer s H E) body t/\t { nx:=λ_ i=>Q .non i,rt:=Q } (start N c) H) :
  FnOk P w K mg base z (k+1) f (W.fnOf name qual params body scope F kV doc pm an l ct) ps sp:=by
 refine#[len,λA outer s H args us c Q E h d hb r B=>?_];let hl:=len _ _ _ _ B;let p:K.In s.heap:=d.mod.kin.keeps λb o e=>(d.bs b o e).1;let lim:s.heap.NoLimit:=d.mod.nolimit.keeps λb o e=>(d.bs b o e).1;let R:∀ y∈ps.zip us,scope.names.lookup y.1\.local∨(scope.names.lookup y.1\.cell/\((cellsFrom (⇑s+1) scope.names []).lookup y.1).isSome=true):=λ⟨n,v⟩ M=>by
  rcases S.par n (List.of_mem_zip M).1 with q | q
  ·erw[.inl q]
  ·erw[.inr #[q,W.cellsFrom_some _ _ _ (.inl q)]]
 erw[codeAny_call_function h.depth (p _ _ O) rfl S.co S.gen rfl (W.codeRec_of p hcd) (hb _ _ _ _ ?_)];erw[wpAny_newFunctionEnv_cells S.kind R λenv he s1 x=>?_];subst he;refine#[lim.keeps x.toInCall.keep,codeAny_func ?_];let(t,D,C):=G A outer s H c Q E (h.deeper _) B;let I:Inv (Q9 z P w K mg base N qual scope f l A outer s H E) [] (start N c) H s1:=zcz S h.hd d hl r x;erw[Xe (D [] s1 (start N c) H _ I C) (λfl m a=>?_) λe m a=>a];let fin:∀{g:St}{i:Hp}{v:V}{u:Aj},Inv (Q9 z P w K mg base N qual scope f l A outer s H E) [] g i m->RelV v u->Q v i->CE outer P w H s Q u m :=
  λ{g i v u} J j q=>#[v,i,J.os,J.bare,J.base,J.hok,j,q]
 cases fl with
 |ret u=>
  let(v,g,i,J,j,q):=a;erw[fin J j q]
 |next=>
  let(g,i,J,q):=a;erw[fin (v:=V.non) (u:=Value.none) J rfl q]
 |brk=>
  let(_,_,_,q):=a;erw[False.elim q]
 |cont=>
  let(_,_,_,q):=a;erw[False.elim q]
section
variable {X:Cx}{x:Str}{p pos:Pos}{e:Expr}{es:Ag}{t:TA}{id T:String}{r:List V->Hp->VK->Prop}
def tCB(r:List V->Hp->VK->Prop)(t:TA):TE:=λO H Q=>t O H λa H1=>r a H1 Q
def Qs (hc:j6 X (.builtin id) r) (hg:Gl X x) (hm:X.mg x=none) (hv:bootBuiltins x\(.builtin id)) (l:PA X (e::es) t) (o:x≠ "__name__" :=by decide) (i:(↥x):=by decide)
    (he:starEach (e::es) X.env=(false,eval e X.env)::starEach es X.env:=by rfl) (c:(backTo pos (starEach es X.env)).any (·.1)=false:=by rfl):PE X (.Call (.Name x p) (e::es) [] pos) (tCB r t):=by
  cbv;erw[Xk (wb I hg hm hv ?_ o i)];erw[PyProof.Rows.callWith_builtin1 (thn (l pos pins s O H _ I h) λus s1 ⟨f,H1,a,d,b⟩=>hc pins s1 O H1 f us Q a d b) he c]
def jU (hc:j6 X (.type T) r) (hg:Gl X x) (hm:X.mg x=none) (hv:bootBuiltins x\(.type T)) (v:PA X (e::es) t) (y:x≠ "__name__" :=by decide) (l:(↥x):=by decide)
    (he:starEach (e::es) X.env=(false,eval e X.env)::starEach es X.env:=by rfl) (c:(backTo pos (starEach es X.env)).any (·.1)=false:=by rfl):PE X (.Call (.Name x p) (e::es) [] pos) (tCB r t):=by
  cbv;erw[Xk (wb I hg hm hv ?_ y l)];erw[PyProof.Rows.callWith_type1 (thn (v pos pins s O H _ I h) λus s1 ⟨f,H1,a,d,b⟩=>hc pins s1 O H1 f us Q a d b) he c]
end
end Lake.L2
namespace Lake.HT
open PySem PyProof.Rows
section
variable {prog:Ar}{w:World}{A:Around}{E:Af}{s:Am}
def cat_tup{Q:Af}(r:IsTup s.heap t vs.toArray)(hb:IsTup s.heap b ws.toArray)(hv:vs≠ [])
  (l:ws= []->Q (.ref t) s) (o:ws≠ []->Q (.ref ⇑s) { s with heap:=s.heap.push { cls:=.type "tuple",data:=.seq (vs++ws).toArray } })
  (c:↑vs+↑ws<=sizeLine):wpAny (model prog w) A (binaryOp .Add (.ref t) (.ref b)) Q E s:=by
 let((cls,d,data,sl),ho,hc,n,hd):=id r;let((j,g,data2,h),a,f,i,hd2):=id hb;simp only at hc hd f hd2;subst hc hd f hd2;let e:vs.toArray++ws.toArray=(vs++ws).toArray:=by simp
 by_cases hw:ws= []
 ·exact concat_meets #[_,ho,rfl] #[_,a,rfl] noFill_tuple_add seq_tuple_add PySem.F.slot_tuple_add PySem.F.entry_tuple_add (PySem.F.args_tuple_add_2 _ _)
   (tuple_addW1 t b vs.toArray ws.toArray n i d g sl h (~~~hv) (by simp[hw])) #[ho,a,l hw]
 ·refine concat_meets #[_,ho,rfl] #[_,a,rfl] noFill_tuple_add seq_tuple_add PySem.F.slot_tuple_add PySem.F.entry_tuple_add (PySem.F.args_tuple_add_2 _ _)
   (tuple_addW2 t b vs.toArray ws.toArray n i d g sl h (~~~hv) (~~~hw) (by rw[xm,xm];exact c)) #[ho,a,?_]
  rw[e];erw[o hw]
def sIx(n d:Nat):Option Int->Nat|none=>d|some v=>if v<0 then (v+(n:Int)).toNat else min v.toNat n
def zkS(n d:Nat)(hd:d<=n)(o:Option Int):sIx n d o<=n:=by
 cases o with
 |none=>erw[hd]
 |some v=>
  show (if v<0 then (v+(n:Int)).toNat else min v.toNat n)<=n;by_cases hv:v<0
  ·rw[if_pos hv];lia
  ·rw[if_neg hv];exact Nat.min_le_right _ _
def zaI(v:Int)(n d:Nat):(if v<0 then max (v+(n:Int)) 0 else min v (n:Int))=((sIx n d (some v):Nat):Int):=by
 show (if v<0 then max (v+(n:Int)) 0 else min v (n:Int))=(((if v<0 then (v+(n:Int)).toNat else min v.toNat n):Nat):Int);by_cases hv:v<0
 ·simp only[if_pos hv];lia
 ·simp only[if_neg hv];lia
def Kj(lo hi:Option Int)(n:Nat):Builtin.Slice.sliceAdjust lo hi 1 (n:Int)=(((sIx n 0 lo:Nat):Int),((sIx n n hi:Nat):Int)):=by
 let a:¬ ((1:Int)<0):=by lia
 unfold Builtin.Slice.sliceAdjust;simp only[a,if_false];erw[Prod.ext ?_ ?_]
 ·cases lo with|none=>rfl|some v=>erw[zaI v n 0]
 ·cases hi with|none=>rfl|some v=>erw[zaI v n n]
def zaj(i j:Nat):Builtin.Slice.slicePlaces (i:Int) (j:Int) 1=j-i:=by
 unfold Builtin.Slice.slicePlaces;let a:(1:Int)>0:=by lia
 simp only[a,if_true,Int.ediv_one]
 split<;>lia
def vK(p:IsPart v o)(h:Q o s):wpAny (model prog w) A (Builtin.Slice.slicePartIndex v) Q E s:=by
 cases p with|none=>erw[slicePart_none h]|int i t=>erw[slicePart_int h]
def wj{lo hi:Option Int}{n:Nat}{Q:Int×Int×Nat->Am->Prop}(c:s.heap.IsSliceOf sl o I .none)(i:IsPart o lo)(pu:IsPart I hi)
  (h:Q (((sIx n 0 lo:Nat):Int),1,sIx n n hi-sIx n 0 lo) s):wpAny (model prog w) A (Builtin.Slice.sliceApplied (.ref sl) (pure (n:Int))) Q E s:=by
 let(os,b,d,a):=id c;unfold Builtin.Slice.sliceApplied Builtin.Slice.sliceFields;erw[x5 (x5 (wpAny_field b a rfl (x5 (wpAny_field b a rfl (x5 (wpAny_field b a rfl (x9 ?_)))))))];erw[x5 (slicePart_none ?_)];show wpAny _ _ (if ((1:Int)==0)=true then _ else _) _ _ s;rw[if_neg (by decide)];erw[x5 (vK i (x5 (vK pu (x5 (x9 ?_)))))];show wpAny _ _ (match Builtin.Slice.sliceAdjust lo hi 1 (n:Int)with | (lo,hi)=>pure (lo,(1:Int),Builtin.Slice.slicePlaces lo hi 1)) _ _ s;rw[Kj lo hi n];show wpAny _ _ (pure (((sIx n 0 lo:Nat):Int),(1:Int),Builtin.Slice.slicePlaces ((sIx n 0 lo:Nat):Int) ((sIx n n hi:Nat):Int) 1)) _ _ s;rw[zaj];erw[x9 h]
def zfD(xs:Array Aj)(i k:Nat):((List.range k).filterMap λ(m:Nat)=>xs[((i:Int)+(m:Int)*1).toNat]?).toArray=((xs.toList.drop i).take k).toArray:=by
 let e:(λ(m:Nat)=>xs[((i:Int)+(m:Int)*1).toNat]?)=λm=>xs[i+m]?:=by
  funext m;have:((i:Int)+(m:Int)*1).toNat=i+m:=by lia
  rw[this]
 rw[e];have:=pick_run xs i k;rw[uK]at this;let a:((λx=>xs[x]?)∘λx=>i+x)=λm=>xs[i+m]?:=rfl;rw[a]at this;rw[this]
def getItem_tuple_cut{t sl:Ap}{lo hi:Option Int}{Q:Af}(c:IsTup s.heap t items)(i:s.heap.IsSliceOf sl I J .none)(o:IsPart I lo)(pu:IsPart J hi)
  (hw:¬ (sIx items.size 0 lo=0/\sIx items.size items.size hi=items.size))
  (h:Q (.ref ⇑s) { s with heap:=s.heap.push { cls:=.type "tuple",data:=.seq ((items.toList.drop (sIx items.size 0 lo)).take (sIx items.size items.size hi-sIx items.size 0 lo)).toArray } })
  (l:items.size<=sizeLine):wpAny (model prog w) A (getItem (.ref t) (.ref sl)) Q E s:=by
 let a:sizeOk (.seq ((items.toList.drop (sIx items.size 0 lo)).take (sIx items.size items.size hi-sIx items.size 0 lo)).toArray):=by
  show ((items.toList.drop (sIx items.size 0 lo)).take (sIx items.size items.size hi-sIx items.size 0 lo)).toArray.size<=sizeLine;rw[xm,xM,uD,Array.length_toList];lia
 let j:sIx items.size items.size hi<=items.size:=zkS _ _ (xh _) hi;let(os,g,d,e):=id i;let b:s.TypeIs (.ref sl) "slice" :=#[os,g,d];unfold getItem
 try with_reducible refine Xd ?_
 first | refine x5 (x9 ?_) | skip
 refine x5 (wpAny_sequenceKey c.typeIs (by decide) ?_);refine x5 (wpAny_callSpecial?_slot (name:=Str.ofString "__getitem__") c.typeIs PyProof.Rows.slot_tuple_getitem
  (wpAny_call_entry PyProof.Rows.slot_tuple_getitem c.typeIs entry_tuple_getitem ?_ (args_tuple_getitem _ _)))
 show wpAny _ _ (Builtin.Tuple.tupleItemsOf (.ref t) >>= _) _ _ s;erw[x5 (tupleItemsOf_ c ?_)];erw[x5 (wpAny_typeOf b ?_)];rw[if_pos (by decide)];erw[x5 (wj i o pu ?_)];let f:¬ ((((sIx items.size 0 lo:Nat):Int)==0&&(1:Int)==1&&(sIx items.size items.size hi-sIx items.size 0 lo)==items.size)=true):=by
  intro q;rw[xf,xf]at q;let k:((sIx items.size 0 lo:Nat):Int)=0:=eq_of_beq q.1.1;let m:sIx items.size items.size hi-sIx items.size 0 lo=items.size:=eq_of_beq q.2;exact hw #[by lia,by lia]
 show wpAny _ _ (if (((sIx items.size 0 lo:Nat):Int)==0&&(1:Int)==1&&(sIx items.size items.size hi-sIx items.size 0 lo)==items.size)=true then _ else _) _ _ s;rw[if_neg f,zfD]
 first|exact x5 (wpAny_newObj_type (x9 ⟨_,rfl,x9 h⟩) a)|exact x5 (wpAny_newObj_type (x5 (x9 (x9 ⟨_,rfl,x9 h⟩))) a)|exact x5 (x5 (wpAny_newObj_type (x9 (x9 ⟨_,rfl,x9 h⟩)) a))|exact x5 (x5 (wpAny_newObj_type (x9 ⟨_,rfl,x9 h⟩) a))
end
end Lake.HT
namespace Lake.L2
open PySem PySem.Spec PyProof.Rows
abbrev TO:=St->Hp->(Option Int->Hp->Prop)->Prop
def PO(X:Cx)(e:Option Expr)(t:TO):Prop :=
 ∀(pins:Ak)(s:Am)(O:St)(H:Hp)(Q:Option Int->Hp->Prop),Inv X pins O H s->t O H Q ->
  ∅ (evalPart e X.env) (λu b=>∃ o a,Inv X pins O a b/\IsPart u o/\Q o a) X.xe s
def ziT:TO:=λ_ H Q=>Q none H
def zmP(t:TE):TO:=λO H Q=>t O H λx H1=>∃ i,x=.int i/\Q (some i) H1
section
variable {X:Cx}{e:Expr}{te:TE}{lo hi:Option Expr}{tl th:TO}{pos p2:Pos}
def Yc:PO X none ziT:=by
 cbv;rw[evalPart_none];erw[x9 #[none,H,I,.none,h]]
def Yd(h:PE X e te):PO X (some e) (zmP te):=by
 intro pins s O H Q I hw;rw[evalPart_some];erw[thn (h pins s O H _ I hw) λu s1 ⟨x,H1,a,c,b⟩=>?_];let(i,rfl,q):=b;let(t,rfl):=c;exact#[some i,H1,a,.int i t,q]
def SlR(X:Cx)(r:V->Option Int->Option Int->Hp->VK->Prop):Prop :=
 ∀(pins:Ak)(s:Am)(O:St)(H:Hp)(x:V)(v a b:Aj)(lo hi:Option Int)(sl:Ap)(Q:VK),Inv X pins O H s->RelV x v->s.heap.IsSliceOf sl a b .none->IsPart a lo->IsPart b hi->r x lo hi H Q ->
  ∃ T id,typeLookup (.type T) "__getitem__" =pure (some (.builtin id))/\s.TypeIs v T/\∅ (getItem v (.ref sl)) (EP X pins O Q) X.xe s
def tSl(r:V->Option Int->Option Int->Hp->VK->Prop)(te:TE)(tl th:TO):TE:=λO H Q=>te O H λx H1=>tl O H1 λl a=>th O a λu b=>r x l u b Q
def Jy{r:V->Option Int->Option Int->Hp->VK->Prop}(y:SlR X r)(he:PE X e te)(hl:PO X lo tl)(z:PO X hi th):PE X (.Subscript e (.Slice lo hi none p2) pos) (tSl r te tl th):=by
 cbv;erw[Subscript_ (thn (he pins s O H _ I h) λv s1 ⟨x,H1,g,A,p⟩=>?_)];erw[wpAny_Slice (thn (hl pins s1 O H1 _ g p) λa s2 ⟨l,f,i,o,t⟩=>thn (z pins s2 O f _ i t) λc s3 ⟨u,d,j,pu,w⟩=>?_)];rw[evalPart_none];erw[x9 ?_];let k:Inv X pins O d { s3 with heap:=s3.heap.push { cls:=.type "slice",data:=.fields (List.toArray [a,c,.none]) } }:=j.kept (t':=s3.toks) λb B q=>x6 _ q;let(T,id,m,n,hg):=y pins { s3 with heap:=s3.heap.push { cls:=.type "slice",data:=.fields (List.toArray [a,c,.none]) } } O d x v a c l u ⇑s3 Q k A (Heap.IsSliceOf.new ..) o pu w;show ∅ (subscriptTail e (.Slice lo hi none p2) v (.ref ⇑s3)) (EP X pins O Q) X.xe { s3 with heap:=s3.heap.push { cls:=.type "slice",data:=.fields (List.toArray [a,c,.none]) } };exact tail_any n m hg (by with_unfolding_all rfl)
def JV(xs:List V)(lo hi:Option Int):List V:=(xs.drop (HT.sIx ↑xs 0 lo)).take (HT.sIx ↑xs ↑xs hi-HT.sIx ↑xs 0 lo)
def wv(xs:List V)(lo hi:Option Int):↑(JV xs lo hi)<=↑xs:=by
 unfold JV;rw[xM,uD];lia
def rSlT(K:Ah):V->Option Int->Option Int->Hp->VK->Prop:=λx lo hi H Q=>∃ a xs,x=.ref a/\SqT K H a xs /\
 ¬ (HT.sIx ↑xs 0 lo=0/\HT.sIx ↑xs ↑xs hi=↑xs)/\∀ p,H p=none->Q (.ref p) (upd H p (.tup (JV xs lo hi)))
def zlf:SlR X (rSlT X.K):=by
 intro pins s O H x v k l lo hi sl Q I i f g pu h;let(a,xs,rfl,hx,hw,q):=h;cases i;let(c,r,d,e):=I.tuple hx;let hlen:c.toArray.size=↑xs:=by rw[xm];exact r.length.symm
 refine#["tuple",_,PyProof.Rows.slot_tuple_getitem.lookup,d.typeIs,?_];refine HT.getItem_tuple_cut d f g pu (by rw[hlen];exact hw) ?_ (by rw[hlen];exact e);rw[hlen];refine#[.ref ⇑s,_,I.laid (λb j q=>x6 _ q) (xh _) ?_,rfl,q _ (I.hok.fresh (xh _))];exact#[xK (wv xs lo hi) e,_,(r.drop (HT.sIx ↑xs 0 lo)).take (HT.sIx ↑xs ↑xs hi-HT.sIx ↑xs 0 lo),IsTup.new _ _]
def Vals.nil_iff(r:Vals xs us):us= []↔xs= []:=by
 cases r with|nil=>simp|cons _ _=>simp
end
def ixN(n:Nat)(i:Int):Option Nat:=if 0<=i then (if i<n then some i.toNat else none) else if -(n:Int)<=i then some (i+n).toNat else none
def atI{α:Type}(xs:List α)(i:Int):Option α:=(ixN ↑xs i).bind λj=>xs[j]?
def zaT(h:ixN n i\j):seqIndex? i n\j/\j<n/\ -(n:Int)<=i/\i<n:=by
 unfold ixN at h;by_cases h0:0<=i
 ·rw[if_pos h0]at h;by_cases a:i<n
  ·rw[if_pos a]at h;let e:=Option.some.inj h;exact#[by rw[seqIndex_of h0 a,e],by lia,by lia,a]
  ·rw[if_neg a]at h;cases h
 ·rw[if_neg h0]at h;by_cases a: -(n:Int)<=i
  ·rw[if_pos a]at h;let e:=Option.some.inj h;exact#[by rw[seqIndex_neg (by lia) a,e],by lia,a,by lia]
  ·rw[if_neg a]at h;cases h
def yr{α:Type}{xs:List α}{i:Int}{v:α}(h:atI xs i\v):∃ j,seqIndex? i ↑xs\j/\xs[j]?\v/\j<↑xs/\ -(↑xs:Int)<=i/\i<↑xs:=by
 unfold atI at h;cases e:ixN ↑xs i with
 |none=>rw[e]at h;cases h
 |some j=>
  rw[e]at h;let(a,b,c,d):=zaT e;exact#[j,a,h,b,c,d]
def jY{α:Type}{xs:List α}{j:Nat}{v:α}(h:xs[j]?\v):atI xs (j:Int)\v:=by
 let a:=(xa.mp h).1;let e:ixN ↑xs (j:Int)\j:=by
  unfold ixN;rw[if_pos (by lia),if_pos (by lia)];simp
 unfold atI;rw[e];exact h
def zdx{α:Type}(xs:List α)(v:α):atI (xs++ [v]) (-1)\v:=by
 let hl:↑(xs++ [v])=↑xs+1:=by simp
 let e:ixN ↑(xs++ [v]) (-1)\↑xs:=by
  unfold ixN;rw[hl,if_neg (by decide),if_pos (by lia)];congr 1;lia
 unfold atI;rw[e];simp
def w9(b:Expr):=∀ o i,subscripted b false o i=operate [o,i] (getItem o i)
def IxR(X:Cx)(r:R2):Prop :=
 ∀(value slice:Expr)(pins:Ak)(s:Am)(O:St)(H:Hp)(x y:V)(v u:Aj)(Q:VK),Inv X pins O H s->RelV x v->RelV y u->r x y H Q ->
  subscripted slice false v u=operate [v,u] (getItem v u)->∅ (subscriptTail value slice v u) (EP X pins O Q) X.xe s
def MtR(X:Cx)(id:String)(r:V->List V->Hp->VK->Prop):Prop :=
 ∀(pins:Ak)(s:Am)(O:St)(H:Hp)(x:V)(xs:List V)(v:Aj)(us:An)(Q:VK),Inv X pins O H s->RelV x v->Vals xs us->r x xs H Q ->
  ∅ (call (.builtin id) (v::us)) (EP X pins O Q) X.xe s
section
variable {X:Cx}{a b:Expr}{ta tb:TE}{pos:Pos}
def IxR.or{r c:R2}(h:IxR X r)(i:IxR X c):IxR X (λx y H Q=>r x y H Q∨c x y H Q):=by
 intro value slice pins s O H x y v u Q I b d q a;rcases q with q | q
 ·erw[h value slice pins s O H x y v u Q I b d q a]
 ·erw[i value slice pins s O H x y v u Q I b d q a]
def zfu(l:IxR X r)(i:PE X a ta)(hb:PE X b tb)(o:w9 b):PE X (.Subscript a b pos) (tOp r ta tb):=by
 cbv;erw[Subscript_ (zjF i hb I h λv u s2 x y c d e f q=>l a b pins s2 O c x y v u Q d e f q (o _ _))]
def rIxL(K:Ah):R2:=λx y H Q=>∃ p xs i v,x=.ref p/\y=.int i/\SqL K H p xs/\atI xs i\v/\Q v H
def rIxT(K:Ah):R2:=λx y H Q=>∃ p xs i v,x=.ref p/\y=.int i/\SqT K H p xs/\atI xs i\v/\Q v H
def rIxS:R2:=λx y H Q=>∃ z i c,x=.str z/\y=.int i/\↑z<=sizeLine/\atI z.cps.toList i\c/\Q (.str #[(List.toArray [c])]) H
def ix_list:IxR X (rIxL X.K):=by
 intro value slice pins s O H x y v u Q I o A h f;let(p,xs,i,z,rfl,rfl,n,he,q):=h;cases o;let(t,rfl):=A;let(c,r,d,D):=I.list n;let(j,a,k,B,l,m):=yr he;let(w,e,g):=r.get k;let hl:=↑r;let C:=wc;let fin:EP X pins O Q w s:=#[z,H,I,g,q];by_cases h0:0<=i
 ·let b:i.toNat=j:=by
   rw[seqIndex_of h0 m]at a;erw[Option.some.inj a]
  exact item_listR d.isList h0 (by lia) (by rw[b];simpa using e) fin f
 ·let b:(i+(c.toArray.size:Int)).toNat=j:=by
   rw[seqIndex_neg (by lia) l]at a;rw[xm,<- hl];erw[Option.some.inj a]
  exact subscriptTail_builtinR d.isList.typeIs slot_list_getitem.lookup
   (wpAny_getItem_list_neg d.isList (by lia) (by rw[xm]<;>lia) (by lia) (by rw[b];simpa using e) #[rfl,fin]) f
def zka:IxR X (rIxT X.K):=by
 intro value slice pins s O H x y v u Q I l m h g;let(p,xs,i,z,rfl,rfl,f,he,q):=h;cases l;let(t,rfl):=m;let(k,r,a,C):=I.tuple f;let(j,d,e,n,o,A):=yr he;let(w,c,b):=r.get e;let hl:=↑r;let B:=wc;let fin:EP X pins O Q w s:=#[z,H,I,b,q];exact subscriptTail_builtinR a.typeIs slot_tuple_getitem.lookup
  (getItem_tuple a (by lia) (by lia) (by rw[xm,<- hl];exact d) (~~~c) #[rfl,fin]) g
def zj9:IxR X rIxS:=by
 intro value slice pins s O H x y v u Q I l m h k;let(z,i,c,rfl,rfl,p,he,q):=h;let(t,rfl):=l;let(r,rfl):=m;let(j,a,e,n,f,g):=yr he;let hl:z.cps.toList.length=↑z:=by simp[Str.length]
 rw[hl]at a f g;let o:=wc;exact tail_any (typeIs_str s z t) slot_str_getitem.lookup (getItem_str (by
  let b:decide (i< -(2 ^ 63:Int))=false:=Xc (by lia);let d:decide (i≥2 ^ 63)=false:=Xc (by lia);rw[b,d,Bool.or_false]) (by rw[a];simpa using e) #[.str #[(List.toArray [c])],H,I.tok _,#[_,rfl],q]) k
def zaf (c:An) (n j:Nat) (u:Aj):Obj.mapSeq (·.setIfInBounds j u) { cls:=.type "list",data:=.seq c.toArray n }={ cls:=.type "list",data:=.seq (c.set j u).toArray n }:=by
 simp[Obj.mapSeq]
def Inv.lst{pins:Ak}{O:St}{H:Hp}{s:Am}{p:Ap}{xs:List V}(I:Inv X pins O H s)(h:H p\(.lst xs)) :
  ∃ (its:An) (n:Nat),Vals xs its/\s.heap.get? p\{ cls:=.type "list",data:=.seq its.toArray n }/\↑xs<=sizeLine:=by
 let(z,its,n,r,e):=I.hok p _ h;exact#[its,n,r,e,z]
def Inv.lstUpd{xs o:List V}{c i:An}{n l:Nat}{f:Obj->Obj}(I:Inv X pins O H s)(h:H p\(.lst xs))
  (ho:s.heap.get? p\{ cls:=.type "list",data:=.seq c.toArray n }) (hf:f { cls:=.type "list",data:=.seq c.toArray n }={ cls:=.type "list",data:=.seq i.toArray l }) (r:Vals o i) (v:↑o<=sizeLine) (t:Nat) :
  Inv X pins O (upd H p (.lst o)) { s with heap:=s.heap.update p f,toks:=t }:=by
 let e:(s.heap.update p f).get? p\{ cls:=.type "list",data:=.seq i.toArray l }:=by
  rw[Heap.get?_update_self f ho (by rw[hf]<;>rfl),hf]
 refine I.write (by rw[h];trivial) (.inl rfl) (λb u hb q=>(Xf _ _ (Ne.symm hb)).trans q) #[_,e] ?_;exact#[v,i,l,r,e]
def zmt:V->V->V->Hp->(Hp->Prop)->Prop:=λo i v H Q=>∃ p xs k j,o=.ref p/\i=.int k/\H p\(.lst xs)/\ixN ↑xs k\j/\Q (upd H p (.lst (xs.set j v)))
def zf2:zjz X zmt:=by
 intro pins s O H o i v A z u Q I m l w h;let(p,xs,k,j,rfl,rfl,hp,f,q):=h;cases m;let(t,rfl):=l;let(a,n,r,ho,g):=I.lst hp;let(b,x,d,e):=zaT f;let hl:=↑r;let y:=wc;let c:Inv X pins O (upd H p (.lst (xs.set j v))) { s with heap:=s.heap.update p (Obj.mapSeq (·.setIfInBounds j u)) } :=
  I.lstUpd hp ho (zaf a n j u) (r.set w j) (by rw[xN];exact g) s.toks
 by_cases h0:0<=k
 ·let hk:k.toNat=j:=by
   rw[seqIndex_of h0 e]at b;erw[Option.some.inj b]
  exact W.ki_setAt ho h0 (by lia) (by rw[xm,<- hl];exact e) (by rw[hk];exact#[_,c,q])
 ·let hk:(k+(a.toArray.size:Int)).toNat=j:=by
   rw[seqIndex_neg (by lia) d]at b;rw[xm,<- hl];erw[Option.some.inj b]
  exact W.ki_setBack ho (by lia) (by rw[xm,<- hl];exact d) (by lia) (by rw[hk];exact#[_,c,q])
def Yi(lo hi:Option Int)(n:Nat):(sliceBounds lo hi none n).1=((HT.sIx n 0 lo:Nat):Int)/\(sliceBounds lo hi none n).2.1=((HT.sIx n n hi:Nat):Int)/\(sliceBounds lo hi none n).2.2=1:=by
 refine#[?_,?_,rfl]
 ·cases lo with
  |none=>simp[sliceBounds,HT.sIx]
  |some i=>
   simp only[sliceBounds,HT.sIx,Option.getD_none,show (1:Int)>0 by decide,if_true];by_cases h:i<0
   ·simp only[h,if_true]<;>lia
   ·simp only[h,if_false]<;>lia
 ·cases hi with
  |none=>simp[sliceBounds,HT.sIx]
  |some i=>
   simp only[sliceBounds,HT.sIx,Option.getD_none,show (1:Int)>0 by decide,if_true];by_cases h:i<0
   ·simp only[h,if_true]<;>lia
   ·simp only[h,if_false]<;>lia
def Vi(c:An)(lo hi:Option Int):slicePick c.toArray lo hi none=((c.drop (HT.sIx ↑c 0 lo)).take (HT.sIx ↑c ↑c hi-HT.sIx ↑c 0 lo)).toArray:=by
 let(a,b,d):=Yi lo hi c.toArray.size;unfold slicePick;rw[a,b,d];simp only[sliceRange_one,pick_run,xm]<;>rfl
def rSlL(K:Ah):V->Option Int->Option Int->Hp->VK->Prop:=λx lo hi H Q=>∃ a xs,x=.ref a/\SqL K H a xs/\∀ p,H p=none->Q (.ref p) (upd H p (.lst (JV xs lo hi)))
def Yh:SlR X (rSlL X.K):=by
 intro pins s O H x v k l lo hi sl Q I i d g pu h;let(a,xs,rfl,hx,q):=h;cases i;let(f,r,c,e):=I.list hx;let hlen:=↑r;refine#["list",_,slot_list_getitem.lookup,c.isList.typeIs,?_];refine wpAny_getItem_list_slice c.isList d g pu .none (by simp) ?_ (by rw[xm]<;>lia);rw[Vi,<- hlen];refine#[.ref ⇑s,_,I.laid (λb j q=>x6 _ q) (xh _) ?_,rfl,q _ (I.hok.fresh (xh _))];exact#[xK (wv xs lo hi) e,_,0,(r.drop (HT.sIx ↑xs 0 lo)).take (HT.sIx ↑xs ↑xs hi-HT.sIx ↑xs 0 lo),Xa _ rfl]
def ZX:j6 X (.builtin "len") (λxs H Q=>∃ p c,xs= [.ref p]/\(SqL X.K H p c∨SqT X.K H p c)/\Q (.int ↑c) H):=by
 intro pins s O H xs us Q I r h;let(p,c,rfl,a,q):=h;let(u,rfl,g):=Zo r;cases g;let i:=wc;rcases a with a | a
 ·let(b,e,d,f):=I.list a;let hlen:=↑e;exact Calls.call_len_list d.isList (by simp only[xm]<;>lia) #[.int ↑c,H,I.tok _,#[s.toks+1,by rw[xm,hlen]],q]
 ·let(b,e,d,f):=I.tuple a;let hlen:=↑e;exact len_tuple d (by simp only[xm]<;>lia) #[.int ↑c,H,I.tok _,#[s.toks+1,by rw[xm,hlen]],q]
def Jp:j6 X (.type "list") (λxs H Q=>∃ p v,xs= [.ref p]/\(SqL X.K H p v∨SqT X.K H p v)/\∀ l,H l=none->Q (.ref l) (upd H l (.lst v))):=by
 intro pins s O H xs us Q I r h;let(p,v,rfl,g,q):=h;let(u,rfl,m):=Zo r;cases m;have fin:∀(a:An),Vals v a->↑v<=sizeLine->∀(c:Heap)(d:Nat),(∀ b k,s.heap.get? b\k->c.get? b\k) ->
   c.get? ⇑s=some { cls:=.type "list",dict:=none,data:=.seq a.toArray d,slots:=(List.toArray []) }->EP X pins O Q (.ref ⇑s) { s with heap:=c }:=λa f i c d kp e=>
  #[.ref ⇑s,_,I.laid kp (xh _) (show ObjOk X.prog X.w _ c _ (.lst v) from #[i,a,d,f,e]),rfl,q _ (I.hok.fresh (xh _))]
 rcases g with g | g
 ·let(a,f,j,i):=I.list g;let hlen:=↑f;let(o,ho,hc,n,hd):=j.isList;exact call_list_seq p (.inl rfl) ho hc hd (λc d kp e=>fin a f i c d kp e) (by simp only[xm]<;>lia)
 ·let(a,f,j,i):=I.tuple g;let hlen:=↑f;let(o,ho,hc,n,hd):=j;exact call_list_seq p (.inr rfl) ho hc hd (λc d kp e=>fin a f i c d kp e) (by simp only[xm]<;>lia)
def v5:j6 X (.type "tuple") (λxs H Q=>∃ p c,xs= [.ref p]/\((SqL X.K H p c/\∀ l,H l=none->Q (.ref l) (upd H l (.tup c)))∨(SqT X.K H p c/\Q (.ref p) H))):=by
 intro pins s O H xs us Q I r h;let(p,c,rfl,h):=h;let(u,rfl,n):=Zo r;cases n;rcases h with ⟨f,q⟩ | ⟨f,q⟩
 ·let(a,i,g,k):=I.list f;let hlen:=↑i;refine call_tuple_list g.isList (λd kp=>?_) (by simp only[xm]<;>lia);let j:=I.kept (t':=s.toks) kp;let m:Inv X pins O (upd H d.objs.size (.tup c)) { s with heap:=d.push { cls:=.type "tuple",data:=.seq a.toArray } } :=
   j.laid (λb o e=>x6 _ e) (xh _) (show ObjOk X.prog X.w _ _ _ (.tup c) from #[k,a,i,IsTup.new _ _])
  exact#[.ref d.objs.size,_,m,rfl,q _ (j.hok.fresh (xh _))]
 ·let(a,i,g,k):=I.tuple f;erw[call_tuple_same g #[.ref p,H,I,rfl,q]]
def tyV(K:Ah)(T:String)(x:V)(H:Hp):Prop:=match x with
 |.str _=>T= "str"
 |.int _=>T= "int"
 |.ref p=>(T= "list" /\∃ xs,SqL K H p xs)∨(T= "tuple" /\∃ o,K.lookup p\o/\o.cls=.type "tuple" /\o.dict=none) ∨
   (T= "dict" /\(∃ a,H p\(.dK a)))∨(T= "set" /\∃ S n,H p\(.set S n))
 |_=>False
def zly{pins:Ak}{O:St}{H:Hp}{s:Am}{T:String}{x:V}{v:Aj}(I:Inv X pins O H s)(r:RelV x v)(ty:tyV X.K T x H) :
  s.TypeIs v T/\∀ a,v=.ref a->∃ l,s.heap.get? a\l/\l.dict=none:=by
 cases x with
 |str z=>
  let(t,rfl):=r;cases (show T= "str" from ty);exact#[typeIs_str s z t,λ_ e=>nomatch e]
 |int i=>
  let(t,rfl):=r;cases (show T= "int" from ty);exact#[typeIs_int s i t,λ_ e=>nomatch e]
 |ref p=>
  cases r;rcases ty with ⟨rfl,xs,f⟩ | ⟨rfl,o,hk,hc,hd⟩ | ⟨rfl,hk⟩ | ⟨rfl,S,n,hk⟩
  ·let(g,_,d,_):=I.list f;refine#[d.isList.typeIs,λa e=>?_];cases e;let(o,n,e,c,hd,_):=d;exact#[o,e,hd]
  ·refine#[#[o,I.kIn p o hk,hc],λa e=>?_];cases e;exact#[o,I.kIn _ o hk,hd]
  ·let z:∃ o,s.heap.get? p\o/\o.ExactDict:=by
    let(h,hk):=hk;let(_,_,_,_,o,_,_,e,ex,_):=I.hok p _ hk;exact#[o,e,ex]
   let(o,e,ex):=z;refine#[#[o,e,ex.1],λa b=>?_];cases b;exact#[o,e,ex.2.1]
  ·let(o,_,_,_,e,ex,_):=I.hok p _ hk;refine#[#[o,e,ex.1],λa b=>?_];cases b;exact#[o,e,ex.2.1]
 |_=>erw[False.elim ty]
def tBM(K:Ah)(T:String)(r:V->List V->Hp->VK->Prop)(to:TE)(t:TA):TE:=λO H Q=>to O H λx H1=>tyV K T x H1/\t O H1 λxs a=>r x xs a Q
variable {o e:Expr}{es:Ag}{to:TE}{t:TA}{name:Str}{apos af:Pos}{T id:String}{r:V->List V->Hp->VK->Prop}
def zaX (F:PlainAttrs T) (slot:Slot T name id) (i:typeOf (.builtin id)=pure (.type "method_descriptor")) (hm:MtR X id r) (ho:PE X o to) (z:PA X (e::es) t)
  (y:attributeBase o name X.env (eval o X.env)=eval o X.env:=by rfl)
  (E:((backTo af (starEach (e::es) X.env)).all (λx=> !x.1)&&(backToKw af (keywordEach [] X.env)).all (λx=>x.1.isSome)
   && decide (↑(e::es)+↑([]:List Keyword)+(if ([]:List Keyword).isEmpty then 0 else 1)<30))=true:=by rfl)
  (l:(apos.endLine==af.line)=true:=by rfl) (A:starEach (e::es) X.env=(false,eval e X.env)::starEach es X.env:=by rfl) (B:(backTo af (starEach es X.env)).any (·.1)=false:=by rfl) :
  PE X (.Call (.Attribute o name apos) (e::es) [] af) (tBM X.K T r to t):=by
 cbv;erw[wpAny_Call_method_late y E l rfl (thn (ho pins s O H _ I h) λv s1 ⟨x,H1,a,c,ty,k⟩=>?_)];let(g,j):=zly a c ty;refine#[T,id,F,slot,i,g,j,?_];let b:=z af pins s1 O H1 _ a k;rw[A]at b |-
 refine Calls.callWith_builtin (by show (false||(backTo af (starEach es X.env)).any (·.1))=false;rw[B]<;>rfl) (Calls.evalArgs_plain ?_);erw[thn b λus s2 ⟨p,d,f,n,m⟩=>hm pins s2 O d x p v us Q f c n m]
end
def MtM(X:Cx)(id:String)(r:V->List V->Hp->VK->Prop):Prop :=
 ∀(pins:Ak)(s:Am)(O:St)(H:Hp)(x:V)(xs:List V)(v:Aj)(us:An)(Q:VK),Inv X pins O H s->RelV x v->Vals xs us->r x xs H Q ->
  ∅ (call (.builtin id) (v::us)) (EP X pins O Q) X.xe s
def Vals.one(r:Vals [x] us):∃ u,us= [u]/\RelV x u:=by
 cases r with|cons r t=>cases t;exact#[_,rfl,r]
def Vals.reverse{xs:List V}{us:An}(h:Vals xs us):Vals xs.reverse us.reverse:=by
 induction h with|nil=>erw[.nil]|cons r t a=>rw[uO,uO];exact Vals.append a (.cons r .nil)
def Vals.rep(h:Vals xs us):∀ k:Nat,Vals (List.replicate k xs).flatten (List.replicate k us).flatten
 |0=>.nil
 |k+1=>by
  rw[xS,xS,ul,ul];erw[Vals.append h (Vals.rep h k)]
def J5(c:An):∀(k:Nat)(acc:An),
  List.foldl (λi l=>i++l) acc.toArray (List.replicate k c.toArray)=(acc++(List.replicate k c).flatten).toArray
 |0,acc=>by simp
 |k+1,acc=>by
  let e:acc.toArray++c.toArray=(acc++c).toArray:=by simp
  let a:(acc++c)++(List.replicate k c).flatten=acc++(List.replicate (k+1) c).flatten:=by
   rw[xS,ul,uC]
  rw[<- a,<- J5 c k (acc++c),<- e,xS,uG]
section
variable {X:Cx}{pins:Ak}{O:St}{H:Hp}{s:Am}{l:Ap}{xs ys:List V}
def Inv.lset{c i:An}{n:Nat}{f:Array Aj->Array Aj}{v:Nat}(I:Inv X pins O H s)(o:H l\(.lst xs))
  (e:s.heap.get? l\{ cls:=.type "list",data:=.seq c.toArray n }) (hf:f c.toArray=i.toArray) (hv:Vals ys i) (r:↑ys<=sizeLine) :
  Inv X pins O (upd H l (.lst ys)) { s with heap:=s.heap.update l (Obj.mapSeq f),toks:=v }:=by
 let q:=PySem.IsL.update e f;rw[hf]at q;refine I.write (by rw[o];exact trivial) (.inl rfl) (λb u hb a=>(Xf s.heap (Obj.mapSeq f) (Ne.symm hb)).trans a) #[_,q] ?_;exact#[r,i,_,hv,q]
def Inv.lnew{t':Nat}(I:Inv X pins O H s)(hv:Vals ys its)(c:↑ys<=sizeLine) :
  Inv X pins O (upd H ⇑s (.lst ys)) { s with heap:=s.heap.push { cls:=.type "list",data:=.seq its.toArray },toks:=t' } :=
 I.laid (λ_ _ q=>x6 _ q) (xh _) #[c,its,0,hv,Xa _ rfl]
def Inv.fresh(I:Inv X pins O H s):H ⇑s=none:=I.hok.fresh (xh _)
def Inv.lstM (I:Inv X pins O H s) (i:H l\(.lst xs)):↑xs<=sizeLine/\∃ (c:An) (n:Nat),Vals xs c/\↑xs=↑c/\s.heap.get? l\{ cls:=.type "list",data:=.seq c.toArray n }:=by
 let(z,c,n,r,e):=I.hok l _ i;exact#[z,c,n,r,↑r,e]
def zff(h:n<=sizeLine):Builtin.List.listTooLong n=false:=by
 unfold Builtin.List.listTooLong;exact Xc (by lia)
end
section
variable {X:Cx}
def zh4:V->List V->Hp->VK->Prop:=λx a H Q=>∃ l xs y,x=.ref l/\a= [y]/\H l\(.lst xs)/\↑xs<sizeLine/\Q .non (upd H l (.lst (xs++ [y])))
def VW:MtM X "list.append" zh4:=by
 intro pins s O H x i v us Q I f d h;let(l,xs,y,rfl,rfl,b,g,q):=h;cases f;let(u,rfl,c):=d.one;let(z,a,n,r,hl,e):=I.lstM b;refine call_meets F.slot_list_append #[_,e,rfl] F.entry_list_append (F.args_list_append_2 _ _) (PySem.list_append l a.toArray n u (by rw[xm];lia)) #[e,?_];refine#[.non,_,I.lset b e (by simp) (r.append (.cons c .nil)) ?_,rfl,q];rw[xB,uA];lia
def rCat:R2:=λx y H Q=>∃ l b xs zs,x=.ref l/\y=.ref b/\H l\(.lst xs)/\H b\(.lst zs)/\↑xs+↑zs<=sizeLine/\∀ p,H p=none->Q (.ref p) (upd H p (.lst (xs++zs)))
def zkp:OpR X (binaryOp .Add) rCat:=by
 intro pins s O H x y v u Q I m o h;let(l,b,xs,zs,rfl,rfl,i,g,p,q):=h;cases m;cases o;let(z,a,n,r,hl,e):=I.lstM i;let(w,c,t,k,j,d):=I.lstM g;refine PySem.P.add_list e d ?_ (by rw[xm,xm];lia);let f:a.toArray++c.toArray=(a++c).toArray:=by simp
 rw[f];exact#[.ref _,_,I.lnew (r.append k) (by rw[xB];lia),rfl,q _ I.fresh]
def y2{α:Type}(xs:List α)(k:Nat):(List.replicate k xs).flatten.length=k*↑xs:=by
 induction k with|zero=>simp|succ k a=>rw[xS,ul,xB,a,Nat.succ_mul,Nat.add_comm]
end
end Lake.L2
namespace Lake.Att
open PySem PySem.W PySem.Calls PyProof.Rows
def w4:∀(ns:List Int)(c:An),WellAll P h c (ns.map WData.int)->IntsAre c ns:=by
 intro ns
 induction ns with
 |nil=>
  intro c w;rw[List.map_nil]at w;cases w;erw[.nil]
 |cons n ns d=>
  intro c w;rw[xn]at w;cases w with
  |cons a b=>
   cases a;erw[.cons _ _ (d _ b)]
def zcX{l:OpenLaw}(v:l.most\n){P:Params}{h:Heap}{args:List WData}{vals:An}
  (i:l.row.toRowW.claim.pre args=true) (s:WellAll P h vals args) :
  ∃ a o ns,vals= [Value.ref a]/\args= [WData.list (ns.map WData.int)]/\h.get? a\{ cls:=.type "list",data:=.seq o.toArray }/\IntsAre o ns/\↑ns<=n:=by
 let e:=(pre_splitW i).1;let hc:l.pre.holds [] { args:=args }=true:=(pre_splitW i).2;let(d,r,rfl,g,j):=hasAllW_cons e;obtain rfl:=hasAllW_nil j;let(xs,rfl,k):=hasW_list g;let(ns,rfl):=items_int k;let hlen:↑ns<=n:=by
  unfold OpenLaw.pre at hc;let b:(WTm.not (.lt (.lit (.int (n:Int))) (.len (.arg 0)))).holds [] { args:= [.list (ns.map .int)] }=true:=by
   let b:=(holds_andW hc).1;rw[v]at b;erw[b]
  let c:=condW_of b (w_not (w_lt w_lit (w_len_list (w_arg rfl))));rw[xo]at c;erw[Nat.le_of_not_lt λq=>?_];let m:(n:Int)<((↑ns:Nat):Int):=by lia
  first| (rw[decide_eq_true m]at c;exact absurd c (by decide))| (simp at c;lia)
 cases s with
 |cons p t=>
  cases t;cases p with
  |list ho f=>exact#[_,_,ns,rfl,rfl,ho,w4 ns _ f,hlen]
def zcS(l:OpenLaw)(args:List WData):l.row.toRowW.claim.post args (.bool true) args=true :=
 postW_of
  (show WShape.has [] (.bool true) .bool=true by first | rfl | decide | simp[WShape.has,WShape.arms,WShape.armsAll])
  (show (WTm.eq .res (.lit (.bool true))).value [] { args:=args,res:=some (.bool true),after:=args }\(.bool (true==true)) from w_eq_bool (w_res rfl) w_lit) rfl
def attach_call{l:OpenLaw}{n:Nat}{q:Ar}{loose:Ab}{v:(Aq)->Heap->Prop}{y:World->Heap->Prop}{d:DefRec}
  (z:l.most\n) (A:d.params.defaults= [])
  (call:∀(w:World)(s₀ c:Am)(mg mb:Aq)(fa:Ap)(o:Obj)(pm cd doc:Aj)(a:Ap)(i:An)(ns:List Int),
   Ground q loose [] v w s₀ mg mb c.heap->y w c.heap ->
   c.heap.get? fa\o->o.data=.func (docDef d.name d.params d.body d.scope pm cd doc)->c.heap.CodeRec cd d.name->mg d.name\(.ref fa) ->
   c.heap.get? a\{ cls:=.type "list",data:=.seq i.toArray }->IntsAre i ns->↑ns<=n->c.gens=(List.toArray []) ->
   codeAny (model l.prog w) callerA (.call (.ref fa) #[[.ref a],[]]) (λr s=>r=.ok (.ret (.bool true))/\OldK c.heap s.heap/\s.os=c.os/\AllBare s.gens) c) :
  WalkO q loose v y l.row.toRowW d [] (λf i=>PySem.call f i):=by
 intro w s₀ c mg mb G Y fa o pm cd doc h kV ho hd hcd b u hg args vals as g B C e x;obtain rfl:h=.none:=Dflts.none b A;obtain rfl:kV=.none:=Dflts.noKw b;let(a,i,ns,rfl,rfl,t,hints,hlen):=zcX z g e;erw[enter_call (Xl (call w s₀ c mg mb fa o pm cd doc a i ns G Y ho (fd_plain hd) hcd u t hints hlen hg) λr s p=>?_)];let(rfl,j,k,m):=p;exact#[.inl #[.bool true,.bool true,[],rfl,λ_=>rfl,.bool true,zcS l _,λ_=>#[List.Pairwise.nil,λ_ hm=>(nomatch hm)]],j,k,m]
end Lake.Att
namespace Lake.L2
open PySem PySem.Spec PyProof.Rows
def QN{c:An}(h:IntsAre c ns):Vals (ns.map V.int) c:=by
 induction h with|nil=>erw[.nil]|cons n t _ a=>erw[.cons #[t,rfl] a]
def zjy(H:Hp):=∀ b,H b=none∨∃ o xs,H b\(.frz o (.lst xs))
def ze0{P:Ar}{w:World}{K:Ah}{mg mb:Aq}{A:CXT}{k:Nat}{fa a:Ap}{fd:FuncData}{x:Str}{sp:Sp}{c:Am}{l:An}{ns:List Int}
  (E:K.In c.heap) (G:c.heap.Ns mainGlobals mg) (hb:c.heap.Ns builtinsNs mb) (N:∀ x:Str,x≠ "__name__" ->mb x=bootBuiltins x) (M:c.heap.NoLimit) (hg:c.gens=(List.toArray []))
  (y:c.heap.get? a\{ cls:=.type "list",data:=.seq l.toArray }) (hi:IntsAre l ns) (hl:↑ns<=sizeLine) (X:Room k callerA)
  (F:∀ base:Heap,K.In base->base.Ns mainGlobals mg->FnOk P w K mg base A k fa fd [x] sp) (I:∀(s:Am)(u:Aj),BindsTo s fd #[[u],[]] [(x,u)])
  (O:∀ H:Hp,zjy H->SqL K H a (ns.map V.int)->sp [.ref a] H (λv _=>v=.bl true) λ_ _ _=>False)
  (L:∀ H e i,A [] H c (λ_ _ _=>False) e i->False) :
  codeAny (model P w) callerA (.call (.ref fa) #[[.ref a],[]]) (λr i=>r=.ok (.ret (.bool true))/\OldK c.heap i.heap/\i.os=c.os/\AllBare i.gens) c:=by
 let D:=QN hi;let f:=↑hi;have core:∀ H:Hp,zjy H->SqL K H a (ns.map V.int)->HOk P w H c.heap->(∀ b,H b≠none->b=a)->(H a≠none->K.lookup a=none) ->
   codeAny (model P w) callerA (.call (.ref fa) #[[.ref a],[]]) (λr i=>r=.ok (.ret (.bool true))/\OldK c.heap i.heap/\i.os=c.os/\AllBare i.gens) c:=by
  intro H C U hok hA hK;let QD:∀{b:Ap}{o:Obj},c.heap.get? b\o->H b=none->(yV c.heap H).get? b\o:=λe n=>zeT e n;let r9:∀{b:Ap}{o:Obj}{p:Array DictEntry}{j:Nat},c.heap.get? b\o->o.data=.dict p j->H b=none:=λ{b o p j} e d=>by
   grind
  let g:∀{b:Ap}{m:Aq},c.heap.Ns b m->(yV c.heap H).Ns b m:=λ{b m} ⟨o,p,j,e,d,r⟩=>#[o,p,j,QD e (r9 e d),d,r];let B:K.In (yV c.heap H):=λb o e=>QD (E b o e) (by
   grind)
  let T:Mod K mg (yV c.heap H):=#[B,g G,#[mb,g hb,N],let #[mc,R,S]:=M;#[mc,g R,S]];let Q:Env0 P w K mg (yV c.heap H) callerA [] c H:=#[rfl,T,λb o e=>zhG e,Nat.le_of_eq (zcy _ _),trivial,λb hb=>absurd (show b∈([]:List Ap) from hb) (by simp),hok,.of_eq hg];erw[Xl ((F _ B (g G)).run callerA [] c H #[[.ref a],[]] [.ref a] [.ref a] _ _ X Q (I c (.ref a)) (.cons rfl .nil) (O H C U)) λr i h=>?_];cases r with
  |error e=>erw[(L H e i h).elim]
  |ok fl=>
   cases fl with
   |next=>erw[False.elim h]
   |brk=>erw[False.elim h]
   |cont=>erw[False.elim h]
   |ret u=>
    let(v,H',os,bare,un,J,Z,q):=h;let Y:=q;subst Y;obtain rfl:u=Value.bool true:=Z;refine#[rfl,OldK.of_keep λb o e=>?_,os,bare];cases q:H b with
    |none=>exact un.keep b o e q (by intro z;exact absurd (show b∈([]:List Ap) from z) (by simp)) (by simp)
    |some u=>
     rcases C b with z | ⟨W,xs,z⟩
     ·rw[q]at z;cases z
     ·let z2:=un.frzs b W _ z;let(e1,_):=hok b _ z;let(e2,_):=J b _ z2;grind
 cases hk:K.lookup a with
 |some o=>
  let e:=E a o hk;rw[y]at e;cases e;refine core (λ_=>none) (λ_=>.inl rfl) (.inr #[_,l.toArray,_,hk,rfl,rfl,rfl,by rw[xm,f];exact hl,~~~D]) (λb u z=>by grind) (λb z=>absurd rfl z) λz=>absurd rfl z
 |none=>
  erw[core (λb=>if b=a then some (.frz { cls:=.type "list",data:=.seq l.toArray } (.lst (ns.map V.int))) else none) (λb=>?_) (.inl (.inr #[{ cls:=.type "list",data:=.seq l.toArray },if_pos rfl])) (λb u z=>?_) (λb z=>?_) λ_=>hk]
  ·by_cases hb:b=a
   ·erw[.inr #[_,_,if_pos hb]]
   ·erw[.inl (if_neg hb)]
  ·by_cases hb:b=a
   ·let t:=(if_pos hb).symm.trans z;cases t;subst hb;exact#[y,by rw[xo];exact hl,l,_,D,y]
   ·let t:=(if_neg hb).symm.trans z;cases t
  ·by_cases hb:b=a
   ·erw[hb]
   ·erw[absurd (if_neg hb) z]
abbrev KOf{K:Ah}{h:Heap}(_:K.In h):Ah:=K
def walk_of{l:W.OpenLaw}{n k:Nat}{q:Ar}{loose:Ab}{z:(Aq)->Heap->Prop}{i:World->Heap->Prop}{d:DefRec}{K:Params->Ah}{CX:World->CXT}{sp:World->Sp}{x:Str}
  (E:l.most\n) (J:n<=sizeLine) (L:d.params.defaults= []) (I:Room k callerA)
  (B:∀(w:World)(h:Heap),i w h->(K w.params).In h)
  (F:∀(w:World)(mg:Aq)(fa:Ap)(h:Heap),(K w.params).In h->h.Ns mainGlobals mg->mg d.name\(.ref fa) ->
   ∃ fd:FuncData,(∀(s:Am)(u:Aj),BindsTo s fd #[[u],[]] [(x,u)]) /\
    ∀ base:Heap,(K w.params).In base->base.Ns mainGlobals mg->FnOk l.prog w (K w.params) mg base (CX w) k fa fd [x] (sp w))
  (A:∀(w:World)(H:Hp)(a:Ap)(ns:List Int),↑ns<=n->zjy H->SqL (K w.params) H a (ns.map V.int)->sp w [.ref a] H (λv _=>v=.bl true) λ_ _ _=>False)
  (y:∀(w:World)(H:Hp)(s:Am)(e:Aj)(c:Am),CX w [] H s (λ_ _ _=>False) e c->False) :
  W.WalkO q loose z i l.row.toRowW d [] (λf r=>PySem.call f r):=by
 erw[Att.attach_call E L λw s₀ b mg mb fa o pm cd doc a r ns G Y ho hd hcd C t hints hlen hg=>?_];let g:=B w _ Y;let(fd,hb,j):=F w mg fa _ g G.T.g C;erw[ze0 g G.T.g G.T.b G.T.builtins G.T.nolimit hg t hints (xK hlen J) I j hb (λH m p=>A w H a ns hlen m p) λH e c=>y w H b e c]
def jp(s:Stmt):Arguments:=match s with|.FunctionDef _ a _ _ _ _ _ _ _ _=>a|_=>{ posonlyargs:= [],args:= [],vararg:=none,kwonlyargs:= [],kw_defaults:= [],kwarg:=none,defaults:= [] }
abbrev CX0:CXT:=λ_ _ _ _ _ _=>False
abbrev E0:XK:=λ_ _ _=>False
def zml:yk CX0 X E0:=λ_ _ _ _ _ _ _ h=>h.elim
structure Fun(K:Ah)(x qual:Str)(st:Stmt)(f:Ap)(fd:FuncData):Prop where
 ex:∃(oc:Aj)(od:Option Ap)(kV doc pm:Aj)(an:Option Ap)(ah ct:Aj)(g8:Array (Option Aj)),
  fd=W.fnOf x qual (jp st) (defBody st) (defScope st) .none kV doc pm an ah ct/\K.lookup f\#[oc,od,.func fd,g8]/\W.codeIn K ah qual=true
 kp:W.keepIn K (.ref f)=true
section
variable {P:Ar}{w:World}{K:Ah}{mg:Aq}{base:Heap}
def Fun.ok{x qual:Str}{st:Stmt}{f:Ap}{fd:FuncData}{N ps:Ab}{k:Nat}{sp:Sp}(F:Fun K x qual st f fd)(S:Zq N ps (defScope st))(len:∀ vs H Q E,sp vs H Q E->↑vs=↑ps)
  (y:∀(l:Aj)(A:Around)(outer:List Env)(s:Am)(H:Hp)(vs:List V)(Q:VK)(E:XK),Room k (A.deeper (envOfC qual (defScope st) ⇑s f l))->sp vs H Q E ->
   ∃ t,PSs (Q9 CX0 P w K mg base N qual (defScope st) f l A outer s H E).nox (defBody st) t/\t { nx:=λ_ r=>Q .non r,rt:=Q } (start N vs) H):FnOk P w K mg base CX0 (k+1) f fd ps sp:=by
 let(e,g,kV,doc,pm,an,l,ct,d,rfl,c,hcd):=F.ex;erw[zjk c hcd S len λA outer s H vs Q E b a=>?_];let(t,h,q):=y l A outer s H vs Q E b a;exact#[t,h.nox,q]
def Fun.binds{x qual:Str}{st:Stmt}{f:Ap}{fd:FuncData}{ps:Ab}(F:Fun K x qual st f fd)
  (h:∀(kV doc pm:Aj)(an:Option Ap)(c ct:Aj)(us:An),↑us=↑ps->bindArgs (W.fnOf x qual (jp st) (defBody st) (defScope st) .none kV doc pm an c ct) #[us,[]]=pure (ps.zip us)):Binds K fd ps []:=by
 let(d,e,kV,doc,pm,an,c,ct,a,rfl,b,hcd):=F.ex;erw[.all (h kV doc pm an c ct)]
def Je{st:Stmt}{f:Ap}{o:Aj}{kV doc pm i ct:Aj}(l:K.lookup f\#[o,J,.func (W.fnOf x qual (jp st) (defBody st) (defScope st) .none kV doc pm an i ct),I])
  (c:W.codeIn K i qual=true) (k:W.keepIn K (.ref f)=true):Fun K x qual st f (W.fnOf x qual (jp st) (defBody st) (defScope st) .none kV doc pm an i ct):=#[#[o,J,kV,doc,pm,an,i,ct,I,rfl,l,c],k]
end
section
variable {X:Cx}
def pv (i:Nat){pos:Pos}(hN:X.N[i]?\x:=by rfl) (hv:Vis X.env.scope x:=by first | exact Or.inl rfl | exact Or.inr (Or.inl rfl) | exact Or.inr (Or.inr rfl)) (hd:(↥x):=by decide)
    (hcd:(x==("__classdict__" :Str))=false:=by decide):PE X (.Name x pos) (zmR i):=qG hN hv hd hcd
end
def YW{A B:Prop}(h:B):if false=true then A else B:=by
 rw[if_neg uJ];erw[h]
def YX{A B:Prop}(h:A):if true=true then A else B:=by
 rw[if_pos rfl];erw[h]
def Same(H c:Hp):=∀ b o,H b\o->c b\o
def Same.refl(H:Hp):Same H H:=λ_ _ h=>h
def Same.trans(a:Same H H1)(b:Same H1 I):Same H I:=λc o h=>b c o (a c o h)
def Same.free{H c:Hp}(e:Same H c){l:Ap}(h:c l=Option.none):H l=Option.none:=by
 cases q:H l with
 |none=>rfl
 |some o=>
  rw[e l o q]at h;cases h
def Same.seq{K:Ah}{H c:Hp}{a:Ap}{xs:List V}(e:Same H c)(h:SqL K H a xs):SqL K c a xs:=by
 rcases h with (h | ⟨o,h⟩) | h
 ·erw[.inl (.inl (e _ _ h))]
 ·erw[.inl (.inr #[o,e _ _ h])]
 ·erw[.inr h]
section
variable {κ:Type}[DecidableEq κ]
def vW(c:List (κ×V))(k:κ):Option V:=(c.find? λa=>decide (a.1=k)).map (·.2)
def JC(c:List (κ×V))(k:κ)(v:V):List (κ×V) :=
 if (c.any λa=>decide (a.1=k))=true then c.map (λa=>if a.1=k then (a.1,v) else a) else c++ [(k,v)]
def WU(c:List (κ×V))(k:κ):List (κ×V):=c.filter λa=>decide (a.1≠k)
def zgy{k:κ}(e:p.1=k):vW (p::r) k\p.2:=by simp[vW,ue,e]
def zgx{k:κ}(e:¬ p.1=k):vW (p::r) k=vW r k:=by simp[vW,ue,e]
def wz(c:List (κ×V))(k:κ)(v:V):↑(JC c k v)<=↑c+1:=by
 unfold JC
 split
 ·rw[xo];lia
 ·rw[xB,xz,uo];lia
def RelO.isSome_eq(r:RelO o u):o.isSome=u.isSome:=by
 cases o with
 |none=>cases u with
  |none=>rfl
  |some _=>erw[(show False from r).elim]
 |some _=>cases u with
  |none=>erw[(show False from r).elim]
  |some _=>rfl
def RelO.getD(r:RelO o u)(rd:RelV d I):RelV (o.getD d) (u.getD I):=by
 cases o with
 |none=>cases u with
  |none=>erw[rd]
  |some _=>erw[(show False from r).elim]
 |some _=>cases u with
  |none=>erw[(show False from r).elim]
  |some _=>erw[r]
def KV.val(r:KV o I)(k:κ):RelO (vW o k) (valueAt I k):=by
 unfold KV at r
 induction r with
 |nil=>erw[True.intro]
 | @cons p q ps c h t g=>
  let(d,f):=h;by_cases e:p.1=k
  ·let a:=d.symm.trans e;let b:valueAt (q::c) k\q.2:=by simp[valueAt,ue,a]
   rw[zgy e,b];exact f
  ·let a:¬ q.1=k:=λz=>e (d.trans z);let b:valueAt (q::c) k=valueAt c k:=by simp[valueAt,ue,a]
   rw[zgx e,b];exact g
def KV.any(r:KV kvs vs)(k:κ):(kvs.any λi=>decide (i.1=k))=vs.any λi=>decide (i.1=k):=by
 unfold KV at r
 induction r with|nil=>rfl|cons h t a=>rw[xX,xX,a,h.1]
def KV.repl(r:KV kvs vs)(k:κ)(i:RelV y u) :
  KV (kvs.map λc=>if c.1=k then (c.1,y) else c) (vs.map λc=>if c.1=k then (c.1,u) else c):=by
 unfold KV at r |-
 induction r with
 |nil=>erw[.nil]
 | @cons p q ps f h t d=>
  rw[xn,xn];erw[.cons ?_ d];let(a,b):=h;by_cases e:p.1=k
  ·rw[if_pos e,if_pos (a.symm.trans e)];exact#[a,i]
  ·rw[if_neg e,if_neg (λz=>e (a.trans z))];exact#[a,b]
def KV.put(r:KV o I)(k:κ)(c:RelV y u):KV (JC o k y) (stored I k u):=by
 unfold JC stored;rw[r.any k];by_cases e:(I.any λa=>decide (a.1=k))=true
 ·rw[if_pos e,if_pos e];exact r.repl k c
 ·rw[if_neg e,if_neg e];exact Paired.snoc r #[rfl,c]
def KV.drop(r:KV o I)(k:κ):KV (WU o k) (without I k):=by
 unfold KV at r |-
 unfold WU without
 induction r with
 |nil=>erw[.nil]
 | @cons p q ps i h t g=>
  let(c,f):=h;rw[ur,ur];by_cases e:p.1=k
  ·grind
  ·let d:¬ q.1=k:=λz=>e (c.trans z);let a:decide (p.1≠k)=true:=by simp[e]
   let b:decide (q.1≠k)=true:=by simp[d]
   rw[if_pos a,if_pos b];exact .cons #[c,f] g
def KV.keys{c:List (κ×V)}(r:KV c vs):c.map (·.1)=vs.map (·.1):=by
 unfold KV at r
 induction r with|nil=>rfl|cons h t a=>rw[xn,xn,a,h.1]
def KV.length(r:KV kvs vs):↑kvs=↑vs:=Paired.length r
def zdR(c:List (κ×V))(k:κ):↑(WU c k)<=↑c:=List.length_filter_le _ _
end
def ww(r:RelV (kV k) u):(qv P w).is k u=true:=by
 cases k with|inl i=>let⟨t,e⟩:=(show ∃ t,u=Value.int i t from r);subst e;exact Y3 P w i t|inr x=>let⟨t,e⟩:=(show ∃ t,u=Value.str x t from r);subst e;exact Y4 P w x t
section
variable {P:Ar}{w:World}{H:Hp}{h:Heap}{a:Ap}
def zmu(ok:HOk P w H h)(e:Rd H a u):ObjOk P w H h a u:=e.ok ok
def Qd(ok:HOk P w H h)(e:Rd H a (.dK kvs)):↑kvs<=sizeLine/\(a==sysModules)=false/\∃ c,KV kvs c/\h.DictOf (qv P w) a c :=
 show ObjOk P w H h a (.dK kvs) from zmu ok e
def zaK(ok:HOk P w H h)(e:H a\(.dK kvs)):↑kvs<=sizeLine/\(a==sysModules)=false/\∃ c,KV kvs c/\h.DictOf (qv P w) a c:=Qd ok (.inl e)
end
def V8(H:Hp)(a:Ap)(y:V)(r:Option V):Prop :=
 ∃ b k,Rd H a (.dK b)/\y=kV k/\r=vW b k
def zlL(H:Hp)(a:Ap)(y v:V)(c:Hp):Prop :=
 ∃ b k,H a\(.dK b)/\y=kV k/\↑b<sizeLine/\c=upd H a (.dK (JC b k v))
section
variable {X:Cx}{pins:Ak}{O:St}{H:Hp}{s:Am}{a:Ap}{y v:V}{u r:Aj}{o:Option V}{A:Around}{E:Af}
def Inv.big(I:Inv X pins O H s):sysModules<⇑s:=by
 let h:=(I.mod.glob.keeps I.bk).lt;exact Nat.lt_trans (by decide) h
def zbB(F:A.units+1<cLine)(I:Inv X pins O H s)(g:V8 H a y (some v))(B:RelV y u)(h:∀ c i,Inv X pins O H i->RelV v c->Q c i) :
  wpAny (model X.prog X.w) A (getItem (.ref a) u) Q E s:=by
 let(j,k,e,f,l):=g;subst f;let(z,hd,m,rel,d):=Qd I.hok e;let(c,hw,b):=RelO.some_of (by rw[l];exact rel.val k);erw[wpAny_getItem_of (ww B) d.mapOf hw (h c _ (I.tok _) b)]
def d_in(B:A.units+1<cLine)(I:Inv X pins O H s)(g:V8 H a y o)(i:RelV y u)(h:∀ c,Inv X pins O H c->Q (.bool o.isSome) c) :
  wpAny (model X.prog X.w) A (compareOp .In u (.ref a)) Q E s:=by
 let(f,k,e,d,l):=g;subst d;let(z,hd,j,rel,b):=Qd I.hok e;erw[wpAny_in_of (ww i) hd b.mapOf ?_];rw[<- (rel.val k).isSome_eq,<- l];erw[h _ (I.tok _)]
def zg5(B:A.units+1<cLine)(I:Inv X pins O H s)(g:V8 H a y o)(i:RelV y u)(h:∀ c,Inv X pins O H c->Q (.bool (!o.isSome)) c) :
  wpAny (model X.prog X.w) A (compareOp .NotIn u (.ref a)) Q E s:=by
 let(f,k,e,d,l):=g;subst d;let(z,hd,j,rel,b):=Qd I.hok e;erw[wpAny_notIn_of (ww i) hd b.mapOf ?_];rw[<- (rel.val k).isSome_eq,<- l];erw[h _ (I.tok _)]
def yL{l:Nat}(I:Inv X pins O H s)(i:Mut (H a))(c:Heap.SameBut a s.heap h')(he:∃ q,h'.get? a\q)(new:ObjOk X.prog X.w (upd H a J) h' a J) :
  Inv X pins O (upd H a J) { s with heap:=h',toks:=l } :=
 I.write i (.inl rfl) (λb q hb z=>(c.2 b hb).trans z) he new
def WT{c:Hp}(z:↑kvs<=sizeLine)(hd:(a==sysModules)=false)(rel:KV kvs I)(i:h'.DictOf (qv P w) a I) :
  ObjOk P w c h' a (.dK kvs):=#[z,hd,I,rel,i]
def zbH(G:A.units+1<cLine)(I:Inv X pins O H s)(g:zlL H a y v J)(F:RelV y u)(B:RelV v r)(h:∀ i,Inv X pins O J i->Q () i) :
  wpAny (model X.prog X.w) A (setItem (.ref a) u r) Q E s:=by
 let(b,k,e,j,l,f):=g;subst j f;let(z,hd,p,rel,d):=zaK I.hok e;let t:↑p<=sizeLine:=by rw[<- ↑rel];exact z
 let hl:↑(JC b k v)<=sizeLine:=by have:=wz b k v;lia
 erw[wpAny_setItem_pairs (ww F) d λm c o=>h _ ?_];let he:∃ q,m.get? a\q:=let #[q,_,_,n,_]:=c;#[q,n];exact yL I (by rw[e];exact True.intro) o he (WT hl hd (rel.put k B) c)
end
section
variable {X:Cx}{pins:Ak}{O:St}{H:Hp}{s:Am}{a:Ap}{kvs:List (Key×V)}{k:Key}{u:Aj}{A:Around}{E:Af}
def zlW{Q:Af}(I:Inv X pins O H s)(e:H a\(.dK kvs))(o:RelV (kV k) u)(l:vW kvs k\v)(hm:more= []∨∃ x,more= [x])
  (h:∀ c r,Inv X pins O (upd H a (.dK (WU kvs k))) r->RelV v c->Q c r):wpAny (model X.prog X.w) A (call (.builtin "dict.pop") (.ref a::u::more)) Q E s:=by
 let(z,hd,p,rel,b):=zaK I.hok e;let(c,hw,f):=RelO.some_of (by rw[<- l];exact rel.val k);let hp:(keyPart u).isSome=true:=by
  cases k with|inl i=>let⟨t,q⟩:=(show ∃ t,u=Value.int i t from o);subst q;rfl|inr x=>let⟨t,q⟩:=(show ∃ t,u=Value.str x t from o);subst q;rfl
 let j:argsOk "dict.pop" ⟨.ref a::u::more,[]⟩:=by
  rcases hm with q | ⟨x,q⟩
  ·subst q;exact PySem.F.args_dict_pop_2 _ _
  ·subst q;exact PySem.F.args_dict_pop_3 _ _ _
 refine call_meetsIn PySem.F.slot_dict_pop b.typeIs PySem.F.entry_dict_pop j (meets_dict_pop_there (qv X.prog X.w) a (ww o) more hm hp)
  #[p,c,b,by rw[<- ↑rel];exact z,hw,λg d n=>h c _ ?_ f]
 let he:∃ q,g.get? a\q:=let #[q,_,_,m,_]:=d;#[q,m];exact yL I (by rw[e];exact True.intro) n he (WT (xK (zdR kvs k) z) hd (rel.drop k) d)
end
def zgN(i:Expr):=∀ b a,subscripted i false b a=operate [b,a] (getItem b a)
def ziP{prog:Ar}{w:World}{A:Around}{E:Af}{s:Am}{env:Env}{value slice:Expr}{pos:Pos}{T id:String}{Q:Af}
  (hl:typeLookup (.type T) "__getitem__" =pure (some (.builtin id))) (v:zgN slice)
  (h:wpAny (model prog w) A (eval value env) (λo l=>wpAny (model prog w) A (eval slice env) (λi c=>c.TypeIs o T/\wpAny (model prog w) A (getItem o i) Q E c) E l) E s) :
  wpAny (model prog w) A (eval (.Subscript value slice pos) env) Q E s:=by
 erw[Subscript_ (Xe h (λo l d=>Xe d (λi c a=>?_) λ_ _ x=>x) λ_ _ x=>x)];let(f,a):=a;unfold subscriptTail;erw[x5 ?_];rw[getitemInPython_of_ne f.not_modules];erw[x5 (wpAny_specialOf f hl ?_)];let fin:wpAny (model prog w) A (subscripted slice false o i) (λr b=>wpAny (model prog w) A (letTemporaryGo value o r >>= λ_=>pure r) Q E b) E c:=by
  rw[v o i];erw[wpAny_operating (Xe a (λr b e=>x5 (wpAny_letTemporaryGo (x9 e))) λ_ _ x=>x)]
 first|exact x9 (x5 fin)|exact x5 (x9 (x5 fin))|exact x5 fin
def YM (I:Inv X pins O H s) (g:V8 H a y o):s.TypeIs (.ref a) "dict" :=by
 let(c,k,e,_,_):=g;let(_,_,d,_,b):=Qd I.hok e;erw[b.typeIs]
def zmL(c ty:TE):TE:=λO H Q=>c O H λx H1=>ty O H1 λy b=>∃ a v,x=.ref a/\V8 b a y (some v)/\Q v b
def zmy(i ty l:TE):TS:=λD O H=>l O H λv H1=>i O H1 λx c=>ty O c λy d=>∃ a b,x=.ref a/\zlL d a y v b/\D.nx O b
section
variable {X:Cx}{o i value:Expr}{pos pos':Pos}{td ty tv:TE}
def zhQ(r:X.A.units+1<cLine)(ho:PE X o td)(hi:PE X i ty)(l:zgN i):PE X (.Subscript o i pos) (zmL td ty):=by
 cbv;erw[ziP PySem.F.slot_dict_getitem.lookup l (thn (ho pins s O H _ I h) λu s1 ⟨x,H1,d,m,j⟩=>thn (hi pins s1 O H1 _ d j) λp s2 ⟨y,c,b,n,a,v,ex,g,k⟩=>?_)];subst ex;obtain rfl:u=Value.ref a:=m;exact#[YM b g,zbB r b g n λq s3 e f=>#[v,c,e,f,k]]
def zhY(z:X.A.units+1<cLine)(ho:PE X o td)(hi:PE X i ty)(hv:PE X value tv)(l:swapsWith value (some (.Subscript o i pos')) pos.line X.env=pure false) :
  PS X (.Assign [.Subscript o i pos'] value pos) (zmy td ty tv):=by
 intro pins s O H D I h;erw[wpAny_Assign_Subscript (thn (hv pins s O H _ I h) λr s1 ⟨v,H1,d,p,k⟩=>thn (ho pins s1 O H1 _ d k) λu s2 ⟨x,b,e,q,m⟩=>thn (hi pins s2 O b _ e m) λA s3 ⟨y,w,f,t,a,c,ex,g,n⟩=>?_) l];subst ex;obtain rfl:u=Value.ref a:=q;erw[zbH z f g t p λs4 j=>#[O,c,j,n]]
end
def Ej (h:Heap) (hb:sysModules<h.objs.size):ObjOk P w H (h.push { cls:=.type "dict",data:=.dict (List.toArray []) }) h.objs.size (.dK []) :=
 #[xY _,Xb.mpr (Ne.symm (xj hb)),[],.nil,Heap.DictOf.new h]
def zlu:TE:=λ_ H Q=>∀ p,H p=none->Q (.ref p) (upd H p (.dK []))
section
variable {X:Cx}{pos:Pos}
def pe_dnewK:PE X (.Dict [] [] pos) zlu:=λpins s O H Q I h=>
 wpAny_Dict_empty #[.ref ⇑s,_,I.laid (λ_ _ q=>x6 _ q) (xh _) (Ej s.heap I.big),rfl,h _ (I.hok.fresh (xh _))]
end
def Ji(c more:List (Key×V)):List (Key×V):=more.foldl (λacc a=>JC acc a.1 a.2) c
def KV.merge:∀{more:List (Key×V)}{rs:List (Key×Value)}{c:List (Key×V)}{i:List (Key×Value)},KV more rs->KV c i->KV (Ji c more) (merged i rs):=by
 intro more rs c i r;unfold KV at r
 induction r generalizing c i with
 |nil=>intro q;exact q
 | @cons p q ps d h t a=>
  intro b;let e:KV (JC c p.1 p.2) (stored i q.1 q.2):=by
   have:=b.put p.1 h.2;rw[<- h.1];exact this
  erw[a e]
def QS:∀(more c:List (Key×V)),↑(Ji c more)<=↑c+↑more
 |[],c=>by show ↑c<=↑c+0;lia
 |p::r,c=>by
  let a:=QS r (JC c p.1 p.2);let b:=wz c p.1 p.2;show ↑(Ji (JC c p.1 p.2) r)<=_;rw[xz];lia
structure M1(X:Cx)(o:Expr)(m:Str)(apos:Pos)(e:Expr)(af:Pos):Prop where
 base:attributeBase o m X.env (eval o X.env)=eval o X.env
 few:((backTo af (starEach [e] X.env)).all (λx=> !x.1)&&(backToKw af (keywordEach [] X.env)).all (λx=>x.1.isSome)
  && decide (↑([e]:Ag)+↑([]:List Keyword)+(if ([]:List Keyword).isEmpty then 0 else 1)<30))=true
 line:(apos.endLine==af.line)=true
 trees:backTo af (starEach [e] X.env)= [(false,eval e X.env)]
structure M2(X:Cx)(o:Expr)(m:Str)(apos:Pos)(e f:Expr)(af:Pos):Prop where
 base:attributeBase o m X.env (eval o X.env)=eval o X.env
 few:((backTo af (starEach [e,f] X.env)).all (λx=> !x.1)&&(backToKw af (keywordEach [] X.env)).all (λx=>x.1.isSome)
  && decide (↑([e,f]:Ag)+↑([]:List Keyword)+(if ([]:List Keyword).isEmpty then 0 else 1)<30))=true
 line:(apos.endLine==af.line)=true
 trees:backTo af (starEach [e,f] X.env)= [(false,eval e X.env),(false,eval f X.env)]
def IsD(H:Hp)(a:Ap):=∃ b,Rd H a (.dK b)
def yZ(I:Inv X pins O H s)(d:IsD H a) :
  s.TypeIs (.ref a) "dict" /\(∀ b,Value.ref a=.ref b->∃ c,s.heap.get? b\c/\c.dict=none)/\(a==sysModules)=false:=by
 let(i,e):=d;let(_,hd,j,_,f):=Qd I.hok e;refine#[f.typeIs,λb q=>?_,hd];cases q;let(c,_,_,g,h,_):=f;exact#[c,g,h.2.1]
section
variable {X:Cx}{pins:Ak}{O:St}{H:Hp}{s:Am}{a:Ap}{y d:V}{u r:Aj}{o:Option V}{A:Around}{E:Af}
def zjT(B:A.units+1<cLine)(I:Inv X pins O H s)(g:V8 H a y o)(v:RelV y u)(rd:RelV d r)(h:∀ i c,Inv X pins O H c->RelV (o.getD d) i->Q i c) :
  wpAny (model X.prog X.w) A (call (.builtin "dict.get") [.ref a,u,r]) Q E s:=by
 let(j,k,e,f,l):=g;subst f;let(z,hd,m,rel,b):=Qd I.hok e;erw[call_meetsIn PySem.F.slot_dict_get b.typeIs PySem.F.entry_dict_get (PySem.F.args_dict_get_3 _ _ _) (meets_dict_get_default (qv X.prog X.w) a (ww v) hd r) #[_,b.mapOf,h _ _ (I.tok _) ?_]];rw[l];erw[(rel.val k).getD rd]
end
def zlt(i ty l:TE):TE:=λO H Q=>i O H λx H1=>∃ a,x=.ref a/\IsD H1 a/\ty O H1 λy c=>l O c λz b=>∃ o,V8 b a y o/\Q (o.getD z) b
def zlv(i ty:TE):TE:=λO H Q=>i O H λx H1=>∃ a,x=.ref a/\IsD H1 a/\ty O H1 λy c=>∃ b k v,c a\(.dK b)/\y=kV k/\vW b k\v/\Q v (upd c a (.dK (WU b k)))
section
variable {X:Cx}{o e f:Expr}{apos af:Pos}{td ty tx:TE}
def zfp (r:X.A.units+1<cLine) (ho:PE X o td) (he:PE X e ty) (hf:PE X f tx) (m:M2 X o "get" apos e f af):PE X (.Call (.Attribute o "get" apos) [e,f] [] af) (zlt td ty tx):=by
 cbv;erw[wpAny_Call_method m.base m.few m.line PySem.F.plainAttrs_dict PySem.F.slot_dict_get PySem.F.type_dict_get (thn (ho pins s O H _ I h) λu s1 ⟨x,H1,b,v,a,ex,d,p⟩=>?_)];subst ex;obtain rfl:u=Value.ref a:=v;let(t1,A,_):=yZ b d;refine#[t1,A,?_];rw[m.trees];refine Calls.callWith_builtin rfl (Calls.evalArgs_plain (Calls.spliced_cons (thn (he pins s1 O H1 _ b p) λC s2 ⟨y,c,j,w,q⟩=>
  Calls.spliced_cons (thn (hf pins s2 O c _ j q) λB s3 ⟨z,i,k,rz,D,g,t⟩=>Calls.spliced_nil ?_))))
 erw[zjT r k g w rz λE s4 l n=>#[_,i,l,n,t]]
def zfr (ho:PE X o td) (he:PE X e ty) (m:M1 X o "pop" apos e af):PE X (.Call (.Attribute o "pop" apos) [e] [] af) (zlv td ty):=by
 cbv;erw[wpAny_Call_method m.base m.few m.line PySem.F.plainAttrs_dict PySem.F.slot_dict_pop PySem.F.type_dict_pop (thn (ho pins s O H _ I h) λu s1 ⟨x,H1,b,r,a,ex,d,p⟩=>?_)];subst ex;obtain rfl:u=Value.ref a:=r;let(t1,w,_):=yZ b d;refine#[t1,w,?_];rw[m.trees];erw[Calls.callWith_builtin rfl (Calls.evalArgs_plain (Calls.spliced_cons (thn (he pins s1 O H1 _ b p) λA s2 ⟨y,z,c,t,n,k,v,i,j,l,q⟩=>Calls.spliced_nil ?_)))];subst j;erw[zlW c i t l (.inl rfl) λB s3 f g=>#[v,_,f,g,q]]
end
section
variable {X:Cx}{pins:Ak}{O:St}{H:Hp}{s:Am}{a:Ap}{kvs:List (Key×V)}{A:Around}{E:Af}
def zdJ (I:Inv X pins O H s) (e:Rd H a (.dK kvs)) (h:∀ p i,H p=none->Inv X pins O (upd H p (.dK kvs)) i->Q (.ref p) i):wpAny (model X.prog X.w) A (call (.type "dict") [.ref a]) Q E s:=by
 let(z,hd,k,rel,d):=Qd I.hok e;refine kt_call_dict hd d (by rw[<- ↑rel];exact z) λj f g=>?_;erw[h _ _ (I.hok.fresh (xh _)) (I.laid (λb q c=>?_) (xh _) (WT z (Xb.mpr (Ne.symm (xj I.big))) rel f))];erw[(g.2 b (xj (x8 c))).trans (x6 _ c)]
end
def jf{α β:Type}[BEq α][LawfulBEq α]:∀{l:List (α×β)}{x:α}{v:β},l.lookup x\v->(x,v)∈l
 |[],_,_,h=>by simp at h
 | (a,b)::r,x,v,h=>by
  rw[xD]at h;cases e:x==a with
  |true=>rw[e]at h;have c:=eq_of_beq e;subst c;cases h;exact xF
  |false=>rw[e]at h;exact xt _ (jf h)
def Q8{env:Env}:∀(names:List (Str×NameKind))(cs:List (Str×Addr)),
    (∀ y∈names,y.2=.free->∃ c,env.cells.lookup y.1\c)->(∀ x c,cs.lookup x\c->env.cells.lookup x\c) ->
    ∃ cl,(forIn names cs λx r=>if (x.snd==NameKind.free)=true then do
                let z<-cellOf env x.fst
                pure (ForInStep.yield ((x.fst,z)::r))
              else pure (ForInStep.yield r):Sem (List (Str×Addr)))=pure cl/\(∀ x c,cl.lookup x\c->env.cells.lookup x\c) /\
      (∀ x,(∃ c,cs.lookup x\c)∨(x,NameKind.free)∈names->∃ c,cl.lookup x\c)
  |[],cs,_,a=>⟨cs,by simp,a,λx hx=>by
      grind⟩
  | (n,k)::r,cs,d,a=>by
    rw[List.forIn_cons];by_cases hk:k=.free
    · subst hk
      let(c,hc):=d (n,.free) xF rfl;let e:cellOf env n=pure c:=by unfold cellOf;rw[hc]
      let(cl,b,f,g):=Q8 r ((n,c)::cs) (λy h=>d y (xt _ h)) (λx i hx=>by
        rw[xD]at hx;cases q:x==n with
        |true=>rw[q]at hx;cases hx;rw[eq_of_beq q];exact hc
        |false=>rw[q]at hx;exact a x i hx)
      refine#[cl,?_,f,λx hx=>g x ?_]
      · simp only [beq_self_eq_true, if_true, e, pure_bind]
        erw[b]
      · by_cases q : x = n
        · subst q;exact .inl #[c,by simp]
        · grind
    · have hb : (k == NameKind.free) = false := by simpa using hk
      let(cl,b,f,g):=Q8 r cs (λy h=>d y (xt _ h)) a;refine#[cl,?_,f,λx hx=>g x ?_]
      · simp only [hb, Bool.false_eq_true, if_false, pure_bind]
        erw[b]
      · grind
def Kr(h:∀ y∈sc.names,y.2=.free->∃ c,env.cells.lookup y.1\c) :
  ∃ cl,closureFor sc env=pure cl/\(∀ x c,cl.lookup x\c->env.cells.lookup x\c)/\(∀ x,(x,NameKind.free)∈sc.names->∃ c,cl.lookup x\c):=by
 let(cl,e,a,b):=Q8 sc.names [] h (λx c z=>by simp at z);refine#[cl,?_,a,λx hx=>b x (.inr hx)];simp only[closureFor];rw[bind_pure];erw[e]
def zbd (X:Cx) (C:Ap) (x:Aj) (c:Am):=∃ m,c.heap.Ns C m/\∀ b,Heap.SameBut C c.heap b->∀ a:Env,a.locals=C->∅ (passOn "comprehension.variables-let-go" x a:Sem Aj) (λ_ _=>False) X.xe { c with heap:=b }
def Cat(X:Cx)(O:St)(C:Ap)(s2:Am)(c:Hp)(i:List Ap):=∃ pins,Inv X pins O c s2/\(∀ b∈i,Jo X pins c b)/\⇑s2<=C
abbrev Cx.comp(X:Cx)(N':Ab)(scope:Scope)(cl:List (Str×Addr))(C:Ap)(s2:Am)(H2:Hp)(fp:List Ap):Cx :=
 { X with N:=N',env:=compEnvC scope cl C X.env,s₀:=s2,H₀:=H2,outer:=X.stack,stack:=X.stack,ex:=fp,fn:=λx=>decide (scope.names.lookup x\.cell),pn:= [],xe:=notedBy (model X.prog X.w) X.A (compEnvC scope cl C X.env) (zbd X C),xp:=λx _ H'=>∃ O,Cat X O C s2 H2 fp/\X.xp x O H' }
structure CSc(iz:Scope)(N:Ab)(sc:Scope)(N':Ab)(k:Nat)(ix:Ac):Prop where
 kind:sc.kind=.function
 cel:∀ y∈sc.names,y.2=.cell->sc.names.lookup y.1\.cell
 loc:∀ y∈sc.names,y.2=.local->sc.names.lookup y.1\.local
 fre:∀ y∈sc.names,y.2=.free->iz.names.lookup y.1\.cell∨iz.names.lookup y.1\.free
 len:↑N'=k+↑ix
 nd:N'.Nodup
 cap:∀(j i:Nat),ix[j]?\i->∃ y,N'[k+j]?\y/\N[i]?\y/\sc.names.lookup y\.free
def zdH(i:Scope)(N:Ab)(sc:Scope)(c:Ab)(k:Nat)(ix:Ac):Bool :=
 decide (sc.kind=.function)&&sc.names.all (λy=>(decide (y.2≠ .cell)||decide (sc.names.lookup y.1\.cell))&&(decide (y.2≠ .local)||decide (sc.names.lookup y.1\.local))&&(decide (y.2≠ .free)||decide (i.names.lookup y.1\.cell)||decide (i.names.lookup y.1\.free))) &&
 decide (↑c=k+↑ix)&&decide c.Nodup&&(List.range ↑ix).all (λj=>match c[k+j]?,N[ix.getD j 0]? with|some y,some z=>decide (y=z)&&decide (sc.names.lookup y\.free)|_,_=>false)
def CSc.of(h:zdH J N sc I k ix=true):CSc J N sc I k ix:=by
 unfold zdH at h;simp only[xf,x0,xH,xV]at h;let((((g,b),l),m),n):=h;refine#[g,λy a e=>?_,λy a e=>?_,λy a e=>?_,l,m,λj i e=>?_]
 ·rcases (b y a).1.1 with z | z
  ·erw[absurd e z]
  ·erw[z]
 ·rcases (b y a).1.2 with z | z
  ·erw[absurd e z]
  ·erw[z]
 ·rcases (b y a).2 with (z | z) | z
  ·erw[absurd e z]
  ·erw[.inl z]
  ·erw[.inr z]
 ·let(o,p):=xa.mp e;have:=n j (uN.mpr o);let c:ix.getD j 0=i:=by grind
  rw[c]at this
  split at this
  next y z d f=>
   simp only[xf,x0]at this;let(rfl,hl):=this;exact#[y,d,f,hl]
  ·cases this
def cS(k:Nat)(ix:Ac)(O:St):St:=List.replicate k none++ix.map λi=>(O[i]?).join
def JD{env:Env}:∀{names:List (Str×NameKind)}{x:Str},
    ((names.map λ(n,k)=>if (k==NameKind.free&&env.scope.kind==.function&&env.kindOf n==some .cell) then (n,NameKind.cell) else (n,k)).lookup x\.cell ∨
     (names.map λ(n,k)=>if (k==NameKind.free&&env.scope.kind==.function&&env.kindOf n==some .cell) then (n,NameKind.cell) else (n,k)).lookup x\.free)->names.lookup x\.free∨names.lookup x\.cell
  |[],_,h=>by simp at h
  | (n,k)::r,x,h=>by
    let a:=@JD env r x;rw[xn]at h;dsimp only at h;by_cases hcd:(k==NameKind.free&&env.scope.kind==.function&&env.kindOf n==some .cell)=true
    · have b : k = .free := by
        simp only[xf]at hcd;erw[eq_of_beq hcd.1.1]
      rw[if_pos hcd]at h;cases hx:x==n with
      |true=>rw[xD,hx,b];exact .inl rfl
      |false=>simp only[xD,hx]at h;simp only[xD,hx];exact a h
    · rw [if_neg hcd] at h
      cases hx:x==n with
      |true=>
        simp only[xD,hx]at h;rw[xD,hx];rcases h with h | h
        · exact .inr h
        · exact .inl h
      |false=>simp only[xD,hx]at h;simp only[xD,hx];exact a h
def wE{env:Env}:∀{names:List (Str×NameKind)}{x:Str},names.lookup x\.free ->
    ((names.map λ(n,k)=>if (k==NameKind.free&&env.scope.kind==.function&&env.kindOf n==some .cell) then (n,NameKind.cell) else (n,k)).lookup x\.cell ∨
     (names.map λ(n,k)=>if (k==NameKind.free&&env.scope.kind==.function&&env.kindOf n==some .cell) then (n,NameKind.cell) else (n,k)).lookup x\.free)
  |[],_,h=>by simp at h
  | (n,k)::r,x,h=>by
    let a:=@wE env r x;rw[xn];dsimp only;cases hx:x==n with
    |true=>
      rw[xD,hx]at h;cases h;by_cases hcd:(NameKind.free==NameKind.free&&env.scope.kind==.function&&env.kindOf n==some .cell)=true
      · rw[if_pos hcd];simp[xD,hx]
      · rw[if_neg hcd];simp[xD,hx]
    |false=>
      rw[xD,hx]at h;by_cases hcd:(k==NameKind.free&&env.scope.kind==.function&&env.kindOf n==some .cell)=true
      · rw[if_pos hcd];simp only[xD,hx];exact a h
      · rw[if_neg hcd];simp only[xD,hx];exact a h
structure ClOk(X:Cx)(sc:Scope)(cl:List (Str×Addr))(C:Ap)(h4:Heap):Prop where
 src:∀ x c,cl.lookup x\c->X.env.cells.lookup x\c∨(C<c/\h4.IsCell c none)
 inj:∀ x y c,cl.lookup x\c->cl.lookup y\c->x=y
 has:∀ x,(sc.names.lookup x\.free∨sc.names.lookup x\.cell)->∃ c,cl.lookup x\c
 own:∀ x c,sc.names.lookup x\.cell->cl.lookup x\c->C<c
 old:∀ x c,sc.names.lookup x\.free->cl.lookup x\c->X.env.cells.lookup x\c
def jl:∀(names:List (Str×NameKind))(n:Nat)(acc:List (Str×Addr)),cellsFrom n names acc=cellsFrom n names []++acc
 |[],n,acc=>rfl
 | (x,k)::r,n,acc=>by
  unfold cellsFrom
  split
  ·rw[jl r (n+1) ((x,n)::acc),jl r (n+1) [(x,n)],uC];rfl
  ·erw[jl r n acc]
def ZY:∀(names:List (Str×NameKind))(n:Nat)(y:Str×Addr),y∈cellsFrom n names []->(y.1,NameKind.cell)∈names
 |[],n,y,h=>by cases h
 | (x,k)::r,n,y,h=>by
  unfold cellsFrom at h
  split at h
  next hk=>
   rw[jl]at h;rcases xJ.mp h with h | h
   ·erw[xt _ (ZY r _ y h)]
   grind
  ·erw[xt _ (ZY r _ y h)]
def Jh{β:Type}:∀(l1 l2:List (Str×β))(x:Str),(l1++l2).lookup x=(match l1.lookup x with | some v=>some v | none=>l2.lookup x)
 |[],l2,x=>rfl
 | (a,b)::l1,l2,x=>by
  rw[List.cons_append,xD,xD];cases x==a with
  |true=>rfl
  |false=>erw[Jh l1 l2 x]
def Vk{M:Model}{A:Around}{E:Af}{s:Am}{scope:Scope}{globals:Ap}{cl:List (Str×Addr)}{qual:Str}{env:Env}{builtins:Ap}{Q:Env->Am->Prop}
  (c:Q (newEnv scope ⇑s globals (cellsFrom (⇑s+1) scope.names cl) qual none .none (some env) builtins) { s with heap:=pushCells (s.heap.push { cls:=.type "dict",data:=.dict (List.toArray []) }) scope.names }) :
  wpAny M A (newFunctionEnv scope globals cl [] qual none .none (some env) builtins) Q E s:=by
 simp only[newFunctionEnv,Option.isSome_some,if_true];erw[x5 (wpAny_alloc ?_)];refine x5 (wpAny_layCells _ (λname kind cells=>by grind) _ _ _ _ ?_);rw[show ({ s with heap:=s.heap.push { cls:=.type "dict",data:=.dict (List.toArray []) } }:Am).heap.objs.size=⇑s+1 from Heap.size_push ..];simp only[List.forIn_nil];erw[x5 (x9 (x9 c))]
section
variable {X:Cx}{pins:Ak}{O:St}{H:Hp}{s2:Am}
def ClOk.of(I:Inv X pins O H s2)(S:CSc X.env.scope X.N sc J k ix)(r:∀ x c,cl.lookup x\c->X.env.cells.lookup x\c)(B:∀ x,(x,NameKind.free)∈sc.names->∃ c,cl.lookup x\c)
  {g:Heap} {o:Obj} (hg:⇑s2<=g.objs.size):ClOk X sc (cellsFrom (g.objs.size+1) sc.names cl) g.objs.size (pushCells (g.push o) sc.names):=by
 let ok:=cellsFrom_ok sc.names (g.push o) (g.objs.size+1) [] #[(λ_ _ hm=>nomatch hm),List.Pairwise.nil] (by rw[Heap.size_push];exact xh _);rw[Heap.size_push]at ok;rw[jl];let b:∀ x c,(cellsFrom (g.objs.size+1) sc.names []).lookup x\c->g.objs.size<c/\(pushCells (g.push o) sc.names).IsCell c none/\(x,NameKind.cell)∈sc.names:=λx c e=>by
  let hm:=jf e;have:=ok.empty x c hm;exact#[Nat.lt_of_succ_le this.2,this.1,ZY _ _ _ hm]
 let hold:∀ x c,cl.lookup x\c->c<g.objs.size:=λx c e=>by
  let(v,E,w,_):=I.cell x c (r x c e);erw[xu (x8 w) hg]
 let d:∀ x c,(cellsFrom (g.objs.size+1) sc.names []++cl).lookup x\c->((cellsFrom (g.objs.size+1) sc.names []).lookup x\c)∨((cellsFrom (g.objs.size+1) sc.names []).lookup x=none/\cl.lookup x\c):=λx c e=>by
  rw[Jh]at e;cases q:(cellsFrom (g.objs.size+1) sc.names []).lookup x with|some v=>rw[q]at e;exact .inl e|none=>rw[q]at e;exact .inr #[rfl,e]
 let t:∀ x,sc.names.lookup x\.free->(cellsFrom (g.objs.size+1) sc.names []).lookup x=none:=λx hx=>by
  cases q:(cellsFrom (g.objs.size+1) sc.names []).lookup x with
  |none=>rfl
  |some c=>
   have:=S.cel (x,.cell) (b x c q).2.2 rfl;rw[hx]at this;cases this
 refine#[λx c e=>?_,λx y c z p=>?_,λx hx=>?_,λx c hx e=>?_,λx c hx e=>?_]
 ·rcases d x c e with q | ⟨_,q⟩
  ·erw[.inr #[(b x c q).1,(b x c q).2.1]]
  ·erw[.inl (r x c q)]
 ·rcases d x c z with l | ⟨_,l⟩
  ·rcases d y c p with a | ⟨_,a⟩
   ·let A:=jf l;let C:=jf a;by_cases f:x=y
    ·erw[f]
    ·exfalso;have:=ok.apart;let(i,hi,n):=List.getElem_of_mem A;let(j,s,m):=List.getElem_of_mem C;let u:=List.pairwise_iff_getElem.mp this;rcases Nat.lt_trichotomy i j with h | h | h
     ·have:=u i j hi s h;rw[n,m]at this;exact this rfl
     ·subst h;rw[n]at m;erw[f (congrArg Prod.fst m)]
     ·have:=u j i s hi h;rw[n,m]at this;exact this rfl
   ·erw[absurd (hold y c a) (pp.mpr (uq (b x c l).1))]
  ·rcases d y c p with a | ⟨_,a⟩
   ·erw[absurd (hold x c l) (pp.mpr (uq (b y c a).1))]
   ·erw[I.ok.inj x y c (r x c l) (r y c a)]
 ·rw[Jh];rcases hx with hx | hx
  ·rw[t x hx];erw[B x (jf hx)]
  ·let(c,hc):=Jq hx;rw[hc];exact#[c,rfl]
 ·rcases d x c e with q | ⟨q,_⟩
  ·erw[(b x c q).1]
  ·let(D,hc):=Jq hx;rw[hc]at q;cases q
 ·rcases d x c e with q | ⟨_,q⟩
  ·rw[t x hx]at q;cases q
  ·erw[r x c q]
def Inv.child(I:Inv X pins O H s2)(S:CSc X.env.scope X.N sc U k ix)(hf:∀ b∈J,Jo X pins H b)
  (P:∀ b∈J,∃ o,s2.heap.get? b\o) {cl:List (Str×Addr)}
  {C:Ap} {s4:Am} (L:ClOk X sc cl C s4.heap) (l:⇑s2<=C) (keep:∀ b o,s2.heap.get? b\o->s4.heap.get? b\o) {m0:Aq} (F:s4.heap.Ns C m0) (ho:s4.os=s2.os) (hg:AllBare s4.gens) :
  Inv (X.comp U sc cl C s2 H J) [] (cS k ix O) H s4 where
 ok:={
  mod:=I.ok.mod
  kind:=S.kind
  glob:=I.ok.glob
  blt:=I.ok.blt
  above:=l
  inj:=L.inj
  has:=λx hx=>L.has x (JD hx)
  cab:=λx c h e=>xK l (uq (L.own x c (Xh h) e))
  hd:=I.ok.hd
  frames:=I.ok.frames
  stk:=.inl rfl
  exf:=λb hb=>by
   let(f0,f1,f2,s,f4,E):=hf b hb;let(o,e):=P b hb;refine#[xj (xu (x8 e) l),λx c z=>?_];rcases L.src x c z with z | z
   ·erw[f4 x c z]
   ·erw[Ne.symm (xj (Nat.lt_trans (xu (x8 e) l) z.1))]
  bs:=λb o e=>I.bs b o e
  bsz:=xK I.ok.bsz I.sz
  noex:=λb o e hb=>by
   let(f0,f1,f2,s,f4,E):=hf b hb;rcases s with z | z
   ·erw[I.ok.noex b o e z]
   ·erw[absurd (xu (x8 (I.ok.bs b o e).1) z) (ua _)]
  exfs:=λb hb K=>by
   let(f0,f1,f2,s,f4,E):=hf b hb;rcases xA.mp (I.stkSub b K)with z | z
   ·erw[f1 z]
   ·erw[f2 z]
  funs:=I.stack
  frf:=I.stkFree }
 os:=ho
 bare:=hg
 base:=Un.kept keep
 loc:=⟨m0,F,λi x v R a T=>by
  unfold cS at a;by_cases hi:i<k
  ·rw[xb (~~~hi),xQ,if_pos hi]at a;cases a
  ·obtain⟨j,rfl⟩:∃ j,i=k+j:=#[i-k,by lia];rw[xr (by simp),uz,Nat.add_sub_cancel_left,xg]at a;cases q:ix[j]? with
   |none=>rw[q]at a;cases a
   |some g=>
    rw[q]at a;let(y,W,M,f):=S.cap j g q;let G:y=x:=by grind
    subst G;let ev:O[g]?\(some v):=by
     simp only[pd,Option.some.injEq]at a;cases r:O[g]? with
     |none=>rw[r]at a;cases a
     |some z=>rw[r]at a;exact congrArg some a
    let(m,V,hl):=I.loc;let d:=S.fre (y,.free) (jf f) rfl;let hv:Vis X.env.scope y:=.inr d;let(u,N,l1):=hl g y v M ev hv;refine#[u,N,.inr #[wE f,?_]];let(c,hc):=L.has y (.inl f);refine#[c,hc,?_];let t:=L.old y c f hc;rcases l1 with ⟨hk,_⟩ | ⟨_,Q,D,z⟩
    ·let B:X.env.scope.names.lookup y\.local:=hk;rcases d with w | w
     ·rw[B]at w;cases w
     ·rw[B]at w;cases w
    ·rw[t]at D;cases D;let(A,n,hd):=z;exact#[A,keep _ _ n,hd]⟩
 cell:=λx c e=>by
  rcases L.src x c e with e | e
  ·let(v,A,n,hd):=I.cell x c e;exact#[v,A,keep _ _ n,hd]
  ·exact#[none,e.2]
 free:=I.hok.fresh l
 freeC:=λx c e=>by
  rcases L.src x c e with e | e
  ·erw[I.freeC x c e]
  ·erw[I.hok.fresh (xK l (uq e.1))]
 pin:=λp hp=>by cases hp
 hok:=I.hok.kept keep
 len:=by
  rw[S.len];unfold cS;simp
def Inv.back(I:Inv X pins O H s2)(hf:∀ b∈fp,Jo X pins H b)(J:Inv (X.comp N' sc cl C s2 H fp) pl Oc U s5):Inv X pins O U s5 :=
 I.call' J.os J.base J.hok J.bare λb hb=>by
  let(f0,f1,f2,a,f4,c):=hf b hb;exact#[a,f1,f4,c]
end
section
variable {X:Cx}{pins:Ak}{O:St}{H:Hp}{s:Am}
def Inv.track{o:HO}(I:Inv X pins O H s)(y:X.s₀.heap.objs.size<=a)(i:H a=none)(l:a≠X.env.locals)(hc:∀ x c,X.env.cells.lookup x\c->c≠a)(hp:∀ p∈X.pn++pins,p.1≠a)
  (new:ObjOk X.prog X.w (upd H a o) s.heap a o):Inv X pins O (upd H a o) s where
 ok:=I.ok
 os:=I.os
 bare:=I.bare
 base:={
  keep:=I.base.keep
  slot:=I.base.slot
  free:=λb d e n hx=>by
   rw[zH (xj (xu (x8 e) y))];erw[I.base.free b d e n hx]
  there:=I.base.there
  tups:=λb xs e=>by
   have:=I.base.tups b xs e;rw[zH (qC this i)];exact this
  frzs:=λb d u e=>by
   have:=I.base.frzs b d u e;rw[zH (qC this i)];exact this
  tbls:=λb ps e=>by
   let(mo,this):=I.base.tbls b ps e;exact#[mo,by rw[zH (qC this i)];exact this] }
 loc:=I.loc
 cell:=I.cell
 free:=by rw[zH (Ne.symm l)];exact I.free
 freeC:=λx c e=>by rw[zH (hc x c e)];exact I.freeC x c e
 pin:=λp h=>by
  let(e,n,r):=I.pin p h;exact#[e,by rw[zH (hp p h)];exact n,r]
 hok:=λb u q=>by
  by_cases hb:b=a
  ·subst hb;rw[zK]at q;cases q;exact new
  ·rw[zH hb]at q;exact (I.hok b u q).stay (λc v _ r=>r) (λc r=>by rw[zH (qC r i)];exact r) λc xs r=>by rw[zH (qC r i)];exact r
 len:=I.len
end
def PF(X:Cx)(ifs:Ag)(t:TT):Prop :=
 ∀(pins:Ak)(s:Am)(O:St)(H:Hp)(Q:Bool->Hp->Prop),Inv X pins O H s->t O H Q ->
  ∅ (forIn ifs true λc r=>if r=true then do let ok<-isTrue c X.env (eval c X.env);pure (ForInStep.yield ok) else pure (ForInStep.yield r)) (TP X pins O Q) X.xe s
def zmQ:TT:=λ_ H Q=>Q true H
def pf_nil:PF X [] zmQ:=λ_ _ _ H _ I h=>wpAny_tests_nil #[H,I,h]
def zkA(h:PT X c t):PF X [c] t:=λpins s O H Q I hw=>wpAny_tests_one (h pins s O H Q I hw)
def Yz{e target iter:Expr}{ifs:Ag}{act:Sem Unit}(E:∀(R:Result->Am->Prop)(s:Am)(I:Nat->Am->Prop)(n:Nat),(∀ n s,I n s->wpAny (model prog w) A ((compTurn e 0 it acc env).onRaise (λx=>do noteFrame x env;theTreesLotGoes x)) (λfin l=>match fin with|.done f=>R (.ok f) l|.again F=>F=Code.compLoop e 0 it acc env/\∃ m,m<n/\I m l) (λe l=>R (.error e) l) s)->I n s->codeAny (model prog w) A (.compLoop e 0 it acc env) R s)
  (heq:compTurn e 0 it acc env=(do
   standAt iter.pos
   match<-pyNext it with
   |none=>pure (.done .next)
   |some v=>
    letOwnedTupleGo target it v
    assign target env v
    let mut ok:=true
    for c in ifs do
     if ok then ok<-isTrue c env (eval c env)
    if ok then act
    again (.compLoop e 0 it acc env))) (I:Nat->Am->Prop)
  (turn:∀ n s,I n s->wpAny (model prog w) A (pyNext it) (λr i=>match r with
   |none=>R (.ok .next) i
   |some v=>wpAny (model prog w) A (letOwnedTupleGo target it v) (λ_ i=>wpAny (model prog w) A (assign target env v) (λ_ y=>
     wpAny (model prog w) A (forIn ifs true λc r=>if r=true then do let ok<-isTrue c env (eval c env);pure (ForInStep.yield ok) else pure (ForInStep.yield r)) (λok z=>
      if ok=true then wpAny (model prog w) A act (λ_ B=>∃ m,m<n/\I m B) (notedBy (model prog w) A env λe l=>R (.error e) l) z
      else ∃ m,m<n/\I m z) (notedBy (model prog w) A env λe l=>R (.error e) l) y) (notedBy (model prog w) A env λe l=>R (.error e) l) i) (notedBy (model prog w) A env λe l=>R (.error e) l) i) (notedBy (model prog w) A env λe l=>R (.error e) l) s)
  (n:Nat) (h:I n s):codeAny (model prog w) A (.compLoop e 0 it acc env) R s:=by
 erw[E R s I n (λn s j=>?_) h];erw[wpAny_noted ?_];rw[heq];erw[x5 (wpAny_standAt (x5 (Xe (turn n s j) (λr i b=>?_) λ_ _ f=>f)))];cases r with
 |none=>erw[x9 b]
 |some v=>
  erw[x5 (Xe b (λ_ y a=>?_) λ_ _ f=>f)];erw[x5 (Xe a (λ_ y a=>x5 (Xe a (λok z d=>?_) λ_ _ f=>f)) λ_ _ f=>f)];cases ok with
  |false=>erw[x9 #[rfl,d]]
  |true=>erw[x5 (Xe d (λ_ B g=>x9 #[rfl,g]) λ_ _ f=>f)]
structure Acc(α β:Type) where
 a0:α
 add:α->β->α
 len:α->Nat
 ho:α->HO
def yv{α β:Type}(ac:Acc α β)(k:Nat)(ix:Ac)(g:TG)(tt:TT)(r:St->Hp->(β->Hp->Prop)->Prop)(O:St)(J:It)(H1:Hp)(Q:α->Hp->Prop):Prop :=
 ∃ W:Nat->Nat->α->Hp->Prop,(∃ m,W 0 m ac.a0 H1)/\∀ i m c H,W i m c H->ac.len c<sizeLine /\
  ((J.stop i H/\Q c H)∨(J.go i H/\∃ N:α->Hp->Prop,(∀ f a,N f a->∃ h,h<m/\W (i+1) h f a)/\∀ x a,J.yld i H x a->g x (cS k ix O) a λd j=>d.drop k=(cS k ix O).drop k/\tt d j λb e=>
   if b=true then r d e λy l=>N (ac.add c y) l else N c e))
abbrev zgS:Acc (List V) V:=#[[],λys y=>ys++ [y],List.length,.lst]
abbrev zgR:Acc (List (Key×V)) (Key×V):=#[[],λys y=>JC ys y.1 y.2,List.length,.dK]
def kG(k:Nat)(ix:Ac)(wi:TI)(g:St->TG)(tt:St->TT)(c:St->TE):TE:=λO H Q=>
 wi O H λJ H1=>yv zgS k ix (g O) (tt O) (c O) O J H1 λb a=>∀ p,a p=none->Q (.ref p) (upd a p (.lst b))
def kH(c i:TE):St->Hp->(Key×V->Hp->Prop)->Prop:=λO H Q=>c O H λx H1=>i O H1 λy a=>∃ k,x=kV k/\Q (k,y) a
def vR(k:Nat)(ix:Ac)(wi:TI)(g:St->TG)(tt:St->TT)(c:St->St->Hp->(Key×V->Hp->Prop)->Prop):TE:=λO H Q=>
 wi O H λJ H1=>yv zgR k ix (g O) (tt O) (c O) O J H1 λb a=>∀ p,a p=none->Q (.ref p) (upd a p (.dK b))
structure zjs(P:Ar)(w:World){α β γ:Type}(ac:Acc α β)(OK:α->Obj->Prop)(RB:β->γ->Prop)(o0:Obj)(na:Sem Aj)(st:Ap->γ->Sem Unit):Prop where
 new:∀(A:Around)(E:Af)(s:Am)(Q:Af),Q (.ref ⇑s) { s with heap:=s.heap.push o0 }->wpAny (model P w) A na Q E s
 z0:OK ac.a0 o0
 live:o0.isFreed=false
 cell:∀ a o,OK a o->∀ v,o.data≠ .cell v
 st:∀(A:Around)(E:Af)(s:Am)(Q:Unit->Am->Prop)(D:Ap)(a:α)(o:Obj)(y:β)(b:γ),OK a o->ac.len a<sizeLine->RB y b->s.heap.get? D\o ->
  (∀ h' o' t',Heap.SameBut D s.heap h'->h'.get? D\o'->OK (ac.add a y) o'->Q () { s with heap:=h',toks:=t' })->wpAny (model P w) A (st D b) Q E s
 ok:∀(H:Hp)(h:Heap)(D:Ap)(a:α)(o:Obj),OK a o->ac.len a<=sizeLine->sysModules<D->h.get? D\o->ObjOk P w H h D (ac.ho a)
def PEv(X:Cx){β i:Type}(l:β->i->Prop)(st:Ap->i->Sem Unit)(act:Ap->Env->Sem Unit)(r:St->Hp->(β->Hp->Prop)->Prop):=∀(D:Ap)(pins:Ak)(s:Am)(O:St)(H:Hp)(Q:β->Hp->Prop)(R:Unit->Am->Prop),Inv X pins O H s->r O H Q ->
 (∀ y b c a,Inv X pins O a c->l y b->Q y a->∅ (st D b) R X.xe c)->∅ (act D X.env) R X.xe s
section
variable {X:Cx}{pins:Ak}{O:St}{H:Hp}{s2:Am}
def VD{α β γ:Type}{ac:Acc α β}{OK:α->Obj->Prop}{RB:β->γ->Prop}{o0:Obj}{na:Sem Aj}{Dp:Ap->γ->Sem Unit}{act:Ap->Env->Sem Unit}{e tg iter:Expr}{ifs:Ag}{scope:Scope}{N':Ab}{k:Nat}{ix:Ac}{g:TG}{tt:TT}{te:St->Hp->(β->Hp->Prop)->Prop}{cl:List (Str×Addr)}{it:Ap}{fp:List Ap}{tn:Nat->Heap->Prop}{J:It}
  {Q:α->Hp->Prop} {RR:Aj->Ap->Result->Am->Prop} {E:Af} (K:zjs X.prog X.w ac OK RB o0 na Dp)
  (hlp:∀(it acc:Aj)(env:Env)(R:Result->Am->Prop)(s:Am)(I:Nat->Am->Prop)(n:Nat),(∀ n s,I n s->∅ ((compTurn e 0 it acc env).onRaise (λx=>do noteFrame x env;theTreesLotGoes x)) (λfin l=>match fin with|.done f=>R (.ok f) l|.again c'=>c'=Code.compLoop e 0 it acc env/\∃ m,m<n/\I m l) (λe l=>R (.error e) l) s)->I n s->codeAny (model X.prog X.w) X.A (.compLoop e 0 it acc env) R s)
  (heq:∀ it D env,compTurn e 0 it (.ref D) env=(do
   standAt iter.pos
   match<-pyNext it with
   |none=>pure (.done .next)
   |some v=>
    letOwnedTupleGo tg it v
    assign tg env v
    let mut ok:=true
    for c in ifs do
     if ok then ok<-isTrue c env (eval c env)
    if ok then act D env
    again (.compLoop e 0 it (.ref D) env)))
  (mw:∀(R:Result->Am->Prop)(s:Am)(it acc:Aj)(env:Env),codeAny (model X.prog X.w) X.A (.compLoop e 0 it acc env) R s->∅ (pyIter it) (λFb l=>codeAny (model X.prog X.w) X.A (.compLoop e 0 Fb acc env) R l) (notedBy (model X.prog X.w) X.A env λx l=>R (.error x) l) s ->
   codeAny (model X.prog X.w) X.A (.compStart e 0 it acc env) R s) (aa:X.calm=true)
  (S:CSc X.env.scope X.N scope N' k ix)
  (hg:∀ cl C s2 H2 fp,Cat X O C s2 H2 fp->PG ⋯ tg g) (ht:∀ cl C s2 H2 fp,Cat X O C s2 H2 fp->PF ⋯ ifs tt) (he:∀ cl C s2 H2 fp,Cat X O C s2 H2 fp->PEv ⋯ RB Dp act te)
  (A:Inv X pins O H s2) (T:Wr X.prog X.w X.K tg J fp it tn) (cg:tn 0 s2.heap) (f2:∀ b∈fp,Jo X pins H b) (hR:yv ac k ix g tt te O J H Q)
  (au:∀ x c,cl.lookup x\c->X.env.cells.lookup x\c) (bc:∀ x,(x,NameKind.free)∈scope.names->∃ c,cl.lookup x\c)
  (d8:∀(D C:Ap)(x:Aj)(l:Am),zbd X C x l->RR (.ref D) C (.error x) l)
  (fin:∀(D C:Ap)(B:α)(G:Hp)(s5:Am)(m:Aq),Inv X pins O (upd G D (ac.ho B)) s5->Q B G->G D=none->s5.heap.Ns C m->C≠D->⇑s2<=C->upd G D (ac.ho B) C=none ->
   RR (.ref D) C (.ok .next) s5) :
  ∅ na (λacc s₃=>∅ (newFunctionEnv scope X.env.globals cl [] X.env.qual none .none (some X.env)) (λbw s₄=>
   codeAny (model X.prog X.w) X.A (.compStart e 0 (.ref it) acc { bw with scope:=relabel scope X.env }) (RR acc bw.locals) s₄) E s₃) E s2:=by
 erw[K.new _ _ _ _ (Vk ?_)];dsimp only;generalize CN:s2.heap.push o0=d;let hC:d.objs.size=⇑s2+1:=by rw[<- CN,Heap.size_push]
 let Bd:⇑s2≠d.objs.size:=by rw[hC];exact xj (uU _)
 let Y:⇑s2<=d.objs.size:=by rw[hC];exact uY _
 let cat:Cat X O d.objs.size s2 H fp:=#[pins,A,f2,Y];let L:=ClOk.of A S au bc (g:=d) (o:={ cls:=.type "dict",data:=.dict (List.toArray []) }) Y;let below:∀ b,b<⇑s2->b≠d.objs.size/\b≠⇑s2:=λb hb=>#[by rw[hC];exact xj (Nat.lt_succ_of_lt hb),xj hb];let old:∀ b o,s2.heap.get? b\o->(pushCells (d.push { cls:=.type "dict",data:=.dict (List.toArray []) }) scope.names).get? b=some o:=λb o e=>pushCells_keeps _ _ b o (x6 _ (CN ▸ x6 _ e));let gc:(pushCells (d.push { cls:=.type "dict",data:=.dict (List.toArray []) }) scope.names).get? ⇑s2=some o0:=pushCells_keeps _ _ _ _ (x6 _ (CN ▸ Xa _ K.live));let tq:(pushCells (d.push { cls:=.type "dict",data:=.dict (List.toArray []) }) scope.names).Ns d.objs.size _:=(Heap.Ns.new d (.type "dict")).keeps (pushCells_keeps _ _);generalize pushCells (d.push { cls:=.type "dict",data:=.dict (List.toArray []) }) scope.names=F at L old gc tq |-
 generalize cellsFrom (d.objs.size+1) scope.names cl=a at L |-
 let oo:tn 0 F:=T.keep _ _ _ cg λb _ o e=>old b o e;let u6:∀ b∈fp,∃ o,s2.heap.get? b\o:=λb hb=>let #[o,e,_]:=T.obj _ _ cg b hb;#[o,e];let Ic:Inv (X.comp N' scope a d.objs.size s2 H fp) [] (cS k ix O) H { s2 with heap:=F } :=
  A.child S f2 u6 L Y old tq rfl A.bare
 let GU:⇑s2∉(X.comp N' scope a d.objs.size s2 H fp).fs:=λhz=>by
  rcases xA.mp (A.stkSub _ hz)with z | z
  ·exact absurd A.lt (by rw[<- z];exact ua _)
  ·erw[A.nofs (xh _) z]
 let AJ:∀ x c,a.lookup x\c->c≠⇑s2:=λx c e=>by
  rcases L.src x c e with e | e
  ·let(v,t,br,_):=A.cell x c e;erw[xj (x8 br)]
  ·erw[Ne.symm (xj (Nat.lt_of_le_of_lt Y e.1))]
 have AI:∀(B:α)(t:Obj)(U:St)(w:Hp)(l:Am),Inv (X.comp N' scope a d.objs.size s2 H fp) [] U w l->OK B t->l.heap.get? ⇑s2=some t->w ⇑s2=none ->
   Inv (X.comp N' scope a d.objs.size s2 H fp) [(⇑s2,t)] U w l:=λB t U w l M ok e hn=>M.pins_of λp hp=>by
  let e':p=(⇑s2,t):= ~~~hp;subst e';exact#[e,hn,Bd,GU,λv z=>K.cell _ _ ok v z]
 let C3:∀(t:Obj)(w:Hp),(∀ b∈fp,w b=none)->∀ b∈fp,Jo (X.comp N' scope a d.objs.size s2 H fp) [(⇑s2,t)] w b:=λt w hn b hb=>by
  let(f0,f1,C4,f3,f4,f5):=f2 b hb;let(o,e):=u6 b hb;let hb2:=below b (x8 e);refine#[hn b hb,hb2.1,λhz=>?_,.inl hb,λx c z=>?_,λp hp=>?_]
  ·rcases xA.mp (A.stkSub b hz)with z | z
   ·erw[f1 z]
   ·erw[C4 z]
  ·rcases L.src x c z with z | z
   ·erw[f4 x c z]
   ·erw[Ne.symm (xj (Nat.lt_trans (xu (x8 e) Y) z.1))]
  ·let e':p=(⇑s2,t):= ~~~hp;subst e';erw[Ne.symm hb2.2]
 let(W,(m0,w0),turn):=hR;have loop:codeAny (model X.prog X.w) X.A (.compLoop e 0 (.ref it) (.ref ⇑s2) (compEnvC scope a d.objs.size X.env)) (RR (.ref ⇑s2) d.objs.size)
   { s2 with heap:=F }:=by
  let g9:∀ x l,(X.comp N' scope a d.objs.size s2 H fp).xe x l->notedBy (model X.prog X.w) X.A (compEnvC scope a d.objs.size X.env) (λe l=>RR (.ref ⇑s2) d.objs.size (.error e) l) x l:=λx l h=>
   Xe h (λ_ da q=>d8 _ _ _ _ q) λ_ da q=>d8 _ _ _ _ q
  let lx:∀{τ:Type}{m:Sem τ}{Q1:τ->Am->Prop}{Q2:τ->Am->Prop}{l:Am},∅ m Q1 (X.comp N' scope a d.objs.size s2 H fp).xe l->(∀ v da,Q1 v da->Q2 v da)->∅ m Q2 (notedBy (model X.prog X.w) X.A (compEnvC scope a d.objs.size X.env) (λe l=>RR (.ref ⇑s2) d.objs.size (.error e) l)) l:=λh k=>Xe h k g9;refine Yz (hlp _ _ _) (heq _ _ _) (λn l=>∃ i B t w,Inv (X.comp N' scope a d.objs.size s2 H fp) [(⇑s2,t)] (cS k ix O) w l/\OK B t/\tn i l.heap/\(∀ b∈fp,w b=none)/\W i n B w) ?_ m0
   #[0,_,o0,H,AI _ _ _ _ _ Ic K.z0 gc (A.hok.fresh (xh _)),K.z0,oo,λb hb=>(f2 b hb).1,w0]
  rintro n s3 ⟨i,B,t,P,I3,rv,rk,ip,w3⟩;let(hlen,hw):=turn i n B P w3;let D1:P ⇑s2=none:=(I3.pin (⇑s2,t) (by simp)).2.1;let He:s3.heap.get? ⇑s2=some t:=(I3.pin (⇑s2,t) (by simp)).1;rcases hw with ⟨stop,q⟩ | ⟨go,N,hN,step⟩
  ·refine thn (T.done (X.comp N' scope a d.objs.size s2 H fp) rfl rfl rfl aa i _ s3 _ P _ I3 (C3 _ _ ip) rk stop) λr s4 ⟨hr,I4⟩=>?_;subst hr;let CP:s4.heap.get? ⇑s2=some t:=(I4.pin (⇑s2,t) (by simp)).1;let Ib:Inv X pins O P s4:=A.back f2 I4;let hz:ac.len B<=sizeLine:=uq hlen;let(m',hn',_):=I4.loc;let It:=Ib.track A.sz D1 (Ne.symm (xj A.lt)) (λx c e=>by
    let(v,t,br,_):=A.cell x c e;exact xj (x8 br)) (λp hp=>xj (x8 (A.pin p hp).1)) (K.ok _ _ _ _ _ rv hz A.big CP)
   exact fin _ _ B P s4 m' It q D1 hn' (Ne.symm Bd) Y (by rw[zH (Ne.symm Bd)];exact I4.free)
  ·refine thn (T.item (X.comp N' scope a d.objs.size s2 H fp) rfl rfl rfl aa i _ s3 _ P _ I3 (C3 _ _ ip) rk go) λr s4 ⟨u,hr,h4⟩=>?_;subst hr;erw[thn h4 λ_ s5 ⟨x,G,I5,r5,y5,l0,CZ⟩=>?_];let I5':=I5.pinned (C3 t G CZ) (T.obj _ _ l0);erw[lx (hg _ _ _ _ _ cat _ s5 _ G x u _ I5' r5 (step x G y5)) λ_ s6 ⟨V,H6,I6,hσ,q6⟩=>?_];erw[lx (ht _ _ _ _ _ cat _ s6 V H6 _ I6 q6) λok s7 ⟨H7,I7,q7⟩=>?_];let wk:∀{pl:Ak}{w:Hp}{l:Am},Inv (X.comp N' scope a d.objs.size s2 H fp) pl V w l->Inv (X.comp N' scope a d.objs.size s2 H fp) pl (cS k ix O) w l:=λ{pl w l} M=>
    M.weak (by rw[Ic.len,M.len]) λj v ev=>by
     by_cases hj:j<k
     ·unfold cS at ev;rw[xb (~~~hj),xQ,if_pos hj]at ev;cases ev
     ·obtain⟨j',rfl⟩:∃ j',j=k+j':=#[j-k,by lia];rw[<- List.getElem?_drop,hσ,List.getElem?_drop];erw[ev]
   let DE:∀{U:St}{w:Hp}{l:Am},Inv (X.comp N' scope a d.objs.size s2 H fp) ([(⇑s2,t)]++vz fp s5.heap) U w l->tn (i+1) l.heap/\∀ b∈fp,w b=none:=λ{U w l} M=>
    ⟨T.keep _ _ _ l0 λb hb o e=>(M.pin (b,o) (xE _ (xE _ (Zj hb e)))).1,λb hb=>by
     let(o,e,_):=T.obj _ _ l0 b hb;exact (M.pin (b,o) (xE _ (xE _ (Zj hb e)))).2.1⟩
   cases ok with
   |false=>
    rw[if_neg (by decide)]at q7 |-
    let(m',hm,w7):=hN _ _ q7;let(t7,f7):=DE I7;exact#[m',hm,i+1,B,t,H7,wk I7.unpinned,rv,t7,f7,w7]
   |true=>
    rw[if_pos rfl]at q7 |-
    erw[lx (he _ _ _ _ _ cat ⇑s2 _ s7 V H7 _ _ I7 q7 λy b s8 Z I8 r8 E9=>?_) λ_ _ q=>q];let(m',hm,w8):=hN _ _ E9;let(t8,f8):=DE I8;let Dd:Inv (X.comp N' scope a d.objs.size s2 H fp) [(⇑s2,t)] V Z s8:=I8.unpinned;let e8:s8.heap.get? ⇑s2=some t:=(Dd.pin (⇑s2,t) (by simp)).1;let n8:Z ⇑s2=none:=(Dd.pin (⇑s2,t) (by simp)).2.1;erw[K.st _ _ s8 _ _ B t y b rv hlen r8 e8 λh' o' t' sb e9 Dt=>?_];let GZ:Inv (X.comp N' scope a d.objs.size s2 H fp) [] V Z s8:=Dd.pins_of λp hp=>by cases hp
    let I9:Inv (X.comp N' scope a d.objs.size s2 H fp) [] V Z { s8 with heap:=h',toks:=t' } :=
     GZ.turned (λb o hb e=>(sb.2 b hb).trans e) n8 Bd (.inr (xh _)) (λx c e=>AJ x c e) (λp hp=>by cases hp)
    refine#[m',hm,i+1,_,o',Z,wk (AI _ _ _ _ _ I9 Dt e9 n8),Dt,?_,f8,w8];exact T.keep _ _ _ t8 λb hb o e=>(sb.2 b (by
     let(o',e'):=u6 b hb;exact (below b (x8 e')).2)).trans e
 erw[mw _ _ _ _ _ loop (T.self X.A 0 _ _ _ oo loop)]
abbrev zmc (ys:An) (n:Nat):Obj:={ cls:=.type "list",data:=.seq ys.toArray n }
def zbg:zjs P w zgS (λl o=>∃ i n,Vals l i/\o=zmc i n) RelV (zmc [] 0) (newList []) (λD b=>do let _<-call (.builtin "list.append") [.ref D,b]) where
 new A E s Q h:=wpAny_newObj_type h
 z0:=#[[],0,.nil,rfl]
 live:=rfl
 cell a o h v z:=by
  let(i,n,_,rfl):=h;cases z
 st A E s Q D a o y b h hl r e k:=by
  let(i,n,d,rfl):=h;refine x5 (call_meets F.slot_list_append #[_,e,rfl] F.entry_list_append (F.args_list_append_2 _ _) (PySem.list_append D i.toArray n b (by
   have:=↑d;let g:↑a<sizeLine:=hl;rw[xm];lia)) #[e,x9 ?_])
  let f:=PySem.IsL.update e (·.push b);rw[show i.toArray.push b=(i++ [b]).toArray by simp]at f;exact k _ _ _ #[by simp[Heap.update],λc hc=>Xf s.heap _ (Ne.symm hc)] f #[i++ [b],_,d.append (.cons r .nil),rfl]
 ok H h D a o hk hz _ e:=by
  let(i,n,d,rfl):=hk;exact#[hz,i,n,d,e]
def zbf:zjs P w zgR (λB o=>∃ c,KV B c/\o.IsDictOf (qv P w) c) (λ(y:Key×V) (b:Aj×Value)=>RelV (kV y.1) b.1/\RelV y.2 b.2) { cls:=.type "dict",data:=.dict (List.toArray []) } newDict (λD b=>holding [b.1,b.2] (dictSet D b.1 b.2)) where
 new A E s Q h:=wpAny_newObj_type h
 z0:=by
  refine#[[],.nil,?_];exact#[(List.toArray []),0,#[rfl,rfl,rfl],rfl,λ_ he=>by simp at he,Pairs.nil,List.nodup_nil]
 live:=rfl
 cell a o h v z:=by
  let(c,_,p,n,_,hd,_):=h;rw[hd]at z;cases z
 st A E s Q D a o y b h hl r e k:=by
  let(c,d,hd):=h;refine Xd (wpAny_dictSet_pairs (ww r.1) (Heap.dictOf_iff.mpr #[o,e,hd]) (λi f m=>?_) (by rw[<- ↑d];exact uq hl));let(j,g,l):=Heap.dictOf_iff.mp f;erw[k i j _ m g #[_,d.put y.1 r.2,l]]
 ok H h D a o hk hz hb e:=by
  let(c,d,hd):=hk;exact#[hz,Xb.mpr (pi hb),c,d,Heap.dictOf_iff.mpr #[o,e,hd]]
def ZZ(I:Inv X pins O H s)(S:CSc X.env.scope X.N scope o k ix) :
  ∃ cl,closureFor scope X.env=pure cl/\(∀ x c,cl.lookup x\c->X.env.cells.lookup x\c)/\(∀ x,(x,NameKind.free)∈scope.names->∃ c,cl.lookup x\c) :=
 Kr λy a e=>by
  rcases S.fre y a e with z | z
  ·erw[I.ok.has _ (.inl z)]
  ·erw[I.ok.has _ (.inr z)]
def Inv.letgo(i:Inv X pins O H s2)(r:Inv X pins J I s5)(l:⇑s2<=C)(z:I C=none)(y:∀ b,b≠C->h'.get? b=s5.heap.get? b):Inv X pins J I { s5 with heap:=h' } :=
 r.turned (λb o hb e=>(y b hb).trans e) z (Ne.symm (xj (xu i.lt l))) (.inr (xK i.sz l))
  (λx c e=>by
   let(v,d,a,_):=i.cell x c e;exact xj (xu (x8 a) l))
  (λp hp=>xj (xu (x8 (i.pin p hp).1) l))
end
section
variable {X:Cx}{elt tg iter:Expr}{ifs:Ag}{scope:Scope}{pos:Pos}{N':Ab}{k:Nat}{ix:Ac}{g:St->TG}{tt:St->TT}{te:St->TE}{wi:TI}
def zav:compTurn (.ListComp elt [#[tg,iter,ifs,0]] scope pos) 0 it (.ref D) env=(do
   standAt iter.pos
   match<-pyNext it with
   |none=>pure (.done .next)
   |some v=>
    letOwnedTupleGo tg it v
    assign tg env v
    let mut ok:=true
    for c in ifs do
     if ok then ok<-isTrue c env (eval c env)
    if ok then (do let _<-call (.builtin "list.append") [.ref D,<- eval elt env])
    again (.compLoop (.ListComp elt [#[tg,iter,ifs,0]] scope pos) 0 it (.ref D) env)):=compTurn_list elt tg iter ifs scope pos it (.ref D) env
def zfz {te:TE}(he:PE X elt te):PEv X RelV (λD b=>do let _<-call (.builtin "list.append") [.ref D,b]) (λD env=>do let _<-call (.builtin "list.append") [.ref D,<- eval elt env]) te:=λD pins s O H Q R I h k=>
 x5 (Xe (he pins s O H Q I h) (λb d ⟨y,a,c,r,q⟩=>k y b d a c r q) λ_ _ z=>z)
def VF(F:X.calm=true)(S:CSc X.env.scope X.N scope N' k ix)
  {pins:Ak} {O:St} {H:Hp} {s2:Am} {cl:List (Str×Addr)} {it:Ap} {fp:List Ap} {A:Nat->Heap->Prop} {J:It} {Q:List V->Hp->Prop} {RR:Aj->Ap->Result->Am->Prop} {E:Af}
  (hg:∀ cl C s2 H2 fp,Cat X O C s2 H2 fp->PG ⋯ tg (g O)) (P:∀ cl C s2 H2 fp,Cat X O C s2 H2 fp->PF ⋯ ifs (tt O)) (he:∀ cl C s2 H2 fp,Cat X O C s2 H2 fp->PE ⋯ elt (te O))
  (B:Inv X pins O H s2) (T:Wr X.prog X.w X.K tg J fp it A) (L:A 0 s2.heap) (f2:∀ b∈fp,Jo X pins H b) (N:yv zgS k ix (g O) (tt O) (te O) O J H Q)
  (G:∀ x c,cl.lookup x\c->X.env.cells.lookup x\c) (K:∀ x,(x,NameKind.free)∈scope.names->∃ c,cl.lookup x\c)
  (M:∀(D C:Ap)(x:Aj)(z:Am),zbd X C x z->RR (.ref D) C (.error x) z)
  (fin:∀(D C:Ap)(r:List V)(o:Hp)(s5:Am)(m:Aq),Inv X pins O (upd o D (.lst r)) s5->Q r o->o D=none->s5.heap.Ns C m->C≠D->⇑s2<=C->upd o D (.lst r) C=none->RR (.ref D) C (.ok .next) s5) :
  ∅ (newList []) (λacc i=>∅ (newFunctionEnv scope X.env.globals cl [] X.env.qual none .none (some X.env)) (λy l=>
   codeAny (model X.prog X.w) X.A (.compStart (.ListComp elt [#[tg,iter,ifs,0]] scope pos) 0 (.ref it) acc { y with scope:=relabel scope X.env }) (RR acc y.locals) l) E i) E s2 :=
 VD zbg (act:=λD env=>do let _<-call (.builtin "list.append") [.ref D,<- eval elt env]) (λit acc env R s I n h h0=>codeAny_loop rfl I h n h0) (λ_ _ _=>zav) (λR s it acc env h0 h=>codeAny_compStart_list h0 h) F S hg P (λcl C s2 H2 fp c=>zfz (he cl C s2 H2 fp c)) B T L f2 N G K M fin
def zhP(i:X.calm=true)(S:CSc X.env.scope X.N scope N' k ix)(hi:PI X tg iter wi)
  (hg:∀ O cl C s2 H2 fp,Cat X O C s2 H2 fp->PG ⋯ tg (g O)) (z:∀ O cl C s2 H2 fp,Cat X O C s2 H2 fp->PF ⋯ ifs (tt O)) (he:∀ O cl C s2 H2 fp,Cat X O C s2 H2 fp->PE ⋯ elt (te O))
  (y:∀ x,foldedSetIterable iter X.env x=pure x:=by intro _;rfl):PE X (.ListComp elt [#[tg,iter,ifs,0]] scope pos) (kG k ix wi g tt te):=by
 cbv;let(cl,A,d,f):=ZZ I S;rw[eval_ListComp];erw[wpAny_comprehension_free rfl y A S.kind S.loc (thn (hi pins s O H _ I h) λv s1 o=>thn o λG s2 p=>?_)];let(it,fp,L,J,H2,e,a,T,j,f2,t):=p;subst e;erw[VF i S (hg O) (z O) (he O) a T j f2 t d f (λD C x K h=>h) ?_];intro D C B b s5 m c q r u E n w;exact#[m,u,λF l=>#[.ref D,upd b D (.lst B),a.letgo c n w l.2,rfl,q D r]]
def zhZ{pos' c:Pos}(hN:X.N.Nodup)(y:X.N[i]?\x)(hx:Loc X.env.scope x)(r:X.calm=true)(S:CSc X.env.scope X.N scope N' k ix)(hi:PI X tg iter wi)
  (hg:∀ O cl C s2 H2 fp,Cat X O C s2 H2 fp->PG ⋯ tg (g O)) (P:∀ O cl C s2 H2 fp,Cat X O C s2 H2 fp->PF ⋯ ifs (tt O)) (he:∀ O cl C s2 H2 fp,Cat X O C s2 H2 fp->PE ⋯ elt (te O))
  (z:swapsWith (.ListComp elt [#[tg,iter,ifs,0]] scope pos) (some (.Name x pos')) c.line X.env=pure true)
  (N:∀ x,foldedSetIterable iter X.env x=pure x:=by intro _;rfl) (hf:X.fn x=true∨X.env.scope.names.lookup x\.local:=by first | exact .inl rfl | exact .inr rfl | assumption) :
  PS X (.Assign [.Name x pos'] (.ListComp elt [#[tg,iter,ifs,0]] scope pos) c) (Yn (kG k ix wi g tt te) (W0 i)):=by
 intro pins s O H n I h;let(cl,U,t,u):=ZZ I S;rw[exec_Assign_Name_used _ _ _ _ z];erw[x5 (wpAny_standAt (x5 ?_))];refine x5 (Xe (wpAny_comprehension_free (Q:=λ_ d=>SP X pins n .next d) rfl N U S.kind S.loc
  (thn (hi pins s O H _ I h) λv s1 E=>thn E λou s2 F=>?_)) (λ_ d M=>x9 (x9 M)) λ_ _ e=>e)
 let(it,fp,tn,J,H2,e,b,T,A,f2,K):=F;subst e;erw[VF r S (hg O) (P O) (he O) b T A f2 K t u (λD C x d h=>h) ?_];intro D C ys Y s5 m p q G L W f R;erw[wpAny_assign_Name (wm (v:=.ref D) p hN y hx rfl (λd o ⟨a,V,j⟩=>?_) hf)];let l:C≠a:=by
  rcases j with rfl | j
  ·erw[Ne.symm (xj (xu b.lt f))]
  ·let(v,ob,w,_):=b.cell x a j;erw[Ne.symm (xj (xu (x8 w) f))]
 exact#[m,L.sameBut V l,λZ B=>#[_,_,b.letgo o f R B.2,q D G]]
end
section
variable {X:Cx}{kx vx tg iter:Expr}{ifs:Ag}{scope:Scope}{pos:Pos}{N':Ab}{k:Nat}{ix:Ac}{g:St->TG}{tt:St->TT}{tk tv:St->TE}{wi:TI}
def zfy{tk tv:TE}(hk:PE X kx tk)(hv:PE X vx tv):PEv X (λ(y:Key×V)(b:Aj×Value)=>RelV (kV y.1) b.1/\RelV y.2 b.2) (λD b=>holding [b.1,b.2] (dictSet D b.1 b.2)) (λD env=>do
   let c<-eval kx env;let i<-holding [c] (eval vx env)
   standAt { kx.pos with endLine:=vx.pos.endLine,endCol:=vx.pos.endCol }
   holding [c,i] (dictSet D c i)) (kH tk tv):=λD pins s O H Q R I h g=>
 x5 (Xe (hk pins s O H _ I h) (λc s1 ⟨x,H1,d,m,j⟩=>x5 (Xd (Xe (hv pins s1 O H1 _ d j) (λi s2 ⟨y,a,e,n,k,f,l⟩=>
  x5 (wpAny_standAt (g (k,y) (c,i) s2 a e #[by rw[<- f];exact m,n] l))) λ_ _ z=>z))) λ_ _ z=>z)
def VE(F:X.calm=true)(S:CSc X.env.scope X.N scope N' k ix)
  {pins:Ak} {O:St} {H:Hp} {s2:Am} {cl:List (Str×Addr)} {it:Ap} {fp:List Ap} {A:Nat->Heap->Prop} {J:It} {Q:List (Key×V)->Hp->Prop} {RR:Aj->Ap->Result->Am->Prop} {E:Af}
  (hg:∀ cl C s2 H2 fp,Cat X O C s2 H2 fp->PG ⋯ tg (g O)) (P:∀ cl C s2 H2 fp,Cat X O C s2 H2 fp->PF ⋯ ifs (tt O)) (hk:∀ cl C s2 H2 fp,Cat X O C s2 H2 fp->PE ⋯ kx (tk O)) (hv:∀ cl C s2 H2 fp,Cat X O C s2 H2 fp->PE ⋯ vx (tv O))
  (B:Inv X pins O H s2) (T:Wr X.prog X.w X.K tg J fp it A) (L:A 0 s2.heap) (f2:∀ b∈fp,Jo X pins H b) (N:yv zgR k ix (g O) (tt O) (kH (tk O) (tv O)) O J H Q)
  (G:∀ x c,cl.lookup x\c->X.env.cells.lookup x\c) (K:∀ x,(x,NameKind.free)∈scope.names->∃ c,cl.lookup x\c)
  (M:∀(D C:Ap)(x:Aj)(z:Am),zbd X C x z->RR (.ref D) C (.error x) z)
  (fin:∀(D C:Ap)(r:List (Key×V))(o:Hp)(s5:Am)(m:Aq),Inv X pins O (upd o D (.dK r)) s5->Q r o->o D=none->s5.heap.Ns C m->C≠D->⇑s2<=C->upd o D (.dK r) C=none->RR (.ref D) C (.ok .next) s5) :
  ∅ newDict (λacc i=>∅ (newFunctionEnv scope X.env.globals cl [] X.env.qual none .none (some X.env)) (λy l=>
   codeAny (model X.prog X.w) X.A (.compStart (.DictComp kx vx [#[tg,iter,ifs,0]] scope pos) 0 (.ref it) acc { y with scope:=relabel scope X.env }) (RR acc y.locals) l) E i) E s2 :=
 VD zbf (act:=λD env=>do
   let a<-eval kx env;let d<-holding [a] (eval vx env)
   standAt { kx.pos with endLine:=vx.pos.endLine,endCol:=vx.pos.endCol }
   holding [a,d] (dictSet D a d)) (λit acc env R s I n h h0=>codeAny_loop rfl I h n h0) (λit D env=>compTurn_dict kx vx tg iter ifs scope pos it D env) (λR s it acc env h0 h=>codeAny_compStart_dict h0 h) F S hg P (λcl C s2 H2 fp c=>zfy (hk cl C s2 H2 fp c) (hv cl C s2 H2 fp c)) B T L f2 N G K M fin
def zfo(i:X.calm=true)(S:CSc X.env.scope X.N scope N' k ix)(hi:PI X tg iter wi)
  (hg:∀ O cl C s2 H2 fp,Cat X O C s2 H2 fp->PG ⋯ tg (g O)) (z:∀ O cl C s2 H2 fp,Cat X O C s2 H2 fp->PF ⋯ ifs (tt O)) (hk:∀ O cl C s2 H2 fp,Cat X O C s2 H2 fp->PE ⋯ kx (tk O)) (hv:∀ O cl C s2 H2 fp,Cat X O C s2 H2 fp->PE ⋯ vx (tv O))
  (y:∀ x,foldedSetIterable iter X.env x=pure x:=by intro _;rfl):PE X (.DictComp kx vx [#[tg,iter,ifs,0]] scope pos) (vR k ix wi g tt (λO=>kH (tk O) (tv O))):=by
 cbv;let(cl,A,d,f):=ZZ I S;erw[wpAny_comprehension_free rfl y A S.kind S.loc (thn (hi pins s O H _ I h) λv s1 o=>thn o λG s2 p=>?_)];let(it,fp,L,J,H2,e,a,T,j,f2,t):=p;subst e;erw[VE i S (hg O) (z O) (hk O) (hv O) a T j f2 t d f (λD C x K h=>h) ?_];intro D C B b s5 m c q r u E n w;exact#[m,u,λF l=>#[.ref D,upd b D (.dK B),a.letgo c n w l.2,rfl,q D r]]
def zfK{pos' c:Pos}(hN:X.N.Nodup)(y:X.N[i]?\x)(hx:Loc X.env.scope x)(r:X.calm=true)(S:CSc X.env.scope X.N scope N' k ix)(hi:PI X tg iter wi)
  (hg:∀ O cl C s2 H2 fp,Cat X O C s2 H2 fp->PG ⋯ tg (g O)) (P:∀ O cl C s2 H2 fp,Cat X O C s2 H2 fp->PF ⋯ ifs (tt O)) (hk:∀ O cl C s2 H2 fp,Cat X O C s2 H2 fp->PE ⋯ kx (tk O)) (hv:∀ O cl C s2 H2 fp,Cat X O C s2 H2 fp->PE ⋯ vx (tv O))
  (z:swapsWith (.DictComp kx vx [#[tg,iter,ifs,0]] scope pos) (some (.Name x pos')) c.line X.env=pure true)
  (N:∀ x,foldedSetIterable iter X.env x=pure x:=by intro _;rfl) (hf:X.fn x=true∨X.env.scope.names.lookup x\.local:=by first | exact .inl rfl | exact .inr rfl | assumption) :
  PS X (.Assign [.Name x pos'] (.DictComp kx vx [#[tg,iter,ifs,0]] scope pos) c) (Yn (vR k ix wi g tt (λO=>kH (tk O) (tv O))) (W0 i)):=by
 intro pins s O H n I h;let(cl,U,t,u):=ZZ I S;rw[exec_Assign_Name_used _ _ _ _ z];erw[x5 (wpAny_standAt (x5 ?_))];refine x5 (Xe (wpAny_comprehension_free (Q:=λ_ d=>SP X pins n .next d) rfl N U S.kind S.loc
  (thn (hi pins s O H _ I h) λv s1 E=>thn E λou s2 F=>?_)) (λ_ d M=>x9 (x9 M)) λ_ _ e=>e)
 let(it,fp,tn,J,H2,e,b,T,A,f2,K):=F;subst e;erw[VE r S (hg O) (P O) (hk O) (hv O) b T A f2 K t u (λD C x d h=>h) ?_];intro D C ys Y s5 m p q G L W f R;erw[wpAny_assign_Name (wm (v:=.ref D) p hN y hx rfl (λd o ⟨a,V,j⟩=>?_) hf)];let l:C≠a:=by
  rcases j with rfl | j
  ·erw[Ne.symm (xj (xu b.lt f))]
  ·let(v,ob,w,_):=b.cell x a j;erw[Ne.symm (xj (xu (x8 w) f))]
 exact#[m,L.sameBut V l,λZ B=>#[_,_,b.letgo o f R B.2,q D G]]
end
class Cs where
 adr:Str->Ap
variable [Cs]
def ExO(C:Ap)(c:Option Ap)(a:Ap):HO:=.ext λh=>∃ t,h.get? a\{ cls:=.ref C,dict:=c,data:=.fields (List.toArray [.ref t,.none,.none,.none,.bool false,.none]) }
def kK(p:Str×V):Key×V:=(.inr p.1,p.2)
def dK(p:Str×PyData):PyData×PyData:=(.str p.1,p.2)
mutual
inductive Rep(M:Ae)(H:Hp):V->PyData->Prop|none:Rep M H .non .none|bool (b:Bool):Rep M H (.bl b) (.bool b)|int (i:Int):Rep M H (.int i) (.int i)|str (x:Str):Rep M H (.str x) (.str x)|list {a:Ap} {vs:List V} {ds:Aa}:H a\(.lst vs)->¬ M a->RepL M H vs ds->Rep M H (.ref a) (.list ds)|tuple {a:Ap} {vs:List V} {ds:Aa}:H a\(.tup vs)->RepL M H vs ds->Rep M H (.ref a) (.tuple ds)|dict {a:Ap} {kvs:List (Str×V)} {ds:Ad}:Rd H a (.dK (kvs.map kK))->¬ M a->kvs.map (·.1)=ds.map (·.1)->RepL M H (kvs.map (·.2)) (ds.map (·.2))->Rep M H (.ref a) (.dict (ds.map dK))|inst {a dx:Ap} {c:Str} {fs:List (Str×V)} {ds:Ad}:H a\(.ins (Cs.adr c) dx fs)->¬ M a->fs.map (·.1)=ds.map (·.1)->RepL M H (fs.map (·.2)) (ds.map (·.2))->Rep M H (.ref a) (.dict ((.none,.str c)::ds.map dK))|exo {a:Ap} {dx:Option Ap} {c:Str} {fs:List (Str×V)} {ds:Ad}:H a\(ExO (Cs.adr c) dx a)->¬ M a->(dx=none/\fs= []∨∃ d,dx\d/\H d\(.xd fs)/\¬ M d)->fs.map (·.1)=ds.map (·.1)->RepL M H (fs.map (·.2)) (ds.map (·.2))->Rep M H (.ref a) (.dict ((.bool true,.str c)::ds.map dK))
inductive RepL(M:Ae)(H:Hp):List V->Aa->Prop|nil:RepL M H [] []|cons {v:V} {vs:List V} {d:PyData} {ds:Aa}:Rep M H v d->RepL M H vs ds->RepL M H (v::vs) (d::ds)
end
def zlP(M:Ae)(H c:Hp):=∀ b o,¬ M b->H b\o->c b\o
def TupM(H c:Hp):=∀ b xs,H b\(.tup xs)->c b\(.tup xs)
structure zjv(M:Ae)(H H':Hp):Prop where
 same:zlP M H H'
 tups:TupM H H'
 stay:∀ b,H b≠none->H' b≠none
def Same.grow(s:Same H I):zjv M H I :=
 ⟨λb o _ e=>s b o e,λb xs e=>s b _ e,λb h=>by
  cases q:H b with|none=>erw[absurd q h]|some o=>rw[s b o q];exact λz=>nomatch z⟩
def Rep.go(k:∀ a o,H a\o->¬ M a->(∀ x,o≠ .dK x)->(∀ b x,o≠ .frz b (.dK x))->I a\o/\¬ J a)(t:∀ a xs,H a\(.tup xs)->I a\(.tup xs))
  (c:∀ a x,Rd H a (.dK x)->¬ M a->Rd I a (.dK x)/\¬ J a) {v:V} {d:PyData} (r:Rep M H v d):Rep J I v d :=
 Rep.rec (motive_1:=λv d _=>Rep J I v d) (motive_2:=λf ds _=>RepL J I f ds) .none .bool .int .str
  (λe n _ r=>let z:=k _ _ e n (λ_ z=>nomatch z) (λ_ _ z=>nomatch z);.list z.1 z.2 r) (λe _ r=>.tuple (t _ _ e) r) (λe n q _ r=>.dict (c _ _ e n).1 (c _ _ e n).2 q r)
  (λe n q _ r=>let z:=k _ _ e n (λ_ z=>nomatch z) (λ_ _ z=>nomatch z);.inst z.1 z.2 q r)
  (λe n x q _ r=>let z:=k _ _ e n (λ_ z=>nomatch z) (λ_ _ z=>nomatch z);.exo z.1 z.2 (x.imp id λ⟨d,w,q,m⟩=>let z:=k _ _ q m (λ_ z=>nomatch z) (λ_ _ z=>nomatch z);#[d,w,z.1,z.2]) q r) .nil (λ_ _ r t=>.cons r t) r
def RepL.ind{H:Hp}{P:List V->Aa->Prop}(h0:P [] [])(i:∀{v c d ds},Rep M H v d->RepL M H c ds->P c ds->P (v::c) (d::ds))(r:RepL M H c ds):P c ds:=by
 induction c generalizing ds with
 |nil=>cases r;exact h0
 |cons v c a=>cases r with
  |cons r t=>erw[i r t (a t)]
def Zn{M c:Ae}(i:∀ v d,Rep M H v d->Rep c o v d)(r:RepL M H I ds):RepL c o I ds:=r.ind .nil λr _ t=>.cons (i _ _ r) t
def Rep.grow(g:zjv M H I)(r:Rep M H v d):Rep M I v d :=
 r.go (λa o e n _ _=>#[g.same _ _ n e,n]) g.tups λa x e n=>#[e.imp (g.same _ _ n) λ⟨o,z⟩=>#[o,g.same _ _ n z],n]
def RepL.grow(g:zjv M H o)(r:RepL M H I ds):RepL M o I ds:=Zn (λ_ _=>Rep.grow g) r
def Rep.less(g:∀ b,I b->H b≠ .none->M b)(r:Rep M H v d):Rep I H v d :=
 r.go (λa o e n _ _=>#[e,λz=>n (g _ z (by rw[e];exact λz=>nomatch z))]) (λ_ _ e=>e) λa x e n=>#[e,λz=>n (g _ z (by rcases e with e | ⟨o,e⟩<;>rw[e]<;>exact λz=>nomatch z))]
def RepL.length{ds:Aa}(r:RepL M H l ds):↑l=↑ds:=r.ind (P:=λl ds=>↑l=↑ds) rfl λ_ _ a=>congrArg (·+1) a
def RepL.append{ds c:Aa}(r:RepL M H i ds)(s:RepL M H ws c):RepL M H (i++ws) (ds++c):=r.ind (P:=λi ds=>RepL M H (i++ws) (ds++c)) s λr _ a=>.cons r a
def RepL.get{H:Hp}{ds:Aa}{i:Nat}{v:V}(r:RepL M H c ds):c[i]?\v->∃ d,ds[i]?\d/\Rep M H v d :=
 r.ind (P:=λc ds=>∀ i:Nat,c[i]?\v->∃ d,ds[i]?\d/\Rep M H v d) (λ_ e=>nomatch e) (λr _ a i e=>by
  cases i with|zero=>cases e;exact#[_,rfl,r]|succ i=>exact a i e) i
def RepL.get'{H:Hp}{i:Nat}{d:PyData}(r:RepL M H o ds)(e:ds[i]?\d):∃ v,o[i]?\v/\Rep M H v d:=by
 let hl:=↑r;let hi:i<↑o:=by rw[hl];exact (xa.mp e).1
 let(c,a,b):=r.get (i:=i) (v:=o[i]) (by simp[hi]);rw[e]at a;cases a;exact#[o[i],by simp[hi],b]
def RepL.take{ds:Aa}(n:Nat)(r:RepL M H i ds):RepL M H (i.take n) (ds.take n):=r.ind (P:=λi ds=>∀ n:Nat,RepL M H (i.take n) (ds.take n)) (λn=>by simp;exact .nil) (λr _ a n=>by
    cases n with|zero=>erw[.nil]|succ n=>exact .cons r (a n)) n
def RepL.drop{ds:Aa}(n:Nat)(r:RepL M H c ds):RepL M H (c.drop n) (ds.drop n):=r.ind (P:=λc ds=>∀ n:Nat,RepL M H (c.drop n) (ds.drop n)) (λn=>by simp;exact .nil) (λr t a n=>by
    cases n with|zero=>erw[.cons r t]|succ n=>exact a n) n
def RepL.ints:∀(ns:List Int),RepL M H (ns.map V.int) (ns.map PyData.int)|[]=>.nil|n::ns=>.cons (.int n) (RepL.ints ns)
def Rep.reads(ok:HOk P w H h)(r:Rep M H v d):d.canLay0=true->RelV v u->∃ as,Reads h u d as :=
 Rep.rec (motive_1:=λv d _=>∀ u,d.canLay0=true->RelV v u->∃ as,Reads h u d as) (motive_2:=λf ds _=>∀ us,PyData.canLayAll0 ds=true->Vals f us->∃ as,ReadsAll h us ds as)
  (λu _ r=>by cases (show u=Value.none from r);exact#[_,.none]) (λb u _ r=>by cases (show u=Value.bool b from r);exact#[_,.bool b]) (λi u _ r=>by let(t,e):=(show ∃ t,u=Value.int i t from r);cases e;exact#[_,.int i t])
  (λx u _ r=>by let(t,e):=(show ∃ t,u=Value.str x t from r);cases e;exact#[_,.str x t])
  (λ{a f ds} e n q g u l r=>by
   cases (show u=Value.ref a from r);let(_,j,c,k,ho):=(show ObjOk P w H h a (.lst f) from ok a _ e);let(as,z):=g _ l k;exact#[_,.list ho rfl rfl (~~~z)])
  (λ{a f ds} e q g u l r=>by
   cases (show u=Value.ref a from r);let(_,j,k,o,ho,hc,c,hd):=(show ObjOk P w H h a (.tup f) from ok a _ e);let(as,z):=g _ l k;exact#[_,.tuple ho hc hd (~~~z)])
  (λ_ _ _ _ _ _ l _=>by cases l) (λ_ _ _ _ _ _ l _=>by cases l) (λ_ _ _ _ _ _ _ l _=>by cases l) (λus _ r=>by cases r;exact#[_,.nil])
  (λ_ _ p s us l r=>by
   let m:=xL.mp l;cases r with
   |cons r rs=>
    let(as,z):=p _ m.1 r;let(bs,y):=s _ m.2 rs;exact#[_,.cons z y]) r u
def RepL.reads{w:World}{H:Hp}{h:Heap}(ok:HOk P w H h){c:List V}{ds:Aa}(r:RepL M H c ds):PyData.canLayAll0 ds=true->Vals c us->∃ as,ReadsAll h us ds as :=
 r.ind (P:=λc ds=>∀ us,PyData.canLayAll0 ds=true->Vals c us->∃ as,ReadsAll h us ds as) (λus _ r=>by cases r;exact#[_,.nil]) (λq _ b us l r=>by
  let a:=xL.mp l;cases r with
  |cons r rs=>
   let(as,z):=q.reads ok a.1 r;let(bs,y):=b _ a.2 rs;exact#[_,.cons z y]) us
section
variable (X:Cx)
def wpE(e:Expr):TE:=λO H Q=>∀(pins:Ak)(s:Am),Inv X pins O H s->∅ (eval e X.env) (EP X pins O Q) X.xe s
def wpT(e:Expr):TT:=λO H Q=>∀(pins:Ak)(s:Am),Inv X pins O H s->∅ (isTrue e X.env (eval e X.env)) (TP X pins O Q) X.xe s
def wpW(e:Expr):TT:=λO H Q=>∀(whole:Sem Aj)(pins:Ak)(s:Am),Inv X pins O H s->∅ (isTrue e X.env whole) (TP X pins O Q) X.xe s
def wpA(c:Ag):TA:=λO H Q=>∀(pos:Pos)(pins:Ak)(s:Am),Inv X pins O H s->∅ (spliced (backTo pos (starEach c X.env))) (AP X pins O Q) X.xe s
def wpS(st:Stmt):TS:=λD O H=>∀(pins:Ak)(s:Am),Inv X pins O H s->∅ (exec st X.env) (SP X pins D) X.xe s
def wpB(st:List Stmt):TS:=λD O H=>∀(pins:Ak)(s:Am),Inv X pins O H s->∅ (execs st X.env) (SP X pins D) X.xe s
def wpG(i:Expr):TG:=λv O H Q=>∀(pins:Ak)(s:Am)(u:Aj),Inv X pins O H s->RelV v u->∅ (assign i X.env u) (λ_ c=>∃ b a,Inv X pins b a c/\Q b a) X.xe s
def wpF(ifs:Ag):TT:=λO H Q=>∀(pins:Ak)(s:Am),Inv X pins O H s ->
 ∅ (forIn ifs true λc r=>if r=true then do let ok<-isTrue c X.env (eval c X.env);pure (ForInStep.yield ok) else pure (ForInStep.yield r)) (TP X pins O Q) X.xe s
def wpI(c iter:Expr):TI:=λO H R=>∀(pins:Ak)(s:Am),Inv X pins O H s ->
  ∅ (eval iter X.env) (λv s1=>∅ (pyIter v) (PIE X pins O c R) X.xe s1) X.xe s
end
section
variable {X:Cx}{e:Expr}{es:Ag}{st:Stmt}{dk:List Stmt}{tg iter:Expr}{O:St}{H:Hp}
def zC:PE X e (wpE X e):=λpins s O H Q I h=>h pins s I
def Zw:PT X e (wpT X e):=λpins s O H Q I h=>h pins s I
def za2:PW X e (wpW X e):=λa pins s O H Q I h=>h a pins s I
def Zv:PA X es (wpA X es):=λpos pins s O H Q I h=>h pos pins s I
def za1:PS X st (wpS X st):=λpins s O H D I h=>h pins s I
def Za:PSs X dk (wpB X dk):=λpins s O H D I h=>h pins s I
def y8:PG X tg (wpG X tg):=λpins s O H v u Q I r h=>h pins s u I r
def Jz:PI X tg iter (wpI X tg iter):=λpins s O H R I h=>h pins s I
def PE.wp(h:PE X e t)(q:t O H Q):wpE X e O H Q:=λpins s I=>h pins s O H Q I q
def PT.wp(h:PT X e t)(q:t O H Q):wpT X e O H Q:=λpins s I=>h pins s O H Q I q
def PW.wp(h:PW X e t)(q:t O H Q):wpW X e O H Q:=λa pins s I=>h a pins s O H Q I q
def PA.wp(h:PA X es t)(q:t O H Q):wpA X es O H Q:=λpos pins s I=>h pos pins s O H Q I q
def PS.wp(h:PS X st t)(q:t D O H):wpS X st D O H:=λpins s I=>h pins s O H D I q
def PSs.wp(h:PSs X dk t)(q:t D O H):wpB X dk D O H:=λpins s I=>h pins s O H D I q
def PG.wp(h:PG X tg t)(q:t v O H Q):wpG X tg v O H Q:=λpins s u I r=>h pins s O H v u Q I r q
def PF.wp(h:PF X ifs t)(q:t O H Q):wpF X ifs O H Q:=λpins s I=>h pins s O H Q I q
def PI.wp(h:PI X tg iter t)(q:t O H R):wpI X tg iter O H R:=λpins s I=>h pins s O H R I q
def wpE.mono(h:wpE X e O H Q)(k:∀ v l,Q v l->o v l):wpE X e O H o:=λpins s I=>thn (h pins s I) λu d ⟨v,l,a,b,c⟩=>#[v,l,a,b,k v l c]
def wpA.mono(h:wpA X es O H Q)(k:∀ v l,Q v l->o v l):wpA X es O H o:=λpos pins s I=>thn (h pos pins s I) λu d ⟨v,l,a,b,c⟩=>#[v,l,a,b,k v l c]
end
def Al(M:Ae)(H:Hp):=∀ a,M a->H a≠none
inductive Ent where|d (x:PyData)|v (x:V)
abbrev Ge:=List (Option Ent)
structure RS(M:Ae)(U:Ge)(O:St)(H:Hp):Prop where
 al:Al M H
 at':∀(i:Nat)(d:PyData),U[i]?\(@&d)->∃ v,O[i]?\(some v)/\Rep M H v d
 av:∀(i:Nat)(v:V),U[i]?\(some (.v v))->O[i]?\(some v)
def zlM(M:Ae)(H:Hp)(v:V):Ent->Prop|.d d=>Rep M H v d|.v u=>v=u
def RS.setE(h:RS M U O H)(r:zlM M H v z)(hi:i<↑O):RS M (U.set i (some z)) (O.set i (some v)) H:=⟨h.al,λj b e=>by
 by_cases a:j=i
 ·subst a;by_cases hl:j<↑U
  ·rw[xk hl]at e;cases e;exact#[v,by rw[xk hi],r]
  ·rw[xI (~~~hl)]at e;cases e
 ·rw[xi (Ne.symm a)]at e |-
  exact h.at' j b e,λj b e=>by
 by_cases a:j=i
 ·subst a;by_cases hl:j<↑U
  ·rw[xk hl]at e;cases e;rw[xk hi];exact congrArg (λx=>some (some x)) r
  ·rw[xI (~~~hl)]at e;cases e
 ·rw[xi (Ne.symm a)]at e |-
  exact h.av j b e⟩
def RS.setV(h:RS M U O H)(hi:i<↑O):RS M (U.set i (some (.v v))) (O.set i (some v)) H:=h.setE rfl hi
section
variable {X:Cx}{p:Pos}{d1 d2:PyData}
def qg{p:Ap}(n:H p=none):Same H (upd H p o):=λb u e=>by rw[zH (qC e n)];exact e
def zcJ(i:∀ n,n<=60->X.A.units+n<cLine):OpR X (compareOp .Eq) (λx y H Q=>∃ M c d1 d2,Rep M H x d1/\Rep c H y d2/\d1.canLay0=true/\d2.canLay0=true/\min d1.depth d2.depth<=60/\Q (.bl (PyData.eqv d1 d2)) H):=by
 intro pins s O H x y v u Q I f g h;let(M,c,d1,d2,d,e,a,b,hd,q):=h;let(as,j):=d.reads I.hok a f;let(bs,k):=e.reads I.hok b g;erw[SeqAt.compareEq_reads j k a b (i _ hd) #[.bl _,H,I,rfl,q]]
def zcK(i:∀ n,n<=60->X.A.units+n<cLine):OpR X (compareOp .NotEq) (λx y H Q=>∃ M c d1 d2,Rep M H x d1/\Rep c H y d2/\d1.canLay0=true/\d2.canLay0=true/\min d1.depth d2.depth<=60/\Q (.bl (!PyData.eqv d1 d2)) H):=by
 intro pins s O H x y v u Q I f g h;let(M,c,d1,d2,d,e,a,b,hd,q):=h;let(as,j):=d.reads I.hok a f;let(bs,k):=e.reads I.hok b g;erw[SeqAt.compareNe_reads j k a b (i _ hd) #[.bl _,H,I,rfl,q]]
def Room.u60(r:Room k A):∀ n,n<=60->A.units+n<cLine:=λn h=>by have:=r.units;lia
end
end Lake.L2
namespace PySem
open PySem.AutoSeq1 (wpAny_loadPart')
def kM(l:Ap)(items:Array Aj)(n:Nat)(o:Option Ap)(sl:Array (Option Aj))(x:Int)(u:Tok)(c:¬ (decide (x< -(2 ^ 63))||decide (x≥2 ^ 63))=true)(z:¬ (items.isEmpty||x==1)=true)(y:¬ (decide (x<=0)||items.isEmpty)=true)(r:¬ (items.size:Int)*x>(2 ^ 63-1) / 8)(v:¬ Builtin.Tuple.tupleTooMany ((items.size:Int)*x)=true)(i:((List.replicate x.toNat items).foldl (·++·) (List.toArray [])).size<=sizeLine) :
  Meets (Builtin.«tuple.__mul__» #[[.ref l,.int x u],[]]) (λ_ R s=>s.heap.get? l\{ cls:=.type "tuple",dict:=o,data:=.seq items n,slots:=sl }/\R (.ok (.ret (Value.ref ⇑s))) { s with heap:=s.heap.push { cls:=Value.type "tuple",data:=Data.seq ((List.replicate x.toNat items).foldl (·++·) (List.toArray [])) },toks:=s.toks }) :=
 .of_wp λprog w A R s h=>by
  let(hp,g,d,a,os):=s;let(hl,h):=h;let f1:=AutoSeq1.idx_int
  wp_walk using Xi hl
  erw[wpAny_ite_false (Xc c) ?_]
  wp_walk using Xi hl
  first | (refine wpAny_ite_false (Xc r) ?_;wp_walk using Xi hl) | skip
  first | (refine wpAny_ite_false (Xc (pp.mpr i)) ?_;wp_walk using Xi hl) | skip
  exact#[_,rfl,h]
def kJ(l:Ap)(items:Array Aj)(n:Nat)(i:Option Ap)(sl:Array (Option Aj))(x:Int)(u:Tok)(c:¬ (decide (x< -(2 ^ 63))||decide (x≥2 ^ 63))=true)(o:(items.isEmpty||x==1)=true) :
  Meets (Builtin.«tuple.__mul__» #[[.ref l,.int x u],[]]) (λ_ R s=>s.heap.get? l\{ cls:=.type "tuple",dict:=i,data:=.seq items n,slots:=sl }/\R (.ok (.ret (Value.ref l))) { s with heap:=s.heap,toks:=s.toks }) :=
 .of_wp λprog w A R s h=>by
  let(hp,g,d,a,os):=s;let(hl,h):=h;let f1:=AutoSeq1.idx_int
  wp_walk using Xi hl
  erw[wpAny_ite_false (Xc c) ?_]
  wp_walk using Xi hl
  exact#[_,rfl,h]
def kL(l:Ap)(items:Array Aj)(n:Nat)(i:Option Ap)(sl:Array (Option Aj))(x:Int)(u:Tok)(c:¬ (decide (x< -(2 ^ 63))||decide (x≥2 ^ 63))=true)(r:¬ (items.isEmpty||x==1)=true)(o:(decide (x<=0)||items.isEmpty)=true) :
  Meets (Builtin.«tuple.__mul__» #[[.ref l,.int x u],[]]) (λ_ R s=>s.heap.get? l\{ cls:=.type "tuple",dict:=i,data:=.seq items n,slots:=sl }/\R (.ok (.ret (Value.ref ⇑s))) { s with heap:=s.heap.push { cls:=Value.type "tuple",data:=Data.seq (List.toArray []) },toks:=s.toks }) :=
 .of_wp λprog w A R s h=>by
  let(hp,g,d,a,os):=s;let(hl,h):=h;let f1:=AutoSeq1.idx_int
  wp_walk using Xi hl
  erw[wpAny_ite_false (Xc c) ?_]
  wp_walk using Xi hl
  exact#[_,rfl,h]
def Jx:fillsNumberSlot (.type "tuple") "mul" =pure false :=
 fillsNumberSlot_seq (id:= "tuple.__mul__") (r:=some (.builtin "tuple.__rmul__")) F.slot_tuple_mul.lookup (by decide +kernel) F.slot_tuple_rmul.lookup (by decide +kernel)
def Vh:seqRepeat? (.type "tuple")=pure (some (.builtin "tuple.__mul__")):=by
 unfold seqRepeat?;rw[seqSlot_of (T:= "tuple") (name:= "__mul__") (id:= "tuple.__mul__") F.slot_tuple_mul.lookup (by decide +kernel),seqSlot_of (T:= "tuple") (name:= "__rmul__") (id:= "tuple.__rmul__") F.slot_tuple_rmul.lookup (by decide +kernel)];rfl
def wZ(a:Int)(t:Tok)(l:Ap)(items:Array Aj)(n:Nat)(c:Option Ap)(sl:Array (Option Aj)) :
  Meets (Builtin.«int.__rmul__» #[[.int a t,.ref l],[]]) (λ_ R s=>s.heap.get? l\{ cls:=.type "tuple",dict:=c,data:=.seq items n,slots:=sl }/\R (.ok (.ret Value.notImplemented)) s) :=
 .of_wp λprog w A R s h=>by let(hp,g,d,b,os):=s;let(hl,h):=h;wp_walk using Xi hl;exact#[_,rfl,h]
end PySem
namespace Lake.L2
open PySem PySem.Spec PyProof.Rows
variable [Cs]
section
variable {X:Cx}
def zms(K:Ah):R2:=λx y H Q=>∃ l k xs,x=.ref l/\y=.int k/\SqT K H l xs/\ -(2 ^ 63)<=k/\k<2 ^ 63/\↑xs*k.toNat<=sizeLine /\
 ((xs= []∨k=1)->Q (.ref l) H)/\∀ p,H p=none->Q (.ref p) (upd H p (.tup (List.replicate k.toNat xs).flatten))
def zhM:OpR X (binaryOp .Mult) (zms X.K):=by
 intro pins s O H x y v u Q I D E h;let(l,k,xs,rfl,rfl,A,N,P,j,C,q):=h;cases D;let(t,rfl):=E;let(a,r,hit,L):=I.tuple A;let hl:=↑r;let((cls,f,data,sl),ho,hc,n,hd):=id hit;simp only at hc hd;subst hc hd;let c:¬ (decide (k< -(2 ^ 63))||decide (k≥2 ^ 63))=true:=by
  simp only[xV,x0];lia
 let i:List.foldl (λJ K=>J++K) (List.toArray []) (List.replicate k.toNat a.toArray)=(List.replicate k.toNat a).flatten.toArray:=by
  have:=J5 a k.toNat [];rw[uH]at this;erw[this]
 refine wpAny_binaryOp_repeat_ref (T:= "tuple") (U:= "int") (by decide) #[_,ho,rfl] (λG=>typeIs_int G k t) Jx F.fills_int_mul F.slot_int_rmul Vh F.slot_int_index.lookup
  (call_meets F.slot_int_rmul (typeIs_int s k t) F.entry_int_rmul (F.args_int_rmul_2 _ _) (wZ k t l a.toArray n f sl) #[ho,rfl,#[_,ho,rfl],?_])
 by_cases g:(a.toArray.isEmpty||k==1)=true
 ·refine call_meets F.slot_tuple_mul #[_,ho,rfl] F.entry_tuple_mul (F.args_tuple_mul_2 _ _) (kJ l a.toArray n f sl k t c g) #[ho,?_];refine#[.ref l,H,I,rfl,C ?_];grind
 ·by_cases d:(decide (k<=0)||a.toArray.isEmpty)=true
  ·refine call_meets F.slot_tuple_mul #[_,ho,rfl] F.entry_tuple_mul (F.args_tuple_mul_2 _ _) (kL l a.toArray n f sl k t c g d) #[ho,?_];let w:(List.replicate k.toNat xs).flatten= []:=by
    simp only[xV,x0]at d;rcases d with z | z
    ·rw[show k.toNat=0 by lia];rfl
    ·exact absurd (by simp[z]) g
   refine#[.ref ⇑s,_,I.laid (λb u e=>x6 _ e) (xh _) ?_,rfl,by have:=q _ (I.hok.fresh (xh _));rw[w]at this;exact this];exact#[xY _,[],.nil,#[_,Xa _ rfl,rfl,_,rfl]]
  ·let hlen:↑a*k.toNat<=sizeLine:=by rw[<- hl];exact j
   let M:0<k:=by
    simp only[xV,x0]at d;lia
   let hm:((a.toArray.size:Int)*k)=((↑a*k.toNat:Nat):Int):=by grind
   let B:(sizeLine:Nat)<=(2 ^ 63-1) / 8:=by decide
   let p:¬ (a.toArray.size:Int)*k>(2 ^ 63-1) / 8:=by
    rw[hm];let o:((2 ^ 63-1) / 8:Int)=(((2 ^ 63-1) / 8:Nat):Int):=by decide
    rw[o];intro z;have:=Int.ofNat_lt.mp z;lia
   let m:¬ Builtin.Tuple.tupleTooMany ((a.toArray.size:Int)*k)=true:=by
    unfold Builtin.Tuple.tupleTooMany;rw[hm,x0];intro z;have:=Int.ofNat_lt.mp z;lia
   refine call_meets F.slot_tuple_mul #[_,ho,rfl] F.entry_tuple_mul (F.args_tuple_mul_2 _ _) (kM l a.toArray n f sl k t c g d p m (by rw[i,xm,y2,Nat.mul_comm];exact hlen)) #[ho,?_];rw[i];refine#[.ref ⇑s,_,I.laid (λb u e=>x6 _ e) (xh _) ?_,rfl,q _ (I.hok.fresh (xh _))];exact#[by rw[y2,Nat.mul_comm];exact j,_,r.rep k.toNat,#[_,Xa _ rfl,rfl,_,rfl]]
def RepL.rep(h:RepL M H o ds):∀ k:Nat,RepL M H (List.replicate k o).flatten (List.replicate k ds).flatten|0=>.nil|k+1=>by rw[xS,xS,ul,ul];exact h.append (RepL.rep h k)
def Rep.tup_inv(r:Rep M H v (.tuple ds)):∃ a c,v=.ref a/\H a\(.tup c)/\RepL M H c ds:=by
 cases r with|tuple e q=>exact#[_,_,rfl,e,q]
def Rep.lst_inv(r:Rep M H v (.list ds)):∃ a c,v=.ref a/\H a\(.lst c)/\¬ M a/\RepL M H c ds:=by
 cases r with|list e n q=>exact#[_,_,rfl,e,n,q]
variable {p:Pos}{a b:Expr}{d:PyData}{ds:Aa}
def zkP(K:Ah):R2:=λx y H Q=>∃ a b xs c,x=.ref a/\y=.ref b/\SqT K H a xs/\SqT K H b c/\↑xs+↑c<=sizeLine/\(xs= []->Q (.ref b) H)/\(c= []->Q (.ref a) H)/\∀ p,H p=none->Q (.ref p) (upd H p (.tup (xs++c)))
def zfj:OpR X (binaryOp .Add) (zkP X.K):=by
 intro pins s O H x y v u Q I A B h;let(a,b,xs,D,rfl,rfl,m,hb,i,w,z,q):=h;cases A;cases B;let(c,r,hit,_):=I.tuple m;let(k,d,g,_):=I.tuple hb;by_cases hv:c= []
 ·let((cls,l,data,sl),ho,hc,n,hd):=id hit;let((C,o,data2,p),j,f,t,hd2):=id g;simp only at hc hd f hd2;subst hc hd f hd2;refine concat_meets #[_,ho,rfl] #[_,j,rfl] noFill_tuple_add seq_tuple_add PySem.F.slot_tuple_add PySem.F.entry_tuple_add (PySem.F.args_tuple_add_2 _ _)
   (tuple_addW0 a b c.toArray k.toArray n t l o sl p (by simp[hv])) #[ho,j,#[.ref b,H,I,rfl,w ?_]]
  erw[r.nil_iff.mp hv]
 ·refine HT.cat_tup hit g hv (λhw=>#[.ref a,H,I,rfl,z (d.nil_iff.mp hw)]) (λ_=>?_) (by rw[<- ↑r,<- ↑d];exact i);refine#[.ref ⇑s,_,I.laid (λb u e=>x6 _ e) (xh _) ?_,rfl,q _ (I.hok.fresh (xh _))];exact#[by rw[xB];exact i,_,r.append d,#[_,Xa _ rfl,rfl,_,rfl]]
def yt(r:RepL M H o ds)(h:atI ds i\d):∃ v,atI o i\v/\Rep M H v d:=by
 unfold atI at h |-
 rw[r.length];cases e:ixN ↑ds i with
 |none=>rw[e]at h;cases h
 |some j=>
  rw[e]at h;erw[r.get' h]
end
section
variable {X:Cx}
variable {p:Pos}{b:Expr}
def zcU(bs:List Bool):(List.range ↑bs).all (λi=>(bs[i]?).getD false)=bs.all id:=by
 let e:(List.range ↑bs).map (λi=>(bs[i]?).getD false)=bs:=by
  apply List.ext_getElem
  ·simp
  ·intro i b a;simp[a]
 let h:=congrArg (λl=>List.all l id) e;rw[pj]at h;erw[h]
def zcV(bs:List Bool):(List.range ↑bs).any (λi=>(bs[i]?).getD false)=bs.any id:=by
 let e:(List.range ↑bs).map (λi=>(bs[i]?).getD false)=bs:=by
  apply List.ext_getElem
  ·simp
  ·intro i b a;simp[a]
 let h:=congrArg (λl=>List.any l id) e;rw[uP]at h;erw[h]
def za9{bs:List Bool}(c:Vals (bs.map V.bl) o){i:Nat}(e:o[i]?\v):∃ b,bs[i]?\b/\v=.bool b:=by
 let hi:=(xa.mp e).1;let hl:=↑c;rw[xo]at hl;let hb:i<↑bs:=by lia
 let(u,a,d):=c.get (i:=i) (x:=V.bl bs[i]) (by simp[hb]);rw[e]at a;cases a;exact#[bs[i],by simp[hb],d]
def zbu (hc:X.calm=true):j6 X (.builtin "all") (λxs H Q=>∃ (p:Ap) (bs:List Bool),xs= [.ref p]/\SqL X.K H p (bs.map V.bl)/\Q (.bl (bs.all id)) H):=by
 intro pins s O H xs us Q I r h;let(p,bs,rfl,k,q):=h;let(u,rfl,l):=Zo r;cases l;let(d,g,f,x):=I.list k;let c:p≠⇑s:=by
  let(o,n,e,_):=f;erw[xj (x8 e)]
 let hl:=↑g;rw[xo]at hl;refine call_all_walk (wpAny_pyIter_list f.isList ⟨⇑s,_,_,_,_,_,λi=>(bs[i]?).getD false,rfl,Walks.list (show X.A.in1.handled=none from I.ok.hd hc) ⇑s p c d.toArray,
  #[#[_,Xa _ rfl,rfl,rfl],f.isList.at λo e=>x6 _ e],λi v y t m j a=>?_,λw A hk=>?_⟩)
 ·let(b,hb,rfl):=za9 g (~~~j);dsimp only at a;rw[hb]at a;erw[Xj a]
 ·rw[xm,<- hl,zcU];refine#[.bl _,H,I.kept λb o e=>hk b o ?_ (x6 _ e),rfl,q];intro z;rw[uj]at z;exact absurd (x8 e) (by rw[z];exact ua _)
def zbv (hc:X.calm=true):j6 X (.builtin "any") (λxs H Q=>∃ (p:Ap) (bs:List Bool),xs= [.ref p]/\SqL X.K H p (bs.map V.bl)/\Q (.bl (bs.any id)) H):=by
 intro pins s O H xs us Q I r h;let(p,bs,rfl,k,q):=h;let(u,rfl,l):=Zo r;cases l;let(d,g,f,x):=I.list k;let c:p≠⇑s:=by
  let(o,n,e,_):=f;erw[xj (x8 e)]
 let hl:=↑g;rw[xo]at hl;refine call_any_walk (wpAny_pyIter_list f.isList ⟨⇑s,_,_,_,_,_,λi=>(bs[i]?).getD false,rfl,Walks.list (show X.A.in1.handled=none from I.ok.hd hc) ⇑s p c d.toArray,
  #[#[_,Xa _ rfl,rfl,rfl],f.isList.at λo e=>x6 _ e],λi v y t m j a=>?_,λw A hk=>?_⟩)
 ·let(b,hb,rfl):=za9 g (~~~j);dsimp only at a;rw[hb]at a;erw[Xj a]
 ·rw[xm,<- hl,zcV];refine#[.bl _,H,I.kept λb o e=>hk b o ?_ (x6 _ e),rfl,q];intro z;rw[uj]at z;exact absurd (x8 e) (by rw[z];exact ua _)
def RepL.bls:∀{c:List V}{bs:List Bool},RepL M H c (bs.map PyData.bool)->c=bs.map V.bl|_,[],.nil=>rfl|_,b::bs,.cons q t=>by cases q;rw[xn,<- RepL.bls t]
def zbp:bootBuiltins "all" =some (.builtin "all"):=by decide +kernel
def zbq:bootBuiltins "any" =some (.builtin "any"):=by decide +kernel
def Q7:bootBuiltins "list" =some (.type "list"):=by decide +kernel
def Yv:bootBuiltins "tuple" =some (.type "tuple"):=by decide +kernel
def zbr:bootBuiltins "int" =some (.type "int"):=by decide +kernel
def JR:bootBuiltins "set" =some (.type "set"):=by decide +kernel
end
section
def qi(n:Nat):Aa:=(List.range n).map λ(i:Nat)=>PyData.int (i:Int)
def zF(n:Nat):↑(qi n)=n:=by simp[qi]
def ν7(h:(qi n)[i]?\d):i<n/\d=.int (i:Int):=by
 unfold qi at h;rw[xg]at h;let hi:i<n:=by
  cases e:(List.range n)[i]? with|none=>rw[e]at h;cases h|some j=>simpa using (xa.mp e).1
 rw[uu hi]at h;exact#[hi,(Option.some.inj h).symm]
end
def zlF(X:Cx)(i:Ag):TGs:=λd O H Q=>∀(pins:Ak)(s:Am)(us:An),Inv X pins O H s->Vals d us ->
  ∅ (assignInOrder ((assignEach i X.env).map (·.2)) us) (λ_ c=>∃ b a,Inv X pins b a c/\Q b a) X.xe s
def vy:PGs X o (zlF X o):=λpins s O H a us Q I r h=>h pins s us I r
def PGs.wp(h:PGs X J t)(q:t vs O H Q):zlF X J vs O H Q:=λpins s us I r=>h pins s O H vs us Q I r q
def zjI(q:ix[j]?\o)(h:O[o]?\(some v)):(cS k ix O)[k+j]?\(some v):=by
 unfold cS;rw[xr (by simp),uz,Nat.add_sub_cancel_left,xg,q];simp[h]
section
variable {X:Cx}{elt tg iter:Expr}{ifs:Ag}{scope:Scope}{pos:Pos}{N':Ab}{k:Nat}{ix:Ac}{O:St}{H:Hp}{Q:VK}
def gU(X:Cx)(N':Ab)(scope:Scope)(tg:Expr)(c:St):TG:=λv O H Q=>∀ cl C s2 H2 fp,Cat X c C s2 H2 fp->wpG ⋯ tg v O H Q
def fU(X:Cx)(N':Ab)(scope:Scope)(ifs:Ag)(c:St):TT:=λO H Q=>∀ cl C s2 H2 fp,Cat X c C s2 H2 fp->wpF ⋯ ifs O H Q
def eU(X:Cx)(N':Ab)(scope:Scope)(elt:Expr)(c:St):TE:=λO H Q=>∀ cl C s2 H2 fp,Cat X c C s2 H2 fp->wpE ⋯ elt O H Q
def ki(i:X.calm=true)(S:CSc X.env.scope X.N scope N' k ix)(hf:∀ x,foldedSetIterable iter X.env x=pure x:=by intro _;rfl) :
    PE X (.ListComp elt [#[tg,iter,ifs,0]] scope pos) (kG k ix (wpI X tg iter) (gU X N' scope tg) (fU X N' scope ifs) (eU X N' scope elt)) :=
  zhP i S Jz (λ_ cl C s2 a b c pins s O H v u Q I r h=>h cl C s2 a b c pins s u I r) (λ_ cl C s2 a b c pins s O H Q I h=>h cl C s2 a b c pins s I)
    (λ_ cl C s2 a b c pins s O H Q I h=>h cl C s2 a b c pins s I) hf
def zh0{pos' l:Pos}(hN:X.N.Nodup)(y:X.N[i]?\x)(hx:Loc X.env.scope x)(o:X.calm=true)(S:CSc X.env.scope X.N scope N' k ix)
  (z:swapsWith (.ListComp elt [#[tg,iter,ifs,0]] scope pos) (some (.Name x pos')) l.line X.env=pure true) (A:∀ x,foldedSetIterable iter X.env x=pure x:=by intro _;rfl)
  (hf:X.fn x=true∨X.env.scope.names.lookup x\.local:=by first | exact .inl rfl | exact .inr rfl | assumption) :
  PS X (.Assign [.Name x pos'] (.ListComp elt [#[tg,iter,ifs,0]] scope pos) l) (Yn (kG k ix (wpI X tg iter) (gU X N' scope tg) (fU X N' scope ifs) (eU X N' scope elt)) (W0 i)) :=
 zhZ hN y hx o S Jz (λ_ cl C s2 a b c pins s O H v u Q I r h=>h cl C s2 a b c pins s u I r) (λ_ cl C s2 a b c pins s O H Q I h=>h cl C s2 a b c pins s I)
  (λ_ cl C s2 a b c pins s O H Q I h=>h cl C s2 a b c pins s I) z A hf
end
structure Kn(P:Ar)(w:World)(K:Ah)(mg:Aq)(base:Heap)(CX:CXT)(x:Str)(k:Nat)(sp:Sp):Prop where
 ex:∃(f:Ap)(fd:FuncData)(ps:Ab),FnOk P w K mg base CX k f fd ps sp/\mg x\(.ref f)/\W.keepIn K (.ref f)=true/\Binds K fd ps []
section
variable {X:Cx}{x:Str}{k:Nat}{CX:CXT}{E:XK}{e:Expr}{es:Ag}{p pos:Pos}
def zi8 (kn:Kn X.prog X.w X.K X.mg X.base CX x k sp) (o:Room k X.A) (hg:Gl X x) (hx:yk CX X E) (h:wpA X (e::es) O H λi H1=>sp i H1 Q E) (l:(↥x):=by decide)
    (he:starEach (e::es) X.env=(false,eval e X.env)::starEach es X.env:=by rfl) (c:(backTo pos (starEach es X.env)).any (·.1)=false:=by rfl):wpE X (.Call (.Name x p) (e::es) [] pos) O H Q:=by
  let(f,fd,ps,F,hm,hk,hb):=kn.ex;erw[(zhN F o hg hm hk hb .nil hx Zv l he c).wp (h.mono λi H1 q=>?_)];rw[xT];exact q
end
def Ym(h:↑vs<=↑N):↑(start N vs)=↑N:=by
 unfold start;simp;lia
structure Df(K:Ah)(mg:Aq)(x:Str)(st:Stmt)(ps:Ab):Prop where
 ex:∃ f fd,Fun K x x st f fd/\mg x\(.ref f)/\Binds K fd ps []
section
variable {P:Ar}{w:World}{K:Ah}{mg:Aq}{base:Heap}{x:Str}{st:Stmt}{N ps:Ab}{k:Nat}
def Df.kn(D:Df K mg x st ps)(S:Zq N ps (defScope st))(len:∀ vs H Q E,sp vs H Q E->↑vs=↑ps)
  (v:∀(f:Ap)(l:Aj)(A:Around)(outer:List Env)(s:Am)(H:Hp)(vs:List V)(Q:VK)(E:XK),Room k (A.deeper (envOfC x (defScope st) ⇑s f l))->sp vs H Q E ->
   wpB (Q9 CX0 P w K mg base N x (defScope st) f l A outer s H E).nox (defBody st) { nx:=λ_ r=>Q .non r,rt:=Q } (start N vs) H):Kn P w K mg base CX0 x (k+1) sp:=by
 let(f,fd,F,hm,hb):=D.ex;exact#[f,fd,ps,F.ok S len (λl A outer s H vs Q E a h=>#[_,Za,v f l A outer s H vs Q E a h]),hm,F.kp,hb]
end
section
variable {X:Cx}{O:St}{H:Hp}{D:Zz}{dk:List Stmt}{e:Expr}{pos pos':Pos}{x:Str}
def zm0(i:Nat)(hN:X.N.Nodup)(h:wpE X e O H Q)(k:∀ v c,Q v c->wpB X dk D (O.set i (some v)) c)(hi:X.N[i]?\x:=by rfl)(hx:Loc X.env.scope x:=by first | exact Or.inl rfl | exact Or.inr rfl)(l:swapsWith e (some (.Name x pos')) pos.line X.env=pure false:=by rfl)
    (hf:X.fn x=true∨X.env.scope.names.lookup x\.local:=by first | exact .inl rfl | exact .inr rfl | assumption):wpB X (.Assign [.Name x pos'] e pos::dk) D O H :=
  (Qt (wg hN hi hx zC l hf) Za).wp (h.mono k)
end
mutual
noncomputable def noL:PyData->Bool|.list _=>false|.tuple ds=>zhD ds|.dict _=>false|_=>true
noncomputable def zhD:Aa->Bool|[]=>true|d::ds=>noL d&&zhD ds
end
def Rep.free(h:noL d=true)(r:Rep M H v d):Rep I H v d :=
 Rep.rec (motive_1:=λv d _=>noL d=true->Rep I H v d) (motive_2:=λg ds _=>zhD ds=true->RepL I H g ds) (λ_=>.none) (λb _=>.bool b) (λi _=>.int i) (λx _=>.str x) (λ_ _ _ _ h=>by simp[noL]at h) (λe _ f h=>.tuple e (f (by simpa [noL] using h)))
  (λ_ _ _ _ _ h=>by cases h) (λ_ _ _ _ _ h=>by cases h) (λ_ _ _ _ _ _ h=>by cases h) (λ_=>.nil) (λ_ _ a c h=>by
   rw[zhD,xf]at h;exact .cons (a h.1) (c h.2)) r h
def Df.of{K:Ah}{x:Str}{st:Stmt}{ps:Ab}{f:Ap}{v:Aj}{B an:Option Ap}{sl:Array (Option Aj)}{kV s pm cd ct:Aj}(X:K.In h)(G:h.Ns mainGlobals mg)
  (a:PySem.W.nsIn K mainGlobals x\(some (.ref f))) (l:K.lookup f\#[v,B,.func (PySem.W.fnOf x x (jp st) (defBody st) (defScope st) .none kV s pm an cd ct),sl]) (c:PySem.W.codeIn K cd x=true) (k:PySem.W.keepIn K (.ref f)=true)
  (hb:∀(kV doc pm:Aj)(an:Option Ap)(r ct:Aj)(us:An),↑us=↑ps->bindArgs (PySem.W.fnOf x x (jp st) (defBody st) (defScope st) .none kV doc pm an r ct) #[us,[]]=pure (ps.zip us)):Df K mg x st ps :=
 #[f,_,Je l c k,PySem.W.mg_of X G a,(Je l c k).binds hb]
structure Dl(K:Ah)(x:Str)(st:Stmt)(fa:Ap)(p:Str):Prop where
 ex:∃ fd:FuncData,Fun K x x st fa fd/\∀(s:Am)(u:Aj),BindsTo s fd #[[u],[]] [(p,u)]
def Dl.of{K:Ah}{x p:Str}{st:Stmt}{f fa:Ap}{B:Aj}{E an:Option Ap}{sl:Array (Option Aj)}{kV r pm cd ct:Aj}(X:K.In h)(G:h.Ns mainGlobals mg)(v:mg x\(.ref fa))
  (a:PySem.W.nsIn K mainGlobals x\(some (.ref f))) (l:K.lookup f\#[B,E,.func (PySem.W.fnOf x x (jp st) (defBody st) (defScope st) .none kV r pm an cd ct),sl]) (c:PySem.W.codeIn K cd x=true) (k:PySem.W.keepIn K (.ref f)=true)
  (hb:∀(s:Am)(u:Aj),BindsTo s (PySem.W.fnOf x x (jp st) (defBody st) (defScope st) .none kV r pm an cd ct) #[[u],[]] [(p,u)]):Dl K x st fa p:=by
 let e:=v.symm.trans (PySem.W.mg_of X G a);cases e;exact#[_,Je l c k,hb]
def za6(K:Ah):Sp:=λc H Q _=>∃(a:Ap)(ns:List Int),c= [.ref a]/\SqL K H a (ns.map V.int)/\↑ns<=63/\∀ b,Q (.bl true) b
def Fun.law{P:Ar}{w:World}{K:Ah}{mg:Aq}{base:Heap}{st:Stmt}{k:Nat}{f:Ap}(F:Fun K x x st f fd)(S:Zq N [p] (defScope st))
  (l:∀(c:Aj)(A:Around)(outer:List Env)(s:Am)(H:Hp)(Q:VK)(E:XK)(a:Ap)(ns:List Int),Room k (A.deeper (envOfC x (defScope st) ⇑s f c))->SqL K H a (ns.map V.int)->↑ns<=63->(∀ i,Q (.bl true) i) ->
   wpB (Q9 CX0 P w K mg base N x (defScope st) f c A outer s H E).nox (defBody st) { nx:=λ_ i=>Q .non i,rt:=Q } (start N [.ref a]) H):FnOk P w K mg base CX0 (k+1) f fd [p] (za6 K) :=
 F.ok S (λh H Q E ⟨a,ns,e,_⟩=>by rw[e];rfl) λc A outer s H h Q E d ⟨a,ns,e,b,hlen,g⟩=>#[_,Za,by subst e;exact l c A outer s H Q E a ns d b hlen g]
def walkL{l:PySem.W.OpenLaw}{q:Ar}{loose:Ab}{XP:(Aq)->Heap->Prop}{YP:World->Heap->Prop}{K:Params->Ah}{st:Stmt}(o:l.most\63)(r:d.params.defaults= [])(hk:Room k callerA)
  (i:∀(w:World)(h:Heap),YP w h->(K w.params).In h)
  (F:∀(w:World)(mg:Aq)(fa:Ap)(h:Heap),(K w.params).In h->h.Ns mainGlobals mg->mg d.name\(.ref fa) ->
   Dl (K w.params) "law" st fa "_law_script" /\∀ (fd:FuncData),Fun (K w.params) "law" "law" st fa fd->∀ base:Heap,FnOk l.prog w (K w.params) mg base CX0 k fa fd ["_law_script"] (za6 (K w.params))) :
  PySem.W.WalkO q loose XP YP l.row.toRowW d [] (λf s=>PySem.call f s) :=
 L2.walk_of (n:=63) (k:=k) (x:= "_law_script") (CX:=λ_=>CX0) (sp:=λw=>za6 (K w.params)) o (by decide) r hk i (λw mg fa h c G hm=>by
  let((fd,b,hb),e):=F w mg fa h c G hm;exact#[fd,hb,λbase _ _=>e fd b base]) (λ_ _ a ns hl _ g=>#[a,ns,rfl,g,hl,λ_=>rfl]) λ_ _ _ _ _ z=>z
def Qc(B:Heap)(l:List Env)(i:Ap)(c:Aj)(o:Option Ap)(fl:Aj)(h:Heap):Prop:=B.StaysIn h/\B.get? i=none/\h.FunFrames B l /\
 ∃ a d T oT b,h.get? i\a/\(a.cls=c/\a.dict=o)/\a.data=.fields d/\d[1]?\(.ref T)/\B.get? T=none/\T≠i/\h.get? T\oT/\oT.data=.fields b/\b[3]?\fl
section
variable {M:Model}{A:Around}{E:Af}{s:Am}{B:Heap}{l outer:List Env}{env:Env}{ea L:Ap}{c fl:Aj}{dx:Option Ap}{Q:Unit->Am->Prop}
def VH{head:Aj}{N:Bool}(F:A.frames\(env::outer))(hl:s.heap.FunFrames B (env::outer))(hf:env.frame\L)(he:s.heap.get? ea\oe)(hb:B.StaysIn s.heap)(I:B.get? ea=none)(hd:oe.data=.fields vs)(H:1<vs.size)
  (k:∀ y,Qc B (env::outer) ea oe.cls oe.dict (rawInt L) y->s.heap.UpToSlots y->Q () { s with heap:=y }) :
  wpAny M A (do let a<-PySem.frameOf env;let v<-entryPlaceOf L N;let b<-EntryCells.newEntry head a .none (rawInt L) .none v;setField (.ref ea) 1 b) Q E s:=by
 erw[x5 (wpAny_frameOf_fun F hl hf λf so=>?_)];erw[x5 (wpAny_entryPlaceOf λv D=>?_)];let K:∀ b,B.get? b≠none->b∉frs (env::outer):=λb h z=>h (hl.mem z).1;let j:f.get? ea\{ oe with slots:=(f.get? ea).elim (List.toArray []) (·.slots) }:=by
  let(sl,e):=so.2.2 ea oe he;rw[e];rfl
 generalize r:(({ oe with slots:=(f.get? ea).elim (List.toArray []) (·.slots) }:Obj))=g at j;let i:g.data=.fields vs:=by rw[<- r];exact hd
 let n:g.cls=oe.cls/\g.dict=oe.dict:=by rw[<- r];exact#[rfl,rfl]
 let C:=hl.of_slotsOnly so;let m:B.StaysIn f:=λb o e=>by rw[so.2.1 b (K b (by rw[e];exact λz=>nomatch z))];exact hb b o e
 obtain⟨oT,l,x,t⟩:∃ (oT:Obj) (l:Array Aj),oT={ cls:=.type "traceback",data:=.fields l }/\l=([head,Value.ref L,.none,rawInt L,.none]++(if v.isEmpty then List.replicate 6 .none else v)).toArray:=#[_,_,rfl,rfl];let J:l[3]?\(rawInt L):=by rw[t];simp
 let G:l.size<=sizeLine+2:=by
  have:=Xg;rw[t];rcases D with rfl | ⟨a,b,c,d,S,O,_,rfl⟩<;>simp<;>lia
 let key:wpAny M A (setField (.ref ea) 1 (.ref f.objs.size)) Q E { s with heap:=f.push oT }:=by
  let p:=xj (x8 j);let hp:∀ b o,f.get? b\o->(f.push oT).get? b\o:=λb o e=>x6 _ e;erw[wpAny_setField (hp _ _ j) i H (k _ #[λb o e=>?_,I,?_,?_] λb o e u=>?_)]
  ·exact (Xf _ _ λz=>by rw[<- z,I]at e;cases e).trans (hp _ _ (m b o e))
  ·exact C.of_keeps λb o e u=>#[o,(Xf _ _ λz=>by rw[<- z,j]at e;cases e;exact u vs i).trans (hp _ _ e),rfl]
  ·refine#[_,_,f.objs.size,oT,l,Heap.get?_update_self _ (hp _ _ j) (Obj.isFreed_of_fields (Obj.data_mapFields i _)),?_,Obj.data_mapFields i _,by simp[H],?_,Ne.symm p,?_,by rw[x],J]
   ·rw[<- n.1,<- n.2];let(a1,a2,P,R):=g;dsimp only at i;subst i;exact#[rfl,rfl]
   ·cases q:B.get? f.objs.size with|none=>rfl|some o=>erw[absurd (x8 (m _ _ q)) (ua _)]
   ·exact (Xf _ _ p).trans (Xa _ (by rw[x];rfl))
  ·let(sl,w):=so.2.2 b o e;exact#[sl,(Xf _ _ λz=>by rw[<- z,j]at w;cases w;exact u vs i).trans (hp _ _ w)]
 unfold EntryCells.newEntry newFields newObj;rw[<- t];dsimp only;rw[if_neg (pp.mpr G)];unfold newObjAsIs;erw[x5 (x5 (wpAny_alloc ?_))];rw[<- x];erw[x9 key]
def JF(h:Qc B l ea c dx fl s.heap)(k:∀ i,Qc B l ea c dx (fr.elim .none λf=>rawInt f) i->s.heap.UpToSlots i->Q () { s with heap:=i }):wpAny M A (setFlight (.ref ea) fr) Q E s:=by
 let(z,x,hl,w,m,T,oT,y,he,u,hd,n,p,r,j,e,v):=h;let a:=(ug.mp v).1;let other:∀ b,b≠T->(s.heap.update T (Obj.mapFields (·.setIfInBounds 3 (fr.elim Value.none λf=>rawInt f)))).get? b=s.heap.get? b:=λb hb=>Xf _ _ (Ne.symm hb);let t:∀ b o,s.heap.get? b\o->(∀ m,o.data≠ .fields m)->b≠T:=λb o hb d q=>by
  rw[q,j]at hb;injection hb with hb;subst hb;exact d y e
 unfold setFlight;erw[x5 (wpAny_field he hd n ?_)];rw[if_pos (show (Value.ref T !=Value.none)=true from by simp)];refine wpAny_setField j e a (k _ ⟨λb o g=>(other b λq=>by rw[q,p]at g;cases g).trans (z b o g),x,
  hl.of_keeps λb o hb d=>#[o,(other b (t b o hb d)).trans hb,rfl],?_⟩ λb o hb d=>#[o.slots,(other b (t b o hb d)).trans hb])
 exact#[w,m,T,_,_,(other ea (Ne.symm r)).trans he,u,hd,n,p,r,Heap.get?_update_self _ j (Obj.isFreed_of_fields (Obj.data_mapFields e _)),Obj.data_mapFields e _,by simp[a]]
end
def CX1(P:Ar)(w:World):CXT:=λouter H s E e b=>∃(g:Ap)(c:Aj)(f:Option Ap)(B h0:Heap)(d:Hp),e=.ref g/\b.os=s.os/\AllBare b.gens/\Qc B outer g c f .none b.heap/\h0.UpToSlots b.heap /\
 (∀ a,B.StaysIn a->h0.UpToSlots a->Un (frs outer) [] H d s.heap a/\HOk P w d a)/\E c f d
structure MadeX(h h':Heap)(ea:Ap)(c:Aj)(dx:Option Ap):Prop where
 keeps:∀ b o,h.get? b\o->h'.get? b\o
 new:h.get? ea=none
 there:∃ t,h'.get? ea\{ cls:=c,dict:=dx,data:=.fields (List.toArray [.ref t,.none,.none,.none,.bool false,.none]) }
def MadeX.of(m:Heap.MadeExcOf h J I c args):MadeX h J I c none:=#[m.keeps,m.new,let #[t,e,_]:=m.there;#[t,e]]
section
variable {M:Model}{A:Around}{E:Af}{s:Am}{B:Heap}{outer:List Env}{env:Env}{ea L:Ap}{c fl:Aj}{dx:Option Ap}{Q:Unit->Am->Prop}
def vm(l:A.frames\(env::outer))(hf:env.frame\L)(h:Qc B (env::outer) ea c dx fl s.heap)(k:∀ i,Qc B (env::outer) ea c dx (rawInt L) i->s.heap.UpToSlots i->Q () { s with heap:=i }):wpAny M A (noteFrame (.ref ea) env) Q E s:=by
 let t:=h;let(y,u,hl,D,p,T,oT,x,he,(r,h0),hd,g,v,w,f,d,j):=h;subst r h0;unfold noteFrame;simp only[hf];erw[x5 (wpAny_field he hd g ?_)];rw[if_pos (show (Value.ref T !=Value.none)=true from by simp)];erw[x5 (wpAny_field f d j ?_)];by_cases m:fl=rawInt L
 ·subst m;rw[if_pos (by simp)];erw[x9 (k s.heap t (.refl _))]
 ·let other:∀ b,b≠T->(s.heap.update T (Obj.mapFields (·.setIfInBounds 3 Value.none))).get? b=s.heap.get? b:=λb hb=>Xf _ _ (Ne.symm hb);let n:∀ b o,s.heap.get? b\o->(∀ p,o.data≠ .fields p)->b≠T:=λb o hb a q=>by
   rw[q,f]at hb;injection hb with hb;subst hb;exact a x d
  rw[if_neg (show ¬ ((fl==rawInt L)=true) from ~~~m)];erw[x5 (wpAny_setField f d (ug.mp j).1 ?_)];refine VH l (hl.of_keeps λb o hb a=>#[o,(other b (n b o hb a)).trans hb,rfl]) hf ((other ea (Ne.symm w)).trans he)
   (λb o e=>(other b λq=>by rw[q,v]at e;cases e).trans (y b o e)) u hd (ug.mp g).1
   λi z C=>k i z λb o hb a=>C b o ((other b (n b o hb a)).trans hb) a
def zfh(l:A.frames\(env::outer))(hf:env.frame\L)(hb:B.StaysIn h)(hl:h.FunFrames B (env::outer))(m:MadeX h s.heap ea c dx)(k:∀ i,Qc B (env::outer) ea c dx (rawInt L) i->s.heap.UpToSlots i->Q () { s with heap:=i }):wpAny M A (noteFrame (.ref ea) env) Q E s:=by
 let(t,he):=m.there;unfold noteFrame;simp only[hf];erw[x5 (wpAny_field he rfl rfl ?_)];rw[if_neg (by simp)];refine VH l (hl.of_keeps λb o hb a=>#[o,m.keeps b o hb,rfl]) hf he (λb o e=>m.keeps b o (hb b o e)) ?_ rfl (by simp) k;cases q:B.get? ea with|none=>rfl|some o=>have:=hb _ _ q;rw[m.new]at this;cases this
end
section
variable {X:Cx}{pins:Ak}{O:St}{H:Hp}{s:Am}
def Inv.flies(I:Inv X pins O H s)(hx:X.ex= [])(i:X.stack=X.env::X.outer)(hf:X.env.frame\X.env.locals){c:Heap}
  (y:(PySem.W.hideAll s.heap (frs X.stack)).StaysIn c) (A:s.heap.UpToSlots c):Un (frs X.outer) [] X.H₀ H X.s₀.heap c/\HOk X.prog X.w H c:=by
 let f:∀ b,b∉X.ex:=λb z=>by rw[hx]at z;cases z
 let j:∀ b o,s.heap.get? b\o->b∉frs X.stack->c.get? b\o:=λb o e n=>y b o (PySem.W.hideAll_get _ e n);let fr:∀ b,b∈frs X.stack->∀ o,s.heap.get? b\o->∃ sl,c.get? b\{ o with slots:=sl }:=λb hb o e=>by
  let(_,x,k,d):=I.stack.mem hb;rw[e]at k;cases k;erw[A b o e d]
 let r:∀ b,b∈frs X.outer->b∈frs X.stack:=λb hb=>by
  rw[i];unfold frs at hb |-
  rw[xR,hf];erw[xt _ hb]
 let p:∀ b,b∈frs X.stack->b=X.env.locals∨b∈frs X.outer:=λb hb=>by
  rw[i]at hb;unfold frs at hb |-
  rw[xR,hf]at hb;erw[xA.mp hb]
 let v:∀ b o,X.s₀.heap.get? b\o->b≠X.env.locals:=λb o e z=>by
  let l:=x8 e;let t:=I.ok.above;rw[z]at l;erw[absurd (xu l t) (ua _)]
 refine#[#[λb o e n hb _=>?_,λb o e n hb _=>?_,λb o e n _=>I.base.free b o e n (f b),λb o e _=>?_,I.base.tups,I.base.frzs,I.base.tbls],λa o e=>?_]
 ·refine j b o (I.base.keep b o e n hb (f b)) λz=>?_;rcases p b z with z | z
  ·erw[v b o e z]
  ·erw[hb z]
 ·let(sl,g):=I.base.slot b o e n hb (f b);let(w,h):=fr b (r b hb) _ g;exact#[w,h]
 ·let(m,g):=I.base.there b o e (f b);by_cases hb:b∈frs X.stack
  ·let(sl,h):=fr b hb _ g;exact#[_,h]
  ·exact#[m,j b m g hb]
 ·refine (I.hok a o e).stay (λb u hb q=>j b u q λz=>?_) (λ_ q=>q) λ_ _ q=>q;let d:=I.stkFree b z;rcases hb with hb | hb
  ·subst hb;rw[e]at d;cases d
  ·rw[hb]at d;cases d
def Y0(I:Inv X pins O H s)(hx:X.ex= [])(i:X.stack=X.env::X.outer)(hf:X.env.frame\X.env.locals){v:Heap}{l:Ap}{c:Aj}{r:Option Ap}
  (hm:MadeX s.heap v l c r) {E:XK} (q:E c r H) {y:Af} :
  ∅ (leaving X.env (.ref l)) (λ_ z=>CX1 X.prog X.w X.outer X.H₀ X.s₀ E (.ref l) z) y { s with heap:=v }:=by
 let f:X.A.frames\(X.env::X.outer):=by rw[<- i];exact I.ok.frames
 let d:=I.stack;rw[i]at d;unfold leaving;erw[x5 (zfh (B:=PySem.W.hideAll s.heap (frs X.stack)) f hf (λb o e=>PySem.W.of_hideAll _ e) (PySem.W.funFrames_hide d λenv he a g=>?_) hm λx n h=>JF n λA ⟨p,t,⟨_,_,u⟩,w⟩ m=>?_)]
 ·rw[i];exact uI.mpr #[env,he,g]
 ·exact#[l,c,r,_,s.heap,H,rfl,I.os,I.bare,#[p,t,u,w],(Heap.UpToSlots.of_keeps hm.keeps).trans (h.trans m),λC j k=>I.flies hx i hf j k,q]
end
def zkK(h g:Heap)(a:Ap)(o:Obj)(hg:g.get? a\o):∃ c:Heap,c.get? a\o/\∀ b,b≠a->c.get? b=h.get? b:=by
 let ho:∀(x y:_)(z:_),o≠⟨x,y,.freed,z⟩:=λx y z e=>by
  subst e;unfold Heap.get? at hg
  split at hg
  ·cases hg
  next f=>
   erw[f _ _ _ hg]
 refine#[#[Array.ofFn (n:=max h.objs.size (a+1)) λi=>if i.val=a then o else (h.objs[i.val]?).getD #[.none,none,.freed,(List.toArray [])],{}],?_,λb hb=>?_]
 ·unfold Heap.get?;rw[Array.getElem?_ofFn,dif_pos (by lia),if_pos rfl];let(x,y,d,z):=o;cases d<;>first | rfl | exact absurd rfl (ho _ _ _)
 ·unfold Heap.get?;rw[Array.getElem?_ofFn];by_cases hl:b<max h.objs.size (a+1)
  ·rw[dif_pos hl,if_neg hb];cases h.objs[b]?<;>rfl
  ·rw[dif_neg hl,Array.getElem?_eq_none (xK (Nat.le_max_left _ _) (pp.mp hl))]
section
variable {B:Heap}{env:Env}
def zfg(h:env.frame=env'.frame):noteFrame x env=noteFrame x env':=by
 unfold noteFrame PySem.frameOf;rw[h]
def VM{h i c:Heap}(v:∀ b,B.get? b=none->c.get? b=none):∀{l:List Env},h.FunFrames B l->(∀ b∈frs l,i.get? b=h.get? b)->i.FunFrames c l
  |[],_,_=>trivial
  |env::r,⟨hk,⟨L,o,hf,a,ho,hd⟩,d⟩,k=>⟨hk,⟨L,o,hf,v L a,(k L (by unfold frs;rw[xR,hf];exact .head _)).trans ho,hd⟩,VM v d λb hb=>k b (by
      unfold frs at hb |-;rw[xR,hf];exact .tail _ hb)⟩
end
def Up(X:Cx)(pins:Ak)(O:St)(H:Hp)(C:Ap)(c:Option Ap)(e:Aj)(s:Am):Prop :=
 ∃(b:Ap)(fl:Aj)(B:Heap),e=.ref b/\Qc B X.stack b (.ref C) c fl s.heap/\∀ a,B.StaysIn a->s.heap.UpToSlots a->Inv X pins O H { s with heap:=a }
def Sk(X:Cx):=∃ env0 a L,X.stack=env0::a/\env0.frame\L/\X.env.frame\L
section
variable {X:Cx}{pins:Ak}{O:St}{H:Hp}{s s':Am}{C:Ap}{dx:Option Ap}{e:Aj}
def Inv.up(I:Inv X pins O H s)(hc:CX1 X.prog X.w X.stack H s E e s'){G:Prop}(k:∀ c dx i,E c dx i->(∀ C,c=.ref C->Up X pins O i C dx e s')->G):G:=by
 let(a,c,dx,B,h0,i,rfl,os,bare,h,up,hk,q):=hc;erw[k c dx i q λC e=>?_];subst e;exact⟨a,.none,B,rfl,h,λd f g=>by
  let(un,hok):=hk d f (up.trans g);exact I.call' os un hok bare λb z=>nomatch z⟩
def Up.comp{scope:Scope}{c:Ap}{s2:Am}{v:Hp}{O':St}(sk:Sk X)(cat:Cat X O c s2 v J)(u:Up (X.comp N' scope cl c s2 v J) pins' O' H C dx e s)
  (k:∀ pins s',Up X pins O H C dx e s'->X.xe e s'):(X.comp N' scope cl c s2 v J).xe e s:=by
 let(g,fl,B,rfl,al,inv):=u;let(pins,n,f2,P):=cat;let(env0,w,L,f,D,u5):=sk;let x:X.A.frames\(env0::w):=by rw[<- f];exact n.ok.frames
 let Z:Qc B (env0::w) g (.ref C) dx fl s.heap:=by rw[<- f];exact al
 show ∅ (noteFrame (.ref g) (compEnvC scope cl c X.env)) (λ_ da=>zbd X c (.ref g) da) (zbd X c) s;rw[zfg (env':=env0) (show (compEnvC scope cl c X.env).frame=env0.frame from u5.trans D.symm)];erw[vm x D Z λi om S=>?_];let(g1,g2,g3,g4):=om;let I4:=inv i g1 S;let(m,R,_):=I4.loc;refine#[m,R,λp j bw _=>?_];let(oC,es,ep,l,Gg,_):=id R;let A:∀ b o r,i.get? b\o->o.data=.fields r->b≠c:=λb o r a d z=>by
  subst z;let h:i.get? b\oC:=l;rw[a]at h;cases h;rw[Gg]at d;cases d
 let W:∀ b∈frs (env0::w),b≠c:=λb hb z=>by
  rw[<- f]at hb;let(_,o,ho,_):=n.stack.mem hb;rw[z]at ho;erw[absurd (x8 ho) (pp.mpr P)]
 let t:∀ b,B.get? b=none->(PySem.W.hideAll B [c]).get? b=none:=λb a=>by
  cases q:(PySem.W.hideAll B [c]).get? b with|none=>rfl|some o=>rw[PySem.W.of_hideAll _ q]at a;cases a
 let Gz:(PySem.W.hideAll B [c]).get? c=none:=PySem.W.hideAll_none _ (.head _);let(U,r,T,oT,ts,he,bu,hd,M,pq,rf,Q,K,h3):=g4;let E:p.get? g\U:=(j.2 g (A _ _ _ he hd)).trans he;let Gq:p.get? T\oT:=(j.2 T (A _ _ _ Q K)).trans Q;let Y:Qc (PySem.W.hideAll B [c]) X.stack g (.ref C) dx (rawInt L) p:=by
  rw[f];exact#[λb o a=>(j.2 b λz=>by rw[z,Gz]at a;cases a).trans (g1 b o (PySem.W.of_hideAll _ a)),t _ g2,VM t g3 λb hb=>j.2 b (W b hb),U,r,T,oT,ts,E,bu,hd,M,t _ pq,rf,Gq,K,h3]
 unfold PySem.passOn;erw[x5 (wpAny_field E hd M ?_)];rw[if_neg (show ¬ ((Value.ref T==Value.none)=true) from by simp)];erw[x5 (JF (s:={ s with heap:=p }) Y λh5 V lu=>wpAny_throw (k pins _ #[g,_,_,rfl,V,λh6 k1 k2=>?_]))];let(N,I,y):=zkK h6 i c oC l;let F:=inv N (λb o a=>by
  by_cases z:b=c
  ·subst z;let d:=g1 b o a;let h:i.get? b\oC:=l;rw[h]at d;cases d;exact I
  ·exact (y b z).trans (k1 b o (PySem.W.hideAll_get _ a (~~~z)))) λb o a G=>by
  let(sl,d):=S b o a G;by_cases z:b=c
  ·subst z;let h:i.get? b\oC:=l;rw[h]at d;cases d;exact#[_,I]
  ·let(iy,e4):=(lu.trans k2) b _ ((j.2 b z).trans d) G;exact#[iy,(y b z).trans e4]
 erw[n.letgo (s5:={ s with heap:=N }) (n.back f2 F) P F.free λb hb=>(y b hb).symm]
end
abbrev bmV:An:= [.type "ValueError",.type "Exception",.type "BaseException",.type "object"]
def Y5(K:Ah)(C:Ap):An:=match K.lookup C with|some ⟨_,_,.cls cd,_⟩=>cd.mro|_=> []
def yN {K:Ah}(X:K.In h) (q:PySem.W.excIn K C bmV "ValueError.__new__" =true) :
  ∃ bm N nm B bs c sn sub o col r s v y z A i,h.get? C\(excClassObj nm B C N bs bm c sn sub o col r s v y z A "ValueError.__new__")/\h.Ns N i/\i "__init__" =none/\OwnTail h bmV bm/\Y5 K C=Value.ref C::bm:=by
 unfold PySem.W.excIn at q;unfold Y5
 split at q
 next U a s0 d=>
  rw[d];dsimp only
  split at q
  next L bm z0 G H I n J e m=>
   rw[xf,xf,xf,xf,xf]at q;let(((((p,t),u),w),b),x):=q;let D:=eq_of_beq p;let E:n= "ValueError.__new__" :=eq_of_beq t;let f:a.hasDel=false:= ~~~u;let g:PySem.W.nsIn K a.ns "__init__" =some none:=eq_of_beq x;subst D E;let F:s0=(List.toArray [z0,G,H,I,some (.builtin "ValueError.__new__"),J]):=by
    cases s0 with|mk l=>erw[congrArg Array.mk m]
   cases a with
   |mk a1 a2 M O P Q R S T j k=>
    dsimp only at e f b g;subst e f F;exact#[_,_,_,_,_,_,_,_,_,_,_,_,_,_,_,_,_,X _ _ d,.of_isNs (PySem.W.isNs_of_in X b),PySem.W.nsMap_none_of_in X b g,PySem.W.tail_of_in X w,rfl]
  ·cases q
 ·cases q
structure zlN(X:Cx)(x:Str)(C:Ap):Prop where
 gl:Gl X x
 mg:X.mg x\(.ref C)
 ex:PySem.W.excIn X.K C bmV "ValueError.__new__" =true
 d:(↥x)
section
variable {X:Cx}{x:Str}{C:Ap}{np af pos cp:Pos}{z:Str}{cj:Nat}{O:St}{H:Hp}{D:Zz}
def YT (T:OwnTail h bmV bm):bm.contains (.type "BaseException")=true:=(T.hasType (by decide +kernel))
def zgK(k:zlN X x C)(o:X.calm=true)
  (h:∀ pins s,Inv X pins O H s->∀ l i,MadeX s.heap l i (.ref C) none->X.xe (.ref i) { s with heap:=l }) :
  wpS X (.Raise (some (.Call (.Name x np) [.Constant (.str z) cj cp] [] af)) none pos) D O H:=λpins s I=>by
 let(bm,N,nm,K,bs,a,sn,sub,f,col,g,A,B,E,F,G,J,t,hN,hi,T,_):=yN I.mod.kin k.ex;erw[wpAny_Raise_call_subT (C:=C) (nm:=nm) (q:=K) (N:=N) (bs:=bs) (bm:=bm) (hdct:=a) (sn:=sn) (sub:=sub) (ab:=f) (col:=col) (dd:=g) (k0:=A) (k1:=B) (k2:=E) (k3:=F) (k5:=G) (mN:=J) PySem.F.excBase_ValueError (YT T) (I.ok.hd o) rfl hi (Zt I k.gl k.mg #[rfl,?_] k.d)];erw[Calls.evalArgs_plain ?_];let w:wpE X (.Constant (.str z) cj cp) O H λv b=>v=.str z/\b=H:=pe_str.wp #[rfl,rfl];let p:wpA X [.Constant (.str z) cj cp] O H λd b=>d= [.str z]/\b=H:=(zY zC pa_nil rfl).wp (w.mono λv b ⟨j,m⟩=>#[by rw[j],m]);erw[Xe (p af pins s I) (λd s1 u=>?_) λ_ _ y=>y];let(ws,H1,c,r,e,n):=u;subst n;let hlen:↑d=1:=by rw[<- ↑r,e];rfl
 exact#[rfl,by have:=Xg;show ↑d<=sizeLine;lia,c.bk _ _ t,hN.keeps c.bk,T.keeps c.bk,λl i hm=>h pins s1 c l i (.of hm)]
end
abbrev Cx.marked(X:Cx)(e:Aj):Cx:={ X with A:=X.A.mark (some e),calm:=false,xe:=λ_ _=>False }
abbrev Cx.tried(X:Cx)(pins:Ak)(E:Af)(P:Str->St->Hp->Prop):Cx:={ X with pn:=X.pn++pins,xe:=E,xp:=P }
section
variable {X:Cx}{pins:Ak}{O:St}{H:Hp}{s:Am}{e:Aj}{E:Af}{D:Zz}{f:Flow}{P:Str->St->Hp->Prop}
def Cx.Ok.marked(ok:X.Ok)(e:Aj):(X.marked e).Ok :=
 #[ok.mod,ok.kind,ok.glob,ok.blt,ok.above,ok.inj,ok.has,ok.cab,(λz=>by cases z),ok.frames,ok.stk,ok.exf,ok.bs,ok.bsz,ok.noex,ok.exfs,ok.funs,ok.frf]
def Cx.Ok.tried(ok:X.Ok):(X.tried pins E P).Ok :=
 #[ok.mod,ok.kind,ok.glob,ok.blt,ok.above,ok.inj,ok.has,ok.cab,ok.hd,ok.frames,ok.stk,ok.exf,ok.bs,ok.bsz,ok.noex,ok.exfs,ok.funs,ok.frf]
def Inv.marked(I:Inv X pins O H s)(e:Aj):Inv (X.marked e) pins O H s:=#[I.ok.marked e,I.os,I.bare,I.base,I.loc,I.cell,I.free,I.freeC,I.pin,I.hok,I.len]
def Inv.unmarked(ok:X.Ok)(I:Inv (X.marked e) pins O H s):Inv X pins O H s:=#[ok,I.os,I.bare,I.base,I.loc,I.cell,I.free,I.freeC,I.pin,I.hok,I.len]
def Inv.tried(I:Inv X pins O H s)(E:Af)(P:Str->St->Hp->Prop):Inv (X.tried pins E P) [] O H s:=#[I.ok.tried,I.os,I.bare,I.base,I.loc,I.cell,I.free,I.freeC,λp hp=>I.pin p (~~~hp),I.hok,I.len]
def Inv.untried(ok:X.Ok)(I:Inv (X.tried pins E P) pins' O H s):Inv X pins O H s:=#[ok,I.os,I.bare,I.base,I.loc,I.cell,I.free,I.freeC,λp hp=>I.pin p (xU _ hp),I.hok,I.len]
def SP.unmarked(ok:X.Ok)(h:SP (X.marked e) pins D f s):SP X pins D f s:=by
 cases f with|next=>let⟨b,a,I,q⟩:=h;exact⟨b,a,I.unmarked ok,q⟩|brk=>let⟨b,a,I,q⟩:=h;exact#[b,a,I.unmarked ok,q]|cont=>let⟨b,a,I,q⟩:=h;exact#[b,a,I.unmarked ok,q]|ret u=>let⟨v,b,a,I,r,q⟩:=h;exact#[v,b,a,I.unmarked ok,r,q]
def SP.untried(ok:X.Ok)(h:SP (X.tried pins E P) [] D f s):SP X pins D f s:=by
 cases f with|next=>let⟨b,a,I,q⟩:=h;exact⟨b,a,I.untried ok,q⟩|brk=>let⟨b,a,I,q⟩:=h;exact#[b,a,I.untried ok,q]|cont=>let⟨b,a,I,q⟩:=h;exact#[b,a,I.untried ok,q]|ret u=>let⟨v,b,a,I,r,q⟩:=h;exact#[v,b,a,I.untried ok,r,q]
end
def Y2{M:Model}{A:Around}{E:Af}{h:Heap}{g:Array GenState}{d:Drawn}{t:Nat}{os:OsState}{e:Ap}{z:Obj}{Q:Bool->Am->Prop}{b:Bool}{newId c:String}
  {nm q:Str} {C N:Ap} {bs bm:An} {l:Bool} {sn:Ab} {sub:An} {K:Bool} {col:Option Bool} {O:Option Ap} {Z k1 k2 k3 k5:Option Aj}
  {G q2:Str} {i J:Ap} {H r:An} {ll:Bool} {F:Ab} {rj:An} {I:Bool} {B:Option Bool} {P:Option Ap} {S T U X Y:Option Aj}
  (v:h.get? C\(excClassObj nm q C N bs bm l sn sub K col O Z k1 k2 k3 k5 newId)) (o:h.get? i\(excClassObj G q2 i J H r ll F rj I B P S T U X Y c))
  (he:h.get? e\z) (s:z.cls=.ref C) (L:r.contains (.type "BaseException")=true) (hb:(Value.ref C::bm).contains (.ref i)=b) (y:Q b #[h,g,d,t,os]) :
  wpAny M A (excMatches (.ref e) (.ref i)) Q E #[h,g,d,t,os]:=by
 let g1:(Value.ref i::r).contains (.type "BaseException")=true:=by rw[List.contains_cons,L,Bool.or_true]
 let g2:=tc_notTuple;unfold excMatches;cases b with
 |true=>
  repeat (first | (with_reducible refine wpAny_loadPart_at he ?_;rw[s]) | with_reducible refine wpAny_loadPart_at o ?_ | (with_reducible refine wpAny_isSubtype_exc o ?_;rw[g1]) | (with_reducible refine wpAny_isSubtype_exc v ?_;rw[hb]) | wp_step)
  erw[y]
 |false=>
  repeat (first | (with_reducible refine wpAny_loadPart_at he ?_;rw[s]) | with_reducible refine wpAny_loadPart_at o ?_ | (with_reducible refine wpAny_isSubtype_exc o ?_;rw[g1]) | (with_reducible refine wpAny_isSubtype_exc v ?_;rw[hb]) | wp_step)
  erw[y]
inductive HC where|s (z:Str)|b (c:Bool)
def HC.V:HC->L2.V|.s z=>.str z|.b c=>.bl c
def HC.D:HC->PyData|.s z=>.str z|.b c=>.bool c
def HC.C:HC->Const|.s z=>.str z|.b c=>.bool c
def zmm{v:HC}:PE X (.Constant v.C j pos) (tC v.V):=by
 cases v with|s z=>erw[pe_str]|b c=>erw[pe_bl]
structure ExL(K:Ah)(mg:Aq)(L:Ab):Prop where
 ex:∀ x,L.contains x=true->∃ C,mg x\(.ref C)/\PySem.W.excIn K C bmV "ValueError.__new__" =true
 mr:∀ x C y C2,L.contains x=true->mg x\(.ref C)->L.contains y=true->mg y\(.ref C2)->(Y5 K C).contains (.ref C2)=decide (x=y)
inductive Hds(X:Cx)(L:Ab)(mp:Ac):List ExceptHandler->List (Str×Nat×Nat×HC)->Prop
 |nil:Hds X L mp [] []
 |cons {x y:Str} {np py pc pa hp:Pos} {t j cj:Nat} {v:HC} {hs:List ExceptHandler} {ns:List (Str×Nat×Nat×HC)}:L.contains x=true->Gl X x->(↥x)->X.N[t]?\y->mp[t]?\j->Loc X.env.scope y ->
  (X.fn y=true∨X.env.scope.names.lookup y\.local)->Hds X L mp hs ns->Hds X L mp (.ExceptHandler (some (.Name x np)) none [.Assign [.Name y py] (.Constant v.C cj pc) pa] hp::hs) ((x,t,j,v)::ns)
def QT(c:Str):List (Str×Nat×Nat×HC)->Option (Nat×Nat×HC)|[]=>none| (x,t,j,v)::r=>if c=x then some (t,j,v) else QT c r
def zhe {M:Model}{A:Around}{E:Af}{h:Heap}{g:Array GenState}{d:Drawn}{t:Nat}{os:OsState}{e:Ap}{i:Obj}{Q:Bool->Am->Prop}{b:Bool}{C c:Ap}{K:Ah}(X:K.In h) (r:PySem.W.excIn K C bmV "ValueError.__new__" =true) (s:PySem.W.excIn K c bmV "ValueError.__new__" =true) (he:h.get? e\i) (l:i.cls=.ref C) (hb:(Y5 K C).contains (.ref c)=b) (o:Q b #[h,g,d,t,os]) :
  wpAny M A (excMatches (.ref e) (.ref c)) Q E #[h,g,d,t,os]:=by
 let(bm,N,nm,W,bs,a,sn,sub,B,col,D,O,P,R,S,T,V,k,_,_,_,m):=yN X r;let(p,z,u,x,v,U,q,Y,w,n,F,G,H,I,J,L,y,f,_,_,j,_):=yN X s;rw[m]at hb;erw[Y2 k f he l (YT j) hb o]
section
variable {X:Cx}{pins:Ak}{O:St}{H:Hp}{s:Am}{E:Af}{D:Zz}{B:Heap}{ea C:Ap}{dx:Option Ap}{L:Ab}{mp:Ac}{c:Str}{t j:Nat}{v:HC}
def Hds.found{i:List ExceptHandler}{ns:List (Str×Nat×Nat×HC)}(h:Hds X L mp i ns)(e:QT c ns\(t,j,v)):L.contains c=true/\mp[t]?\j/\t<X.N.length:=by
 induction h with
 |nil=>cases e
 |cons a _ _ b d _ _ _ f=>
  unfold QT at e
  split at e
  next q=>
   subst q;cases e;exact#[a,d,(xa.mp b).1]
  ·erw[f e]
def K7(hN:X.N.Nodup)(xl:ExL X.K X.mg L)(hc:L.contains c=true)(r:X.mg c\(.ref C))(ok:X.Ok)(A:Qc B X.stack ea (.ref C) dx .none s.heap)(I:Inv X pins O H s)
  (l:∀ i,B.StaysIn i->s.heap.UpToSlots i->Inv X pins O H { s with heap:=i }) (hd:D.nx (O.set t (some v.V)) H) {o:List ExceptHandler} {ns:List (Str×Nat×Nat×HC)} (S:Hds X L mp o ns) (e:QT c ns\(t,j,v)) :
  ∅ (handleBy (.ref ea) X.env o) (SP X pins D) E s:=by
 induction S with
 |nil=>cases e
 | @cons x y np py pc T hp W U K v2 o ns f R kd M _ N P _ Q=>
  let(_,_,_,V,_,_,_,_,J,(m,_),_):=id A;let G:=I.marked (.ref ea);let(n,a,u):=xl.ex x f;let(_,b,F):=xl.ex c hc;rw[r]at b;cases b;refine wpAny_handleBy_cons (codeAny_handlers_test (Zt (X:=X.marked (.ref ea)) G R a ?_ kd)) (by intro q;cases q);erw[zhe (h:=s.heap) (g:=s.gens) (d:=s.drawn) (t:=s.toks) (os:=s.os) I.kIn F u J m (xl.mr c C x n hc r f a) ?_];unfold QT at e;by_cases q:c=x
  ·rw[if_pos q]at e;cases e;rw[decide_eq_true q];erw[codeAny_handlers_suite (JF (fr:=none) A λi p k=>?_)];let w:wpB (X.marked (.ref ea)) [.Assign [.Name y py] (.Constant v.C K pc) T] { nx:=D.nx,rt:=D.rt,bk:=D.bk,ct:=D.ct } O H:=(JA (wg (X:=X.marked (.ref ea)) hN M N zmm (by cases v<;>rfl) P)).wp hd;erw[Xe (w pins _ ((l i p.1 k).marked (.ref ea))) (λfl s2 q=>SP.unmarked ok q) λ_ _ z=>z.elim]
  ·rw[if_neg q]at e;rw[Xc q];erw[Q e]
end
section
variable {X:Cx}{pins:Ak}{O:St}{H:Hp}{s s':Am}{D:Zz}{e:Aj}{C:Ap}{dx:Option Ap}
def zjJ{L:Ab}{mp:Ac}{c:Str}{t j:Nat}{v:HC}{z:List ExceptHandler}{ns:List (Str×Nat×Nat×HC)}(u:Up X pins O H C dx e s)(ok:X.Ok)(i:X.stack=X.env::X.outer)(hf:X.env.frame\X.env.locals)(hN:X.N.Nodup)(xl:ExL X.K X.mg L)
  (A:X.mg c\(.ref C)) (y:Hds X L mp z ns) (hp:QT c ns\(t,j,v)) (hd:D.nx (O.set t (some v.V)) H) {r:Af} :
  ∅ (noteFrame e X.env) (λ_ l=>∅ (setFlight e none) (λ_ o=>∅ (handleBy e X.env z) (SP X pins D) r o) r l) r s:=by
 let(h,fl,B,rfl,al,inv):=u;let b:X.A.frames\(X.env::X.outer):=by rw[<- i];exact ok.frames
 rw[i]at al;erw[vm b hf al λx w m=>JF w λf g q=>?_];let a:=m.trans q;let d:Qc B X.stack h (.ref C) dx .none f:=by rw[i];exact g
 erw[K7 hN xl (y.found hp).1 A ok d (inv f d.1 a) (λk n p=>inv k n (a.trans p)) hd y hp]
def zgs(X:Cx)(pins:Ak)(D:Zz)(i:List ExceptHandler):Af:=λe a=>
 ∅ (noteFrame e X.env) (λ_ b=>∅ (setFlight e none) (λ_ c=>∅ (handleBy e X.env i) (SP X pins D) X.xe c) X.xe b) X.xe a
def zlG{P:Ak->Str->St->Hp->Prop}(h:∀ pins,wpB (X.tried pins (zgs X pins D (h₀::o)) (P pins)) body D O H):wpS X (.Try body (h₀::o) [] [] pos) D O H:=λpins s I=>by
 erw[wpAny_Try_except (Xe (h pins [] s (I.tried _ _)) (λf s1 q=>?_) λe s1 q=>q)];let a:=SP.untried I.ok q;cases f with
 |next=>
  let(g,b,c,d):=a;let w:wpB X [] D g b:=pss_nil.wp d;erw[w pins s1 c]
 |brk=>erw[a]
 |cont=>erw[a]
 |ret u=>erw[a]
def zgH{E:XK}{Q:VK}{e:Expr}{c:Ag}{p pos:Pos}(kn:Kn X.prog X.w X.K X.mg X.base o x k sp)(y:Room k X.A)(hg:Gl X x)
  (hx:∀ pins H s e s',Inv X pins O H s->o X.stack H s E e s'->X.xe e s') (h:wpA X (e::c) O H λl H1=>sp l H1 Q E) (v:(↥x))
  (he:starEach (e::c) X.env=(false,eval e X.env)::starEach c X.env) (i:(backTo pos (starEach c X.env)).any (·.1)=false):wpE X (.Call (.Name x p) (e::c) [] pos) O H Q:=λpins s I=>by
 let(f,fd,ps,F,hm,hk,hb):=kn.ex;erw[Xk (Zt I hg hm ?_ v)];erw[PySem.W.callWith_K I.ok.mod.kin hk (thn (h pos pins s I) λus s1 ⟨l,H1,a,r,q⟩=>#[a.kIn,?_]) he i];let hl:↑us=↑ps:=by rw[<- ↑r];exact F.len _ _ _ _ q
 let b:=hb s1 us a.kIn (~~~hl);rw[xT]at b;erw[wpAny_call (Xl (F.run X.A X.stack s1 H1 #[us,[]] us l Q E y a.env0 b r q) λr s' d=>?_)];cases r with
 |error e=>erw[hx pins H1 s1 e s' a d]
 |ok fl=>
  cases fl with
  |ret u=>erw[a.after d]
  |next=>erw[False.elim d]
  |brk=>erw[False.elim d]
  |cont=>erw[False.elim d]
def zdi{E:XK}{Q:VK}{p pos:Pos}(kn:Kn X.prog X.w X.K X.mg X.base o x k sp)(i:Room k X.A)(hg:Gl X x)
  (hx:∀ pins H s e s',Inv X pins O H s->o X.stack H s E e s'->X.xe e s') (h:sp [] H Q E) (c:(↥x)):wpE X (.Call (.Name x p) [] [] pos) O H Q:=λpins s I=>by
 let(f,fd,ps,F,hm,hk,hb):=kn.ex;erw[Xk (Zt I hg hm ?_ c)];erw[PySem.W.callWith_K0 I.kIn hk ?_];let hl:=F.len _ _ _ _ h;let a:=hb s [] I.kIn (~~~hl);rw[xT]at a;erw[wpAny_call (Xl (F.run X.A X.stack s H #[[],[]] [] [] Q E i I.env0 a .nil h) λr s' b=>?_)];cases r with
 |error e=>erw[hx pins H s e s' I b]
 |ok fl=>
  cases fl with
  |ret u=>erw[I.after b]
  |next=>erw[False.elim b]
  |brk=>erw[False.elim b]
  |cont=>erw[False.elim b]
end
section
variable {prog:Ar}{w:World}{A:Around}{E:Af}{s:Am}
def zgm{Q:An->Am->Prop}(hl:s.heap.IsList l (x::xs).toArray)(y:A.handled=none)(r:↑(x::xs)<=sizeLine)
  (k:∀ (c:Heap) (i:Nat),(∀ b o,s.heap.get? b\o->c.get? b\o)->Q [x,.ref c.objs.size] { s with heap:=c.push { cls:=.type "list",data:=.seq xs.toArray },toks:=i }) :
  wpAny (model prog w) A (unpackItems (.ref l) 2 (some 1)) Q E s:=by
 let(ol,B,t,v):=id hl;let f:=x8 B;let a:l≠⇑s:=xj f;unfold unpackItems notIterableAtAll;erw[x5 (x5 (wpAny_specialOf hl.typeIs PySem.F.slot_list_iter.lookup (x9 ?_)))];simp only[uL,if_false];erw[x5 (Xd (wpAny_pyIter_list hl ?_))];refine x5 (Xd (PySem.W.kun_draw a 1 0 _ _ #[_,Xa _ rfl,rfl,rfl] (hl.push _) (by simp) λq h g=>?_));let d:=(hl.push _).extBut g.extBut a;let(D,m,_):=id h;let(C,n,_):=id d;let z:(((x::xs).toArray.toList.drop 0).take 1)= [x]:=rfl;rw[z];rw[if_neg (show ¬ ([x].length<1) by simp)];refine x5 (Xd (PySem.W.kun_collect (s:={ s with heap:=q }) (T:= "list_iterator") (.inr (.inr (.inl rfl))) (Walks.list (A:=A.in1) y ⇑s l a (x::xs).toArray) (λj u st=>st.1.typeIs) (k:=1) (by simp) #[h,d] (x8 m) (x8 n) (λc i hk=>?_) (~~~r)));let p:(x::xs).toArray.toList.drop 1=xs:=rfl;rw[p];rw[if_neg (by lia)];let keep:∀ b o,s.heap.get? b\o->c.get? b\o:=λb o e=>by
  let hb:b≠⇑s:=xj (x8 e);erw[hk b o hb (g.extBut b o hb (x6 _ e))]
 let h0:↑xs-(2-1-1)=↑xs:=by lia
 rw[h0,uE,uV];refine x5 (wpAny_newList (x9 ?_) (by simp at r;lia));erw[k c i keep]
def zc5{Q:An->Am->Prop}(hl:IsTup s.heap l (x::xs).toArray)(y:A.handled=none)(r:↑(x::xs)<=sizeLine)
  (k:∀ (c:Heap) (i:Nat),(∀ b o,s.heap.get? b\o->c.get? b\o)->Q [x,.ref c.objs.size] { s with heap:=c.push { cls:=.type "list",data:=.seq xs.toArray },toks:=i }) :
  wpAny (model prog w) A (unpackItems (.ref l) 2 (some 1)) Q E s:=by
 let(ol,v,_):=id hl;let f:=x8 v;let a:l≠⇑s:=xj f;unfold unpackItems notIterableAtAll;erw[x5 (x5 (wpAny_specialOf hl.typeIs PySem.F.slot_tuple_iter.lookup (x9 ?_)))];simp only[uL,if_false];erw[x5 (Xd (iter_tuple hl ?_))];refine x5 (Xd (draw_tuple a 1 0 _ _ #[_,Xa _ rfl,rfl,rfl] (hl.push _) (by simp) λq h g=>?_));let d:=(hl.push _).extBut g.extBut a;let(B,m,_):=id h;let(z,n,_):=id d;let t:(((x::xs).toArray.toList.drop 0).take 1)= [x]:=rfl;rw[t];rw[if_neg (show ¬ ([x].length<1) by simp)];refine x5 (Xd (PySem.W.kun_collect (s:={ s with heap:=q }) (T:= "tuple_iterator") (.inr (.inr (.inr rfl))) (Walks.tuple (A:=A.in1) y ⇑s l a (x::xs).toArray) (λj u st=>st.1.typeIs) (k:=1) (by simp) #[h,d] (x8 m) (x8 n) (λc i hk=>?_) (~~~r)));let p:(x::xs).toArray.toList.drop 1=xs:=rfl;rw[p];rw[if_neg (by lia)];let keep:∀ b o,s.heap.get? b\o->c.get? b\o:=λb o e=>by
  let hb:b≠⇑s:=xj (x8 e);erw[hk b o hb (g.extBut b o hb (x6 _ e))]
 let h0:↑xs-(2-1-1)=↑xs:=by lia
 rw[h0,uE,uV];refine x5 (wpAny_newList (x9 ?_) (by simp at r;lia));erw[k c i keep]
end
section
variable {M:Model}{A:Around}{E:Af}{s:Am}
def zcu:fillsInplaceSlot (.type "list") "add" true=pure false:=by
 unfold fillsInplaceSlot;show (typeLookup (.type "list") (dunderI "add") >>= λz=>pure (z.isSome&& !isSeqSlot z))=pure false;rw[PySem.F.slot_list_iadd.lookup];let z:isSeqSlot (some (.builtin "list.__iadd__"))=true:=by decide +kernel
 grind
def zf0:seqSlot? (.type "list") (dunderI "add")=pure (some (.builtin "list.__iadd__")):=PySem.seqSlot_of PySem.F.slot_list_iadd.lookup (by decide +kernel)
def yX (c:s.TypeIs a "list") (hb:s.TypeIs b "list") (h:wpAny M A (call (.builtin "list.__iadd__") [a,b]) Q E s):wpAny M A (inplaceOp .Add a b) Q E s:=by
 unfold inplaceOp;erw[Xd (x5 (wpAny_typeOf c (x5 (wpAny_of_eq zcu ?_))))];rw[if_neg uJ];erw[x5 (wpAny_binaryOp1_none (nm:= "add") c hb noFill_list_add (x5 (wpAny_of_eq zf0 ?_)))];erw[x5 (wpAny_rule h)]
end
section
variable {X:Cx}
def zhq:PIp X .Add (λx y H Q=>∃ l b xs zs,x=.ref l/\y=.ref b/\H l\(.lst xs)/\H b\(.lst zs)/\↑xs+↑zs<=sizeLine/\Q (.ref l) (upd H l (.lst (xs++zs)))):=by
 intro pins s O H x y v u Q I o p h;let(l,b,xs,zs,rfl,rfl,g,i,w,q):=h;cases o;cases p;let(z,a,n,r,hl,e):=I.lstM g;let(A,c,k,m,j,f):=I.lstM i;erw[yX #[_,e,rfl] #[_,f,rfl] ?_];let d:a.toArray.size+c.toArray.size<=sizeLine:=by rw[xm,xm];lia
 let t:¬ (!a.toArray.isEmpty&&Builtin.List.listTooLong (a.toArray.size+c.toArray.size))=true:=by
  rw[zff d,Bool.and_false];exact uJ
 refine call_meets PySem.F.slot_list_iadd #[_,e,rfl] PySem.F.entry_list_iadd (PySem.F.args_list_iadd_2 _ _) (AutoSeq1.list___iadd___list_list_0 l a.toArray n b c.toArray k t (by rw[xm];lia) (by lia)) #[e,f,?_];exact#[.ref l,_,I.lset g e (by simp) (r.append m) (by rw[xB];lia),rfl,q]
def zjl(K:Ah)(i j:Nat):TG:=λv O H Q=>∃ l y a,v=.ref l/\(SqL K H l (y::a)∨SqT K H l (y::a))/\∀ p,H p=none->Q ((O.set i (some y)).set j (some (.ref p))) (upd H p (.lst a))
def zhS{k:Nat}{px py ps pos:Pos}(hc:X.calm=true)(hN:X.N.Nodup)(hi:X.N[i]?\x)(hx:Loc X.env.scope x)(L:X.fn x=true∨X.env.scope.names.lookup x\.local)(G:X.N[j]?\y)(J:Loc X.env.scope y)(E:X.fn y=true∨X.env.scope.names.lookup y\.local) :
  PG X (.Tuple [.Name x px,.Starred (.Name y py) ps] k pos) (zjl X.K i j):=by
 intro pins s O H v u Q I r h;let(l,z,zs,rfl,f,q):=h;cases r;let fin:∀ {w:Aj} {ws:An} {a:Heap} {e:Nat},RelV z w->Vals zs ws->↑zs+1<=sizeLine->(∀ b o,s.heap.get? b\o->a.get? b\o)->∅ (assignInOrder ((assignEach [.Name x px,.Starred (.Name y py) ps] X.env).map (·.2)) [w,.ref a.objs.size]) (λ_ K=>∃ B t,Inv X pins B t K/\Q B t) X.xe { s with heap:=a.push { cls:=.type "list",data:=.seq ws.toArray },toks:=e }:=λ{w ws a e} g c d keep=>by
  let A:=I.kept (t':=e) keep;let C:=A.lnew (t':=e) c (by lia);erw[assignInOrder_cons (wpAny_assign_Name (Qw C hN hi hx g (λs4 D=>?_) L))];erw[assignInOrder_cons (wpAny_assign_Name (Qw (v:=.ref a.objs.size) D hN G J rfl (λs5 F=>?_) E))];erw[assignInOrder_nil #[_,_,F,q _ A.fresh]]
 rw[assign_Tuple];erw[x5 (wpAny_standAt ?_)];unfold unpack;rcases f with f | f
 ·let(m,p,n,d):=I.list f;cases p with
  |cons g c=>
   rename_i w ws;exact x5 (Xd (zgm (x:=w) (xs:=ws) n.isList (I.ok.hd hc) (by have:=↑c;simp at d |-;lia) λa e keep=>fin g c (~~~d) keep))
 ·let(m,p,n,d):=I.tuple f;cases p with
  |cons g c=>
   rename_i w ws;exact x5 (Xd (zc5 (x:=w) (xs:=ws) n (I.ok.hd hc) (by have:=↑c;simp at d |-;lia) λa e keep=>fin g c (~~~d) keep))
def zl6(K:Ah)(n:Nat)(t:TGs):TG:=λv O H Q=>∃ a xs,v=.ref a/\SqL K H a xs/\↑xs=n/\t xs O H Q
def zhT(hc:X.calm=true)(h:PGs X J t)(l:↑(assignEach J X.env)=n)(c:(assignEach J X.env).findIdx? (·.1)=none):PG X (.Tuple J k pos) (zl6 X.K n t):=by
 intro pins s O H v u Q I r hw;let(a,xs,j,m,hl,hw):=hw;subst j;cases r;let(f,g,p,w):=I.list m;rw[assign_Tuple];erw[x5 (wpAny_standAt ?_)];unfold unpack;let d:↑(assignEach J X.env)=f.toArray.size:=by rw[l,<- hl,g.length,xm]
 rw[c,d];erw[x5 (Xd (PySem.W.kun_itemsOf (I.ok.hd hc) p.isList λq hx=>?_))];let i:=I.kept (t':=s.toks) λb o e=>hx b o (xj (x8 e)) e;exact h pins _ O H xs _ Q i (~~~g) hw
end
end Lake.L2
namespace Lake.L3
open PySem PySem.Spec PyProof.Rows L2
inductive OV where|d (x:PyData)|l (xs:List OV)|t (xs:List OV)|m (kvs:Ad)|o (c:Str) (ns:Ab) (xs:List OV)
abbrev Gv:=List (Option OV)
mutual
noncomputable def OV.view:OV->PyData|.d x=>x|.l xs=>.list (OV.views xs)|.t xs=>.tuple (OV.views xs)|.m a=>.dict (a.map dK)|.o c ns xs=>.dict ((.none,.str c)::(ns.zip (OV.views xs)).map dK)
noncomputable def OV.views:List OV->Aa|[]=> []|x::xs=>x.view::OV.views xs
end
def OV.views_d(xs:Aa):OV.views (xs.map .d)=xs:=by
 induction xs with|nil=>rfl|cons x xs a=>simp[OV.views,OV.view,a]
def OV.views_map(xs:List OV):OV.views xs=xs.map OV.view:=by
 induction xs with|nil=>rfl|cons x xs a=>simp[OV.views,a]
variable [Cs]
mutual
inductive OR(M:Ae)(H:Hp):V->OV->List Ap->Prop|d {v:V} {x:PyData}:Rep M H v x->OR M H v (.d x) []|l {a:Ap} {vs:List V} {xs:List OV} {A:List Ap}:H a\(.lst vs)->ORL M H vs xs A->OR M H (.ref a) (.l xs) (a::A)|t {a:Ap} {vs:List V} {xs:List OV} {A:List Ap}:H a\(.tup vs)->ORL M H vs xs A->OR M H (.ref a) (.t xs) A|m {a:Ap} {kvs:List (Str×V)} {ds:Ad}:H a\(.dK (kvs.map kK))->kvs.map (·.1)=ds.map (·.1)->RepL M H (kvs.map (·.2)) (ds.map (·.2))->OR M H (.ref a) (.m ds) [a]|o {a dx:Ap} {c:Str} {fs:List (Str×V)} {ns:Ab} {xs:List OV} {A:List Ap}:H a\(.ins (Cs.adr c) dx fs)->fs.map (·.1)=ns->ORL M H (fs.map (·.2)) xs A->OR M H (.ref a) (.o c ns xs) (a::A)
inductive ORL(M:Ae)(H:Hp):List V->List OV->List Ap->Prop|nil:ORL M H [] [] []|cons {v:V} {vs:List V} {x:OV} {xs:List OV} {A B:List Ap}:OR M H v x A->ORL M H vs xs B->ORL M H (v::vs) (x::xs) (A++B)
end
abbrev qr:Ae:=λ_=>False
def ORL.ind{H:Hp}{P:List V->List OV->List Ap->Prop}(h0:P [] [] [])(i:∀{v c x xs A B},OR M H v x A->ORL M H c xs B->P c xs B->P (v::c) (x::xs) (A++B)){c:List V}{os:List OV}(r:ORL M H c os A):P c os A:=by
 induction c generalizing os A with
 |nil=>cases r;exact h0
 |cons v c a=>cases r with
  |cons r t=>erw[i r t (a t)]
def OV.views_len(xs:List OV):↑(OV.views xs)=↑xs:=by rw[OV.views_map,xo]
def ORL.length{M:Ae}{H:Hp}{os:List OV}(r:ORL M H l os A):↑l=↑os:=r.ind (P:=λl os _=>↑l=↑os) rfl λ_ _ a=>congrArg (·+1) a
def zja{α β:Type}:∀{ns:List α}{xs:List β},↑ns=↑xs->(ns.zip xs).map (·.1)=ns:=λ{ns xs} h=>by rw[List.map_fst_zip (Nat.le_of_eq h)]
def zjb{α β:Type}:∀{ns:List α}{xs:List β},↑ns=↑xs->(ns.zip xs).map (·.2)=xs:=λ{ns xs} h=>by rw[List.map_snd_zip (Nat.le_of_eq h.symm)]
def OR.go(l:∀ v d,Rep M H v d->Rep J I v d)(s:∀ b xs,H b\(.tup xs)->I b\(.tup xs)){v:V}{o:OV}(h:∀ a∈A,I a=H a)(r:OR M H v o A):OR J I v o A :=
 OR.rec (motive_1:=λv o A _=>(∀ a∈A,I a=H a)->OR J I v o A) (motive_2:=λj os A _=>(∀ a∈A,I a=H a)->ORL J I j os A) (λr _=>.d (l _ _ r)) (λe _ f h=>.l (by rw[h _ xF];exact e) (f λa c=>h a (xt _ c))) (λe _ f h=>.t (s _ _ e) (f h))
  (λe k r h=>.m (by rw[h _ xF];exact e) k (Zn l r)) (λe k _ f h=>.o (by rw[h _ xF];exact e) k (f λa c=>h a (xt _ c))) (λ_=>.nil)
  (λ_ _ g i h=>.cons (g λa c=>h a (xU _ c)) (i λa c=>h a (xE _ c))) r h
def ORL.go{M l:Ae}{H c:Hp}(s:∀ v d,Rep M H v d->Rep l c v d)(y:∀ b xs,H b\(.tup xs)->c b\(.tup xs))(h:∀ a∈A,c a=H a)(r:ORL M H v o A):ORL l c v o A :=
 r.ind (P:=λv o A=>(∀ a∈A,c a=H a)->ORL l c v o A) (λ_=>.nil) (λr _ f h=>.cons (r.go s y λa e=>h a (xU _ e)) (f λa e=>h a (xE _ e))) h
def OR.rep(hm:∀ b,I b->M b){v:V}{o:OV}(h:∀ a∈A,¬ I a)(r:OR M H v o A):Rep I H v o.view :=
 OR.rec (motive_1:=λv o A _=>(∀ a∈A,¬ I a)->Rep I H v o.view) (motive_2:=λj os A _=>(∀ a∈A,¬ I a)->RepL I H j (OV.views os)) (λr _=>r.less λb hb _=>hm b hb) (λe _ f h=>.list e (h _ xF) (f λa d=>h a (xt _ d))) (λe _ f h=>.tuple e (f h))
  (λe k r h=>.dict (.inl e) (h _ xF) k (Zn (λ_ _ x=>x.less λb hb _=>hm b hb) r))
  (λ{a l c fs ns xs A} e k r f h=>by
   let hl:↑ns=↑(OV.views xs):=by rw[OV.views_len,<- ↑r,<- k,xo,xo]
   refine .inst e (h _ xF) (by rw[zja hl];exact k) ?_;rw[zjb hl];exact f λa d=>h a (xt _ d)) (λ_=>.nil)
  (λ_ _ g i h=>.cons (g λa d=>h a (xU _ d)) (i λa d=>h a (xE _ d))) r h
def OR.weak{v:V}{o:OV}(r:OR M H v o A):Rep qr H v o.view:=r.rep (λ_ h=>h.elim) λ_ _ h=>h
def OR.laid{v:V}{o:OV}(r:OR M H v o A):∀ a∈A,∃ c,H a\c :=
 OR.rec (motive_1:=λ_ _ A _=>∀ a∈A,∃ c,H a\c) (motive_2:=λ_ _ A _=>∀ a∈A,∃ c,H a\c) (λ_ _ h=>by cases h) (λe _ b=>List.forall_mem_cons.mpr #[#[_,e],b]) (λ_ _ b=>b) (λe _ _=>List.forall_mem_cons.mpr #[#[_,e],λ_ h=>by cases h]) (λe _ _ b=>List.forall_mem_cons.mpr #[#[_,e],b]) (λ_ h=>by cases h)
  (λ_ _ d f a h=>(xJ.mp h).elim (d a) (f a)) r
def ORL.data(r:RepL M H c ds):ORL M H c (ds.map .d) []:=r.ind (P:=λc ds=>ORL M H c (ds.map .d) []) .nil λr _ a=>.cons (.d r) a
abbrev Fp:=Nat->List Ap
def fset(F:Fp)(i:Nat)(A:List Ap):Fp:=λj=>if j=i then A else F j
def zM:fset F i A i=A:=by unfold fset;rw[if_pos rfl]
def zR(h:j≠i):fset F i A j=F j:=by unfold fset;rw[if_neg h]
def MM(c:Ae)(F:Fp):Ae:=λa=>c a∨∃ i,a∈F i
abbrev Nu:=List (Option V)
structure RS(M0:Ae)(F:Fp)(U:Gv)(Z:Nu)(H:Hp):Prop where
 al0:∀ a,M0 a->H a≠none
 dis0:∀ i a,a∈F i->¬ M0 a
 nd:∀ i,(F i).Nodup
 dis:∀ i j a,a∈F i->a∈F j->i=j
 at':∀ i o,U[i]?\(some o)->∃ v,Z[i]?\(some v)/\OR (MM M0 F) H v o (F i)
 emp:∀ i,(∀ o,U[i]?≠some (some o))->F i= []
 len:↑Z=↑U
structure Stp(F:Fp)(H:Hp)(F':Fp)(H':Hp):Prop where
 keep:∀ b o,H b\o->(∀ i,b∉F i)->H' b\o/\∀ i,b∉F' i
 tups:∀ b xs,H b\(.tup xs)->H' b\(.tup xs)
 stay:∀ b,H b≠none->H' b≠none
def Stp.refl(F:Fp)(H:Hp):Stp F H F H:=#[λ_ _ e n=>#[e,n],λ_ _ e=>e,λ_ h=>h]
def Stp.trans(a:Stp F H I H1)(b:Stp I H1 J H2):Stp F H J H2 :=
 #[λc o e n=>let #[d,f]:=a.keep c o e n;b.keep c o d f,λc xs e=>b.tups c xs (a.tups c xs e),λc h=>b.stay c (a.stay c h)]
def Stp.same(s:Same H I):Stp F H F I:=⟨λb o e n=>⟨s b o e,n⟩,λb xs e=>s b _ e,λb h=>by
 cases q:H b with|none=>erw[absurd q h]|some o=>rw[s b o q];exact λz=>nomatch z⟩
section
variable {M0:Ae}{F F':Fp}{U U':Gv}{Z Z':Nu}{H H':Hp}
def RS.laidF(r:RS M0 F U Z H)(h:a∈F i):∃ c,H a\c:=by
 by_cases q:∃ o,U[i]?\(some o)
 ·let(o,q):=q;let(v,_,z):=r.at' i o q;erw[z.laid a h]
 ·rw[r.emp i λo e=>q #[o,e]]at h;cases h
def RS.al(r:RS M0 F U Z H):Al (MM M0 F) H:=λa h=>by
 rcases h with h | ⟨i,h⟩
 ·erw[r.al0 a h]
 ·let(b,e):=r.laidF h;rw[e];exact λz=>nomatch z
def qj(s:Stp F H F' H')(h0:∀ a,M0 a->H a≠none)(r:Rep (MM M0 F) H v d):Rep (MM M0 F') H' v d:=by
 let go:∀ b o,H b\o->¬ MM M0 F b->H' b\o/\¬ MM M0 F' b:=λb o e n=>by
  let(c,f):=s.keep b _ e λi h=>n (.inr #[i,h]);refine#[c,?_];rintro (h | ⟨i,h⟩)
  ·erw[n (.inl h)]
  ·erw[f i h]
 exact r.go (λa o e n _ _=>go a o e n) s.tups λa x e n=>by
  rcases e with e | ⟨o,e⟩
  ·exact#[.inl (go a _ e n).1,(go a _ e n).2]
  ·exact#[.inr #[o,(go a _ e n).1],(go a _ e n).2]
def vG(s:Stp F H F' H')(h0:∀ a,M0 a->H a≠none)(r:RepL (MM M0 F) H o ds):RepL (MM M0 F') H' o ds:=Zn (λ_ _=>qj s h0) r
def RS.same(r:RS M0 F U Z H)(s:Same H H'):RS M0 F U Z H' where
 al0 a h:=by
  have:=r.al0 a h;cases q:H a with|none=>erw[absurd q this]|some o=>rw[s a o q];exact λz=>nomatch z
 dis0:=r.dis0
 nd:=r.nd
 dis:=r.dis
 at' i o e:=by
  let(v,c,q):=r.at' i o e;exact⟨v,c,q.go (λv d x=>x.grow s.grow) (λb xs e=>s b _ e) λa f=>by
   let(g,z):=q.laid a f;rw[z,s a _ z]⟩
 emp:=r.emp
 len:=r.len
def RS.put{o:OV}{v:V}(r:RS M0 F U Z H)(s:Stp F H (fset F i A) H')(B:∀ j,j≠i->∀ a∈F j,H' a=H a)
  (hm:∀ a,M0 a->H' a≠none) (y:∀ a∈A,¬ M0 a) (l:A.Nodup) (c:∀ j,j≠i->∀ a∈A,a∉F j) (hi:i<↑U)
  (q:OR (MM M0 (fset F i A)) H' v o A):RS M0 (fset F i A) (U.set i (some o)) (Z.set i (some v)) H' where
 al0:=hm
 dis0 j a h:=by
  by_cases b:j=i
  ·subst b;rw[zM]at h;exact y a h
  ·rw[zR b]at h;exact r.dis0 j a h
 nd j:=by
  by_cases b:j=i
  ·subst b;rw[zM];exact l
  ·rw[zR b];exact r.nd j
 dis j k a h1 h2:=by
  by_cases b:j=i
  ·by_cases hk:k=i
   ·rw[b,hk]
   ·subst b;rw[zM]at h1;rw[zR hk]at h2;exact absurd h2 (c k hk a h1)
  ·by_cases hk:k=i
   ·subst hk;rw[zM]at h2;rw[zR b]at h1;exact absurd h1 (c j b a h2)
   ·rw[zR b]at h1;rw[zR hk]at h2;exact r.dis j k a h1 h2
 at' j p e:=by
  by_cases b:j=i
  ·subst b;rw[xk hi]at e;cases e;refine#[v,by rw[xk (by rw[r.len];exact hi)],?_];rw[zM];exact q
  ·rw[xi (Ne.symm b)]at e |-
   let(u,f,z):=r.at' j p e;refine#[u,f,?_];rw[zR b];erw[z.go (λv d x=>qj s r.al0 x) s.tups (B j b)]
 emp j h:=by
  by_cases b:j=i
  ·grind
  ·rw[zR b];erw[r.emp j λp e=>h p ?_];rw[xi (Ne.symm b)];exact e
 len:=by rw[xN,xN];exact r.len
def RS.setD(r:RS M0 F U Z H)(q:Rep (MM M0 F) H v d)(hi:i<↑U):∃ F',RS M0 F' (U.set i (@&d)) (Z.set i (some v)) H/\Stp F H F' H:=by
 let s:Stp F H (fset F i []) H:=⟨λb o e n=>⟨e,λj=>by
  by_cases a:j=i
  ·subst a;rw[zM];exact λz=>nomatch z
  ·rw[zR a];exact n j⟩,λ_ _ e=>e,λ_ h=>h⟩
 exact#[_,r.put s (λ_ _ _ _=>rfl) r.al0 (λ_ h=>nomatch h) .nil (λ_ _ _ h=>nomatch h) hi (.d (qj s r.al0 q)),s]
def WY(F:Fp)(n:Nat):Fp:=λj=>if j<n then F j else []
def yO(h:j<n):WY F n j=F j:=by unfold WY;rw[if_pos h]
def zaP(h:¬ j<n):WY F n j= []:=by unfold WY;rw[if_neg h]
def Zi(h:a∈WY F n j):j<n/\a∈F j:=by
 unfold WY at h
 split at h
 ·exact#[by assumption,h]
 ·cases h
def JJ(h:∀ j a,a∈F' j->∃ k,a∈F k):Stp F H F' H:=#[λb o e n=>#[e,λj c=>let #[k,hk]:=h j b c;n k hk],λ_ _ e=>e,λ_ h=>h]
def RS.cut(r:RS M0 F U Z H)(n:Nat):RS M0 (WY F n) (U.take n) (Z.take n) H/\Stp F H (WY F n) H:=by
 let s:Stp F H (WY F n) H:=JJ λj a h=>#[j,(Zi h).2];refine#[#[r.al0,λj a h=>r.dis0 j a (Zi h).2,λj=>?_,λj k a d f=>r.dis j k a (Zi d).2 (Zi f).2,λj o e=>?_,λj h=>?_,?_],s]
 ·by_cases b:j<n
  ·rw[yO b];exact r.nd j
  ·rw[zaP b];exact .nil
 ·let b:j<n:=by
   by_cases b:j<n
   ·erw[b]
   ·rw[xI (by rw[xM];lia)]at e;cases e
  rw[uc b]at e |-
  let(v,c,q):=r.at' j o e;exact#[v,c,by rw[yO b];exact q.go (λ_ _ x=>qj s r.al0 x) s.tups λ_ _=>rfl]
 ·by_cases b:j<n
  ·rw[yO b];erw[r.emp j λo e=>h o ?_];rw[uc b];exact e
  ·erw[zaP b]
 ·rw[xM,xM,r.len]
def RS.ext(r:RS M0 F U Z H)(k:Nat):RS M0 F (U++List.replicate k none) (Z++List.replicate k none) H:=by
 let get:∀{α:Type}(l:List (Option α))(j:Nat)(o:α),(l++List.replicate k none)[j]?\(some o)->l[j]?\(some o):=λ{α} l j o e=>by
  by_cases b:j<↑l
  ·rw[xb b]at e;exact e
  ·rw[xr (by lia),xQ]at e
   split at e<;>cases e
 let put:∀{α:Type}(l:List (Option α))(j:Nat)(o:α),l[j]?\(some o)->(l++List.replicate k none)[j]?\(some o):=λ{α} l j o e=>by
  rw[xb (xa.mp e).1];exact e
 exact#[r.al0,r.dis0,r.nd,r.dis,λj o e=>let #[v,a,q]:=r.at' j o (get _ _ _ e);#[v,put _ _ _ a,q],λj h=>r.emp j λo e=>h o (put _ _ _ e),by simp[r.len]]
def kA{α:Type}(l:List (Option α))(x:α):(l++List.replicate 1 none).set ↑l (some x)=l++ [some x]:=by
 rw[uB _ _ (xh _)];simp
def RS.new1{p:Ap}{o:OV}{H':Hp}(r:RS M0 F U Z H)(n:H p=none)(same:Same H H')(q:Stp F H (fset F ↑U [p]) H'->OR (MM M0 (fset F ↑U [p])) H' (.ref p) o [p]) :
  RS M0 (fset F ↑U [p]) (U++ [some o]) (Z++ [some (.ref p)]) H'/\Stp F H (fset F ↑U [p]) H':=by
 let hp:∀ i,p∉F i:=λi h=>by
  let(l,e):=r.laidF h;rw[n]at e;cases e
 let s:Stp F H (fset F ↑U [p]) H':=⟨λb o e nb=>⟨same b o e,λj h=>by
  by_cases g:j=↑U
  ·subst g;rw[zM]at h;grind
  ·rw[zR g]at h;exact nb j h⟩,λb xs e=>same b _ e,(Stp.same (F:=F) same).stay⟩
 let d:=(r.ext 1).put (A:= [p]) s (λj _ a c=>by
   let(u,f):=r.laidF c;rw[same a u f,f])
  (λa h=>s.stay a (r.al0 a h)) (λa c h=>by
   let e:a=p:= ~~~c;subst e;exact r.al0 a h n) (xG.mpr #[(λz=>nomatch z),.nil]) (λj _ a c=>by
   grind) (by simp) (q s)
 rw[kA]at d;let k:(Z++List.replicate 1 none).set ↑U (some (V.ref p))=Z++ [some (V.ref p)]:=by rw[<- r.len,kA]
 rw[k]at d;exact#[d,s]
def RS.newO(r:RS M0 F U Z H)(n:H p=none)(q:RepL (MM M0 F) H o ds) :
  RS M0 (fset F ↑U [p]) (U++ [some (.l (ds.map .d))]) (Z++ [some (.ref p)]) (upd H p (.lst o))/\Stp F H (fset F ↑U [p]) (upd H p (.lst o)):=r.new1 n (qg n) λs=>.l zK (ORL.data (vG s r.al0 q))
def RS.of{U':Gv}{Z':Nu}{H':Hp}(r:RS M0 F U Z H)(B:Fp)(s:∀ F',(∀ j a,a∈F' j->a∈B j)->Stp F H F' H')(c:∀ j a,a∈B j->¬ M0 a)(nd:∀ j,(B j).Nodup)
  (dis:∀ j k o p a,U'[j]?\(some o)->U'[k]?\(some p)->a∈B j->a∈B k->j=k)
  (h:∀ F',(∀ j a,a∈F' j->a∈B j)->Stp F H F' H'->∀ j o,U'[j]?\(some o)->∃ v,Z'[j]?\(some v)/\OR (MM M0 F') H' v o (B j)) (len:↑Z'=↑U'):∃ F',RS M0 F' U' Z' H'/\Stp F H F' H':=by
 let sub:∀ j a,a∈(match U'[j]? with | some (some _)=>B j | _=> [])->∃ o,U'[j]?\(some o)/\a∈B j:=λj a=>by
  split
  ·erw[λh=>#[_,‹_›,h]]
  ·erw[λh=>nomatch h]
 let u:=λj a h=>(sub j a h).choose_spec.2;let s:=s (λj=>match U'[j]? with | some (some _)=>B j | _=> []) u;refine#[_,#[λa h=>s.stay a (r.al0 a h),λj a h=>c _ a (u j a h),λj=>?_,λj k a f g=>?_,λj o e=>?_,λj h=>?_,len],s]
 ·split
  ·erw[nd _]
  ·erw[.nil]
 ·let(o,b,i):=sub j a f;let(p,d,l):=sub k a g;erw[dis j k o p a b d i l]
 ·let(v,ev,q):=h _ u s j o e;refine#[v,ev,?_];rw[show (match U'[j]? with | some (some _)=>B j | _=> [])=B j by rw[e]];erw[q]
 ·split
  ·erw[absurd ‹_› (h _)]
  ·rfl
def RS.map{U':Gv}{Z':Nu}(r:RS M0 F U Z H)(g:Nat->Nat)(h:∀ j o,U'[j]?\(some o)->U[g j]?\(some o)/\Z'[j]?=Z[g j]?)
  (inj:∀ j k o p,U'[j]?\(some o)->U'[k]?\(some p)->g j=g k->j=k) (len:↑Z'=↑U'):∃ F',RS M0 F' U' Z' H/\Stp F H F' H :=
 r.of (λj=>F (g j)) (λF' h=>JJ λj a q=>#[_,h j a q]) (λj=>r.dis0 _) (λj=>r.nd _) (λj k o p a b c d f=>inj j k o p b c (r.dis _ _ a d f)) (λF' _ s j o e=>by
  let(b,c):=h j o e;let(v,ev,q):=r.at' _ _ b;exact#[v,c.trans ev,q.go (λ_ _ x=>qj s r.al0 x) s.tups λ_ _=>rfl]) len
def RS.move(r:RS M0 F (U++ [some o]) (Z++ [some v]) H)(hi:i<↑U):∃ F',RS M0 F' (U.set i (some o)) (Z.set i (some v)) H/\Stp F H F' H:=by
 let hl:↑Z=↑U:= ~~~r.len;refine r.map (λj=>if j=i then ↑U else j) (λj p e=>?_) (λj k o p b c=>?_) (by simp[hl])
 ·split
  ·subst j;rw[xk hi]at e;cases e;simp[hl,hi]
  next g=>
   rw[xi (Ne.symm g)]at e |-
   let a:=(xa.mp e).1;rw[xb a,xb (by lia)];exact#[e,rfl]
 ·let d:=(xa.mp b).1;let f:=(xa.mp c).1;rw[xN]at d f
  split<;>split<;>lia
def RS.dropD(r:RS M0 F (U++ [some o]) (Z++ [some v]) H):∃ F',RS M0 F' U Z H/\Stp F H F' H/\Rep (MM M0 F') H v o.view:=by
 let hl:↑Z=↑U:=by have:=r.len;simp at this;exact this
 let(d,s):=r.cut ↑U;let f:(U++ [some o]).take ↑U=U:=by simp
 let g:(Z++ [some v]).take ↑U=Z:=by rw[<- hl];simp
 rw[f,g]at d;refine#[_,d,s,?_];let(u,e,q):=r.at' ↑U o (by grind);rw[xr (by lia),hl]at e;simp at e;subst e;erw[q.rep (λb hb=>?_) (λa c hb=>?_)]
 ·rcases hb with hb | ⟨j,hb⟩
  ·erw[.inl hb]
  ·erw[.inr #[j,(Zi hb).2]]
 ·rcases hb with hb | ⟨j,hb⟩
  ·erw[r.dis0 _ a c hb]
  ·have:=r.dis _ _ a c (Zi hb).2;have:=(Zi hb).1;lia
def RS.frz(r:RS M0 F U Z H)(e:U[i]?\(some o)):∃ F' v,Z[i]?\(some v)/\RS M0 F' (U.set i (some (.d o.view))) Z H/\Stp F H F' H/\Rep (MM M0 F') H v o.view:=by
 let(v,ev,q):=r.at' i o e;let hi:=(xa.mp e).1;let s:Stp F H (fset F i []) H:=JJ λj a h=>by
  by_cases c:j=i
  ·subst c;rw[zM]at h;cases h
  ·rw[zR c]at h;exact#[j,h]
 let f:Rep (MM M0 (fset F i [])) H v o.view:=q.rep (λb hb=>by
  rcases hb with hb | ⟨j,hb⟩
  ·erw[.inl hb]
  ·by_cases c:j=i
   ·subst c;rw[zM]at hb;cases hb
   ·rw[zR c]at hb;exact .inr #[j,hb]) (λa d hb=>by
  rcases hb with hb | ⟨j,hb⟩
  ·erw[r.dis0 _ a d hb]
  ·by_cases c:j=i
   ·subst c;rw[zM]at hb;cases hb
   ·rw[zR c]at hb;exact c (r.dis _ _ a hb d))
 let g:=r.put s (λ_ _ _ _=>rfl) r.al0 (λ_ h=>nomatch h) .nil (λ_ _ _ h=>nomatch h) hi (.d f);let k:Z.set i (some v)=Z:=by
  apply xZ;intro j;by_cases c:i=j
  ·subst c;rw[xk (xa.mp ev).1,ev]
  ·rw[xi c]
 rw[k]at g;exact#[_,v,ev,g,s,f]
def RS.mut{xs E:List OV}{B:List V}(r:RS M0 F U Z H)(e:U[i]?\(some (.l xs)))(ev:Z[i]?\(some (.ref a)))
  (h:∀ us A,H a\(.lst us)->ORL (MM M0 F) H us xs A->F i=a::A->∃ y,(∀ b∈y,b∈A)/\y.Nodup/\ORL (MM M0 F) H B E y) :
  ∃ F',RS M0 F' (U.set i (some (.l E))) Z (upd H a (.lst B))/\Stp F H F' (upd H a (.lst B)):=by
 let(v,m,q):=r.at' i _ e;rw[ev]at m;cases m;let hi:=(xa.mp e).1;generalize g:F i=I at q;cases q with
 |l n G=>
  rename_i us A;let(y,sub,t,D):=h us A n G g;let nd:=r.nd i;rw[g]at nd;let d:=(xG.mp nd).1;let k:∀ b,b∈(a::y)->b∈F i:=λb hb=>by
   grind
  let s:Stp F H (fset F i (a::y)) (upd H a (.lst B)):=⟨λb o f nb=>⟨by rw[zH (λz=>nb i (by rw[g,z];exact xF))];exact f,λj c=>by
   by_cases z:j=i
   ·subst z;rw[zM]at c;exact nb j (k b c)
   ·rw[zR z]at c;exact nb j c⟩,λb xs f=>by rw[zH (zmd f n (by intro z;cases z))];exact f,λb hb=>by
   by_cases z:b=a
   ·subst z;rw[zK];exact λw=>nomatch w
   ·rw[zH z];exact hb⟩
  let p:=r.put s (λj c b hb=>by
    rw[zH];intro z;subst z;exact c (r.dis j i b hb (by rw[g];exact xF))) (λb hb=>s.stay b (r.al0 b hb)) (λb hb=>r.dis0 i b (k b hb)) (xG.mpr #[λz=>d (sub a z),t])
   (λj c b hb u=>c (r.dis j i b u (k b hb))) hi (.l zK (D.go (λ_ _ x=>qj s r.al0 x) s.tups λb hb=>by
    rw[zH];intro z;subst z;exact d (sub b hb)))
  let C:Z.set i (some (V.ref a))=Z:=by
   apply xZ;intro j;by_cases c:i=j
   ·subst c;rw[xk (xa.mp ev).1,ev]
   ·rw[xi c]
  rw[C]at p;exact#[_,p,s]
end
def ORL.snoc{M:Ae}{H:Hp}{v:V}{d:PyData}(q:Rep M H v d){os:List OV}(r:ORL M H c os A):ORL M H (c++ [v]) (os++ [OV.d d]) A:=r.ind (P:=λc os A=>ORL M H (c++ [v]) (os++ [OV.d d]) A) (.cons (.d q) .nil) λr _ a=>.cons r a
def ORL.setD{M:Ae}{H:Hp}{v:V}{d:PyData}(q:Rep M H v d){os:List OV}{j:Nat}{x:PyData}(r:ORL M H c os A):os[j]?\(.d x)->ORL M H (c.set j v) (os.set j (OV.d d)) A :=
 r.ind (P:=λc os A=>∀ j:Nat,os[j]?\(.d x)->ORL M H (c.set j v) (os.set j (OV.d d)) A) (λ_ e=>nomatch e) (λr t a j e=>by
  cases j with|zero=>cases e;cases r;exact .cons (.d q) t|succ j=>exact .cons r (a j e)) j
def ORL.insD{M:Ae}{H:Hp}{v:V}{d:PyData}(q:Rep M H v d){os:List OV}(j:Nat)(r:ORL M H c os A):ORL M H (c.take j++v::c.drop j) (os.take j++OV.d d::os.drop j) A :=
 r.ind (P:=λc os A=>∀ j:Nat,ORL M H (c.take j++v::c.drop j) (os.take j++OV.d d::os.drop j) A) (λj=>by simp;exact .cons (.d q) .nil) (λr t a j=>by
  cases j with|zero=>erw[.cons (A:= []) (.d q) (.cons r t)]|succ j=>exact .cons r (a j)) j
def ORL.get{M:Ae}{H:Hp}{os:List OV}{j:Nat}{x:PyData}(r:ORL M H c os A):os[j]?\(.d x)->∃ v,c[j]?\v/\Rep M H v x :=
 r.ind (P:=λc os A=>∀ j:Nat,os[j]?\(.d x)->∃ v,c[j]?\v/\Rep M H v x) (λ_ e=>nomatch e) (λr t a j e=>by
  cases j with
  |zero=>cases e;cases r with
   |d r=>exact#[_,rfl,r]
  |succ j=>exact a j e) j
abbrev St:=L2.St
inductive R(α:Type) where|ok (a:α)|exc (x:Str) (U:Gv)|bad
def R.bind{α β:Type}(r:R α)(f:α->R β):R β:=match r with|.ok a=>f a|.exc x U=>.exc x U|.bad=>.bad
def R.get{α β:Type}(o:Option α)(f:α->R β):R β:=match o with|some a=>f a|none=>.bad
def R.bind_assoc{α β c:Type}(r:R α)(f:α->R β)(g:β->R c):(r.bind f).bind g=r.bind λa=>(f a).bind g:=by cases r<;>rfl
def R.get_bind{α β c:Type}(o:Option α)(f:α->R β)(g:β->R c):(R.get o f).bind g=R.get o λa=>(f a).bind g:=by cases o<;>rfl
def R.got{α β:Type}{o:Option α}{f:α->R β}{T:R β->Prop}(hb:T .bad->False)(h:T (R.get o f)):∃ a,o\a/\T (f a):=by
 cases o with|none=>erw[(hb h).elim]|some a=>exact#[a,rfl,h]
def R.gif{β:Type}{c:Prop}[Decidable c]{r:R β}{T:R β->Prop}(hb:T .bad->False)(h:T (if c then r else .bad)):c/\T r:=by
 by_cases q:c
 ·rw[if_pos q]at h;exact#[q,h]
 ·rw[if_neg q]at h;exact (hb h).elim
abbrev EM(α:Type):=Gv->R (α×Gv)
inductive FV where|dat (x:PyData)|own (i:Nat)
private def derf(U:Gv):FV->Option PyData
 |.dat x=>some x
 |.own i=>match U[i]? with
  |some (some o)=>some o.view
  |_=>none
private def derS(U:Gv):FV->Option PyData
 |.dat x=>some x
 |.own i=>match U[i]? with
  |some (@&x)=>some x
  |_=>none
def leaves:List OV->Option (Aa)|[]=>some []|.d x::r=>(leaves r).map (x::·)|.l _::_=>none|.t _::_=>none|.m _::_=>none|.o _ _ _::_=>none
def Qq(xs:Aa):leaves (xs.map .d)\xs:=by
 induction xs with|nil=>rfl|cons x r a=>simp[leaves,a]
def derL(U:Gv):FV->Option (Aa)
 |.dat (.list xs)=>some xs
 |.own i=>match U[i]? with
  |some (some (.l xs))=>leaves xs
  |some (@&(.list xs))=>some xs
  |_=>none
 |_=>none
def Sees(mp:Ac)(Z:Nu)(O:St):=∀(s i:Nat)(v:V),mp[s]?\i->Z[i]?\(some v)->O[s]?\(some v)
abbrev XPT:=Str->St->Hp->Prop
def EPost{α:Type}(xp:XPT)(i:Ae)(F:Fp)(Z:Nu)(O:St)(H:Hp)(P:Fp->Gv->Hp->α->Prop)(r:R (α×Gv)):Prop:=match r with|.ok (a,d)=>∀ c b,RS i c d Z b->Stp F H c b->P c d b a|.exc x d=>∀ c b,RS i c d Z b->Stp F H c b->xp x O b|.bad=>False
section
variable {α:Type}{xp:XPT}{M0:Ae}{F:Fp}{Z:Nu}{O:St}{H:Hp}
def EPost.mono(h:EPost xp M0 F Z O H P r)(k:∀ c o l a,RS M0 c o Z l->Stp F H c l->P c o l a->I c o l a):EPost xp M0 F Z O H I r:=by
 cases r with|ok a=>erw[λc l rs s=>k c _ l _ rs s (h c l rs s)]|exc x o=>erw[h]|bad=>erw[h]
def EPost.seq{r:R (α×Gv)}(h:EPost xp M0 F Z O H P (r.bind k)) :
  EPost xp M0 F Z O H (λy l H1 a=>EPost xp M0 y Z O H1 P (k (a,l))) r:=by
 cases r with
 |ok a=>
  let(a,l):=a;intro y H1 i s1;let c:EPost xp M0 F Z O H P (k (a,l)):=h;revert c;generalize k (a,l)=g;intro c;cases g with
  |ok b=>erw[λd e rs s=>c d e rs (s1.trans s)]
  |exc x f=>erw[λd e rs s=>c d e rs (s1.trans s)]
  |bad=>erw[c]
 |exc x f=>erw[h]
 |bad=>erw[h]
def EPost.step(h:EPost xp M0 F Z O H P r)(s1:Stp F H I H1):EPost xp M0 I Z O H1 P r:=by
 cases r with|ok b=>erw[λa c rs s=>h a c rs (s1.trans s)]|exc x d=>erw[λa c rs s=>h a c rs (s1.trans s)]|bad=>erw[h]
end
def FOk(c:Ae)(F:Fp)(Z:Nu)(H:Hp)(v:V):FV->Prop|.dat x=>Rep (MM c F) H v x|.own i=>Z[i]?\(some v)
section
variable {M0:Ae}{F F':Fp}{U:Gv}{Z:Nu}{H H':Hp}{v:V}{u:FV}{x:PyData}
def FOk.stp(h:FOk M0 F Z H v u)(s:Stp F H F' H')(h0:∀ a,M0 a->H a≠none):FOk M0 F' Z H' v u:=by
 cases u with|dat x=>erw[qj s h0 h]|own i=>erw[h]
def FOk.weak(h:FOk M0 F Z H v u)(rs:RS M0 F U Z H)(e:derf U u\x):Rep qr H v x:=by
 cases u with
 |dat y=>cases e;exact Rep.less (λ_ z _=>z.elim) h
 |own i=>
  dsimp only [derf]at e
  split at e
  next o q=>
   cases e;let(w,a,r):=rs.at' i o q;let b:=h;rw[b]at a;cases a;erw[r.weak]
  ·cases e
def FOk.strong(h:FOk M0 F Z H v u)(rs:RS M0 F U Z H)(e:derS U u\x):Rep (MM M0 F) H v x:=by
 cases u with
 |dat y=>cases e;exact h
 |own i=>
  dsimp only [derS]at e
  split at e
  next y q=>
   cases e;let(w,a,r):=rs.at' i _ q;let b:=h;rw[b]at a;cases a;generalize F i=A at r;cases r with
   |d r=>erw[r]
  ·cases e
def ORL.leaf{c:List V}{os:List OV}(r:ORL M H c os A):leaves os\ds->RepL M H c ds/\A= [] :=
 r.ind (P:=λc os A=>∀ ds,leaves os\ds->RepL M H c ds/\A= []) (λ_ e=>by cases e;exact#[.nil,rfl]) (λ{_ _ x xs _ _} r _ f ds e=>by
  cases r with
  |d r=>
   unfold leaves at e;cases q:leaves xs with
   |none=>rw[q]at e;cases e
   |some g=>
    rw[q]at e;cases e;let(a,b):=f _ q;exact#[.cons r a,by rw[b];rfl]
  |_=>cases e) ds
def FOk.list(h:FOk M0 F Z H v u)(rs:RS M0 F U Z H)(e:derL U u\ds):∃ a z,v=.ref a/\H a\(.lst z)/\RepL (MM M0 F) H z ds:=by
 unfold derL at e
 split at e
 ·cases e;let(a,z,rfl,b,_,r):=Rep.lst_inv h;exact#[a,z,rfl,b,r]
 next i=>
  let c:=h
  split at e
  next q=>
   let(w,b,r):=rs.at' i _ q;rw[c]at b;cases b;generalize F i=A at r;cases r with|l f g=>exact#[_,_,rfl,f,(ORL.leaf g e).1]
  next q=>
   cases e;let(w,b,r):=rs.at' i _ q;rw[c]at b;cases b;generalize F i=A at r;cases r with
   |d r=>
    let(a,z,rfl,b,_,r):=Rep.lst_inv r;exact#[a,z,rfl,b,r]
  ·cases e
 ·cases e
end
def SE(X:Cx)(mp:Ac)(e:Expr)(f:EM FV):=∀(a:Ae)(F:Fp)(U:Gv)(Z:Nu)(O:St)(H:Hp)(Q:VK),RS a F U Z H->Sees mp Z O ->
 EPost X.xp a F Z O H (λc d b u=>∀ v,FOk a c Z b v u->Q v b) (f U)->wpE X e O H Q
def SN(X:Cx)(mp:Ac)(e:Expr)(f:EM (Aa)):=∀(b:Ae)(F:Fp)(U:Gv)(Z:Nu)(O:St)(H:Hp)(Q:VK),RS b F U Z H->Sees mp Z O ->
 EPost X.xp b F Z O H (λd g a ds=>∀ c p,RepL (MM b d) a c ds->a p=none->Q (.ref p) (upd a p (.lst c))) (f U)->wpE X e O H Q
def ST(X:Cx)(mp:Ac)(e:Expr)(f:EM Bool):=∀(a:Ae)(F:Fp)(U:Gv)(Z:Nu)(O:St)(H:Hp)(Q:Bool->Hp->Prop),RS a F U Z H->Sees mp Z O ->
 EPost X.xp a F Z O H (λd g c b=>Q b c) (f U)->wpT X e O H Q
def SW(X:Cx)(mp:Ac)(e:Expr)(f:EM Bool):=∀(a:Ae)(F:Fp)(U:Gv)(Z:Nu)(O:St)(H:Hp)(Q:Bool->Hp->Prop),RS a F U Z H->Sees mp Z O ->
 EPost X.xp a F Z O H (λd g c b=>Q b c) (f U)->wpW X e O H Q
section
variable {X:Cx}{mp:Ac}{a b e:Expr}{pos p:Pos}{fa fb:EM FV}{ta:EM Bool}{na:EM (Aa)}
section
variable {β:Type}{M0:Ae}{F:Fp}{U:Gv}{Z:Nu}{O:St}{H:Hp}{P:Fp->Gv->Hp->β->Prop}
def SE.run{Q:VK}{k:FV×Gv->R (β×Gv)}(s:SE X mp a fa)(rs:RS M0 F U Z H)(y:Sees mp Z O)(h:EPost X.xp M0 F Z O H P ((fa U).bind k))
  (z:∀ i l H1 u v,RS M0 i l Z H1->Stp F H i H1->FOk M0 i Z H1 v u->EPost X.xp M0 i Z O H1 P (k (u,l))->Q v H1):wpE X a O H Q :=
 s M0 F U Z O H Q rs y (h.seq.mono λi l H1 u b s1 c v hv=>z i l H1 u v b s1 hv c)
def SN.run{Q:VK}{k:Aa×Gv->R (β×Gv)}(v:SN X mp a na)(rs:RS M0 F U Z H)(y:Sees mp Z O)(h:EPost X.xp M0 F Z O H P ((na U).bind k))
  (z:∀ i l H1 ds s p,RS M0 i l Z H1->Stp F H i H1->RepL (MM M0 i) H1 s ds->H1 p=none->EPost X.xp M0 i Z O H1 P (k (ds,l))->Q (.ref p) (upd H1 p (.lst s))):wpE X a O H Q :=
 v M0 F U Z O H Q rs y (h.seq.mono λi l H1 u b s1 c s p r n=>z i l H1 u s p b s1 r n c)
def ST.run{Q:Bool->Hp->Prop}{k:Bool×Gv->R (β×Gv)}(s:ST X mp a ta)(rs:RS M0 F U Z H)(v:Sees mp Z O)(h:EPost X.xp M0 F Z O H P ((ta U).bind k))
  (y:∀ i l H1 u,RS M0 i l Z H1->Stp F H i H1->EPost X.xp M0 i Z O H1 P (k (u,l))->Q u H1):wpT X a O H Q :=
 s M0 F U Z O H Q rs v (h.seq.mono λi l H1 u b s1 c=>y i l H1 u b s1 c)
end
private def fNew(n:EM (Aa)):EM FV:=λU=>(n U).bind λ(ds,a)=>.ok (.dat (.list ds),a)
def SN.se(h:SN X mp a na):SE X mp a (fNew na):=λg F U Z O H Q rs e hp=>
 h.run rs e hp λc i H1 ds f p b s1 r n d=>by
  let s2:Same H1 (upd H1 p (.lst f)):=qg n;erw[d c _ (b.same s2) (.same s2) _ (Rep.list zK (λz=>b.al p z n) (r.grow s2.grow))]
private def fVar(i:Nat):EM FV:=λU=>match U[i]? with|some (@&x)=>.ok (.dat x,U)|some (some (.l _))=>.ok (.own i,U)|some (some (.t _))=>.ok (.own i,U)|some (some (.m _))=>.ok (.own i,U)|some (some (.o _ _ _))=>.ok (.own i,U)|_=>.bad
def zk7 {s i:Nat}(hN:X.N[s]?\x) (hv:Vis X.env.scope x) (hm:mp[s]?\i) (hd:(↥x)) (hcd:(x==("__classdict__" :Str))=false) :
  SE X mp (.Name x pos) (fVar i):=by?
 unfold fVar at hp
 split at hp
 next y q=>
  let(v,a,r):=rs.at' i _ q;generalize b:F i=A at r;cases r with|d r=>erw[(qG hN hv hd hcd).wp #[v,hs s i v hm a,hp F H rs (.refl F H) v r]]
 next y q=>
  let(v,a,r):=rs.at' i _ q;erw[(qG hN hv hd hcd).wp #[v,hs s i v hm a,hp F H rs (.refl F H) v a]]
 next y q=>
  let(v,a,r):=rs.at' i _ q;erw[(qG hN hv hd hcd).wp #[v,hs s i v hm a,hp F H rs (.refl F H) v a]]
 next y q=>
  let(v,a,r):=rs.at' i _ q;erw[(qG hN hv hd hcd).wp #[v,hs s i v hm a,hp F H rs (.refl F H) v a]]
 next y _ _ q=>
  let(v,a,r):=rs.at' i _ q;erw[(qG hN hv hd hcd).wp #[v,hs s i v hm a,hp F H rs (.refl F H) v a]]
 ·erw[hp.elim]
private def fFrz(i:Nat):EM FV:=λU=>match U[i]? with|some (some o)=>.ok (.dat o.view,U.set i (some (.d o.view)))|_=>.bad
def zk0 {s i:Nat}(hN:X.N[s]?\x) (hv:Vis X.env.scope x) (hm:mp[s]?\i) (hd:(↥x)) (hcd:(x==("__classdict__" :Str))=false) :
  SE X mp (.Name x pos) (fFrz i):=by?
 unfold fFrz at hp;delta hp o q;let(b,v,c,a,s1,r):=rs.frz q;erw[(qG hN hv hd hcd).wp #[v,hs s i v hm c,hp b H a s1 v r]]
private def fC(x:PyData):EM FV:=λU=>.ok (.dat x,U)
def zk1{i j}:SE X mp (.Constant (.int i) j pos) (fC (.int i)):=λa F U Z O H Q rs b hp=>pe_int.wp (hp F H rs (.refl F H) _ (Rep.int i))
def zic{x j}:SE X mp (.Constant (.bool x) j pos) (fC (.bool x)):=λa F U Z O H Q rs b hp=>pe_bl.wp (hp F H rs (.refl F H) _ (Rep.bool x))
def zk5{x j}:SE X mp (.Constant (.str x) j pos) (fC (.str x)):=λa F U Z O H Q rs b hp=>pe_str.wp (hp F H rs (.refl F H) _ (Rep.str x))
def zii (hg:Gl X x) (hm:∃ t,X.mg x\(.int i t)) (hd:(↥x)):SE X mp (.Name x pos) (fC (.int i)):=by?
 let(t,hm):=hm;erw[(zaY (v:=.int i) hg hm #[t,rfl] hd).wp (hp F H rs (.refl F H) _ (Rep.int i))]
def zij (hg:Gl X x) (hm:∃ t,X.mg x\(.str i t)) (hd:(↥x)):SE X mp (.Name x pos) (fC (.str i)):=by?
 let(t,hm):=hm;erw[(zaY (v:=.str i) hg hm #[t,rfl] hd).wp (hp F H rs (.refl F H) _ (Rep.str i))]
def OpS(X:Cx)(f:Aj->Aj->Sem Aj)(g:PyData->PyData->Option PyData):=∀ x y z,g x y\z->∃ r:R2,OpR X f r/\∀(M:Ae)(H:Hp)(v u:V)(Q:VK),
 Al M H->Rep M H v x->Rep M H u y->(∀ w a,Same H a->Rep M a w z->Q w a)->r v u H Q
private def fBin(g:PyData->PyData->Option PyData)(fa fb:EM FV):EM FV:=λU=>(fa U).bind λ(u,b)=>(fb b).bind λ(w,a)=>R.get (derS a u) λx=>R.get (derS a w) λy=>R.get (g x y) λz=>.ok (.dat z,a)
def zkY(ho:OpS X (binaryOp op) g)(A:SE X mp a fa)(hb:SE X mp b fb):SE X mp (.BinOp a op b pos) (fBin g fa fb):=by?
 let key:=ho;refine (vt (r:=λv u H Q=>∃ M x y z,g x y\z/\Al M H/\Rep M H v x/\Rep M H u y/\∀ w h,Same H h->Rep M h w z->Q w h) ?_ zC zC).wp
  (A.run rs hs hp λS V H1 u v f s1 D t=>hb.run f hs t λi W T w v2 c s2 E d=>?_)
 ·rintro pins s O H x y v u Q I L N ⟨M,l,m,n,e,al,G,J,k⟩;let(r,C,B):=ho l m n e;erw[C pins s O H x y v u Q I L N (B M H x y Q al G J k)]
 ·let(x,o,d):=R.got id d;let(y,p,d):=R.got id d;let(z,q,d):=R.got id d;exact#[MM M0 i,x,y,z,q,c.al,(D.stp s2 f.al0).strong c o,E.strong c p,λP j s3 K=>d i j (c.same s3) (.same s3) P K]
def Wl(X:Cx)(op:CmpOp)(g:PyData->PyData->Option Bool):=∀ x y z,g x y\z->∃ r:R2,OpR X (compareOp op) r/\∀(H:Hp)(v u:V)(Q:VK),
 Rep qr H v x->Rep qr H u y->Q (.bl z) H->r v u H Q
private def fCmp(g:PyData->PyData->Option Bool)(fa fb:EM FV):EM Bool:=λU=>(fa U).bind λ(u,b)=>(fb b).bind λ(w,a)=>R.get (derf a u) λx=>R.get (derf a w) λy=>R.get (g x y) λz=>.ok (z,a)
private def fB(t:EM Bool):EM FV:=λU=>(t U).bind λ(b,a)=>.ok (.dat (.bool b),a)
def QF(ho:Wl X op g):OpR X (compareOp op) (λv u H Q=>∃ x y z,g x y\z/\Rep qr H v x/\Rep qr H u y/\Q (.bl z) H):=by
 rintro pins s O H x y v u Q I j l ⟨a,b,c,e,h,i,k⟩;let(r,f,d):=ho a b c e;erw[f pins s O H x y v u Q I j l (d H x y Q h i k)]
section
variable {M0:Ae}{F:Fp}{U:Gv}{Z:Nu}{O:St}{H:Hp}{β:Type}{P:Fp->Gv->Hp->β->Prop}
def zaJ{Q:VK}(s:SE X mp a fa)(hb:SE X mp b fb)(rs:RS M0 F U Z H)(r:Sees mp Z O)(hp:EPost X.xp M0 F Z O H P ((fCmp g fa fb U).bind k))
  (A:∀ l o i z,RS M0 l o Z i->Stp F H l i->EPost X.xp M0 l Z O i P (k (z,o))->Q (.bl z) i) :
  wpE X a O H λv H1=>wpE X b O H1 λu i=>∃ x y z,g x y\z/\Rep qr i v x/\Rep qr i u y/\Q (.bl z) i:=by
 unfold fCmp at hp;rw[R.bind_assoc]at hp;erw[s.run rs r hp λq t H1 u v e s1 n f=>?_];dsimp only at f;rw[R.bind_assoc]at f;erw[hb.run e r f λl o i w v2 d s2 p c=>?_];dsimp only at c;rw[R.get_bind]at c;let(x,h,c):=R.got id c;rw[R.get_bind]at c;let(y,j,c):=R.got id c;rw[R.get_bind]at c;let(z,m,c):=R.got id c;exact#[x,y,z,m,(n.stp s2 e.al0).weak d h,p.weak d j,A l o i z d (s1.trans s2) c]
end
def R.bind_ok{α:Type}(r:R α):r.bind .ok=r:=by cases r<;>rfl
def Yg(ho:Wl X op g)(i:SE X mp a fa)(hb:SE X mp b fb)(hm:behindInMarks op b=false):SE X mp (.Compare a [op] [b] pos) (fB (fCmp g fa fb)):=λj F U Z O H Q rs h hp=>
 (zhO (QF ho) zC zC hm).wp (zaJ i hb rs h hp λd k e z c s2 f=>f d e c (.refl _ _) _ (Rep.bool z))
def Yl(ho:Wl X op g)(i:SE X mp a fa)(hb:SE X mp b fb)(hm:behindInMarks op b=false):ST X mp (.Compare a [op] [b] pos) (fCmp g fa fb):=λl F U Z O H Q rs j hp=>
 (zh1 (QF ho) zC zC hm).wp (zaJ (k:=.ok) (Q:=λv e=>∃ k,v=.bl k/\Q k e) i hb rs j (by rw[R.bind_ok];exact hp) λd m f z c s2 h=>#[z,rfl,h d f c (.refl _ _)])
end
def truD:PyData->Option Bool|.none=>some false|.bool b=>some b|.int i=>some (i !=0)|.list xs=>some (!xs.isEmpty)|.tuple xs=>some (!xs.isEmpty)|_=>none
def YV(r:RepL M H vs ds):(!vs.isEmpty)= !ds.isEmpty:=by cases r<;>rfl
def za8{K:Ah}{H:Hp}{v:V}(r:Rep M H v x)(e:truD x\k):zgP K v H k:=by
 cases r with|none=>cases e;rfl|bool b=>cases e;rfl|int i=>cases e;rfl|str x=>cases e|list a n q=>cases e;exact .inl #[_,SqL.of a,(YV q).symm]|tuple a q=>cases e;exact .inr (.inl #[_,SqT.of a,(YV q).symm])|dict _ _ _ _=>cases e|inst _ _ _ _=>cases e|exo _ _ _ _ _=>cases e
section
variable {X:Cx}{mp:Ac}{a b c e:Expr}{es:Ag}{pos p p2:Pos}{fa fb fc:EM FV}{ta tb:EM Bool}
private def fTru(fa:EM FV):EM Bool:=λU=>(fa U).bind λ(u,a)=>R.get (derf a u) λx=>R.get (truD x) λk=>.ok (k,a)
def zgk(i:SE X mp a fa)(he:∀ whole,isTrue a X.env whole=(do let v<-whole;standAt a.pos;holding [v] (truthy v))):ST X mp a (fTru fa):=λh F U Z O H Q rs f hp=>
 (km zC he).wp (i.run rs f hp λd j H1 u v c s1 g b=>by
  let(x,ex,b):=R.got id b;let(k,e,b):=R.got id b;exact#[k,za8 (g.weak c ex) e,b d H1 c (.refl _ _)])
private def fNotT(ta:EM Bool):EM Bool:=λU=>(ta U).bind λ(b,a)=>.ok (!b,a)
def zls(h:ST X mp a ta):ST X mp (.UnaryOp .Not a pos) (fNotT ta):=λg F U Z O H Q rs f hp=>
 (zkJ Zw).wp (h.run rs f hp λd i H1 b c s1 e=>e d H1 c (.refl _ _))
def SW.st(h:SW X mp a ta):ST X mp a ta:=λb F U Z O H Q rs c hp pins s I=>h b F U Z O H Q rs c hp _ pins s I
def ziR(h:ST X mp a ta):SW X mp (.BoolOp .And [a] pos) ta:=λb F U Z O H Q rs c hp=>(zh2 Zw).wp (h b F U Z O H Q rs c hp)
def ziS(h:ST X mp a ta):SW X mp (.BoolOp .Or [a] pos) ta:=λb F U Z O H Q rs c hp=>(zkM Zw).wp (h b F U Z O H Q rs c hp)
private def fAndT(ta tb:EM Bool):EM Bool:=λU=>(ta U).bind λ(b,a)=>if b then tb a else .ok (false,a)
private def fOrT(ta tb:EM Bool):EM Bool:=λU=>(ta U).bind λ(b,a)=>if b then .ok (true,a) else tb a
def zgn(i:ST X mp a ta)(hb:SW X mp (.BoolOp .And (b::es) pos) tb):SW X mp (.BoolOp .And (a::b::es) pos) (fAndT ta tb):=λg F U Z O H Q rs f hp=>
 (zkL Zw za2).wp (i.run rs f hp λd h H1 b c s1 e=>by
  cases b with|true=>erw[YX (hb g d h Z O H1 Q c f e)]|false=>exact YW (e d H1 c (.refl _ _)))
def zjq(i:ST X mp a ta)(hb:SW X mp (.BoolOp .Or (b::es) pos) tb):SW X mp (.BoolOp .Or (a::b::es) pos) (fOrT ta tb):=λg F U Z O H Q rs f hp=>
 (zmq Zw za2).wp (i.run rs f hp λd h H1 b c s1 e=>by
  cases b with|true=>erw[YX (e d H1 c (.refl _ _))]|false=>exact YW (hb g d h Z O H1 Q c f e))
private def fAndV(fa fb:EM FV):EM FV:=λU=>(fa U).bind λ(u,a)=>match derf a u with|some (.bool true)=>fb a|some (.bool false)=>.ok (.dat (.bool false),a)|_=>.bad
private def fOrV(fa fb:EM FV):EM FV:=λU=>(fa U).bind λ(u,a)=>match derf a u with|some (.bool true)=>.ok (.dat (.bool true),a)|some (.bool false)=>fb a|_=>.bad
def zfY{op}(h:SE X mp a fa):SE X mp (.BoolOp op [a] pos) fa:=λb F U Z O H Q rs c hp=>(zky zC).wp (h b F U Z O H Q rs c hp)
def zfU(l:SE X mp a fa)(hb:SE X mp (.BoolOp .And (b::es) pos) fb):SE X mp (.BoolOp .And (a::b::es) pos) (fAndV fa fb):=λh F U Z O H Q rs f hp=>
 (zkx zC zC).wp (l.run rs f hp λe i H1 u v c s1 g d=>by
  dsimp only at d
  split at d
  next ex=>
   cases g.weak c ex;exact#[true,rfl,YX (hb h e i Z O H1 Q c f d)]
  next ex=>
   cases g.weak c ex;exact#[false,rfl,YW (d e H1 c (.refl _ _) _ (Rep.bool false))]
  ·exact d.elim)
def zjp(l:SE X mp a fa)(hb:SE X mp (.BoolOp .Or (b::es) pos) fb):SE X mp (.BoolOp .Or (a::b::es) pos) (fOrV fa fb):=λh F U Z O H Q rs f hp=>
 (zmn zC zC).wp (l.run rs f hp λe i H1 u v c s1 g d=>by
  dsimp only at d
  split at d
  next ex=>
   cases g.weak c ex;exact#[true,rfl,YX (d e H1 c (.refl _ _) _ (Rep.bool true))]
  next ex=>
   cases g.weak c ex;exact#[false,rfl,YW (hb h e i Z O H1 Q c f d)]
  ·exact d.elim)
def ziY:UnR X (unaryOp .Not) (λx H Q=>∃ k,zgP X.K x H k/\Q (.bl (!k)) H):=by
 intro pins s O H x v Q I e h;let(k,hk,q):=h;erw[not_of (thn (zgr pins s O H x v _ I e #[k,hk,q]) λb f ⟨a,c,d⟩=>#[.bl (!b),a,c,rfl,d])]
def zk3(i:SE X mp a fa):SE X mp (.UnaryOp .Not a pos) (fB (fNotT (fTru fa))):=by?
 unfold fB fNotT fTru at hp;rw[R.bind_assoc,R.bind_assoc]at hp;erw[(zfx ziY zC).wp (i.run rs hs hp λd g H1 u v c s1 f b=>?_)];dsimp only at b;rw[R.get_bind]at b;let(x,ex,b):=R.got id b;rw[R.get_bind]at b;let(k,e,b):=R.got id b;exact#[k,za8 (f.weak c ex) e,b d H1 c (.refl _ _) _ (Rep.bool _)]
private def fIf(t:EM Bool)(fa fb:EM FV):EM FV:=λU=>(t U).bind λ(b,a)=>if b then fa a else fb a
def zmA(hc:ST X mp c ta)(l:SE X mp a fa)(hb:SE X mp b fb):SE X mp (.IfExp c a b pos) (fIf ta fa fb):=λg F U Z O H Q rs e hp=>
 (zft Zw zC zC).wp (hc.run rs e hp λf h H1 b d s1 i=>by
  cases b with|true=>erw[YX (l g f h Z O H1 Q d e i)]|false=>exact YW (hb g f h Z O H1 Q d e i))
private def fChain(g i:PyData->PyData->Option Bool)(fa fb fc:EM FV):EM Bool:=λU=>(fa U).bind λ(u,c)=>(fb c).bind λ(w,a)=>R.get (derf a u) λx=>R.get (derf a w) λy=>R.get (g x y) λt=>if t then (fc a).bind λ(t,b)=>R.get (derf b w) λy=>R.get (derf b t) λz=>R.get (i y z) λk=>.ok (k,b) else .ok (false,a)
section
variable {M0:Ae}{F:Fp}{U:Gv}{Z:Nu}{O:St}{H:Hp}{β:Type}{P:Fp->Gv->Hp->β->Prop}
def VB{Q:VK}(K:SE X mp a fa)(hb:SE X mp b fb)(hc:SE X mp c fc)(rs:RS M0 F U Z H)(r:Sees mp Z O)(hp:EPost X.xp M0 F Z O H P ((fChain g J fa fb fc U).bind k))
  (s:∀ l o i z,RS M0 l o Z i->EPost X.xp M0 l Z O i P (k (z,o))->Q (.bl z) i) :
  zar (λv u H Q=>∃ x y z,g x y\z/\Rep qr H v x/\Rep qr H u y/\Q (.bl z) H) (λv u H Q=>∃ x y z,J x y\z/\Rep qr H v x/\Rep qr H u y/\Q (.bl z) H) (wpE X a) (wpE X b) (wpE X c) O H Q:=by
 unfold fChain at hp;rw[R.bind_assoc]at hp;erw[K.run rs r hp λN S H1 u v h s1 L m=>?_];dsimp only at m;rw[R.bind_assoc]at m;erw[hb.run h r m λl o i w v2 f s2 n d=>?_];dsimp only at d;rw[R.get_bind]at d;let(x,B,d):=R.got id d;rw[R.get_bind]at d;let(y,C,d):=R.got id d;rw[R.get_bind]at d;let(t,D,d):=R.got id d;refine#[x,y,t,D,(L.stp s2 h.al0).weak f B,n.weak f C,t,rfl,?_];cases t with
 |false=>erw[YW (s l o i false f d)]
 |true=>
  rw[if_pos rfl,R.bind_assoc]at d;erw[YX (hc.run f r d λp A q t v3 j s3 o3 e=>?_)];dsimp only at e;rw[R.get_bind]at e;let(M,E,e):=R.got id e;rw[R.get_bind]at e;let(z,G,e):=R.got id e;rw[R.get_bind]at e;let(kz,I,e):=R.got id e;exact#[M,z,kz,I,(n.stp s3 f.al0).weak j E,o3.weak j G,s p A q kz j e]
end
def Ei(ho:Wl X op g)(i:Wl X o I)(l:SE X mp a fa)(hb:SE X mp b fb)(hc:SE X mp c fc)(hm:lastMarks [op,o] [b,c]=false) :
  SE X mp (.Compare a [op,o] [b,c] pos) (fB (fChain g I fa fb fc)):=λk F U Z O H Q rs j hp=>
 (zfn (QF ho) (QF i) zC zC zC hm).wp (VB l hb hc rs j hp λe m f z d h=>h e f d (.refl _ _) _ (Rep.bool z))
def zgi(ho:Wl X op g)(i:Wl X o I)(l:SE X mp a fa)(hb:SE X mp b fb)(hc:SE X mp c fc)(hm:lastMarks [op,o] [b,c]=false) :
  ST X mp (.Compare a [op,o] [b,c] pos) (fChain g I fa fb fc):=λm F U Z O H Q rs j hp=>
 (zfM (QF ho) (QF i) zC zC zC hm).wp (VB (k:=.ok) l hb hc rs j (by rw[R.bind_ok];exact hp) λe n f z d h=>#[z,rfl,h e f d (.refl _ _)])
inductive FOks(M0:Ae)(F:Fp)(Z:Nu)(H:Hp):List V->List FV->Prop|nil:FOks M0 F Z H [] []|cons {v:V} {vs:List V} {u:FV} {us:List FV}:FOk M0 F Z H v u->FOks M0 F Z H vs us->FOks M0 F Z H (v::vs) (u::us)
def derSs(U:Gv):List FV->Option (Aa)
 |[]=>some []
 |u::us=>match derS U u,derSs U us with
  |some x,some xs=>some (x::xs)
  |_,_=>none
def FOks.strong(rs:RS o F U Z H)(r:FOks o F Z H I us):∀{ds:Aa},derSs U us\ds->RepL (MM o F) H I ds:=by
 induction r with
 |nil=>intro _ e;cases e;exact .nil
 |cons h _ c=>
  intro _ e;unfold derSs at e
  split at e
  next a b=>
   cases e;erw[.cons (h.strong rs a) (c b)]
  ·cases e
def FOks.length(h:FOks I F Z H vs us):↑vs=↑us:=by
 induction h with|nil=>rfl|cons _ _ a=>erw[congrArg (·+1) a]
def SL(X:Cx)(mp:Ac)(es:Ag)(f:EM (List FV)):=∀(a:Ae)(F:Fp)(U:Gv)(Z:Nu)(O:St)(H:Hp)(Q:List V->Hp->Prop),RS a F U Z H->Sees mp Z O ->
 EPost X.xp a F Z O H (λd e b us=>∀ c,FOks a d Z b c us->Q c b) (f U)->wpA X es O H Q
def SL.run{β:Type}{l:Ae}{F:Fp}{U:Gv}{Z:Nu}{O:St}{H:Hp}{P:Fp->Gv->Hp->β->Prop}{fl:EM (List FV)}{Q:List V->Hp->Prop}{k:List FV×Gv->R (β×Gv)}(z:SL X mp es fl)(rs:RS l F U Z H)(A:Sees mp Z O)(h:EPost X.xp l F Z O H P ((fl U).bind k))
  (B:∀ i s H1 us y,RS l i s Z H1->Stp F H i H1->FOks l i Z H1 y us->EPost X.xp l i Z O H1 P (k (us,s))->Q y H1):wpA X es O H Q :=
 z l F U Z O H Q rs A (h.seq.mono λi s H1 u a s1 b v hv=>B i s H1 u v a s1 hv b)
private def fNil:EM (List FV):=λU=>.ok ([],U)
private def fCons(fa:EM FV)(fl:EM (List FV)):EM (List FV):=λU=>(fa U).bind λ(u,a)=>(fl a).bind λ(us,b)=>.ok (u::us,b)
def zle:SL X mp [] fNil:=λa F U Z O H Q rs b hp=>pa_nil.wp (hp F H rs (.refl _ _) [] .nil)
def zix{fl:EM (List FV)}(l:SE X mp a fa)(hl:SL X mp es fl)(i:starEach (a::es) X.env=(false,eval a X.env)::starEach es X.env):SL X mp (a::es) (fCons fa fl):=λn F U Z O H Q rs d hp=>
 (zY zC Zv i).wp (l.run rs d hp λm o H1 u v b s1 j g=>hl.run b d g λe p f us q c s2 k h=>h e f c (.refl _ _) _ (.cons (j.stp s2 b.al0) k))
def sz6{n:Nat}(h:n<=1000000):n<=sizeLine:=by have:=Xg;lia
private def fTup(fl:EM (List FV)):EM FV:=λU=>(fl U).bind λ(us,a)=>R.get (derSs a us) λds=>if ↑us<=1000000 then .ok (.dat (.tuple ds),a) else .bad
private def fLst(fl:EM (List FV)):EM (Aa):=λU=>(fl U).bind λ(us,a)=>R.get (derSs a us) λds=>if ↑us<=1000000 then .ok (ds,a) else .bad
def zk6{fl:EM (List FV)}{o}(h:SL X mp es fl):SE X mp (.Tuple es o pos) (fTup fl):=λi F U Z O H Q rs f hp=>
 (zfw Zv).wp (h.run rs f hp λd j H1 us k b s1 c a=>by
  let(ds,e,a):=R.got id a;let(g,a):=R.gif id a;exact#[by rw[c.length];exact sz6 g,λp n=>a d _ (b.same (qg n)) (.same (qg n)) _ (Rep.tuple zK ((c.strong b e).grow (qg n).grow))])
def zli{fl:EM (List FV)}(h:SL X mp es fl):SN X mp (.List es pos) (fLst fl):=λj F U Z O H Q rs f hp=>
 (zfv Zv).wp (h.run rs f hp λd k H1 us i b s1 c a=>by
  let(ds,e,a):=R.got id a;let(g,a):=R.gif id a;exact#[by rw[c.length];exact sz6 g,λp n=>a d H1 b (.refl _ _) i p (c.strong b e) n])
private def itemF(U:Gv)(u:FV)(i:Int):Option PyData:=match u with
 |.dat (.list xs)=>atI xs i
 |.dat (.tuple xs)=>atI xs i
 |.own k=>match U[k]? with
  |some (some (.l xs))=>match atI xs i with
   |some (.d x)=>some x
   |_=>none
  |some (@&(.list xs))=>atI xs i
  |_=>none
 |_=>none
def zgT{α:Type}{xs:List α}{i:Int}{x:α}(h:atI xs i\x):∃ j,ixN ↑xs i\j/\xs[j]?\x:=by
 unfold atI at h;cases e:ixN ↑xs i with|none=>rw[e]at h;cases h|some j=>rw[e]at h;exact#[j,rfl,h]
def zjD{α:Type}{xs:List α}{i:Int}{x:α}{j:Nat}(h:ixN ↑xs i\j)(l:xs[j]?\x):atI xs i\x:=by
 unfold atI;rw[h];exact l
def FOk.item{B:Ae}{F:Fp}{U:Gv}{Z:Nu}{H:Hp}{v:V}{u:FV}{i:Int}{x:PyData}{K:Ah}(h:FOk B F Z H v u)(rs:RS B F U Z H)(e:itemF U u i\x) :
  ∃ l z w,v=.ref l/\(SqL K H l z∨SqT K H l z)/\atI z i\w/\Rep (MM B F) H w x:=by
 unfold itemF at e
 split at e
 ·let(a,z,rfl,b,_,r):=Rep.lst_inv h;let(w,c,f):=yt r e;exact#[a,z,w,rfl,.inl (SqL.of b),c,f]
 ·let(a,z,rfl,b,r):=Rep.tup_inv h;let(w,c,f):=yt r e;exact#[a,z,w,rfl,.inr (SqT.of b),c,f]
 next k=>
  let m:=h
  split at e
  next q=>
   split at e
   next y s=>
    cases e;let(w,b,r):=rs.at' k _ q;rw[m]at b;cases b;generalize F k=A at r;cases r with
    |l p n=>
     let(j,g,o):=zgT s;let(w,c,r):=n.get o;rw[<- ↑n]at g;exact#[_,_,w,rfl,.inl (SqL.of p),zjD g c,r]
   ·cases e
  next q=>
   let(w,b,r):=rs.at' k _ q;rw[m]at b;cases b;generalize F k=A at r;cases r with
   |d r=>
    let(a,z,rfl,b,_,r):=Rep.lst_inv r;let(w,c,f):=yt r e;exact#[a,z,w,rfl,.inl (SqL.of b),c,f]
  ·cases e
 ·cases e
private def fIx(fa fb:EM FV):EM FV:=λU=>(fa U).bind λ(u,b)=>(fb b).bind λ(w,a)=>match derf a w with|some (.int i)=>R.get (itemF a u i) λx=>.ok (.dat x,a)|_=>.bad
def zmB(r:SE X mp a fa)(hb:SE X mp b fb)(hx:w9 b):SE X mp (.Subscript a b pos) (fIx fa fb):=λt F U Z O H Q rs k hp=>
 (zfu (ix_list.or zka) zC zC hx).wp (r.run rs k hp λs y H1 u v f s1 p o=>hb.run f k o λg A h w v2 c s2 q d=>by
  delta d i e1;let(x,n,d):=R.got id d;let(l,m,z,rfl,e,j,rz):=(p.stp s2 f.al0).item c n;cases q.weak c e1;rcases e with e | e
  ·erw[.inl #[l,m,i,z,rfl,rfl,e,j,d g h c (.refl _ _) z rz]]
  ·exact .inr #[l,m,i,z,rfl,rfl,e,j,d g h c (.refl _ _) z rz])
def Js{α:Type}(xs:List α)(lo hi:Option Int):List α:=(xs.drop (HT.sIx ↑xs 0 lo)).take (HT.sIx ↑xs ↑xs hi-HT.sIx ↑xs 0 lo)
def kt(r:RepL M H o ds)(lo hi:Option Int):RepL M H (JV o lo hi) (Js ds lo hi):=by
 unfold JV Js;rw[r.length];erw[(r.drop _).take _]
def SOp(X:Cx)(mp:Ac)(e:Option Expr)(f:EM (Option Int)):=∃ t:TO,PO X e t/\∀(a:Ae)(F:Fp)(U:Gv)(Z:Nu)(O:St)(H:Hp)(Q:Option Int->Hp->Prop),RS a F U Z H->Sees mp Z O ->
 EPost X.xp a F Z O H (λd g c b=>Q b c) (f U)->t O H Q
private def zeH:EM (Option Int):=λU=>.ok (none,U)
private def YR(fa:EM FV):EM (Option Int):=λU=>(fa U).bind λ(u,a)=>match derf a u with|some (.int i)=>.ok (some i,a)|_=>.bad
def ziG:SOp X mp none zeH:=#[_,Yc,λa F U Z O H Q rs b hp=>hp F H rs (.refl _ _)]
def za5(l:SE X mp a fa):SOp X mp (some a) (YR fa):=⟨_,Yd zC,λh F U Z O H Q rs f hp=>l.run rs f hp λd j H1 u v b s1 g c=>by
 dsimp only at c
 split at c
 next i e=>
  cases g.weak b e;exact#[i,rfl,c d H1 b (.refl _ _)]
 ·exact c.elim⟩
private def zhf(fa:EM FV)(fl i:EM (Option Int)):EM (Aa):=λU=>(fa U).bind λ(u,b)=>(fl b).bind λ(lo,c)=>(i c).bind λ(hi,a)=>R.get (derL a u) λds=>.ok (Js ds lo hi,a)
def zlh{lo hi:Option Expr}(y:SE X mp a fa)(hl:SOp X mp lo fl)(z:SOp X mp hi I):SN X mp (.Subscript a (.Slice lo hi none p2) pos) (zhf fa fl I):=by?
 let(J,B,w):=hl;let(G,A,t):=z;erw[(Jy Yh zC B A).wp (y.run rs hs hp λg m H1 u v b s1 x r=>?_)];erw[w M0 g m Z O H1 _ b hs (r.seq.mono λh o j lo c s2 s=>?_)];erw[t M0 h o Z O j _ c hs (s.seq.mono λi E k hi f s3 d=>?_)];let(ds,e,d):=R.got id d;let(l,D,rfl,q,C):=((x.stp s2 b.al0).stp s3 c.al0).list f e;exact#[l,D,rfl,SqL.of q,λp n=>d i k f (.refl _ _) _ p (kt C lo hi) n]
private def K5(fa fb:EM FV):EM (Aa):=λU=>(fa U).bind λ(u,c)=>(fb c).bind λ(w,a)=>R.get (derL a u) λxs=>R.get (derL a w) λb=>if ↑xs+↑b<=1000000 then .ok (xs++b,a) else .bad
def zlg(s:SE X mp a fa)(hb:SE X mp b fb):SN X mp (.BinOp a .Add b pos) (K5 fa fb):=λB F U Z O H Q rs g hp=>
 (vt zkp zC zC).wp (s.run rs g hp λA C H1 u v e s1 x r=>hb.run e g r λj D k w v2 d s2 y c=>by
  let(xs,m,c):=R.got id c;let(E,o,c):=R.got id c;let(t,c):=R.gif id c;let(l,z,rfl,q,h):=(x.stp s2 e.al0).list d m;let(l2,i,rfl,el2,f):=y.list d o;exact#[l,l2,z,i,rfl,rfl,q,el2,by rw[h.length,f.length];exact sz6 t,λp n=>c j k d (.refl _ _) _ p (h.append f) n])
structure BiK(X:Cx)(x:Str)(val:Aj):Prop where
 gl:Gl X x
 mg:X.mg x=none
 bt:bootBuiltins x\val
 n:x≠ "__name__"
 d:(↥x)
def lenD:PyData->Option Nat|.list xs=>some ↑xs|.tuple xs=>some ↑xs|_=>none
private def f1(g:PyData->Option PyData)(fa:EM FV):EM FV:=λU=>(fa U).bind λ(u,a)=>R.get (derf a u) λx=>R.get (g x) λy=>.ok (.dat y,a)
def wo(X:Cx)(f:Aj)(g:PyData->Option PyData):=∀ x z,g x\z->noL z=true/\∃ r,j6 X f r/\∀(H:Hp)(v:V)(Q:VK),
 Rep qr H v x->(∀ w,Rep qr H w z->Q w H)->r [v] H Q
def Yw(ho:wo X f g):j6 X f (λi H Q=>∃ v x z,i= [v]/\g x\z/\Rep qr H v x/\∀ w,Rep qr H w z->Q w H):=by
 rintro pins s O H xs us Q I r ⟨v,x,z,rfl,e,c,k⟩;let(_,d,b,a):=ho x z e;erw[b pins s O H [v] us Q I r (a H v Q c k)]
def zeG{Q:VK}(B:∀ x z,g x\z->noL z=true)(s:SE X mp a fa)(rs:RS o F U Z H)(A:Sees mp Z O)(i:a⁻¹)
  (hp:EPost X.xp o F Z O H (λr G l u=>∀ v,FOk o r Z l v u->Q v l) (f1 g fa U)):wpA X [a] O H λE H1=>∃ v x z,E= [v]/\g x\z/\Rep qr H1 v x/\∀ w,Rep qr H1 w z->Q w H1 :=
 (zY zC pa_nil i).wp (s.run rs A hp λe j H1 u v c s1 h b=>by
  let(x,ex,b):=R.got id b;let(y,d,b):=R.got id b;exact#[v,x,y,rfl,d,h.weak c ex,λw f=>b e H1 c (.refl _ _) w (Rep.free (B x y d) f)])
def za4{id:String}(ho:wo X (.builtin id) g)(B:BiK X x (.builtin id))(l:SE X mp a fa)(i:a⁻¹):SE X mp (.Call (.Name x p) [a] [] pos) (f1 g fa):=λc F U Z O H Q rs b hp=>
 (Qs (Yw ho) B.gl B.mg B.bt Zv B.n B.d i rfl).wp (zeG (λx z e=>(ho x z e).1) l rs b i hp)
def zmD{id:String}(ho:wo X (.type id) g)(B:BiK X x (.type id))(l:SE X mp a fa)(i:a⁻¹):SE X mp (.Call (.Name x p) [a] [] pos) (f1 g fa):=λc F U Z O H Q rs b hp=>
 (jU (Yw ho) B.gl B.mg B.bt Zv B.n B.d i rfl).wp (zeG (λx z e=>(ho x z e).1) l rs b i hp)
def gLen(x:PyData):Option PyData:=(lenD x).map λn=>.int n
def zjP:wo X (.builtin "len") gLen:=λx z e=>by
 cases x with
 |list xs=>cases e;exact⟨rfl,_,ZX,λH v Q r k=>by
   let(l,c,rfl,a,_,b):=r.lst_inv;exact#[l,c,rfl,.inl (SqL.of a),by rw[b.length];exact k _ (.int _)]⟩
 |tuple xs=>cases e;exact⟨rfl,_,ZX,λH v Q r k=>by
   let(l,c,rfl,a,b):=r.tup_inv;exact#[l,c,rfl,.inr (SqT.of a),by rw[b.length];exact k _ (.int _)]⟩
 |_=>cases e
def gInt:PyData->Option PyData|.int i=>some (.int i)|.bool b=>some (.int (if b then 1 else 0))|_=>none
def zjO:wo X (.type "int") gInt:=λx z e=>by
 cases x with|int i=>cases e;exact#[rfl,_,VA,λH v Q r k=>by cases r;exact .inl #[i,rfl,k _ (.int _)]]|bool b=>cases e;exact#[rfl,_,VA,λH v Q r k=>by cases r;exact .inr #[b,rfl,k _ (.int _)]]|_=>cases e
def qt:Aa->Option (List Bool)|[]=>some []|.bool b::r=>(qt r).map (b::·)|_=>none
def Qn(bs:List Bool):qt (bs.map .bool)\bs:=by
 induction bs with|nil=>rfl|cons b r a=>simp[qt,a]
def Q6:∀{ds:Aa}{bs:List Bool},qt ds\bs->ds=bs.map .bool
 |[],bs,e=>by cases e;rfl
 |.bool b::r,bs,e=>by
  unfold qt at e;cases q:qt r with
  |none=>rw[q]at e;cases e
  |some l=>rw[q]at e;cases e;rw[Q6 q];rfl
 |.none::r,bs,e=>by cases e
 |.int _::r,bs,e=>by cases e
 |.str _::r,bs,e=>by cases e
 |.list _::r,bs,e=>by cases e
 |.tuple _::r,bs,e=>by cases e
 |.dict _::r,bs,e=>by cases e
def gAll:PyData->Option PyData|.list xs=>(qt xs).map λbs=>.bool (bs.all id)|_=>none
def gAny:PyData->Option PyData|.list xs=>(qt xs).map λbs=>.bool (bs.any id)|_=>none
def zjM (hc:X.calm=true):wo X (.builtin "all") gAll:=λx z e=>by
 cases x with
 |list xs=>
  dsimp only [gAll]at e;cases q:qt xs with
  |none=>rw[q]at e;cases e
  |some bs=>
   rw[q]at e;cases e;exact⟨rfl,_,zbu hc,λH v Q r k=>by
    let(l,c,rfl,a,_,b):=r.lst_inv;rw[Q6 q]at b;rw[b.bls]at a;exact#[l,bs,rfl,SqL.of a,k _ (.bool _)]⟩
 |_=>cases e
def zjN (hc:X.calm=true):wo X (.builtin "any") gAny:=λx z e=>by
 cases x with
 |list xs=>
  dsimp only [gAny]at e;cases q:qt xs with
  |none=>rw[q]at e;cases e
  |some bs=>
   rw[q]at e;cases e;exact⟨rfl,_,zbv hc,λH v Q r k=>by
    let(l,c,rfl,a,_,b):=r.lst_inv;rw[Q6 q]at b;rw[b.bls]at a;exact#[l,bs,rfl,SqL.of a,k _ (.bool _)]⟩
 |_=>cases e
def zcY(U:Gv)(u:FV):Option (Aa):=match u with|.dat (.tuple xs)=>some xs|u=>derL U u
def FOk.seq{K:Ah}(h:FOk I F Z H v u)(rs:RS I F U Z H)(e:zcY U u\ds) :
  ∃ l y,v=.ref l/\(SqL K H l y∨SqT K H l y)/\RepL (MM I F) H y ds:=by
 unfold zcY at e
 split at e
 ·cases e;let(a,y,rfl,b,r):=Rep.tup_inv h;exact#[a,y,rfl,.inr (SqT.of b),r]
 ·let(a,y,rfl,b,r):=h.list rs e;exact#[a,y,rfl,.inl (SqL.of b),r]
private def fListC(fa:EM FV):EM (Aa):=λU=>(fa U).bind λ(u,a)=>R.get (zcY a u) λds=>.ok (ds,a)
def ziA (B:BiK X x (.type "list")) (o:SE X mp a fa) (i:a⁻¹):SN X mp (.Call (.Name x p) [a] [] pos) (fListC fa):=λk F U Z O H Q rs h hp=>
 (jU Jp B.gl B.mg B.bt (zY zC pa_nil i) B.n B.d i rfl).wp (o.run rs h hp λf m H1 u v b s1 j c=>by
  let(ds,e,c):=R.got id c;let(l,d,rfl,g,r):=j.seq b e;exact#[l,d,rfl,g,λp n=>c f H1 b (.refl _ _) d p r n])
private def fTupC(fa:EM FV):EM FV:=λU=>(fa U).bind λ(u,a)=>R.get (derL a u) λds=>.ok (.dat (.tuple ds),a)
def zfZ (B:BiK X x (.type "tuple")) (o:SE X mp a fa) (i:a⁻¹):SE X mp (.Call (.Name x p) [a] [] pos) (fTupC fa):=λk F U Z O H Q rs g hp=>
 (jU v5 B.gl B.mg B.bt (zY zC pa_nil i) B.n B.d i rfl).wp (o.run rs g hp λd m H1 u v b s1 h c=>by
  let(ds,e,c):=R.got id c;let(l,j,rfl,f,r):=h.list b e;exact#[l,j,rfl,.inl #[SqL.of f,λp n=>c d _ (b.same (qg n)) (.same (qg n)) _ (Rep.tuple zK (r.grow (qg n).grow))]])
private def f2(g:PyData->PyData->Option PyData)(fa fb:EM FV):EM FV:=λU=>(fa U).bind λ(u,b)=>(fb b).bind λ(w,a)=>R.get (derf a u) λx=>R.get (derf a w) λy=>R.get (g x y) λz=>.ok (.dat z,a)
def gMin:PyData->PyData->Option PyData|.int i,.int j=>some (.int (if j<i then j else i))|_,_=>none
def gMax:PyData->PyData->Option PyData|.int i,.int j=>some (.int (if j>i then j else i))|_,_=>none
def zeN(h:gMin x y\z):∃ i j,x=.int i/\y=.int j/\z=.int (if j<i then j else i):=by
 cases x<;>cases y<;>cases h;exact#[_,_,rfl,rfl,rfl]
def zeM(h:gMax x y\z):∃ i j,x=.int i/\y=.int j/\z=.int (if j>i then j else i):=by
 cases x<;>cases y<;>cases h;exact#[_,_,rfl,rfl,rfl]
def zin (hc:X.calm=true) (B:BiK X x (.builtin "min")) (r:SE X mp a fa) (hb:SE X mp b fb) (l:starEach [a,b] X.env=(false,eval a X.env)::starEach [b] X.env) (o:b⁻¹) :
  SE X mp (.Call (.Name x p) [a,b] [] pos) (f2 gMin fa fb):=λC F U Z O H Q rs f hp=>
 (Qs (zby hc) B.gl B.mg B.bt (zY zC (zY zC pa_nil o) l) B.n B.d l (by rw[o];rfl)).wp (r.run rs f hp λA D H1 u v e s1 s q=>hb.run e f q λg E h w v2 d s2 t c=>by
  let(x,k,c):=R.got id c;let(y,m,c):=R.got id c;let(z,n,c):=R.got id c;let(i,j,rfl,rfl,rfl):=zeN n;cases (s.stp s2 e.al0).weak d k;cases t.weak d m;exact#[i,j,rfl,c g h d (.refl _ _) _ (Rep.int _)])
def zim (hc:X.calm=true) (B:BiK X x (.builtin "max")) (r:SE X mp a fa) (hb:SE X mp b fb) (l:starEach [a,b] X.env=(false,eval a X.env)::starEach [b] X.env) (o:b⁻¹) :
  SE X mp (.Call (.Name x p) [a,b] [] pos) (f2 gMax fa fb):=λC F U Z O H Q rs f hp=>
 (Qs (zbx hc) B.gl B.mg B.bt (zY zC (zY zC pa_nil o) l) B.n B.d l (by rw[o];rfl)).wp (r.run rs f hp λA D H1 u v e s1 s q=>hb.run e f q λg E h w v2 d s2 t c=>by
  let(x,k,c):=R.got id c;let(y,m,c):=R.got id c;let(z,n,c):=R.got id c;let(i,j,rfl,rfl,rfl):=zeM n;cases (s.stp s2 e.al0).weak d k;cases t.weak d m;exact#[i,j,rfl,c g h d (.refl _ _) _ (Rep.int _)])
def gNeg:PyData->Option PyData|.int i=>some (.int (-i))|_=>none
def zk2(l:SE X mp a fa):SE X mp (.UnaryOp .USub a pos) (f1 gNeg fa):=λh F U Z O H Q rs f hp=>
 (zfx zgu zC).wp (l.run rs f hp λe j H1 u v c s1 g b=>by
  let(x,ex,b):=R.got id b;let(y,d,b):=R.got id b;cases x with
  |int i=>
   cases d;cases g.weak c ex;exact#[i,rfl,b e H1 c (.refl _ _) _ (Rep.int _)]
  |_=>cases d)
open Classical in
def binD(op:Operator)(x y:PyData):Option PyData:=match op with
 |.Add=>match x,y with
  |.int i,.int j=>some (.int (i+j))
  |.tuple a,.tuple b=>if ↑a+↑b<=1000000 then some (.tuple (a++b)) else none
  |_,_=>none
 |.Sub=>match x,y with
  |.int i,.int j=>some (.int (i-j))
  |_,_=>none
 |.Mult=>match x,y with
  |.int i,.int j=>if (-(2 ^ 64)<i/\i<2 ^ 64)∨(-(2 ^ 64)<j/\j<2 ^ 64) then some (.int (i*j)) else none
  |.tuple a,.int n=>if 0<=n/\n<1000000/\↑a*n.toNat<=1000000 then some (.tuple (List.replicate n.toNat a).flatten) else none
  |_,_=>none
 |.Mod=>match x,y with
  |.int i,.int j=>if 0<j then some (.int (i % j)) else none
  |_,_=>none
 |.FloorDiv=>match x,y with
  |.int i,.int j=>if 0<j/\j<1073741824 then some (.int (i / j)) else none
  |_,_=>none
 |.Pow=>match x,y with
  |.int i,.int j=>if 0<=j/\j<=1000000/\i.natAbs<2 ^ 64 then some (.int (i ^ j.toNat)) else none
  |_,_=>none
 |.LShift=>match x,y with
  |.int i,.int j=>if 0<=j/\j<=1000000/\i.natAbs<2 ^ 64 then some (.int (i*2 ^ j.toNat)) else none
  |_,_=>none
 |.RShift=>match x,y with
  |.int i,.int j=>if 0<=j then some (.int (i / 2 ^ j.toNat)) else none
  |_,_=>none
 |.BitAnd=>match x,y with
  |.int i,.int j=>some (.int (Builtin.bitAnd i j))
  |_,_=>none
 |_=>none
def Jf{x y z:PyData}{f:Int->Int->Option PyData}(e:(match x,y with|.int i,.int j=>f i j|_,_=>none)=some z):∃ i j,x=.int i/\y=.int j/\f i j\z:=by
 split at e
 ·exact#[_,_,rfl,rfl,e]
 ·cases e
def jQ{α:Type}{c:Prop}{_:Decidable c}{x z:α}(e:(if c then some x else none)\z):c/\x=z:=by
 grind
def zhp{op:Operator}{x y z:PyData}{i j k:Int}{C:Int->Int->Prop}{f:Int->Int->Int}(hc:C i j)(ho:OpR X (binaryOp op) (rI C λi j=>.int (f i j))) :
  ∃ r:R2,OpR X (binaryOp op) r/\∀(M:Ae)(H:Hp)(v u:V)(Q:VK),Al M H->Rep M H v (.int i)->Rep M H u (.int j)->(∀ w l,Same H l->Rep M l w (.int (f i j))->Q w l)->r v u H Q :=
 #[_,ho,λM H v u Q _ a b k=>by cases a;cases b;exact#[i,j,rfl,rfl,hc,k _ H (Same.refl H) (.int _)]]
def W8{op:Operator}{i j:Int}{f:Int->Int->Int}(ho:OpR X (binaryOp op) (rI0 λi j=>.int (f i j))) :
  ∃ r:R2,OpR X (binaryOp op) r/\∀(M:Ae)(H:Hp)(v u:V)(Q:VK),Al M H->Rep M H v (.int i)->Rep M H u (.int j)->(∀ w l,Same H l->Rep M l w (.int (f i j))->Q w l)->r v u H Q :=
 #[_,ho,λM H v u Q _ a b k=>by cases a;cases b;exact#[i,j,rfl,rfl,k _ H (Same.refl H) (.int _)]]
def zjG(op:Operator):OpS X (binaryOp op) (binD op):=λx y z e=>by
 let ii:∀{f:Int->Int->Int}{C:Int->Int->Prop}(_:OpR X (binaryOp op) (rI C λi j=>.int (f i j))),(∃ i j,x=.int i/\y=.int j/\C i j/\PyData.int (f i j)=z)->∃ r:R2,OpR X (binaryOp op) r/\∀(M:Ae)(H:Hp)(v u:V)(Q:VK),Al M H->Rep M H v x->Rep M H u y->(∀ w g,Same H g->Rep M g w z->Q w g)->r v u H Q:=λho ⟨i,j,t,m,h,A⟩=>by
  subst t m A;erw[zhp (x:=.none) (y:=.none) (z:=.none) (k:=0) h ho]
 cases op with
 |Add=>
  dsimp only [binD]at e
  split at e
  ·cases e;exact W8 zai
  ·let(h,rfl):=jQ e;exact⟨_,zfj,λM H v u Q _ c d k=>by
    let(l,q,rfl,e,r):=c.tup_inv;let(l2,s,rfl,m,o):=d.tup_inv;refine#[l,l2,q,s,rfl,rfl,SqT.of e,SqT.of m,by rw[r.length,o.length];exact sz6 h,λz=>k _ H (Same.refl H) ?_,λz=>k _ H (Same.refl H) ?_,λp np=>k _ _ (qg np) (.tuple zK ((r.append o).grow (qg np).grow))]
    ·subst z;cases r;erw[d]
    ·subst z;cases o;rw[xT];exact c⟩
  ·cases e
 |Sub=>
  let(i,j,rfl,rfl,e):=Jf e;cases e;exact W8 zkw
 |Mult=>
  dsimp only [binD]at e
  split at e
  ·erw[ii zfm #[_,_,rfl,rfl,(jQ e :)]]
  next n=>
   let(h,rfl):=jQ e;exact⟨_,zhM,λM H v u Q _ c d k=>by
    let(l,q,rfl,e,r):=c.tup_inv;cases d;refine#[l,_,q,rfl,rfl,SqT.of e,by lia,by lia,by rw[r.length];exact sz6 h.2.2,λB=>k _ H (Same.refl H) ?_,λp np=>k _ _ (qg np) (.tuple zK ((r.rep _).grow (qg np).grow))];rcases B with z | z
    ·subst z;cases r;have:(List.replicate n.toNat ([]:Aa)).flatten= []:=by simp
     rw[this];exact c
    ·subst z;grind⟩
  ·cases e
 |Mod=>exact ii zfl (let #[i,j,a,b,e]:=Jf e;#[i,j,a,b,(jQ e :)])
 |FloorDiv=>exact ii zhJ (let #[i,j,a,b,e]:=Jf e;#[i,j,a,b,(jQ e :)])
 |Pow=>exact ii zks (let #[i,j,a,b,e]:=Jf e;#[i,j,a,b,(jQ e :)])
 |LShift=>exact ii zkt (let #[i,j,a,b,e]:=Jf e;#[i,j,a,b,(jQ e :)])
 |RShift=>exact ii zku (let #[i,j,a,b,e]:=Jf e;#[i,j,a,b,(jQ e :)])
 |BitAnd=>
  let(i,j,rfl,rfl,e):=Jf e;cases e;exact W8 zko
 |_=>cases e
def lay:Nat->PyData->Bool|_,.none=>true|_,.bool _=>true|_,.int _=>true|_,.str x=>PyData.strOk x|n+1,.list xs=>xs.all (lay n)|n+1,.tuple xs=>xs.all (lay n)|_,_=>false
def ν2(i:∀ d,lay n d=true->d.canLay0=true/\d.depth<=n):∀ xs:Aa,xs.all (lay n)=true->PyData.canLayAll0 xs=true/\PyData.depthAll xs<=n
 |[],_=>#[rfl,xY _]
 |x::r,h=>by
  rw[uf,xf]at h;let(a,b):=i x h.1;let(c,d):=ν2 i r h.2;exact#[by simp[PyData.canLayAll0,a,c],by simp only[PyData.depthAll];lia]
def jr:∀(n:Nat)(d:PyData),lay n d=true->d.canLay0=true/\d.depth<=n
 |n,.none,_=>#[rfl,xY _]
 |n,.bool _,_=>#[rfl,xY _]
 |n,.int _,_=>#[rfl,xY _]
 |n,.str _,h=>#[by simpa [PyData.canLay0,lay] using h,xY _]
 |n+1,.list xs,h=>by
  let(a,b):=ν2 (jr n) xs (by simpa [lay] using h);exact#[by simpa [PyData.canLay0] using a,by simp only[PyData.depth];lia]
 |n+1,.tuple xs,h=>by
  let(a,b):=ν2 (jr n) xs (by simpa [lay] using h);exact#[by simpa [PyData.canLay0] using a,by simp only[PyData.depth];lia]
 |0,.list _,h=>by simp[lay]at h
 |0,.tuple _,h=>by simp[lay]at h
 |0,.dict _,h=>by simp[lay]at h
 |n+1,.dict _,h=>by simp[lay]at h
def isN:PyData->Bool|.none=>true|_=>false
def inD(x:PyData)(i:Aa):Bool:=i.any λy=>PyData.eqv y x
def cmpD(op:CmpOp)(x y:PyData):Option Bool:=match op with
 |.Eq=>if lay 20 x&&lay 20 y then some (PyData.eqv x y) else none
 |.NotEq=>if lay 20 x&&lay 20 y then some (!PyData.eqv x y) else none
 |.Lt=>match x,y with
  |.int i,.int j=>some (decide (i<j))
  |_,_=>none
 |.LtE=>match x,y with
  |.int i,.int j=>some (decide (i<=j))
  |_,_=>none
 |.Gt=>match x,y with
  |.int i,.int j=>some (decide (j<i))
  |_,_=>none
 |.GtE=>match x,y with
  |.int i,.int j=>some (decide (j<=i))
  |_,_=>none
 |.In=>match y with
  |.list a=>if lay 20 x&&a.all (lay 20) then some (inD x a) else none
  |.tuple a=>if lay 20 x&&a.all (lay 20) then some (inD x a) else none
  |_=>none
 |.NotIn=>match y with
  |.list a=>if lay 20 x&&a.all (lay 20) then some (!inD x a) else none
  |.tuple a=>if lay 20 x&&a.all (lay 20) then some (!inD x a) else none
  |_=>none
 |.Is=>match y with
  |.none=>some (isN x)
  |_=>none
 |.IsNot=>match y with
  |.none=>some (!isN x)
  |_=>none
end
section
variable {X:Cx}
open Classical in
noncomputable def eqW(h:Heap)(c:PyData)(w:Aj):Bool:=if ∃ d as,Reads h w d as/\d.canLay0=true/\PyData.eqv d c=true then true else false
def zeF(r:Reads h w d as)(hl:d.canLay0=true):eqW h o w=PyData.eqv d o:=by
 unfold eqW;cases e:PyData.eqv d o with
 |true=>rw[if_pos #[d,as,r,hl,e]]
 |false=>
  rw[if_neg];rintro⟨c,b,f,g,a⟩;have:=SeqAt.Reads.unique d c w as b hl r f;rw[<- this,e]at a;cases a
def Wa{us:An}{c:Aa}(r:ReadsAll h us c as):c.all (lay 20)=true->us.any (eqW h o)=inD o c:=by
 induction c generalizing us as with
 |nil=>intro _;cases r;rfl
 |cons y c a=>
  intro hl;rw[uf,xf]at hl;cases r with
  |cons r t=>
  unfold inD;rw[xX,xX,zeF r (jr 20 _ hl.1).1,a t hl.2];rfl
def Wf(l:Reads s.heap v o bs)(hx:lay 20 o=true)(i:∀ n,n<=60->A.units+n<cLine){us:An}{c:Aa}(r:ReadsAll s.heap us c as):c.all (lay 20)=true->∀ u∈us,SeqAt.EqAt A s u v (eqW s.heap o u):=by
 induction c generalizing us as with
 |nil=>intro _ u i;cases r;cases i
 |cons y c e=>
  intro hl f a;rw[uf,xf]at hl;cases r with
  |cons r t=>
  rcases xA.mp a with rfl | a
  ·rw[zeF r (jr 20 _ hl.1).1];let b:=jr 20 _ hl.1;let d:=jr 20 _ hx;exact SeqAt.eqAt_reads _ _ _ _ _ _ _ _ r l b.1 d.1 (i _ (xK (Nat.min_le_left _ _) (by lia)))
  ·erw[e t hl.2 f a]
def zmr(K:Ah)(neg:Bool):R2:=λx y H Q=>∃ M d a b p c,Rep M H x a/\y=.ref p/\(SqL K H p c∨SqT K H p c)/\RepL d H c b/\lay 20 a=true/\b.all (lay 20)=true/\Q (.bl (if neg then !inD a b else inD a b)) H
def zfk(l:Room 1 X.A):OpR X (compareOp .In) (zmr X.K false):=by
 intro pins s O H x y v u Q I m n h;let(M,o,b,z,p,t,k,rfl,c,g,l1,l2,q):=h;cases n;let(bs,i):=k.reads I.hok (jr 20 _ l1).1 m;let f:=(l.in1).u60;rcases c with c | c
 ·let(a,r,e,j):=I.list c;let(as,d):=g.reads I.hok (ν2 (jr 20) _ l2).1 r;refine SeqAt.in_listAt (eqW s.heap b) e.isList (λw hw=>Wf i l1 f d l2 w (~~~hw)) #[.bl _,H,I,rfl,?_];rw[show a.toArray.any (eqW s.heap b)=a.any (eqW s.heap b) by simp,Wa d l2];erw[q]
 ·let(a,r,e,j):=I.tuple c;let(as,d):=g.reads I.hok (ν2 (jr 20) _ l2).1 r;refine SeqAt.in_tupleAt (eqW s.heap b) e (λw hw=>Wf i l1 f d l2 w (~~~hw)) #[.bl _,H,I,rfl,?_];rw[show a.toArray.any (eqW s.heap b)=a.any (eqW s.heap b) by simp,Wa d l2];erw[q]
def VZ(l:Room 1 X.A):OpR X (compareOp .NotIn) (zmr X.K true):=by
 intro pins s O H x y v u Q I m n h;let(M,o,b,z,p,t,k,rfl,c,g,l1,l2,q):=h;cases n;let(bs,i):=k.reads I.hok (jr 20 _ l1).1 m;let f:=(l.in1).u60;rcases c with c | c
 ·let(a,r,e,j):=I.list c;let(as,d):=g.reads I.hok (ν2 (jr 20) _ l2).1 r;refine SeqAt.notIn_listAt (eqW s.heap b) e.isList (λw hw=>Wf i l1 f d l2 w (~~~hw)) #[.bl _,H,I,rfl,?_];rw[show a.toArray.any (eqW s.heap b)=a.any (eqW s.heap b) by simp,Wa d l2];erw[q]
 ·let(a,r,e,j):=I.tuple c;let(as,d):=g.reads I.hok (ν2 (jr 20) _ l2).1 r;refine SeqAt.notIn_tupleAt (eqW s.heap b) e (λw hw=>Wf i l1 f d l2 w (~~~hw)) #[.bl _,H,I,rfl,?_];rw[show a.toArray.any (eqW s.heap b)=a.any (eqW s.heap b) by simp,Wa d l2];erw[q]
def vH(r:Rep M H v x):decide (v=.non)=isN x:=by
 cases r<;>rfl
def JU(o:Room 1 X.A)(op:CmpOp):Wl X op (cmpD op):=λx y z e=>by
 let i:=o.u60;let n:∀{w},(if lay 20 x&&lay 20 y then some w else none)\z->x.canLay0=true/\y.canLay0=true/\min x.depth y.depth<=60/\w=z:=λe=>by
  let(h,e):=jQ e;rw[xf]at h;let g:=jr 20 _ h.1;exact#[g.1,(jr 20 _ h.2).1,xK (Nat.min_le_left _ _) (by lia),e]
 cases op with
 |Eq=>
  let(g,j,m,rfl):=n e;exact#[_,zcJ i,λH v u Q a b k=>#[_,_,_,_,a,b,g,j,m,k]]
 |NotEq=>
  let(g,j,m,rfl):=n e;exact#[_,zcK i,λH v u Q a b k=>#[_,_,_,_,a,b,g,j,m,k]]
 |Lt=>
  dsimp only [cmpD]at e
  split at e
  ·cases e;exact⟨_,zmj,λH v u Q a b k=>by cases a;cases b;exact⟨_,_,rfl,rfl,k⟩⟩
  ·cases e
 |LtE=>
  dsimp only [cmpD]at e
  split at e
  ·cases e;exact⟨_,zmi,λH v u Q a b k=>by cases a;cases b;exact⟨_,_,rfl,rfl,k⟩⟩
  ·cases e
 |Gt=>
  dsimp only [cmpD]at e
  split at e
  ·cases e;exact⟨_,zmh,λH v u Q a b k=>by cases a;cases b;exact⟨_,_,rfl,rfl,k⟩⟩
  ·cases e
 |GtE=>
  dsimp only [cmpD]at e
  split at e
  ·cases e;exact⟨_,zmg,λH v u Q a b k=>by cases a;cases b;exact⟨_,_,rfl,rfl,k⟩⟩
  ·cases e
 |In=>
  dsimp only [cmpD]at e
  split at e
  ·let(h,rfl):=jQ e;rw[xf]at h;exact⟨_,zfk o,λH v u Q a b k=>by
    let(l,f,rfl,c,_,d):=b.lst_inv;exact#[_,_,_,_,l,f,a,rfl,.inl (SqL.of c),d,h.1,h.2,k]⟩
  ·let(h,rfl):=jQ e;rw[xf]at h;exact⟨_,zfk o,λH v u Q a b k=>by
    let(l,f,rfl,c,d):=b.tup_inv;exact#[_,_,_,_,l,f,a,rfl,.inr (SqT.of c),d,h.1,h.2,k]⟩
  ·cases e
 |NotIn=>
  dsimp only [cmpD]at e
  split at e
  ·let(h,rfl):=jQ e;rw[xf]at h;exact⟨_,VZ o,λH v u Q a b k=>by
    let(l,f,rfl,c,_,d):=b.lst_inv;exact#[_,_,_,_,l,f,a,rfl,.inl (SqL.of c),d,h.1,h.2,k]⟩
  ·let(h,rfl):=jQ e;rw[xf]at h;exact⟨_,VZ o,λH v u Q a b k=>by
    let(l,f,rfl,c,d):=b.tup_inv;exact#[_,_,_,_,l,f,a,rfl,.inr (SqT.of c),d,h.1,h.2,k]⟩
  ·cases e
 |Is=>
  dsimp only [cmpD]at e
  split at e
  ·cases e;exact#[_,zkr,λH v u Q a b k=>by cases b;exact#[rfl,by rw[vH a];exact k]]
  ·cases e
 |IsNot=>
  dsimp only [cmpD]at e
  split at e
  ·cases e;exact⟨_,zhL,λH v u Q a b k=>by
    cases b;refine#[rfl,?_];rw[vH a];exact k⟩
  ·cases e
end
mutual
inductive IT where|nm (s i:Nat)|tp (ts:ITs)
inductive ITs where|nil|cons (t:IT) (ts:ITs)
end
mutual
noncomputable def tgF:IT->PyData->Gv->Option Gv|.nm _ i,x,U=>if i<↑U then some (U.set i (@&x)) else none|.tp a,.tuple xs,U=>tgFs a xs U|.tp a,.list xs,U=>tgFs a xs U|_,_,_=>none
noncomputable def tgFs:ITs->Aa->Gv->Option Gv|.nil,[],U=>some U|.cons t a,x::xs,U=>(tgF t x U).bind λU=>tgFs a xs U|_,_,_=>none
end
def ITs.len:ITs->Nat|.nil=>0|.cons _ a=>a.len+1
def vU:∀{c:ITs}{ds:Aa}{U i:Gv},tgFs c ds U\i->↑ds=c.len
 |.nil,[],_,_,_=>rfl
 |.nil,_::_,_,_,e=>by simp[tgFs]at e
 |.cons t c,[],_,_,e=>by simp[tgFs]at e
 |.cons t c,d::ds,U,i,e=>by
  rw[tgFs]at e;cases q:tgF t d U with
  |none=>rw[q]at e;cases e
  |some a=>rw[q]at e;rw[xz,vU e];rfl
def zas(t:IT):∀(d:PyData)(U c:Gv),tgF t d U\c->↑c=↑U:=by
 erw[IT.rec (motive_1:=λt=>∀(d:PyData)(U c:Gv),tgF t d U\c->↑c=↑U) (motive_2:=λb=>∀(ds:Aa)(U c:Gv),tgFs b ds U\c->↑c=↑U) ?_ ?_ ?_ ?_ t]
 ·intro s i d U c e;rw[tgF]at e;grind
 ·intro b f d U c e;cases d with|tuple xs=>rw[tgF]at e;exact f _ _ _ e|list xs=>rw[tgF]at e;exact f _ _ _ e|_=>simp[tgF]at e
 ·intro ds U c e;cases ds with|nil=>simp[tgFs]at e;rw[e]|cons=>simp[tgFs]at e
 ·intro t b a g ds U c e;cases ds with
  |nil=>simp[tgFs]at e
  |cons d ds=>
   rw[tgFs]at e;cases q:tgF t d U with
   |none=>rw[q]at e;cases e
   |some h=>rw[q]at e;rw[g _ _ _ e,a _ _ _ q]
def SG(X:Cx)(mp:Ac)(kp:Nat->Prop)(l:Expr)(t:IT):=∀(b:Ae)(F:Fp)(U f:Gv)(Z:Nu)(O:St)(H:Hp)(v:V)(d:PyData)(Q:St->Hp->Prop),RS b F U Z H->Sees mp Z O->↑O=X.N.length->Rep (MM b F) H v d ->
 tgF t d U\f->(∀ e c a,RS b e f c H->Stp F H e H->Sees mp c a->↑a=X.N.length->(∀ i:Nat,kp i->c[i]?=Z[i]?)->(∀ s i:Nat,mp[s]?\i->kp i->a[s]?=O[s]?)->Q a H)->wpG X l v O H Q
def SGs(X:Cx)(mp:Ac)(kp:Nat->Prop)(l:Ag)(o:ITs):=∀(b:Ae)(F:Fp)(U e:Gv)(Z:Nu)(O:St)(H:Hp)(f:List V)(ds:Aa)(Q:St->Hp->Prop),RS b F U Z H->Sees mp Z O->↑O=X.N.length->RepL (MM b F) H f ds ->
 tgFs o ds U\e->(∀ d c a,RS b d e c H->Stp F H d H->Sees mp c a->↑a=X.N.length->(∀ i:Nat,kp i->c[i]?=Z[i]?)->(∀ s i:Nat,mp[s]?\i->kp i->a[s]?=O[s]?)->Q a H)->zlF X l f O H Q
section
variable {X:Cx}{mp:Ac}{kp:Nat->Prop}{tg:Expr}{gr:Ag}{t:IT}{ts:ITs}{pos:Pos}
def Sees.set(h:Sees mp Z O)(l:mp.Nodup)(hm:mp[s]?\i)(o:s<↑O):Sees mp (Z.set i (some v)) (O.set s (some v)):=λd j w b a=>by
 by_cases c:i=j
 ·subst c;have:d=s:=by
   let e:=(xa.mp b).1;let f:=(xa.mp hm).1;exact (List.getElem?_inj e l).mp (by rw[b,hm])
  subst this;rw[xk o];by_cases hl:i<↑Z
  ·rw[xk hl]at a;rw[a]
  ·rw[xI (~~~hl)]at a;cases a
 ·rw[xi c]at a;have:d≠s:=λz=>c (by grind);rw[xi (Ne.symm this)];erw[h d j w b a]
def zir(hN:X.N.Nodup)(o:mp.Nodup)(hi:X.N[s]?\x)(hm:mp[s]?\i)(c:¬ kp i)(hx:Loc X.env.scope x)(hf:X.fn x=true∨X.env.scope.names.lookup x\.local):SG X mp kp (.Name x pos) (.nm s i) :=
 λp F U q Z O H v d Q rs m hl r e k=>by
  rw[tgF]at e
  split at e
  next h=>
   cases e;let b:s<↑O:=by rw[hl];exact (xa.mp hi).1
   let(g,l,n):=rs.setD r h;refine (zaZ hN hi hx hf).wp (k g _ _ l n (m.set o hm b) (~~~hl) (λj a=>?_) (λs2 j f a=>?_))
   ·rw[xi (λz=>c (by rw[z];exact a))]
   ·rw[xi];intro z;subst z;rw[hm]at f;cases f;erw[c a]
  ·cases e
def zis:SGs X mp kp [] .nil:=λb F U c Z O H f ds Q rs a hl r e k=>by
 cases r with
 |nil=>
  simp[tgFs]at e;subst e;erw[pgs_nil.wp #[rfl,k F Z O rs (.refl _ _) a hl (λ_ _=>rfl) (λ_ _ _ _=>rfl)]]
 |cons r d=>simp[tgFs]at e
def zf3(z:SG X mp kp tg t)(A:SGs X mp kp gr ts)(l:(assignEach (tg::gr) X.env).map (·.2)=assign tg X.env::(assignEach gr X.env).map (·.2)):SGs X mp kp (tg::gr) (.cons t ts):=λj F U u Z O H h ds Q rs B hl r e k=>by
 cases r with
 |nil=>simp[tgFs]at e
 |cons r J=>
  rename_i v h d ds;rw[tgFs]at e;cases a:tgF t d U with
  |none=>rw[a]at e;cases e
  |some m=>
   rw[a]at e;erw[(zfA y8 vy l).wp #[v,h,rfl,z j F U m Z O H v d _ rs B hl r a λn w p f s1 E b G C=>?_]];erw[A j n m u w p H h ds _ f E b (vG s1 rs.al0 J) e λo x q g s2 y c I D=>k o x q g (s1.trans s2) y c (λi hi=>(I i hi).trans (G i hi)) (λs i e hi=>(D s i e hi).trans (C s i e hi))]
def zla(hc:X.calm=true)(h:SGs X mp kp gr ts)(hl:ts.len=↑(assignEach gr X.env))(c:(assignEach gr X.env).findIdx? (·.1)=none):SG X mp kp (.Tuple gr n pos) (.tp ts):=λi F U j Z O H v d Q rs m l r e k=>by
 cases d with
 |tuple ds=>
  rw[tgF]at e;let(a,f,rfl,g,b):=r.tup_inv;exact (zkC hc vy rfl c).wp #[a,f,rfl,SqT.of g,by rw[b.length,vU e,hl],h i F U j Z O H f ds Q rs m l b e k]
 |list ds=>
  rw[tgF]at e;let(a,f,rfl,g,_,b):=r.lst_inv;exact (zhT hc vy rfl c).wp #[a,f,rfl,SqL.of g,by rw[b.length,vU e,hl],h i F U j Z O H f ds Q rs m l b e k]
 |_=>simp[tgF]at e
end
def JI(l:Ae)(F:Fp)(J:It)(ds:Aa)(H1:Hp):=∀(i:Nat)(e:Fp)(b:Hp),Stp F H1 e b->(∀ a,l a->H1 a≠none) ->
 (∀ d,ds[i]?\d->J.go i b/\∀ x c,J.yld i b x c->Same b c/\Rep (MM l e) c x d)/\(↑ds<=i->J.stop i b)
def SI(X:Cx)(mp:Ac)(i iter:Expr)(f:EM (Aa)):=∀(a:Ae)(F:Fp)(U:Gv)(Z:Nu)(O:St)(H:Hp)(R:It->Hp->Prop),RS a F U Z H->Sees mp Z O ->
 EPost X.xp a F Z O H (λc d b ds=>∀ J,JI a c J ds b->R J b) (f U)->wpI X i iter O H R
section
variable {X:Cx}{mp:Ac}{a b c e tg iter:Expr}{ifs:Ag}{pos p:Pos}{fa:EM FV}{ta:EM Bool}
private def fSeqL(fa:EM FV):EM (Aa):=λU=>(fa U).bind λ(u,a)=>match derS a u with|some (.list ds)=>.ok (ds,a)|_=>.bad
private def fSeqT(fa:EM FV):EM (Aa):=λU=>(fa U).bind λ(u,a)=>match derS a u with|some (.tuple ds)=>.ok (ds,a)|_=>.bad
def YY{F:Fp}{K:Ah}{H1:Hp}{l:Ap}(e:H1 l\(.lst o))(n:∀ j,l∉F j)(r:RepL (MM I F) H1 o ds):JI I F (Itl K l) ds H1:=λi f g s h0=>by
 let a:=(s.keep l _ e n).1;refine#[λd hd=>?_,λhl=>#[o,SqL.of a,by rw[r.length];exact hl]];let(v,hv,c):=r.get' hd;exact⟨⟨o,v,SqL.of a,hv⟩,λx h ⟨b,y⟩=>by
  subst b;have:=y o (SqL.of a);rw[hv]at this;cases this;exact#[Same.refl _,qj s h0 c]⟩
def zhs{F:Fp}{K:Ah}{H1:Hp}{l:Ap}(e:H1 l\(.lst I))(n:¬ MM o F l)(r:RepL (MM o F) H1 I ds):JI o F (Itl K l) ds H1:=YY e (λj a=>n (.inr #[j,a])) r
def zkb{F:Fp}{K:Ah}{H1:Hp}{l:Ap}(e:H1 l\(.tup o))(r:RepL (MM I F) H1 o ds):JI I F (Itt K l) ds H1:=λi f g s h0=>by
 let a:=s.tups l _ e;refine#[λd hd=>?_,λhl=>#[o,SqT.of a,by rw[r.length];exact hl]];let(v,hv,c):=r.get' hd;exact⟨⟨o,v,SqT.of a,hv⟩,λx h ⟨b,y⟩=>by
  subst b;have:=y o (SqT.of a);rw[hv]at this;cases this;exact#[Same.refl _,qj s h0 c]⟩
def ziu(i:SE X mp iter fa):SI X mp tg iter (fSeqL fa):=λh F U Z O H R rs d hp=>
 (y9 zC).wp (i.run rs d hp λc j H1 u v a s1 f b=>by
  delta b ds eu;let(l,g,rfl,e,n,r):=(f.strong a eu).lst_inv;exact#[l,rfl,#[g,SqL.of e],b c H1 a (.refl _ _) _ (zhs e n r)])
def zlc(i:SE X mp iter fa):SI X mp tg iter (fSeqT fa):=λh F U Z O H R rs d hp=>
 (zkD zC).wp (i.run rs d hp λc j H1 u v a s1 f b=>by
  delta b ds eu;let(l,g,rfl,e,r):=(f.strong a eu).tup_inv;exact#[l,rfl,#[g,SqT.of e],b c H1 a (.refl _ _) _ (zkb e r)])
private def K4(f g:EM (Aa)):EM (Aa):=λU=>match f U with|.bad=>g U|r=>r
def zlb{f g:EM (Aa)}(hf:SI X mp tg iter f)(hg:SI X mp tg iter g):SI X mp tg iter (K4 f g):=λa F U Z O H R rs b hp=>by
 unfold K4 at hp;cases e:f U with|bad=>rw[e]at hp;exact hg a F U Z O H R rs b hp|ok r=>rw[e]at hp;exact hf a F U Z O H R rs b (by rw[e];exact hp)|exc x r=>rw[e]at hp;exact hf a F U Z O H R rs b (by rw[e];exact hp)
private def fRange(fa:EM FV):EM (Aa):=λU=>(fa U).bind λ(u,a)=>match derf a u with|some (.int n)=>if -1000000<=n/\n<=1000000 then .ok (qi n.toNat,a) else .bad|_=>.bad
def zeY(n:Nat)(H1:Hp):JI o F (Itr 0 n) (qi n) H1:=λi a b s h0=>by
 refine#[λd hd=>?_,λhl=>?_]
 ·let(hi,rfl):=ν7 hd;exact#[hi,λx c ⟨e,y⟩=>by subst e y;exact#[Same.refl _,by rw[show (0:Int)+(i:Int)=i by lia];exact .int _]]
 ·show n<=i;simpa [zF] using hl
def zf6 (B:BiK X x (.type "range")) (ex:x= "range") (l:SE X mp a fa) (i:a⁻¹):SI X mp tg (.Call (.Name x p) [a] [] pos) (fRange fa):=λg F U Z O H R rs e hp=>by
 subst ex;exact (zcN B.gl B.mg (zY zC pa_nil i) i).wp (l.run rs e hp λd h H1 u v b s1 f c=>by
  delta c n eu;delta c hn;cases f.weak b eu;exact#[n,rfl,by lia,by lia,c d H1 b (.refl _ _) _ (zeY n.toNat H1)])
def SF(X:Cx)(mp:Ac)(ifs:Ag)(f:EM Bool):=∀(a:Ae)(F:Fp)(U:Gv)(Z:Nu)(O:St)(H:Hp)(Q:Bool->Hp->Prop),RS a F U Z H->Sees mp Z O ->
 EPost X.xp a F Z O H (λd e c b=>Q b c) (f U)->wpF X ifs O H Q
private def fYes:EM Bool:=λU=>.ok (true,U)
def zk8:SF X mp [] fYes:=λa F U Z O H Q rs b hp=>pf_nil.wp (hp F H rs (.refl _ _))
def zk9(h:ST X mp c ta):SF X mp [c] ta:=λa F U Z O H Q rs b hp=>(zkA Zw).wp (h a F U Z O H Q rs b hp)
def mpC(mp:Ac)(n k:Nat)(ix:Ac):Ac:=(List.range k).map (n+·)++ix.map λi=>mp.getD i 0
def zki(h:s<k):(mpC mp n k ix)[s]?\(n+s):=by
 unfold mpC;rw[xb (~~~h),xg,uu h];rfl
def zfc:(mpC mp n k ix)[k+j]?=(ix[j]?).map λi=>mp.getD i 0:=by
 unfold mpC;rw[xr (by simp),xg];simp
def SNt(X:Cx)(mp:Ac)(t:TE)(f:EM (Aa)):=∀(b:Ae)(F:Fp)(U:Gv)(Z:Nu)(O:St)(H:Hp)(Q:VK),RS b F U Z H->Sees mp Z O ->
 EPost X.xp b F Z O H (λd e a ds=>∀ c p,RepL (MM b d) a c ds->a p=none->Q (.ref p) (upd a p (.lst c))) (f U)->t O H Q
end
end Lake.L3
namespace Lake.L2
open PySem PySem.Spec PyProof.Rows
variable [Cs]
section
variable {X:Cx}{pins:Ak}{O:St}{H:Hp}{s:Am}{e:Aj}
def Yx(u:Up X pins O H C I e s)(hx:X.ex= [])(c:X.stack=X.env::X.outer)(hf:X.env.frame\X.env.locals)(hE:J (.ref C) I H){i:Af} :
  ∅ (leaving X.env e) (λ_ l=>CX1 X.prog X.w X.outer X.H₀ X.s₀ J e l) i s:=by
 let(f,fl,B,rfl,al,inv):=u;let a:=inv s.heap al.1 (.refl _);let d:X.A.frames\(X.env::X.outer):=by rw[<- c];exact a.ok.frames
 rw[c]at al;unfold leaving;erw[x5 (vm d hf al λv n h=>JF n λw ⟨p,q,⟨_,_,r⟩,t⟩ m=>#[f,.ref C,I,B,s.heap,H,rfl,a.os,a.bare,#[p,q,r,t],h.trans m,λg j k=>?_,hE])];erw[(inv g j k).flies hx c hf (λb o e=>W.of_hideAll _ e) (Heap.UpToSlots.of_keeps λ_ _ e=>e)]
end
def zdh{E:XK}{O:St}{H:Hp}{Q:VK}{r x:Str}{k i:Nat}{e:Expr}{c:Ag}{p pos:Pos}(kn:Kn X.prog X.w X.K X.mg X.base J x k sp)(B:X.mg x\(.ref b))(A:Room k X.A)
  (hN:X.N[i]?\r) (hv:Vis X.env.scope r) (hd:(↥r)) (hcd:(r==("__classdict__" :Str))=false) (y:O[i]?\(some (.ref b)))
  (hx:∀ pins H s e l,Inv X pins O H s->J X.stack H s E e l->X.xe e l) (h:wpA X (e::c) O H λz H1=>sp z H1 Q E)
  (he:starEach (e::c) X.env=(false,eval e X.env)::starEach c X.env) (o:(backTo pos (starEach c X.env)).any (·.1)=false):wpE X (.Call (.Name r p) (e::c) [] pos) O H Q:=λpins s I=>by
 let(f,fd,ps,F,hm,hk,hb):=kn.ex;rw[B]at hm;cases hm;erw[Xk (thn (qG hN hv hd hcd pins s O H (λv j=>v=.ref b/\j=H) I #[_,y,rfl,rfl]) λu s1 ⟨v,H1,a,t,m,n⟩=>?_)];subst m n;cases t;erw[W.callWith_K a.ok.mod.kin hk (thn (h pos pins s1 a) λus s1 ⟨z,H1,a,r,q⟩=>#[a.kIn,?_]) he o];let hl:↑us=↑ps:=by rw[<- ↑r];exact F.len _ _ _ _ q
 let d:=hb s1 us a.kIn (~~~hl);rw[xT]at d;erw[wpAny_call (Xl (F.run X.A X.stack s1 H1 #[us,[]] us z Q E A a.env0 d r q) λr l g=>?_)];cases r with
 |error e=>erw[hx pins H1 s1 e l a g]
 |ok fl=>
  cases fl with
  |ret u=>erw[a.after g]
  |next=>erw[False.elim g]
  |brk=>erw[False.elim g]
  |cont=>erw[False.elim g]
end Lake.L2
namespace Lake.L3
open PySem PySem.Spec PyProof.Rows L2
variable [Cs]
inductive AV where|v (u:FV)|io (i:Nat)
inductive AOks(M0:Ae)(F:Fp)(Z:Nu)(H:Hp):List V->List AV->Prop|nil:AOks M0 F Z H [] []|v {v:V} {vs:List V} {u:FV} {as:List AV}:FOk M0 F Z H v u->AOks M0 F Z H vs as->AOks M0 F Z H (v::vs) (.v u::as)|io {v:V} {vs:List V} {i:Nat} {as:List AV}:Z[i]?\(some v)->AOks M0 F Z H vs as->AOks M0 F Z H (v::vs) (.io i::as)
def APost(xp:XPT)(i:Ae)(F:Fp)(Z:Nu)(O:St)(H:Hp)(P:Fp->Gv->Nu->Hp->List AV->Prop)(r:R (List AV×Gv)):Prop:=match r with|.ok (as,c)=>∀ b d a,RS i b c d a->Z <+: d->Stp F H b a->P b c d a as|.exc x c=>∀ b a,RS i b c Z a->Stp F H b a->xp x O a|.bad=>False
def OPost(xp:XPT)(i:Ae)(F:Fp)(Z:Nu)(O:St)(H:Hp)(P:Fp->Gv->Hp->OV->V->Prop)(r:R (OV×Gv)):Prop:=match r with|.ok (o,c)=>∀ b a v,RS i b (c++ [some o]) (Z++ [some v]) a->Stp F H b a->P b c a o v|.exc x c=>∀ b a,RS i b c Z a->Stp F H b a->xp x O a|.bad=>False
def SA(X:Cx)(mp:Ac)(i:Ag)(f:EM (List AV)):=∀(a:Ae)(F:Fp)(U:Gv)(Z:Nu)(O:St)(H:Hp)(Q:List V->Hp->Prop),RS a F U Z H->Sees mp Z O ->
 APost X.xp a F Z O H (λd g e b as=>∀ c,AOks a d e b c as->Q c b) (f U)->wpA X i O H Q
def SO(X:Cx)(mp:Ac)(e:Expr)(f:EM OV):=∀(a:Ae)(F:Fp)(U:Gv)(Z:Nu)(O:St)(H:Hp)(Q:VK),RS a F U Z H->Sees mp Z O ->
 OPost X.xp a F Z O H (λc d b o v=>Q v b) (f U)->wpE X e O H Q
section
variable {M0:Ae}{F:Fp}{Z:Nu}{O:St}{H:Hp}{α:Type}{xp:XPT}
def APost.seq{r:R (α×Gv)}(h:APost xp M0 F Z O H P (r.bind k)):EPost xp M0 F Z O H (λy l H1 a=>APost xp M0 y Z O H1 P (k (a,l))) r:=by
 cases r with
 |ok a=>
  let(a,l):=a;intro y H1 m s1;let c:APost xp M0 F Z O H P (k (a,l)):=h;revert c;generalize k (a,l)=j;intro c;cases j with
  |ok b=>erw[λd g e rs i s=>c d g e rs i (s1.trans s)]
  |exc x f=>erw[λd e rs s=>c d e rs (s1.trans s)]
  |bad=>erw[c]
 |exc x f=>erw[h]
 |bad=>erw[h]
def APost.mono(h:APost xp M0 F Z O H P r)(k:∀ c v o l as,RS M0 c v o l->Z <+: o->Stp F H c l->P c v o l as->I c v o l as):APost xp M0 F Z O H I r:=by
 cases r with|ok a=>erw[λc o l rs b s=>k c _ o l _ rs b s (h c o l rs b s)]|exc x v=>erw[h]|bad=>erw[h]
def OPost.seq{r:R (α×Gv)}(h:OPost xp M0 F Z O H P (r.bind k)):EPost xp M0 F Z O H (λy l H1 a=>OPost xp M0 y Z O H1 P (k (a,l))) r:=by
 cases r with
 |ok a=>
  let(a,l):=a;intro y H1 i s1;let c:OPost xp M0 F Z O H P (k (a,l)):=h;revert c;generalize k (a,l)=g;intro c;cases g with
  |ok b=>erw[λd e v rs s=>c d e v rs (s1.trans s)]
  |exc x f=>erw[λd e rs s=>c d e rs (s1.trans s)]
  |bad=>erw[c]
 |exc x f=>erw[h]
 |bad=>erw[h]
def OPost.mono(h:OPost xp M0 F Z O H P r)(k:∀ c y l o v,RS M0 c (y++ [some o]) (Z++ [some v]) l->Stp F H c l->P c y l o v->I c y l o v):OPost xp M0 F Z O H I r:=by
 cases r with|ok a=>erw[λc l v rs s=>k c _ l _ v rs s (h c l v rs s)]|exc x y=>erw[h]|bad=>erw[h]
end
section
variable {X:Cx}{mp:Ac}{a b c e:Expr}{es:Ag}{pos p p2:Pos}{fa:EM FV}{na nb:EM (Aa)}{fl:EM (List AV)}{fo:EM OV}
private def fOwn(n:EM (Aa)):EM OV:=λU=>(n U).bind λ(ds,a)=>.ok (.l (ds.map .d),a)
def SN.so(h:SN X mp a na):SO X mp a (fOwn na):=λc F U Z O H Q rs e hp=>
 h c F U Z O H Q rs e (hp.seq.mono λg i H1 ds b s1 d j p r n=>by
  let(f,s2):=b.newO n r;exact d _ _ _ f s2)
private def fOD(f:EM OV):EM FV:=λU=>(f U).bind λ(o,a)=>.ok (.dat o.view,a)
def SO.se(h:SO X mp a fo):SE X mp a (fOD fo):=λd F U Z O H Q rs k hp=>
 h d F U Z O H Q rs k (by
  let b:EPost X.xp d F Z O H (λf n c u=>∀ v,FOk d f Z c v u->Q v c) ((fo U).bind λ(o,g)=>.ok (.dat o.view,g)):=hp;revert b;generalize fo U=r;intro b;cases r with
  |ok z=>
   let(o,g):=z;intro f c v j m;let(i,e,s2,l):=j.dropD;erw[b i c e (m.trans s2) v l]
  |exc x y=>erw[b]
  |bad=>exact b)
def FOk.ext(h:FOk o F Z H v u)(l:Z <+: I):FOk o F I H v u:=by
 cases u with
 |dat x=>erw[h]
 |own i=>
  let a:=h;let(t,rfl):=l;show (Z++t)[i]?=_;rw[xb (xa.mp a).1];exact a
private def aNil:EM (List AV):=λU=>.ok ([],U)
private def aCons(fa:EM FV)(fl:EM (List AV)):EM (List AV):=λU=>(fa U).bind λ(u,a)=>(fl a).bind λ(as,b)=>.ok (.v u::as,b)
private def aIo(i:Nat)(fl:EM (List AV)):EM (List AV):=λU=>match U[i]? with|some (some _)=>(fl U).bind λ(as,a)=>.ok (.io i::as,a)|_=>.bad
def zkT:SA X mp [] aNil:=λa F U Z O H Q rs b hp=>pa_nil.wp (hp F Z H rs (uW _) (.refl _ _) [] .nil)
def APost.tail{F:Fp}{Z:Nu}{O:St}{H:Hp}{f:List AV->List AV}(h:APost X.xp I F Z O H P (r.bind λ(as,s)=>.ok (f as,s))) :
  APost X.xp I F Z O H (λl i v o as=>P l i v o (f as)) r:=by
 cases r with|ok a=>erw[h]|exc x i=>erw[h]|bad=>erw[h]
def zh5(l:SE X mp a fa)(hl:SA X mp es fl)(i:starEach (a::es) X.env=(false,eval a X.env)::starEach es X.env):SA X mp (a::es) (aCons fa fl):=λc F U Z O H Q rs d hp=>
 (zY zC Zv i).wp (l c F U Z O H _ rs d (hp.seq.mono λe f H1 u b s1 g v k=>
  hl c e f Z O H1 _ b d (g.tail.mono λo q r p as m j s2 h n oks=>h (v::n) (.v ((k.stp s2 b.al0).ext j) oks))))
def zmz {s i:Nat}(hN:X.N[s]?\x) (hv:Vis X.env.scope x) (hm:mp[s]?\i) (hd:(↥x)) (hcd:(x==("__classdict__" :Str))=false) (hl:SA X mp es fl) (l:starEach (.Name x pos::es) X.env=(false,eval (.Name x pos) X.env)::starEach es X.env) :
  SA X mp (.Name x pos::es) (aIo i fl):=by?
 unfold aIo at hp;delta hp o q;let(v,a,r):=rs.at' i _ q;exact (zY (qG hN hv hd hcd) Zv l).wp ⟨v,hs s i v hm a,hl M0 F U Z O H _ rs hs (hp.tail.mono λf h j g as d c s2 b e oks=>b (v::e) (.io (by
  let(t,rfl):=c;rw[xb (xa.mp a).1];exact a) oks))⟩
inductive RF where|ok (r:OV) (outs:List (Option OV))|exc (x:Str) (outs:List (Option OV))|bad
def spX(mg:Aq)(n:Nat)(run:List OV->RF):Sp:=λc H Q E=>↑c=n/\∃(d:Ae)(F:Fp)(args:List OV),RS d F (args.map some) (c.map some) H/\match run args with|.ok r outs=>∀ b v a,RS d b (outs++ [some r]) (c.map some++ [some v]) a->Stp F H b a->Q v a|.exc x outs=>∀ C,mg x\(.ref C)->∀ b a,RS d b (outs++ [some (.d .none)]) (c.map some++ [some .non]) a->Stp F H b a->E (.ref C) none a|.bad=>False
def Ran(n:Nat)(run:List OV->RF):=∀ args,run args≠ .bad->↑args=n
def PxOk(X:Cx):=∀(O:St)(pins:Ak)(H:Hp)(e:Aj)(s:Am)(x:Str)(C:Ap),X.mg x\(.ref C)->X.xp x O H->Up X pins O H C none e s->X.xe e s
abbrev EX(X:Cx)(O:St):XK:=λc dx H'=>dx=none/\∃(x:Str)(C:Ap),X.mg x\(.ref C)/\c=.ref C/\X.xp x O H'
def PxOk.call(px:PxOk X)(pins:Ak)(H:Hp)(s:Am)(e:Aj)(i:Am)(I:Inv X pins O H s)(hc:CX1 X.prog X.w X.stack H s (EX X O) e i):X.xe e i:=I.up hc λc f a q u=>by
 let(rfl,x,C,b,rfl,d):=q;erw[px O pins a e i x C b d (u C rfl)]
def zh3(px:PxOk X)(sk:Sk X):PxOk ⋯ :=
 λf a H e s x b h ⟨O,cat,hx⟩ u=>u.comp sk cat λpins c d=>px O pins H e c x b h hx d
def toArg(U:Gv):AV->Option OV
 |.v u=>(derS U u).map .d
 |.io i=>match U[i]? with
  |some (some o)=>some o
  |_=>none
def toArgs(U:Gv):List AV->Option (List OV)
 |[]=>some []
 |a::as=>match toArg U a,toArgs U as with
  |some o,some os=>some (o::os)
  |_,_=>none
def ios:List AV->Ac|[]=> []|.v _::as=>ios as|.io i::as=>i::ios as
def putBack:List AV->List (Option OV)->Gv->Option Gv|[],_,U=>some U|.v _::as,_::os,U=>putBack as os U|.io i::as,some o::os,U=>if i<↑U then putBack as os (U.set i (some o)) else none|_,_,_=>none
def mem_ios:i∈ios as↔∃ j:Nat,as[j]?\(.io i):=by
 induction as with
 |nil=>simp[ios]
 |cons a as b=>
  cases a with
  |v u=>
   rw[ios,b];constructor
   ·rintro⟨j,h⟩;exact⟨j+1,~~~h⟩
   ·rintro⟨j,h⟩;cases j with
    |zero=>simp at h
    |succ j=>exact#[j,~~~h]
  |io k=>
   rw[ios,xA,b];constructor
   ·rintro (rfl | ⟨j,h⟩)
    ·exact#[0,rfl]
    ·exact#[j+1,~~~h]
   ·rintro⟨j,h⟩;cases j with
    |zero=>simp at h;exact .inl h.symm
    |succ j=>exact .inr #[j,~~~h]
def We:∀{as:List AV}{i j k:Nat},(ios as).Nodup->as[j]?\(.io i)->as[k]?\(.io i)->j=k
 |[],_,_,_,_,h,_=>by simp at h
 |.v u::as,i,j,k,nd,a,b=>by
  cases j with
  |zero=>simp at a
  |succ j=>
   cases k with
   |zero=>simp at b
   |succ k=>exact congrArg (·+1) (We (by rw[ios]at nd;exact nd) (~~~a) (~~~b))
 |.io m::as,i,j,k,nd,a,b=>by
  rw[ios,xG]at nd;cases j with
  |zero=>
   cases k with
   |zero=>rfl
   |succ k=>
    simp at a;subst a;exact absurd (mem_ios.mpr #[k,~~~b]) nd.1
  |succ j=>
   cases k with
   |zero=>
    simp at b;subst b;exact absurd (mem_ios.mpr #[j,~~~a]) nd.1
   |succ k=>exact congrArg (·+1) (We nd.2 (~~~a) (~~~b))
section
variable {M0:Ae}{F:Fp}{U:Gv}{Z:Nu}{H:Hp}
def AOks.get{as:List AV}(r:AOks M0 F Z H I as):∀{args:List OV}{j:Nat}{o:OV},toArgs U as\args->args[j]?\o ->
  ∃ v,I[j]?\v/\((∃ u x,as[j]?\(.v u)/\derS U u\x/\o=.d x/\FOk M0 F Z H v u)∨∃ i,as[j]?\(.io i)/\Z[i]?\(some v)/\U[i]?\(some o)):=by
 induction r with
 |nil=>intro _ _ _ e h;cases e;simp at h
 |v c _ d=>
  intro _ j o e h;unfold toArgs at e
  split at e
  next f os a b=>
   cases e;cases j with
   |zero=>
    simp at h;subst h;simp only[toArg,uQ]at a;let(x,ex,rfl):=a;exact#[_,rfl,.inl #[_,x,rfl,ex,rfl,c]]
   |succ j=>
    exact d b (~~~h)
  ·cases e
 |io c _ d=>
  intro _ j o e h;unfold toArgs at e
  split at e
  next f os a b=>
   cases e;cases j with
   |zero=>
    simp at h;subst h;simp only[toArg]at a
    split at a
    next q=>
     cases a;exact#[_,rfl,.inr #[_,rfl,c,q]]
    ·cases a
   |succ j=>
    exact d b (~~~h)
  ·cases e
def AOks.len(h:AOks M0 F Z H vs as):↑vs=↑as:=by
 induction h with|nil=>rfl|_ _ _ a=>erw[congrArg (·+1) a]
def jW:∀{as:List AV}{args:List OV},toArgs U as\args->↑args=↑as
 |[],_,e=>by cases e;rfl
 |a::as,_,e=>by
  unfold toArgs at e
  split at e
  next c b=>
   cases e;rw[xz,xz,jW b]
  ·cases e
def cM(M0:Ae)(F:Fp)(as:List AV):Ae:=λa=>M0 a∨∃ i,i∉ios as/\a∈F i
def cF(F:Fp)(as:List AV):Fp:=λj=>match as[j]? with|some (.io i)=>F i|_=> []
def zjf(h:as[j]?\(.io i)):cF F as j=F i:=by unfold cF;rw[h]
def JS{a:Ap}(h:a∈cF F as j):∃ i,as[j]?\(.io i)/\a∈F i:=by
 unfold cF at h
 split at h
 ·rename_i i e;exact⟨i,e,h⟩
 ·cases h
def cMM:MM (cM M0 F as) (cF F as)=MM M0 F:=by
 funext a;apply propext;constructor
 ·rintro ((h | ⟨i,_,h⟩) | ⟨j,h⟩)
  ·erw[.inl h]
  ·erw[.inr #[i,h]]
  ·let(i,_,h):=JS h;exact .inr #[i,h]
 ·rintro (h | ⟨i,h⟩)
  ·erw[.inl (.inl h)]
  ·by_cases hi:i∈ios as
   ·let(j,b):=mem_ios.mp hi;exact .inr #[j,by rw[zjf b];exact h]
   ·erw[.inl (.inr #[i,hi,h])]
def WA{as:List AV}(rs:RS M0 F U Z H)(oks:AOks M0 F Z H vs as)(e:toArgs U as\args)(nd:(ios as).Nodup):RS (cM M0 F as) (cF F as) (args.map some) (vs.map some) H where
 al0 a h:=by
  rcases h with h | ⟨i,_,h⟩
  ·erw[rs.al0 a h]
  ·erw[rs.al a (.inr #[i,h])]
 dis0 j a h:=by
  let(i,hi,c):=JS h;rintro (h0 | ⟨p,f,d⟩)
  ·erw[rs.dis0 i a c h0]
  ·have:=rs.dis _ _ a c d;subst this;erw[f (mem_ios.mpr #[j,hi])]
 nd j:=by
  unfold cF
  split
  ·erw[rs.nd _]
  ·erw[.nil]
 dis j k a h1 h2:=by
  let(i,hi,c):=JS h1;let(p,f,d):=JS h2;have:=rs.dis _ _ a c d;subst this;erw[We nd hi f]
 at' j o ej:=by
  rw[xg]at ej;cases q:args[j]? with
  |none=>rw[q]at ej;cases ej
  |some g=>
   rw[q]at ej;let m:g=o:= ~~~ej;subst m;let(v,ev,h):=oks.get e q;refine#[v,by rw[xg,ev];rfl,?_];rw[cMM];rcases h with ⟨u,x,b,ex,rfl,ok⟩ | ⟨i,b,en,l⟩
   ·have:cF F as j= []:=by unfold cF;rw[b]
    rw[this];erw[.d (ok.strong rs ex)]
   ·rw[zjf b];let(t,s,r):=rs.at' i g l;grind
 emp j h:=by
  unfold cF
  split
  next i b=>
   exfalso;let n:j<↑args:=by rw[jW e];exact (xa.mp b).1
   exact h args[j] (by rw[xg,xc n];rfl)
  ·rfl
 len:=by rw[xo,xo,oks.len,jW e]
def Zx:∀{as:List AV}{outs:List (Option OV)}{U U2:Gv},putBack as outs U\U2->(ios as).Nodup->↑U2=↑U/\(∀ i:Nat,i∉ios as->U2[i]?=U[i]?)/\∀ j i:Nat,as[j]?\(.io i)->∃ o,outs[j]?\(some o)/\U2[i]?\(some o)/\i<↑U
 |[],_,U,_,e,_=>by
  have:some U\_:=e;cases this;exact#[rfl,λ_ _=>rfl,λj i h=>by simp at h]
 |.v u::as,[],U,_,e,_=>by cases e
 |.v u::as,x::os,U,U2,e,nd=>by
  let(h0,f,g):=Zx (as:=as) (U:=U) (U2:=U2) e (by rw[ios]at nd;exact nd);refine#[h0,λi hi=>f i (by rw[ios]at hi;exact hi),λj i d=>?_];cases j with
  |zero=>simp at d
  |succ j=>
   let(o,a,b):=g j i (~~~d);exact#[o,~~~a,b]
 |.io k::as,[],U,_,e,_=>by cases e
 |.io k::as,none::os,U,_,e,_=>by cases e
 |.io k::as,some o::os,U,U2,e,nd=>by
  rw[putBack]at e
  split at e
  next hk=>
   rw[ios,xG]at nd;let(h0,f,g):=Zx e nd.2;rw[xN]at h0;refine#[h0,λi hi=>?_,λj i d=>?_]
   ·rw[ios,xA]at hi;rw[f i (λz=>hi (.inr z)),xi (λz=>hi (.inl z.symm))]
   ·cases j with
    |zero=>
     have:k=i:= ~~~d;subst this;refine#[o,rfl,?_,hk];rw[f k nd.1,xk hk]
    |succ j=>
     let(l,a,b,c):=g j i (~~~d);exact#[l,~~~a,b,~~~c]
  ·cases e
open Classical in
def JT{as:List AV}{outs:List (Option OV)}{r:OV}{v:V}{I:Gv}{J:Nu}{s:Fp}{y:Hp}{n:Nat}(rs:RS M0 F U Z H)(oks:AOks M0 F Z H vs as)(e:toArgs U as\args)(nd:(ios as).Nodup)
  (rc:RS (cM M0 F as) s (outs++ [some r]) (vs.map some++ [some v]) y) (sc:Stp (cF F as) H s y) (pb:putBack as outs U\I) (M:J <+: Z) (P:↑J=n) :
  ∃ E,RS M0 E (I.take n++ [some r]) (J++ [some v]) y/\Stp F H E y:=by
 classical
 let(p0,p1,p2):=Zx pb nd;let tj:↑outs=↑as:=by have:=rc.len;simp[oks.len]at this;lia
 let(tl,rfl):=M;let A6:n<=↑U:=by have:=rs.len;simp at this;lia
 let N:↑(I.take n)=n:=by rw[xM];lia
 obtain⟨B,O,f1,f2⟩:∃ B:Fp,B n=s ↑as/\(∀ i j:Nat,i≠n->as[j]?\(.io i)->B i=s j)/\∀ i,i≠n->i∉ios as->B i=F i :=
  ⟨λi=>if i=n then s ↑as else if h:∃ j:Nat,as[j]?\(.io i) then s h.choose else F i,if_pos rfl,λi j hi f=>by
   let hex:∃ j:Nat,as[j]?\(.io i):=#[j,f];dsimp only;rw[if_neg hi,dif_pos hex,We nd hex.choose_spec f],λi hi f=>by dsimp only;rw[if_neg hi,dif_neg λh=>f (mem_ios.mpr h)]⟩
 let cls:∀ i,(∃ j:Nat,B i=s j/\(i=n/\j=↑as∨i≠n/\as[j]?\(.io i)))∨i≠n/\i∉ios as/\B i=F i:=λi=>by
  by_cases hi:i=n
  ·erw[.inl #[_,hi ▸ O,.inl #[hi,rfl]]]
  ·by_cases f:i∈ios as
   ·let(j,f):=mem_ios.mp f;erw[.inl #[j,f1 i j hi f,.inr #[hi,f]]]
   ·erw[.inr #[hi,f,f2 i hi f]]
 let out:∀{j:Nat}{a:Ap},a∈s j->¬ M0 a/\∀ i,i∉ios as->a∉F i:=λ{j a} g=>
  #[λz=>rc.dis0 j a g (.inl z),λi hi z=>rc.dis0 j a g (.inr #[i,hi,z])]
 refine rs.of B (λE K=>#[λb o Y nb=>?_,sc.tups,sc.stay]) (λi a g=>?_) (λi=>?_) (λi k _ _ a _ _ t C=>?_) (λE K st i o m=>?_) (by simp[N,P])
 ·let(X,n1):=sc.keep b o Y λj f=>let #[i,_,g]:=JS f;nb i g;refine#[X,λi hi=>?_];let h:=K i b hi;rcases cls i with ⟨j,q,_⟩ | ⟨_,_,q⟩<;>rw[q]at h
  ·erw[n1 j h]
  ·erw[nb i h]
 ·rcases cls i with ⟨j,q,_⟩ | ⟨_,_,q⟩<;>rw[q]at g
  ·erw[(out g).1]
  ·erw[rs.dis0 i a g]
 ·rcases cls i with ⟨j,q,_⟩ | ⟨_,_,q⟩<;>rw[q]
  ·erw[rc.nd j]
  ·erw[rs.nd i]
 ·rcases cls i with ⟨j,q,c⟩ | ⟨_,c,q⟩<;>rcases cls k with ⟨j',R,G⟩ | ⟨_,G,R⟩<;>rw[q]at t<;>rw[R]at C
  ·cases rc.dis _ _ a t C;rcases c with ⟨rfl,rfl⟩ | ⟨_,c⟩<;>rcases G with ⟨rfl,z⟩ | ⟨_,G⟩<;>simp_all
  ·erw[absurd C ((out t).2 k G)]
  ·erw[absurd t ((out C).2 i c)]
  ·erw[rs.dis _ _ a t C]
 ·let conv:∀{w:V}{o:OV}{A:List Ap},OR (MM (cM M0 F as) s) y w o A->OR (MM M0 E) y w o A:=λ{w o A} q=>q.go (λv d x=>x.less λb hb _=>by
   rcases hb with hb | ⟨i,hb⟩
   ·erw[.inl (.inl hb)]
   ·let h:=K i b hb;rcases cls i with ⟨j,q,_⟩ | ⟨_,c,q⟩<;>rw[q]at h
    ·erw[.inr #[j,h]]
    ·exact .inl (.inr #[i,c,h])) (λ_ _ e=>e) λ_ _=>rfl
  let L:=(xa.mp m).1;simp[N]at L;by_cases hi:i=n
  ·subst hi;rw[xr (by lia),N]at m;have:r=o:= ~~~m;subst this;let(w,l,q):=rc.at' ↑as r (by rw[<- tj];simp);rw[<- oks.len]at l;have:v=w:= ~~~l;subst this;exact#[v,by simp[<- P],O ▸ conv q]
  ·rw[xb (by lia),uc (by lia)]at m;rw[xb (by lia)];by_cases f:i∈ios as
   ·let(j,f):=mem_ios.mp f;let(Q,eo,eg,_):=p2 j i f;rw[eg]at m;have:Q=o:= ~~~m;subst this;let D:=(xa.mp f).1;let(w,l,q):=rc.at' j Q (by rw[xb (by lia)];exact eo);rw[xb (by rw[xo,oks.len];exact D),xg]at l;let(v',W,hh):=oks.get e (xc (by rw[jW e];exact D));rw[W]at l;cases (by simpa using l:v'=w);rcases hh with ⟨u,x,p,_⟩ | ⟨i',p,en,_⟩<;>rw[f]at p<;>cases p
    rw[xb (by lia)]at en;exact#[_,en,f1 i j hi f ▸ conv q]
   ·rw[p1 i f]at m;let(w,l,q):=rs.at' i o m;rw[xb (by lia)]at l;refine#[w,l,f2 i hi f ▸ q.go (λv d x=>qj st rs.al0 x) st.tups λa g=>?_];let(us,p):=rs.laidF g;rw[p];erw[(sc.keep a _ p λj hk=>?_).1];let(i',T,S):=JS hk;cases rs.dis _ _ a g S;erw[f (mem_ios.mpr #[j,T])]
end
private def fCall(run:List OV->RF)(fl:EM (List AV)):EM OV:=λU=>(fl U).bind λ(as,a)=>match toArgs a as with
 |none=>.bad
 |some args=>if (ios as).Nodup then match run args with
  |.ok r outs=>match putBack as outs a with
   |some b=>.ok (r,b.take ↑U)
   |none=>.bad
  |.exc x outs=>match putBack as outs a with
   |some b=>.exc x (b.take ↑U)
   |none=>.bad
  |.bad=>.bad
  else .bad
def QE{F:Fp}{U:Gv}{Z:Nu}{O:St}{run:List OV->RF}{Q:VK}(rs:RS I F U Z H)(G:Ran n run)
  (hp:OPost X.xp I F Z O H (λA J i o v=>Q v i) (fCall run fl U)):APost X.xp I F Z O H (λl E B H1 as=>∀ s,AOks I l B H1 s as->spX X.mg n run s H1 Q (EX X O)) (fl U):=by
 unfold fCall at hp;generalize fl U=k at hp;cases k with
 |bad=>erw[hp]
 |exc x y=>erw[hp]
 |ok z=>
  let(as,E):=z;intro l B H1 a e s1 s oks;simp only[R.bind]at hp
  split at hp
  ·erw[hp.elim]
  next args c=>
   delta hp nd;let hl:↑s=n:=by
    rw[oks.len,<- jW c];erw[G args λz=>?_];rw[z]at hp;exact hp.elim
   refine#[hl,cM I l as,cF l as,args,WA a oks c nd,?_]
   split at hp
   next r outs h=>
    delta hp U2 eb;intro A v i rc sc;let(d,b,s2):=JT a oks c nd rc sc eb e rs.len;erw[hp d i v b (s1.trans s2)]
   next x outs h=>
    delta hp U2 eb;intro C j A i rc sc;let(d,b,s2):=JT a oks c nd rc sc eb e rs.len;let(f,g,s3,_):=b.dropD;exact#[rfl,x,C,j,rfl,hp f i g ((s1.trans s2).trans s3)]
   ·erw[hp.elim]
def ziC{run:List OV->RF}(px:PxOk X)(kn:Kn X.prog X.w X.K X.mg X.base (CX1 X.prog X.w) x k (spX X.mg n run))(r:Room k X.A)(hg:Gl X x)(l:Ran n run)(hl:SA X mp (a::es) fl)
  (o:(↥x)) (he:starEach (a::es) X.env=(false,eval a X.env)::starEach es X.env) (i:(backTo pos (starEach es X.env)).any (·.1)=false):SO X mp (.Call (.Name x p) (a::es) [] pos) (fCall run fl):=λb F U Z O H Q rs c hp=>
 zgH kn r hg px.call (hl b F U Z O H _ rs c (QE rs l hp)) o he i
def zgb{run:List OV->RF}(px:PxOk X)(kn:Kn X.prog X.w X.K X.mg X.base (CX1 X.prog X.w) x k (spX X.mg n run))(o:Room k X.A)(hg:Gl X x)(i:Ran n run)
  (l:(↥x)):SO X mp (.Call (.Name x p) [] [] pos) (fCall run aNil):=by?
 erw[zdi kn o hg px.call (QE rs i hp F Z H rs (uW _) (.refl _ _) [] .nil) l]
end
inductive FL where|next|ret (o:OV)|brk|cnt
abbrev SM:=Gv->R (FL×Gv)
def SPost(xp:XPT)(l:Ae)(F:Fp)(Z:Nu)(H:Hp)(mp:Ac)(N:Nat)(io:Ac)(D:Zz)(r:R (FL×Gv)):Prop:=match r with|.ok (.next,e)=>∀ d b c a,RS l d e b a->Stp F H d a->Sees mp b c->↑c=N->(∀ i∈io,b[i]?=Z[i]?)->D.nx c a|.ok (.brk,e)=>∀ d b c a,RS l d e b a->Stp F H d a->Sees mp b c->↑c=N->(∀ i∈io,b[i]?=Z[i]?)->D.bk c a|.ok (.cnt,e)=>∀ d b c a,RS l d e b a->Stp F H d a->Sees mp b c->↑c=N->(∀ i∈io,b[i]?=Z[i]?)->D.ct c a|.ok (.ret o,e)=>∀ d b v a,RS l d (e++ [some o]) (b++ [some v]) a->Stp F H d a->(∀ i∈io,b[i]?=Z[i]?)->D.rt v a|.exc x e=>∀ d b c a,RS l d e b a->Stp F H d a->Sees mp b c->↑c=N->(∀ i∈io,b[i]?=Z[i]?)->xp x c a|.bad=>False
def SS(X:Cx)(mp:Ac)(io:Ac)(st:Stmt)(f:SM):=∀(a:Ae)(F:Fp)(U:Gv)(Z:Nu)(O:St)(H:Hp)(D:Zz),RS a F U Z H->Sees mp Z O->↑O=X.N.length ->
 SPost X.xp a F Z H mp X.N.length io D (f U)->wpS X st D O H
def SB(X:Cx)(mp:Ac)(io:Ac)(c:List Stmt)(f:SM):=∀(a:Ae)(F:Fp)(U:Gv)(Z:Nu)(O:St)(H:Hp)(D:Zz),RS a F U Z H->Sees mp Z O->↑O=X.N.length ->
 SPost X.xp a F Z H mp X.N.length io D (f U)->wpB X c D O H
section
variable {M0:Ae}{F F1:Fp}{Z Z1:Nu}{O:St}{H H1:Hp}{mp:Ac}{N:Nat}{io:Ac}{D:Zz}{r:R (FL×Gv)}{xp:XPT}
def SPost.step(h:SPost xp M0 F Z H mp N io D r)(s1:Stp F H F1 H1)(l:∀ i∈io,Z1[i]?=Z[i]?):SPost xp M0 F1 Z1 H1 mp N io D r:=by
 cases r with
 |ok z=>
  let(fl,m):=z;cases fl with
  |next=>erw[λf j k g a b c d e=>h f j k g a (s1.trans b) c d λi hi=>(e i hi).trans (l i hi)]
  |brk=>erw[λf j k g a b c d e=>h f j k g a (s1.trans b) c d λi hi=>(e i hi).trans (l i hi)]
  |cnt=>erw[λf j k g a b c d e=>h f j k g a (s1.trans b) c d λi hi=>(e i hi).trans (l i hi)]
  |ret o=>erw[λf j v g a b e=>h f j v g a (s1.trans b) λi hi=>(e i hi).trans (l i hi)]
 |exc x m=>erw[λf j k g a b c d e=>h f j k g a (s1.trans b) c d λi hi=>(e i hi).trans (l i hi)]
 |bad=>erw[h]
def SPost.seq{α:Type}{r:R (α×Gv)}{k:α×Gv->R (FL×Gv)}(l:Sees mp Z O)(hl:↑O=N)(h:SPost xp M0 F Z H mp N io D (r.bind k)):EPost xp M0 F Z O H (λF1 c H1 a=>SPost xp M0 F1 Z H1 mp N io D (k (a,c))) r:=by
 cases r with
 |ok z=>
  let(a,c):=z;intro F1 H1 f s1;let e:=h;erw[e.step s1 λ_ _=>rfl]
 |exc x g=>erw[λb d rs s=>h b Z O d rs s l hl λ_ _=>rfl]
 |bad=>erw[h]
def SPost.seqO{r:R (OV×Gv)}(i:Sees mp Z O)(hl:↑O=N)(h:SPost xp M0 F Z H mp N io D (r.bind k)):OPost xp M0 F Z O H (λF1 c H1 o v=>SPost xp M0 F1 Z H1 mp N io D (k (o,c))) r:=by
 cases r with
 |ok z=>
  let(a,c):=z;intro F1 H1 v f s1;let e:=h;erw[e.step s1 λ_ _=>rfl]
 |exc x g=>erw[λb d rs s=>h b Z O d rs s i hl λ_ _=>rfl]
 |bad=>erw[h]
end
private def sNext:SM:=λU=>.ok (.next,U)
private def sSeq(f g:SM):SM:=λU=>match f U with|.ok (.next,a)=>g a|r=>r
section
variable {X:Cx}{mp io:Ac}{a b c e tg iter:Expr}{pos p p2 pos':Pos}{fa fb:EM FV}{ta:EM Bool}{na:EM (Aa)}{fo:EM OV}{st:Stmt}{dk body rh:List Stmt}{f g:SM}
def zkU:SB X mp io [] sNext:=λb F U Z O H D rs a hl hp=>pss_nil.wp (hp F Z O H rs (.refl _ _) a hl λ_ _=>rfl)
def zf1{nx:St->Hp->Prop}(hp:SPost X.xp I F Z H mp N io D (sSeq f g U))
  (y:∀ s v l i H1,RS I s v l H1->Sees mp l i->↑i=N->SPost X.xp I s l H1 mp N io D (g v)->nx i H1):SPost X.xp I F Z H mp N io { D with nx:=nx } (f U):=by
 unfold sSeq at hp;generalize f U=r at hp;cases r with
 |ok z=>
  let(fl,h):=z;cases fl with
  |next=>erw[λj n m k a b c d e=>y j h n m k a c d (hp.step b e)]
  |brk=>erw[hp]
  |cnt=>erw[hp]
  |ret o=>erw[hp]
 |exc x h=>erw[hp]
 |bad=>erw[hp]
def zh7(l:SS X mp io st f)(o:SB X mp io dk g):SB X mp io (st::dk) (sSeq f g):=λc F U Z O H D rs k hl hp=>
 (Qt za1 Za).wp (l c F U Z O H _ rs k hl (zf1 hp λd i j e H1 b m a h=>o c d i j e H1 D b m a h))
private def zkR:SM:=λ_=>.bad
def zlm:SS X mp io st zkR:=λa F U Z O H D rs b hl hp=>hp.elim
private def fD(fa:EM FV):EM OV:=λU=>(fa U).bind λ(u,a)=>match derS a u with|some x=>.ok (.d x,a)|none=>.bad
def RS.newD(r:RS I F U Z H)(q:Rep (MM I F) H v x):RS I F (U++ [@&x]) (Z++ [some v]) H:=by
 let he:=r.emp _ λo e=>by
  rw[xI (xh _)]at e;cases e
 refine#[r.al0,r.dis0,r.nd,r.dis,λj o e=>?_,λj h=>?_,by simp[r.len]]
 ·by_cases a:j<↑U
  ·rw[xb a]at e;let(w,c,z):=r.at' j o e;exact#[w,by rw[xb (by rw[r.len];exact a)];exact c,z]
  ·let b:j=↑U:=by
    have:=(xa.mp e).1;simp at this;lia
   subst b;rw[xr (xh _)]at e;have:(OV.d x)=o:= ~~~e;subst this;refine#[v,by rw[xr (by rw[r.len];exact xh _),r.len];simp,?_];rw[he];exact .d q
 ·refine r.emp j λo e=>h o ?_;rw[xb (xa.mp e).1];exact e
def SE.so(h:SE X mp a fa):SO X mp a (fD fa):=λf F U Z O H Q rs g hp=>
 h f F U Z O H Q rs g (hp.seq.mono λd i H1 u b s1 c v hv=>by
  delta c x e;exact c d H1 v (b.newD (hv.strong b e)) (.refl _ _))
private def fMove(i:Nat):EM OV:=λU=>match U[i]? with|some (some o)=>.ok (o,U.set i none)|_=>.bad
def RS.take{y:Ae}{F:Fp}{U:Gv}{Z:Nu}{H:Hp}{i:Nat}{o:OV}(r:RS y F U Z H)(e:U[i]?\(some o)):∃ l v,Z[i]?\(some v)/\RS y l (U.set i none++ [some o]) (Z++ [some v]) H/\Stp F H l H:=by
 let(v,ev,_):=r.at' i o e;let hl:=r.len;let hi:=(xa.mp e).1;let lt:∀{j p},(U.set i none++ [some o])[j]?\(some p)->j≠↑U->j≠i/\j<↑U/\U[j]?\(some p):=λ{j p} a d=>by
  let b:=(xa.mp a).1;simp at b;rw[xb (by simp;lia)]at a;have:j≠i:=λz=>by subst z;simp[hi]at a
  rw[xi (Ne.symm this)]at a;exact#[this,by lia,a]
 let(l,h):=r.map (U':=U.set i none++ [some o]) (Z':=Z++ [some v]) (λj=>if j=↑U then i else j) (λj p a=>by
  split
  ·subst j;simp at a;subst a;exact#[e,by simp[<- hl,ev]]
  next d=>
   let(_,b,c):=lt a d;exact#[c,xb (by lia)]) (λj k o p f g=>by
  let b:=@lt _ _ f;let c:=@lt _ _ g
  split<;>split<;>lia) (by simp[hl])
 exact#[l,v,ev,h]
def ziF {s i:Nat}(hN:X.N[s]?\x) (hv:Vis X.env.scope x) (hm:mp[s]?\i) (hd:(↥x)) (hcd:(x==("__classdict__" :Str))=false) :
  SO X mp (.Name x pos) (fMove i):=by?
 unfold fMove at hp;delta hp o q;let(b,v,c,a,s1):=rs.take q;erw[(qG hN hv hd hcd).wp #[v,hs s i v hm c,hp b H v a s1]]
private def sRet(fo:EM OV):SM:=λU=>(fo U).bind λ(o,a)=>.ok (.ret o,a)
def zlp(h:SO X mp e fo):SS X mp io (.Return (some e) pos) (sRet fo):=λd F U Z O H D rs b hl hp=>
 (zal zC).wp (h d F U Z O H _ rs b ((SPost.seqO b hl hp).mono λc g H1 o v a s1 f=>f c Z v H1 a (.refl _ _) λ_ _=>rfl))
def SOt(X:Cx)(mp:Ac)(t:TE)(f:EM OV):=∀(a:Ae)(F:Fp)(U:Gv)(Z:Nu)(O:St)(H:Hp)(Q:VK),RS a F U Z H->Sees mp Z O ->
 OPost X.xp a F Z O H (λc d b o v=>Q v b) (f U)->t O H Q
def SNt.so(h:SNt X mp t na):SOt X mp t (fOwn na):=λb F U Z O H Q rs d hp=>
 h b F U Z O H Q rs d (hp.seq.mono λf g H1 ds a s1 c i p r n=>by
  let(e,s2):=a.newO n r;exact c _ _ _ e s2)
def SNt.sd(h:SNt X mp t na):SOt X mp t (fD (fNew na)):=λc F U Z O H Q rs j hp=>
 h c F U Z O H Q rs j (by
  let g:OPost X.xp c F Z O H (λl m f o v=>Q v f) ((na U).bind λ(ds,b)=>.ok (.d (.list ds),b)):=by
   let e:fD (fNew na) U=(na U).bind λ(ds,b)=>.ok (.d (.list ds),b):=by
    unfold fD fNew;cases na U<;>rfl
   rw[<- e];exact hp
  exact g.seq.mono λd b H1 ds a s1 i k p r n=>by
   let s2:Same H1 (upd H1 p (.lst k)):=qg n;exact i d _ _ ((a.same s2).newD (Rep.list zK (λz=>a.al p z n) (r.grow s2.grow))) (.same s2))
private def sAsg(io:Ac)(i:Nat)(fo:EM OV):SM:=λU=>(fo U).bind λ(o,a)=>if i<↑a/\i∉io then .ok (.next,a.set i (some o)) else .bad
def Yk{t:TE}(y:PS X st (Yn t (W0 s)))(r:mp.Nodup)(hm:mp[s]?\i)(l:s<X.N.length)(h:SOt X mp t fo):SS X mp io st (sAsg io i fo):=λf F U Z O H D rs a hl hp=>
 y.wp (h f F U Z O H _ rs a ((SPost.seqO a hl hp).mono λk m H1 o v b s1 d=>by
  delta d hh;let(e,c,s2):=b.move hh.1;exact d e _ _ H1 c s2 (a.set r hm (by rw[hl];exact l)) (~~~hl) λj g=>by
   rw[xi (λz=>hh.2 (by rw[z];exact g))]))
def zap{s i:Nat}(hN:X.N.Nodup)(hi:X.N[s]?\x)(hx:Loc X.env.scope x)(hf:X.fn x=true∨X.env.scope.names.lookup x\.local)(o:mp.Nodup)(hm:mp[s]?\i)(h:SO X mp e fo)
  (l:swapsWith e (some (.Name x pos')) pos.line X.env=pure false):SS X mp io (.Assign [.Name x pos'] e pos) (sAsg io i fo) :=
 Yk (wg hN hi hx zC l hf) o hm (xa.mp hi).1 h
private def sAsgT(t:IT)(fa:EM FV):SM:=λU=>(fa U).bind λ(u,a)=>match derS a u with
 |some x=>match tgF t x a with
  |some b=>.ok (.next,b)
  |none=>.bad
 |none=>.bad
def zgg{t:IT}(o:SE X mp e fa)(hg:SG X mp (·∈io) tg t)(s:swapsWithSole [tg] e pos.line X.env=pure false)(hw:swappedStores [tg] e X.env=pure none)
  (r:PS X (.Assign [tg] e pos) (Yn (wpE X e) (wpG X tg))):SS X mp io (.Assign [tg] e pos) (sAsgT t fa):=λg F U Z O H D rs d hl hp=>
 r.wp (o g F U Z O H _ rs d ((SPost.seq d hl hp).mono λh k H1 u a s1 b v hv=>by
  delta b x ex;delta b U2 et;exact hg g h k U2 Z O H1 v x _ a d hl (hv.strong a ex) et λi l j f s2 m c n p=>b i l j H1 f s2 m c n))
private def sExpr(fa:EM FV):SM:=λU=>(fa U).bind λ(_,a)=>.ok (.next,a)
def ziK(l:SE X mp e fa)(i:swapsWith e none pos.line X.env=pure false):SS X mp io (.Expr e pos) (sExpr fa):=λd F U Z O H D rs a hl hp=>
 (QM zC i).wp (l d F U Z O H _ rs a ((SPost.seq a hl hp).mono λc g H1 u b s1 f v hv=>f c Z O H1 b (.refl _ _) a hl λ_ _=>rfl))
private def sIf(t:EM Bool)(f g:SM):SM:=λU=>(t U).bind λ(b,a)=>if b then f a else g a
def zmF(hc:ST X mp c ta)(l:SB X mp io body f)(hb:SB X mp io rh g):SS X mp io (.If c body rh pos) (sIf ta f g):=λe F U Z O H D rs d hl hp=>
 (zmp Zw Za Za).wp (hc e F U Z O H _ rs d ((SPost.seq d hl hp).mono λh i H1 b a s1 j=>by
  cases b with|true=>erw[YX (l e h i Z O H1 D a d hl j)]|false=>exact YW (hb e h i Z O H1 D a d hl j)))
def qU(t:IT)(body:SM):Aa->Gv->R (FL×Gv)
 |[],U=>.ok (.next,U)
 |d::ds,U=>match tgF t d U with
  |none=>.bad
  |some b=>match body b with
   |.ok (.next,a)=>qU t body ds a
   |.ok (.cnt,a)=>qU t body ds a
   |.ok (.brk,a)=>.ok (.next,a)
   |r=>r
private def sFor(t:IT)(src:EM (Aa))(body:SM):SM:=λU=>(src U).bind λ(ds,a)=>qU t body ds a
def zln{t:IT}{src:EM (Aa)}(Y:PassesOwn (model X.prog X.w) X.A X.env X.xe)(hc:X.calm=true)(hi:SI X mp tg iter src)(hg:SG X mp (·∈io) tg t)(hb:SB X mp io body f)
  (hf:∀ x,foldedSetIterable iter X.env x=pure x):SS X mp io (.For tg iter body [] pos) (sFor t src f):=λn F U Z O H D rs P hl hp=>by
 erw[(zfJ Y hc Jz y8 Za hf).wp (hi n F U Z O H _ rs P ((SPost.seq P hl hp).mono λC U1 H1 ds B s1 W J hJ=>?_))];dsimp only at W;refine#[λi m w r=>m=↑ds-i/\i<=↑ds/\∃ k y u,RS n k y u r/\Stp C H1 k r/\Sees mp u w/\↑w=X.N.length/\SPost X.xp n k u r mp X.N.length io D (qU t f (ds.drop i) y),#[↑ds,by simp,xY _,C,U1,Z,B,.refl _ _,P,hl,W],?_];rintro i m w r ⟨rfl,hil,k,y,u,S,L,V,T,g⟩;let(AX,AW):=hJ i k r L B.al0;by_cases q:i<↑ds
 ·let(go,yl):=AX ds[i] (by simp[q]);rw[List.drop_eq_getElem_cons q,qU]at g;refine .inr #[go,λG j=>∃ E s K,RS n E s K j/\Stp C H1 E j/\Sees mp K G/\↑G=X.N.length/\SPost X.xp n E K j mp X.N.length io D (qU t f (ds.drop (i+1)) s),λG j h=>#[↑ds-(i+1),by lia,rfl,q,h],λx j hy=>?_];let(s2,rx):=yl x j hy;cases N:tgF t ds[i] y with
  |none=>rw[N]at g;exact g.elim
  |some s=>
   rw[N]at g;dsimp only at g;erw[hg n k y s u w j x ds[i] _ (S.same s2) V T rx N λF3 Z3 O3 ax s3 Q t6 A m3=>?_];let sA:=(Stp.same s2).trans s3;erw[hb n F3 s Z3 O3 j _ ax Q t6 ?_];cases M:f s with
   |bad=>rw[M]at g;exact g.elim
   |exc xx yy=>
    rw[M]at g;erw[g.step sA A]
   |ok z=>
    let(fl,R):=z;rw[M]at g;cases fl with
    |next=>erw[λl p I v a b c d e=>⟨l,R,p,a,(L.trans sA).trans b,c,d,g.step (sA.trans b) λi hi=>(e i hi).trans (A i hi)⟩]
    |cnt=>erw[λl p I v a b c d e=>#[l,R,p,a,(L.trans sA).trans b,c,d,g.step (sA.trans b) λi hi=>(e i hi).trans (A i hi)]]
    |brk=>erw[λl p I v a b c d e=>g l p I v a (sA.trans b) c d λi hi=>(e i hi).trans (A i hi)]
    |ret o=>erw[λl p v4 v a b e=>g l p v4 v a (sA.trans b) λi hi=>(e i hi).trans (A i hi)]
 ·let e:i=↑ds:=by lia
  subst e;rw[uV,qU]at g;erw[.inl #[AW (xh _),g k u w r S (.refl _ _) V T λ_ _=>rfl]]
def ν3{o:Ae}{F:Fp}{U:Gv}{Z:Nu}{H:Hp}{i:Nat}{xs:List OV}(rs:RS o F U Z H)(e:U[i]?\(some (.l xs))):∃ a r A,Z[i]?\(some (.ref a))/\H a\(.lst r)/\ORL (MM o F) H r xs A/\F i=a::A/\A.Nodup:=by
 let(v,ev,q):=rs.at' i _ e;let nd:=rs.nd i;generalize c:F i=A at q;rw[c]at nd;cases q with|l b d=>exact#[_,_,_,ev,b,d,rfl,(xG.mp nd).2]
def y3{l:Ae}{F:Fp}{U:Gv}{Z:Nu}{H:Hp}{i:Nat}{xs r:List OV}{a:Ap}{s vs':List V}(rs:RS l F U Z H)(e:U[i]?\(some (.l xs)))(en:Z[i]?\(some (.ref a)))(v:H a\(.lst s))
  (h:∀ A,ORL (MM l F) H s xs A->ORL (MM l F) H vs' r A):∃ o,RS l o (U.set i (some (.l r))) Z (upd H a (.lst vs'))/\Stp F H o (upd H a (.lst vs')) :=
 rs.mut e en λus A b d c=>by
  rw[v]at b;cases b;let nd:=rs.nd i;rw[c]at nd;exact#[A,λ_ h=>h,(xG.mp nd).2,h A d]
def isOwn(U:Gv)(i:Nat):Bool:=match U[i]? with|some (some (.l _))=>true|_=>false
def Jv{U:Gv}{i:Nat}(h:isOwn U i=true):∃ xs,U[i]?\(some (.l xs)):=by
 unfold isOwn at h
 split at h
 ·rename_i xs e;exact⟨xs,e⟩
 ·cases h
structure NmK(X:Cx)(mp:Ac)(s i:Nat)(x:Str):Prop where
 hN:X.N[s]?\x
 hv:Vis X.env.scope x
 hm:mp[s]?\i
 hd:(↥x)
 hcd:(x==("__classdict__" :Str))=false
private def sApp(i:Nat)(fa:EM FV):SM:=λU=>if isOwn U i then (fa U).bind λ(u,a)=>match derS a u,a[i]? with|some x,some (some (.l xs))=>if ↑xs<1000000 then .ok (.next,a.set i (some (.l (xs++ [.d x])))) else .bad|_,_=>.bad
 else .bad
def zlk{s i:Nat}{x:Str}(n:NmK X mp s i x)(z:SE X mp a fa)(l:a⁻¹)(o:(p2.endLine==pos.line)=true) :
  SS X mp io (.Expr (.Call (.Attribute (.Name x p) "append" p2) [a] [] pos) pos') (sApp i fa):=λm F U Z O H D rs c hl hp=>by
 unfold sApp at hp;delta hp hw;let(E,q):=Jv hw;let(a0,J,B,d,j,K,_,_):=ν3 rs q;refine (QM (zaX PySem.F.plainAttrs_list PySem.F.slot_list_append PySem.F.type_list_append VW (qG n.hN n.hv n.hd n.hcd) (zY zC pa_nil l) rfl (by rw[l];rfl) o l rfl) rfl).wp #[.ref a0,c s i _ n.hm d,.inl #[rfl,_,SqL.of j],?_];erw[z m F U Z O H _ rs c ((SPost.seq c hl hp).mono λG I H1 u b s1 e v hv=>?_)];delta e y xs ey ex;delta e hz;let(a1,r,C,g,h,t,_,_):=ν3 b ex;rw[d]at g;cases g;refine#[a0,r,v,rfl,rfl,h,by have:=Xg;rw[t.length];lia,?_];let(k,f,s2):=y3 b ex d h λA w=>w.snoc (hv.strong b ey);erw[e k Z O _ f s2 c hl λ_ _=>rfl]
private def sSet(i:Nat)(l o:EM FV):SM:=λU=>(o U).bind λ(u,b)=>if isOwn b i then (l b).bind λ(w,a)=>match derS a u,derf a w,a[i]? with
 |some x,some (.int k),some (some (.l xs))=>match ixN ↑xs k with
  |some j=>match xs[j]? with
   |some (.d _)=>.ok (.next,a.set i (some (.l (xs.set j (.d x)))))
   |_=>.bad
  |none=>.bad
 |_,_,_=>.bad
 else .bad
def zlq{s i:Nat}{x:Str}(n:NmK X mp s i x)(hi:SE X mp b fb)(hv:SE X mp a fa)(cb:swapsWithSole [.Subscript (.Name x p) b p2] a pos.line X.env=pure false)(hw:swappedStores [.Subscript (.Name x p) b p2] a X.env=pure none)
  (M:∀{r:TE}{g:TG},PE X a r->PG X (.Subscript (.Name x p) b p2) g->PS X (.Assign [.Subscript (.Name x p) b p2] a pos) (Yn r g)) (G:∀{to B:TE}{t:zgO},PE X (.Name x p) to->PE X b B->zjz X t->PG X (.Subscript (.Name x p) b p2) (zl5 to B t)) :
  SS X mp io (.Assign [.Subscript (.Name x p) b p2] a pos) (sSet i fb fa):=λl F U Z O H D rs e hl hp=>by
 erw[(M zC (G (qG n.hN n.hv n.hd n.hcd) zC zf2)).wp (hv l F U Z O H _ rs e ((SPost.seq e hl hp).mono λC I H1 u d s1 q v P=>?_))];delta q hw;let(W,K):=Jv hw;let(a0,lq,S,h,V,q0,_,_):=ν3 d K;refine#[.ref a0,e s i _ n.hm h,?_];erw[hi l C I Z O H1 _ d e ((SPost.seq e hl q).mono λY U2 H2 w c s2 f vi N=>?_)];delta f y k xs ey ek ex;delta f j ej;delta f z ez;let(a1,L,T,m,o,Q,_,_):=ν3 c ex;rw[h]at m;cases m;cases N.weak c ek;refine#[a0,L,k,j,rfl,rfl,o,by rw[Q.length];exact ej,?_];let(E,J,s3):=y3 c ex h o λA R=>R.setD ((P.stp s2 d.al0).strong c ey) ez;erw[f E Z O _ J s3 e hl λ_ _=>rfl]
def Vg(n:Nat)(x:Int):Nat:=if x<0 then (x+(n:Int)).toNat else min x.toNat n
def rIns:V->List V->Hp->VK->Prop:=λx a H Q=>∃ l xs i y,x=.ref l/\a= [.int i,y]/\H l\(.lst xs)/\ -(2 ^ 63)<=i/\i<2 ^ 63/\↑xs<sizeLine/\Q .non (upd H l (.lst (xs.take (Vg ↑xs i)++y::xs.drop (Vg ↑xs i))))
def zcH:MtM X "list.insert" rIns:=by
 intro pins s O H x p v us Q I m k h;let(l,xs,i,y,rfl,rfl,c,f,g,o,q):=h;cases m;let(u,b,rfl,j,d):=zgz k;let(t,rfl):=j;let(z,a,n,r,hl,e):=I.lstM c;let hf:Builtin.List.listFitsIndex i=true:=by
  unfold Builtin.List.listFitsIndex;simp only[xf,x0];exact#[f,g]
 refine call_meets PySem.F.slot_list_insert #[_,e,rfl] PySem.F.entry_list_insert (PySem.F.args_list_insert_3 _ _ _) (PySem.AutoSeq1.list_insert_list_int_val_1 l a.toArray n i t b (by simp[hf]) (by rw[xm];lia)) #[e,?_];refine#[.non,_,I.lset c e ?_ ((r.take _).append (.cons d (r.drop _))) ?_,rfl,q]
 ·show (a.toArray.extract 0 (if i<0 then (i+(a.toArray.size:Int)).toNat else min i.toNat a.toArray.size)).push b++a.toArray.extract (if i<0 then (i+(a.toArray.size:Int)).toNat else min i.toNat a.toArray.size)=_;rw[xm,<- hl];show (a.toArray.extract 0 (Vg ↑xs i)).push b++a.toArray.extract (Vg ↑xs i) ↑xs=_;apply Array.ext';simp;exact ux (by rw[uD];lia)
 ·simp only[xB,xz,xM,uD];lia
private def zam(i:Nat)(l o:EM FV):SM:=λU=>if isOwn U i then (l U).bind λ(w,b)=>(o b).bind λ(u,a)=>match derS a u,derf a w,a[i]? with|some x,some (.int k),some (some (.l xs))=>if ↑xs<1000000/\ -1000000<=k/\k<=1000000 then .ok (.next,a.set i (some (.l (xs.take (Vg ↑xs k)++.d x::xs.drop (Vg ↑xs k))))) else .bad|_,_,_=>.bad
 else .bad
def zlo{s i:Nat}{x:Str}(n:NmK X mp s i x)(hi:SE X mp b fb)(K:SE X mp a fa)(l:starEach [b,a] X.env=(false,eval b X.env)::starEach [a] X.env)(o:a⁻¹)(E:(p2.endLine==pos.line)=true) :
  SS X mp io (.Expr (.Call (.Attribute (.Name x p) "insert" p2) [b,a] [] pos) pos') (zam i fb fa):=λj F U Z O H D rs d hl hp=>by
 unfold zam at hp;delta hp hw;let(R,I):=Jv hw;let(a0,W,P,g,t,Y,_,_):=ν3 rs I;refine (QM (zaX PySem.F.plainAttrs_list PySem.F.slot_list_insert PySem.F.type_list_insert zcH (qG n.hN n.hv n.hd n.hcd) (zY zC (zY zC pa_nil o) l) rfl (by rw[l,o];rfl) E l (by rw[o];rfl)) rfl).wp #[.ref a0,d s i _ n.hm g,.inl #[rfl,_,SqL.of t],?_];erw[hi j F U Z O H _ rs d ((SPost.seq d hl hp).mono λz C H1 w f s1 J vi L=>?_)];erw[K j z C Z O H1 _ f d ((SPost.seq d hl J).mono λS V T u c s2 h v M=>?_)];delta h y k xs ey ek ex;delta h hz;let(a1,e,Q,m,q,r,_,_):=ν3 c ex;rw[g]at m;cases m;cases (L.stp s2 f.al0).weak c ek;refine#[a0,e,k,v,rfl,rfl,q,by lia,by lia,by have:=Xg;rw[r.length];lia,?_];let(B,G,s3):=y3 (vs':=e.take (Vg ↑e k)++v::e.drop (Vg ↑e k)) c ex g q λA N=>by
  rw[r.length];exact N.insD (M.strong c ey) _
 erw[h B Z O _ G s3 d hl λ_ _=>rfl]
end
end Lake.L3
namespace Lake.L3
open PySem PySem.Spec PyProof.Rows L2
variable [Cs]
end Lake.L3
namespace Lake.L2
open PySem PySem.Spec PyProof.Rows
variable [Cs]
section
variable {X:Cx}{pins:Ak}{O:List (Option V)}{H:Hp}{s:Am}{h':Heap}
def Inv.turnedL{ch:List Ap}(I:Inv X pins O H s)(k:∀ b o,b∉ch->s.heap.get? b\o->h'.get? b\o)(there:∀ b o,b∈ch->s.heap.get? b\o->∃ i,h'.get? b\i)(hf:∀ b∈ch,Jo X pins H b):Inv X pins O H { s with heap:=h',toks:=J }:=by
 let a:∀ b u,H b\u->b∉ch:=λb u e z=>by rw[(hf b z).1]at e;cases e
 refine I.step (λb hb=>?_) (λb o _ _ hc e _=>k b o hc e) (λb o _ _ hc e _=>#[o.slots,k b o hc e]) (λ_ _ _ _ n=>n)
  (λb o hc e=>#[o,k b o hc e]) (λ_ _ e=>e) (λ_ _ _ e=>e) (λb ps e=>#[(List.toArray []),by rw[e];simp]) (λm hm=>?_) (λb u e=>?_) I.bare
 ·let(f0,f1,f2,g,f4,h):=hf b hb;exact#[g,f1,f4,h]
 ·let(o,f,d,ho,r):=hm;exact#[o,f,d,k _ o (λz=>(hf _ z).2.1 rfl) ho,r]
 ·refine (I.hok b u e).stay (λc v hc q=>k c v ?_ q) (λ_ q=>q) λ_ _ q=>q;rcases hc with z | z
  ·rw[z];exact a b u e
  ·erw[a c _ z]
end
def Ite(K:Ah)(a:Ap):It :=
 #[λi H=>∃ xs x,SqL K H a xs/\xs[i]?\x,λi H x b=>∃ p y,H p=none/\b=upd H p (.tup [.int i,y])/\x=.ref p/\∀ xs,SqL K H a xs->xs[i]?\y,λi H=>∃ xs,SqL K H a xs/\↑xs<=i]
def zc9{K:Ah}{elts:Ag}{x1:Nat}{pos:Pos}(a e it:Ap)(A:e≠it):Wr P w K (.Tuple elts x1 pos) (Ite K a) [e,it] e (λi h=>(∃ old,IsEnum h e it i old)/\h.IsListIter it a i) where
 mem:=by simp
 obj:=λi h st b hb=>by
  let((old,he),hit):=st;rcases xA.mp hb with rfl | hb
  ·exact#[_,he,λv z=>by cases z]
  ·let f:b=it:= ~~~hb;subst f;let(o,e,c,d):=hit;exact#[o,e,λv z=>by rw[d]at z;cases z]
 keep:=λi h h' st k=>by
  let((old,he),hit):=st;exact#[#[old,k e (by simp) _ he],hit.at λo q=>k it (by simp) o q]
 item:=by
  intro X n hw hK hc i pins s O H E I hf st hg;subst n hw hK;let((old,he),hit):=st;let(xs,x,l,hx):=hg;let(r,t,p,Z):=I.list l;let(u,W,ru):=t.get hx;let J:e<⇑s:=x8 he;let FW:it<⇑s:=by let(_,q,_):=hit;exact x8 q
  refine wpAny_pyNext_enum_item he hit p.isList (~~~W) A λT ho G U V hk=>#[.ref ⇑s,rfl,wpAny_letOwnedTupleGo_enum ho λj B m=>?_];let si:∀ b o,b≠e->b≠it->s.heap.get? b\o->j.get? b\o:=λb o g F q=>(m.2 b g).trans (hk b o g F q);let D:j.IsListIter it a (i+1):=G.at λo q=>(m.2 it (Ne.symm A)).trans q;let M:Inv X pins O H { s with heap:=j,toks:=s.toks+1 }:=I.turnedL (λb o hb q=>si b o (λz=>hb (by simp[z])) (λz=>hb (by simp[z])) q) (λb o hb q=>by
   rcases xA.mp hb with rfl | hb
   ·exact#[_,B]
   ·let f:b=it:= ~~~hb;subst f;let(o',q',_):=D;exact#[o',q']) hf
  let C:H ⇑s=none:=I.hok.fresh (xh _);let L:j.get? ⇑s=some { cls:=.type "tuple",data:=.seq (List.toArray [.int i s.toks,u]) }:=(m.2 _ (pi J)).trans U;let N:Inv X pins O (upd H ⇑s (.tup [.int i,x])) { s with heap:=j,toks:=s.toks+1 }:=M.track I.sz C (Ne.symm (xj I.lt)) (λy c q=>by
    let(v,ob,Q,_):=I.cell y c q;exact xj (x8 Q)) (λq mz=>xj (x8 (I.pin q mz).1))
   #[by show 2<=sizeLine;decide,[.int i s.toks,u],.cons #[_,rfl] (.cons ru .nil),#[_,L,rfl,_,rfl]]
  refine#[.ref ⇑s,_,N,rfl,#[_,x,C,rfl,rfl,λys Y=>by rw[I.list_inj Y l];exact hx],#[#[u,~~~B],D],λb hb=>?_];rw[zH]
  ·erw[(hf b hb).1]
  grind
 done:=by
  intro X n hw hK hc i pins s O H E I hf st hg;subst n hw hK;let((old,he),hit):=st;let(xs,l,hx):=hg;let(r,t,p,Z):=I.list l;let(f0,f1,f2,R,f4,S):=hf it (by simp);let hl:=↑t;exact wpAny_pyNext_enum_end (I.ok.hd hc) he hit p.isList (by simp;lia) λT f=>#[rfl,I.turned (λb o hb q=>f b o hb q) f0 f1 R f4 S]
 self:=λ_ _ _ _ _ st h=>by
  let((old,he),_):=st;erw[wpAny_pyIter_enum he h]
def boot_enumW:bootBuiltins "enumerate" =some (.type "enumerate"):=by decide +kernel
section
variable {X:Cx}
def zl7(K:Ah)(c:TE):TI:=λO H R=>c O H λx H1=>∃ a,x=.ref a/\(∃ xs,SqL K H1 a xs)/\R (Ite K a) H1
def zhU {elts:Ag}{y:Nat}{pt:Pos}{l:Expr}{p pos:Pos}(hg:Gl X "enumerate") (hm:X.mg "enumerate" =none) (i:l⁻¹) :
  PI X (.Tuple elts y pt) (.Call (.Name "enumerate" p) [l] [] pos) (zl7 X.K (wpE X l)):=by
 intro pins s O H R I h;let g:zgp (wpE X l) zlx O H (λd H1=>∃ v,d= [v]/\∃ a,v=.ref a/\(∃ xs,SqL X.K H1 a xs)/\R (Ite X.K a) H1):=wpE.mono h λv H1 q=>#[v,rfl,q];erw[Call_ (wb I hg hm boot_enumW (PyProof.Rows.callWith_type1 (thn ((zY zC pa_nil i) pos pins s O H _ I g) λus s1 ⟨d,H1,c,t,r⟩=>?_) i rfl))];let(v,rfl,a,rfl,(xs,k),q):=r;let(u,rfl,w):=Zo t;cases w;let(n,z,o,x):=c.list k;erw[call_enumerate_list o.isList λj he hit m hk=>?_];erw[wpAny_pyIter_enum he ?_];let e:Inv X pins O H1 { s1 with heap:=j }:=c.kept hk;refine#[⇑s1+1,[⇑s1+1,⇑s1],_,_,H1,rfl,e,zc9 a _ _ (Nat.succ_ne_self _),#[#[_,he],hit],λb hb=>?_,q];rcases xA.mp hb with rfl | hb
 ·erw[c.fpOk (uY _) (c.hok.fresh (uY _))]
 ·let f:b=⇑s1:= ~~~hb;subst f;erw[c.fpOk (xh _) (c.hok.fresh (xh _))]
end
end Lake.L2
namespace Lake.L3
open PySem PySem.Spec PyProof.Rows L2
variable [Cs]
def ZL(ds:Aa):Aa:=ds.zipIdx.map λp=>PyData.tuple [.int p.2,p.1]
def VI{i:Nat}(h:(ZL ds)[i]?\d):∃ x,ds[i]?\x/\d=.tuple [.int i,x]:=by
 unfold ZL at h;rw[xg,List.getElem?_zipIdx]at h;cases e:ds[i]? with|none=>rw[e]at h;cases h|some x=>rw[e]at h;simp at h;exact#[x,rfl,h.symm]
def zct(ds:Aa):↑(ZL ds)=↑ds:=by simp[ZL]
private def fEnum(fa:EM FV):EM (Aa):=λU=>(fa U).bind λ(u,a)=>match derS a u with|some (.list ds)=>.ok (ZL ds,a)|_=>.bad
def zhr{F:Fp}{K:Ah}{H1:Hp}{l:Ap}(e:H1 l\(.lst o))(n:¬ MM I F l)(r:RepL (MM I F) H1 o ds):JI I F (Ite K l) (ZL ds) H1:=λi k m s h0=>by
 let a:=(s.keep l _ e λj f=>n (.inr #[j,f])).1;refine#[λd hd=>?_,λhl=>#[o,SqL.of a,by rw[zct]at hl;rw[r.length];exact hl]];let(x,hx,rfl):=VI hd;let(v,hv,h):=r.get' hx;refine#[#[o,v,SqL.of a,hv],λz q ⟨p,y,np,b,c,g⟩=>?_];subst b c;have:=g o (SqL.of a);rw[hv]at this;cases this;exact#[qg np,.tuple zK (.cons (.int _) (.cons ((qj s h0 h).grow (qg np).grow) .nil))]
section
variable {X:Cx}{mp:Ac}{a:Expr}{p pos:Pos}{fa:EM FV}
def zit (B:BiK X x (.type "enumerate")) (ex:x= "enumerate") (i:SE X mp a fa) (c:a⁻¹):SI X mp (.Tuple elts o pt) (.Call (.Name x p) [a] [] pos) (fEnum fa):=λk F U Z O H R rs g hp=>by
 subst ex;exact (zhU B.gl B.mg c).wp (i.run rs g hp λf m H1 u v b s1 h d=>by
  delta d ds eu;let(l,j,rfl,e,n,r):=(h.strong b eu).lst_inv;exact#[l,rfl,#[j,SqL.of e],d f H1 b (.refl _ _) _ (zhr e n r)])
end
end Lake.L3
namespace Lake.L2
open PySem PySem.Spec PyProof.Rows
variable [Cs]
structure zlJ(M:Ae)(H:Hp)(b c:Ap)(cells:List Int)(i l t s:Int):Prop where
 mb:M b
 hb:H b\(.lst [.ref c,.int i,.int l,.int t,.int s])
 hc:Rep M H (.ref c) (.list (cells.map PyData.int))
 hi:0<=i
def BoxAt(M:Ae)(H:Hp)(b:Ap):=∃ c cells i l t s,zlJ M H b c cells i l t s
def BoxAt.lst(B:BoxAt M H b):∃ xs,H b\(.lst xs):=let #[_,_,_,_,_,_,B]:=B;#[_,B.hb]
def zgf(K:Ah):Sp:=λd H Q _=>∃(a:Ap)(ns:List Int),d= [.ref a]/\SqL K H a (ns.map V.int)/\↑ns<=63/\∀ b c,Same H c->H b=none->c b≠none->BoxAt (λa=>a=b) c b->Q (.ref b) c
def Vw{n i:Nat}(e:(List.replicate n none:Ge)[i]?\(some z)):False:=by
 rw[xQ]at e
 split at e
 ·cases e
 ·cases e
def RS.blank{M:Ae}(n:Nat)(al:Al M H):RS M (List.replicate n none) O H:=#[al,λi d e=>(Vw e).elim,λi d e=>(Vw e).elim]
section
variable {X:Cx}{H:Hp}{D:Zz}{dk:List Stmt}{p pos pos' p2:Pos}{x:Str}{k:Nat}{Q:VK}
def zlE {ns:List Int}{N:Ab}(hN:X.N.Nodup) (B:Kn X.prog X.w X.K X.mg X.base CX0 "_law_box" k (zgf X.K)) (A:Room k X.A) (y:SqL X.K H a (ns.map V.int)) (hlen:↑ns<=63)
  (E:∀ b o i,Same H i->H b=none->BoxAt (λa=>a=b) i b->RS (λa=>a=b) ((List.replicate X.N.length none).set 1 (some (.v (.ref b)))) o i->↑o=X.N.length->wpB X dk D o i)
  (l:X.N=N) (h0:N[0]?\("_law_script" :Str)) (hi:X.N[1]?\x:=by rfl) (G:Vis X.env.scope "_law_script" :=by first | exact Or.inl rfl | exact Or.inr (Or.inl rfl) | exact Or.inr (Or.inr rfl)) (hx:Loc X.env.scope x:=by first | exact Or.inl rfl | exact Or.inr rfl)
  (hf:X.fn x=true∨X.env.scope.names.lookup x\.local:=by first | exact .inl rfl | exact .inr rfl | assumption) (hg:Gl X "_law_box" :=by rfl)
  (s:starEach [.Name "_law_script" p2] X.env= [(false,eval (.Name "_law_script" p2) X.env)]:=by rfl) (r:(backTo p (starEach [] X.env)).any (·.1)=false:=by rfl) {F:Pos} :
  wpB X (.Assign [.Name x pos'] (.Call (.Name "_law_box" F) [.Name "_law_script" p2] [] p) pos::dk) D (start N [.ref a]) H:=by
 let hl:1<↑N:=by rw[<- l];exact (xa.mp hi).1
 let d:↑(start N [V.ref a])=↑N:=Ym (by simp;lia);refine zm0 1 (Q:=λv i=>∃ b,v=.ref b/\Same H i/\H b=none/\BoxAt (λa=>a=b) i b) hN (zi8 B A hg zml ((zY (qG (by rw[l];exact h0) G) pa_nil s).wp #[.ref a,by simp[start],a,ns,rfl,y,hlen,λb i f nb _ e=>#[b,rfl,f,nb,e]]) (by decide) s r) (λv H1 ⟨b,ev,s1,nb,e⟩=>?_) hi hx rfl hf;subst ev;refine E b _ H1 s1 nb e ((RS.blank X.N.length (λc hc=>?_)).setV (by rw[d];exact hl)) (by rw[xN,d,l]);subst hc;let(xs,hx):=e.lst;rw[hx];erw[λz=>nomatch z]
end
end Lake.L2
namespace Lake.L3
open PySem PySem.Spec PyProof.Rows L2
variable [Cs]
def Jg:Aa->Option (List Int)|[]=>some []|.int b::r=>(Jg r).map (b::·)|_=>none
def W7(ns:List Int):Jg (ns.map .int)\ns:=by
 induction ns with|nil=>rfl|cons b r a=>simp[Jg,a]
section
variable {X:Cx}{mp:Ac}{a:Expr}{p2 pos:Pos}{fa:EM FV}
private def zaN(fa:EM FV)(fl i:EM (Option Int)):EM FV:=λU=>(fa U).bind λ(u,b)=>(fl b).bind λ(lo,c)=>(i c).bind λ(hi,a)=>match derS a u with|some (.tuple ds)=>if HT.sIx ↑ds 0 lo=0/\HT.sIx ↑ds ↑ds hi=↑ds then .bad else .ok (.dat (.tuple (Js ds lo hi)),a)|_=>.bad
def zid{lo hi:Option Expr}(y:SE X mp a fa)(hl:SOp X mp lo fl)(z:SOp X mp hi I):SE X mp (.Subscript a (.Slice lo hi none p2) pos) (zaN fa fl I):=by?
 let(J,B,w):=hl;let(G,A,t):=z;erw[(Jy zlf zC B A).wp (y.run rs hs hp λh m H1 u v b s1 x r=>?_)];erw[w M0 h m Z O H1 _ b hs (r.seq.mono λi o k lo c s2 s=>?_)];erw[t M0 i o Z O k _ c hs (s.seq.mono λj E D hi f s3 d=>?_)];delta d ds e
 split at d
 ·erw[d.elim]
 next hw=>
  let o3:=((x.stp s2 b.al0).stp s3 c.al0);let(l,C,rfl,q,g):=(o3.strong f e).tup_inv;exact#[l,C,rfl,SqT.of q,by rw[g.length];exact hw,λp n=>d j _ (f.same (qg n)) (.same (qg n)) _ (Rep.tuple zK ((kt g lo hi).grow (qg n).grow))]
end
end Lake.L3
namespace Lake.Tab
open PySem PySem.SetTable
section
variable {prog:Ar}{w:World}
inductive Keys(prog:Ar)(w:World):List (Int×Value)->List Int->Prop|nil:Keys prog w [] []|cons {k:Int} {t:Tok} {es ks}:Keys prog w es ks->Keys prog w (((intKind prog w).hash k,.int k t)::es) (k::ks)
def Keys.length{l:List (Int×Value)}{r:List Int}(h:Keys prog w l r):↑l=↑r:=by
 induction h with|nil=>rfl|cons _ a=>simp[a]
def dedup{K:Type}[DecidableEq K](c:List K):List K:=c.foldl PyProof.Rows.step_dedup []
section
variable {K:Type}[DecidableEq K]
def zc6(O:List K)(v k:K):(PyProof.Rows.step_dedup O v).any (·==k)=(O.any (·==k)||decide (k=v)):=by
 unfold PyProof.Rows.step_dedup;by_cases e:k=v
 ·subst e;split<;>simp_all
 ·have:(v==k)=false:=by grind
  split<;>simp[this,e]
def JG(O:List K)(v:K):↑(PyProof.Rows.step_dedup O v)=if O.any (·==v) then ↑O else ↑O+1:=by
 unfold PyProof.Rows.step_dedup;split<;>simp
def WS{c:List K}{i:Nat}{k:K}(h:c[i]?\k):dedup (c.take (i+1))=PyProof.Rows.step_dedup (dedup (c.take i)) k:=by
 unfold dedup;rw[uh,h,List.foldl_append];rfl
def dedup_len(l:List K):↑(dedup l)<=↑l:=by
 suffices H:∀(l acc:List K),↑(l.foldl PyProof.Rows.step_dedup acc)<=↑acc+↑l by simpa [dedup] using H l []
 intro l
 induction l with
 |nil=>simp
 |cons x l a=>
  intro acc;have:=a (PyProof.Rows.step_dedup acc x);rw[JG]at this;rw[uG,xz]
  split at this<;>lia
end
end
end Lake.Tab
namespace Lake.L2
open PySem PySem.Spec PyProof.Rows
variable [Cs]
end Lake.L2
namespace Lake.L3
open PySem PySem.Spec PyProof.Rows L2
variable [Cs]
end Lake.L3
namespace Lake.L2
open PySem PySem.Spec PyProof.Rows
def vL(n:Nat):sliceRange ((n:Int)-1) (-1) (-1)=(List.range n).map λk=>n-1-k:=by
 unfold sliceRange;let a:¬ ((-1:Int)>0):=by decide
 let hc:(if (-1:Int)>0 then (if (n:Int)-1< -1 then (-1-((n:Int)-1)+ -1-1) / -1 else 0) else (if (n:Int)-1> -1 then ((n:Int)-1- -1- -1-1) / (- -1) else 0)).toNat=n:=by
  rw[if_neg a]
  split
  ·have:((n:Int)-1- -1- -1-1) / (- -1)=n:=by
    let e:(- -1:Int)=1:=by decide
    rw[e,Int.ediv_one];lia
   rw[this];rfl
  ·lia
 simp only[hc];apply uv;intro k hk;have:=uN.mp hk;lia
def Vj(c:An):slicePick c.toArray none none (some (-1))=c.reverse.toArray:=by
 unfold slicePick;let hb:sliceBounds none none (some (-1)) c.toArray.size=((↑c:Int)-1,-1,-1):=by
  simp[sliceBounds]
 rw[hb];simp only[vL];congr 1;rw[uK];have:∀(l:Ac),(∀ k∈l,k<↑c)->l.filterMap ((λx=>c.toArray[x]?)∘λk=>↑c-1-k)=l.filterMap λk=>c.reverse[k]?:=by
  intro l hl
  induction l with
  |nil=>rfl
  |cons k l a=>
   let hk:=hl k (by simp);let e:((λx=>c.toArray[x]?)∘λk=>↑c-1-k) k=c.reverse[k]?:=by
    simp only[Function.comp,List.getElem?_toArray];rw[List.getElem?_reverse hk]
   rw[xR,xR,e,a λj b=>hl j (xt _ b)]
 rw[this _ λk hk=>uN.mp hk];let key:∀(xs:An),(List.range ↑xs).filterMap (λk=>xs[k]?)=xs:=by
  intro xs
  induction xs with
  |nil=>rfl
  |cons x xs a=>
   rw[xz,uR,xR];simp only[List.getElem?_cons_zero,uK];congr 1
 have:=key c.reverse;rwa [List.length_reverse]at this
section
variable {X:Cx}{e:Expr}{te:TE}{st:Expr}{ts:TO}{pos p2:Pos}
def tRev(K:Ah)(te:TE)(ts:TO):TE:=λO H Q=>te O H λx H1=>ts O H1 λk b=>k\(-1)/\∃ a xs,x=.ref a/\SqL K b a xs/\∀ p,b p=none->Q (.ref p) (upd b p (.lst xs.reverse))
def zkz(he:PE X e te)(i:PO X (some st) ts):PE X (.Subscript e (.Slice none none (some st) p2) pos) (tRev X.K te ts):=by
 cbv;erw[Subscript_ (thn (he pins s O H _ I h) λv s1 ⟨x,H1,j,w,t⟩=>?_)];erw[wpAny_Slice ?_];rw[evalPart_none];erw[x9 (x9 ?_)];erw[thn (i pins s1 O H1 _ j t) λc s3 ⟨k,g,l,ps,u⟩=>?_];let(rfl,a,xs,rfl,hx,q):=u;let d:Inv X pins O g { s3 with heap:=s3.heap.push { cls:=.type "slice",data:=.fields (List.toArray [.none,.none,c]) } }:=l.kept (t':=s3.toks) λb p q=>x6 _ q;let m:(s3.heap.push { cls:=.type "slice",data:=.fields (List.toArray [.none,.none,c]) }).IsSliceOf ⇑s3 .none .none c:=Heap.IsSliceOf.new ..
 show ∅ (subscriptTail e (.Slice none none (some st) p2) v (.ref ⇑s3)) (EP X pins O Q) X.xe { s3 with heap:=s3.heap.push { cls:=.type "slice",data:=.fields (List.toArray [.none,.none,c]) } };cases w;let(o,r,f,n):=d.list hx;let hlen:=↑r;refine tail_any f.isList.typeIs slot_list_getitem.lookup ?_ (by with_unfolding_all rfl);refine wpAny_getItem_list_slice f.isList m .none .none ps (by simp) ?_ (by rw[xm]<;>lia);rw[Vj];refine#[.ref _,_,d.laid (λb p q=>x6 _ q) (xh _) ?_,rfl,q _ (d.hok.fresh (xh _))];exact#[by rw[List.length_reverse];exact n,_,0,r.reverse,Xa _ rfl]
end
variable [Cs]
end Lake.L2
namespace Lake.L3
open PySem PySem.Spec PyProof.Rows L2
variable [Cs]
section
variable {X:Cx}{mp:Ac}{a st:Expr}{p p2 pos:Pos}{fa fs:EM FV}
private def zaM(fa:EM FV)(fs:EM (Option Int)):EM (Aa):=λU=>(fa U).bind λ(u,b)=>(fs b).bind λ(k,a)=>if k\(-1) then match derL a u with|some ds=>.ok (ds.reverse,a)|none=>.bad
 else .bad
def zfQ{ds:Aa}(r:RepL M H c ds):RepL M H c.reverse ds.reverse :=
 r.ind (P:=λc ds=>RepL M H c.reverse ds.reverse) .nil λh _ a=>by
  rw[uO,uO];erw[a.append (.cons h .nil)]
def ziy{fs:EM (Option Int)}(o:SE X mp a fa)(hk:SOp X mp (some st) fs):SN X mp (.Subscript a (.Slice none none (some st) p2) pos) (zaM fa fs):=by?
 let(y,s,q):=hk;erw[(zkz zC s).wp (o.run rs hs hp λf i H1 u v b s1 r m=>?_)];erw[q M0 f i Z O H1 _ b hs (m.seq.mono λg x h k c s2 d=>?_)];delta d cv;delta d ds e;let(l,w,rfl,j,t):=(r.stp s2 b.al0).list c e;exact#[cv,l,w,rfl,SqL.of j,λp n=>d g h c (.refl _ _) _ p (zfQ t) n]
end
def ORL.snocO{os:List OV}(q:OR M H v o B)(r:ORL M H c os A):ORL M H (c++ [v]) (os++ [o]) (A++B) :=
 r.ind (P:=λc os A=>ORL M H (c++ [v]) (os++ [o]) (A++B)) (by simpa using ORL.cons q .nil) λr _ a=>by rw[uC];exact .cons r a
inductive IW where|v (s i:Nat)|c (n:Int)
def wD(U:Gv):IW->Option PyData
 |.v _ i=>match U[i]? with
  |some (@&x)=>some x
  |_=>none
 |.c n=>some (.int n)
def WOk(X:Cx)(mp:Ac)(a:Expr)(w:IW):=∀(b:Ae)(F:Fp)(U:Gv)(Z:Nu)(O:St)(H:Hp)(x:PyData),RS b F U Z H->Sees mp Z O->wD U w\x->∃ v,Rep (MM b F) H v x/\∀ Q:VK,Q v H->wpE X a O H Q
section
variable {X:Cx}{mp:Ac}{c e:Expr}{p:Pos}
def zm2(n:NmK X mp s i x):WOk X mp (.Name x p) (.v s i):=λf F U Z O H y rs c e=>by
 dsimp only [wD]at e
 split at e
 next z q=>
  cases e;let(v,a,r):=rs.at' i _ q;generalize F i=A at r;cases r with|d r=>exact#[v,r,λQ b=>(qG n.hN n.hv n.hd n.hcd).wp #[v,c s i v n.hm a,b]]
 ·cases e
def zm1:WOk X mp (.Constant (.int n) j p) (.c n):=λb F U Z O H y rs c e=>by
 cases e;exact#[.int n,.int n,λQ a=>pe_int.wp a]
end
private def sRaise(x:Str):SM:=λU=>.exc x U
def zlO(X:Cx):=∀(x:Str)(O:St)(H:Hp),X.xp x O H->∀ C,X.mg x\(.ref C)->∀ pins s,Inv X pins O H s->∀ b a,MadeX s.heap b a (.ref C) none->X.xe (.ref a) { s with heap:=b }
section
variable {X:Cx}{mp io:Ac}{x:Str}{C:Ap}{np af pos cp:Pos}{z:Str}{cj:Nat}
def zgh(k:zlN X x C)(c:X.calm=true)(rz:zlO X):SS X mp io (.Raise (some (.Call (.Name x np) [.Constant (.str z) cj cp] [] af)) none pos) (sRaise x):=λe F U Z O H D rs d hl hp=>
 zgK k c λpins s I b a hm=>rz x O H (hp F Z O H rs (.refl _ _) d hl λ_ _=>rfl) C k.mg pins s I b a hm
end
def HC.rep(v:HC):Rep M H v.V v.D:=by
 cases v with|s z=>erw[.str z]|b c=>erw[.bool c]
private def zfS(io:Ac)(b:SM)(c:List (Str×Nat×Nat×HC)):SM:=λU=>match b U with|.exc x a=>R.get (QT x c) λp=>if p.2.1<↑a/\p.2.1∉io then .ok (.next,a.set p.2.1 (some (.d p.2.2.D))) else .bad|r=>r
def XPt(X:Cx)(ns:List (Str×Nat×Nat×HC))(D:Zz):XPT:=λx O H=>∃ t j v,QT x ns\(t,j,v)/\D.nx (O.set t (some v.V)) H
section
variable {X:Cx}{mp io:Ac}{L:Ab}{hs:List ExceptHandler}{ns:List (Str×Nat×Nat×HC)}{f:SM}{body:List Stmt}{hd:ExceptHandler}{pos:Pos}
def zkO(i:X.stack=X.env::X.outer)(c:X.env.frame\X.env.locals)(hN:X.N.Nodup)(xl:ExL X.K X.mg L)(l:Hds X L mp hs ns)(pins:Ak)(D:Zz):PxOk (X.tried pins (zgs X pins D hs) (XPt X ns D)):=λO a H e s x C d ⟨t,j,v,f,g⟩ u=>by
 let(b,fl,B,rfl,al,inv):=u;let I:=inv s.heap al.1 (.refl _);let ok:X.Ok:=#[I.ok.mod,I.ok.kind,I.ok.glob,I.ok.blt,I.ok.above,I.ok.inj,I.ok.has,I.ok.cab,I.ok.hd,I.ok.frames,I.ok.stk,I.ok.exf,I.ok.bs,I.ok.bsz,I.ok.noex,I.ok.exfs,I.ok.funs,I.ok.frf];erw[zjJ (X:=X) #[b,fl,B,rfl,al,λh k m=>(inv h k m).untried ok] ok i c hN xl d l f g]
def zlr(A:mp.Nodup)(y:Hds X L mp (hd::hs) ns)
  (hb:∀ pins D,SB (X.tried pins (zgs X pins D (hd::hs)) (XPt X ns D)) mp io body f):SS X mp io (.Try body (hd::hs) [] [] pos) (zfS io f ns):=λp F U Z O H D rs k d hp=>by
 erw[zlG λpins=>hb pins D p F U Z O H D rs k d ?_];unfold zfS at hp;generalize f U=r at hp;cases r with
 |bad=>erw[hp]
 |ok z=>
  let(fl,E):=z;cases fl<;>exact hp
 |exc x G=>
  dsimp only at hp;intro B I C o q w s g c;let((t,j,v),h,hp):=R.got id hp;let(i,hp):=R.gif id hp;let(_,n,u):=y.found h;refine#[t,j,v,h,?_];let(m,e,s2):=q.setD (HC.rep v) i.1;let a:=g;refine hp m _ _ o e (w.trans s2) (s.set A n (by rw[a];exact u)) (by rw[xN];exact g) λl b=>?_;rw[xi (λz=>i.2 (by rw[z];exact b))];erw[c l b]
end
end Lake.L3
namespace Lake.Tab
open PySem PySem.Spec PyProof.Rows
abbrev newSet (led:Bool):Obj:={ cls:=.type "set",dict:=none,data:=.set (List.toArray []) 0 (.fresh 0 0 led) }
section
variable {prog:Ar}{w:World}{K:Type}[DecidableEq K]{knd:KeyKind prog w K}{A:Around}{R:Result->Am->Prop}{I:Ap}{fp wr:List Ap}{G:Array GenState->Array GenState->Prop}{n:Nat}{P:Nat->Aj->Prop}{St:Nat->Am->Prop}
abbrev zbe(knd:KeyKind prog w K)(h:Heap)(S:Ap)(ks:List K):Prop:=h.SetOf knd S (λz=>(dedup ks).any (·==z)) ↑(dedup ks)
def V2(W:WalksS prog w A.in1 I fp wr G n P St)(S:Ap)(y:S∉fp){l:List K}(hl:↑l=n)(H:∀ i v,P i v->∃ k,l[i]?\k/\knd.is k v=true/\v.scannable=true)(hb:n+1<scanBound) :
  ∀(m i:Nat)(s:Am),n-i=m->i<=n->St i s->zbe knd s.heap S (l.take i) ->
   (∀ c,Moved (S::wr) G s c->zbe knd c.heap S l->R (.ok (.ret .none)) c) ->
   codeAny (model prog w) A (.builtin "set.update.loop" #[[.ref S,.ref I],[]]) R s:=by
 let C:S∉wr:=λh=>y (W.sub _ h);let D:∀ b∈wr,b∈S::wr:=λb hb=>xt _ hb;intro m
 induction m with
 |zero=>
  intro i s hk hi a g q;let r:i=n:=by lia
  subst r;rw[<- hl,uE]at g;erw[codeAny_builtin F.entry_set_update_loop ?_];rw[Around.under_plainId F.plain_set_update_loop _];show wpAny _ A.in1 (pyNext (.ref I) >>= _) _ _ s;erw[x5 (W.done s _ _ a λc hm=>?_)];show wpAny _ A.in1 (ret Value.none) _ _ c;let(o,p,j,t,ho,rest):=g;erw[x9 (q c (hm.mono D) #[o,p,j,t,hm.heap S _ C ho,rest])]
 |succ m U=>
  intro i s hk hi a g q;let d:i<n:=by lia
  erw[codeAny_builtin F.entry_set_update_loop ?_];rw[Around.under_plainId F.plain_set_update_loop _];show wpAny _ A.in1 (pyNext (.ref I) >>= _) _ _ s;erw[x5 (W.item i s _ _ d a λv c T f hm=>?_)];let(k,x,B,sk):=H i v T;let O:zbe knd c.heap S (l.take i):=by
   let(o,p,j,X,ho,rest):=g;exact#[o,p,j,X,hm.heap S _ C ho,rest]
  show wpAny _ A.in1 (holding [v] (setAdd S v) >>= _) _ _ c;erw[x5 (Xd ?_)];unfold setAdd;erw[Xd ?_];erw[x5 (knd.pyHash B ?_)];let V:↑(dedup (l.take i))+1<scanBound:=by
   have:=dedup_len (l.take i);rw[xM]at this;lia
  erw[wpAny_setAddHashed_of (s:={ c with toks:=c.toks+1 }) B sk O V λN u Q=>?_];let L:zbe knd N S (l.take (i+1)):=SetOf_congr Q (λz=>by rw[WS x,zc6]) (by rw[WS x,JG]);refine x9 #[plainId_quiet F.plain_set_update_loop _,U (i+1) _ (by lia) d (W.frame _ c _ _ f (uY _) λb hb o e=>?_) L λM E J=>?_]
  ·rw[u.2 b (λh:b=S=>y (by rw[<- h];exact hb))];exact e
  ·refine q M (Moved.trans W.gtrans ((hm.mono D).then_heap (uY _) λb o hb e=>?_) E) J;rw[u.2 b (λh:b=S=>hb (by rw[h];exact xF))];exact e
end
section
variable {prog:Ar}{w:World}{K:Type}[DecidableEq K]{knd:KeyKind prog w K}{A:Around}{E:Af}{s:Am}
def set_tupleT{a:Ap}{l:Array Aj}{H:List K}{Q:Af}(hd:A.handled=none)(B:s.heap.IsTuple a l∨s.heap.IsList a l)(hl:↑H=l.size)(hv:∀(i:Nat)(v:Aj),l[i]?\v->∃ k,H[i]?\k/\knd.is k v=true/\v.scannable=true)(y:l.size+1<scanBound)
    (k:∀(c:Heap)(G:Nat),zbe knd c ⇑s H->(∀ b o,b<⇑s->s.heap.get? b\o->c.get? b\o)->Q (.ref ⇑s) { s with heap:=c,toks:=G }) :
    wpAny (model prog w) A (call (.type "set") [.ref a]) Q E s:=by
  let(Z,t0,m0):=F.called_set.mro;let m1:=F.called_set.made;let m2:=F.called_set.sub;let m3:=F.called_set.notType;let m4:=F.called_set.canCreate;let m5:=F.typeCall_set_1 (.ref a);erw[wpAny_call (codeAny_of_tree ?_)];show wpAny _ _ (callAny (.type "set") #[[.ref a],[]]) _ _ s;refine x9 #[Code.quiet_builtin _ (by decide +kernel),codeAny_builtin F.entry_type_call ?_];rw[Around.under_plain (weight_type_call_type "set" [.ref a] []) rfl]
  repeat (any_goals (first | assumption | wp_step))
  erw[Xl (code_set_new_1 (.ref a) (E:=E) (Q₁:=λz T=>∃ led:Bool,z=.ref ⇑s/\T={ s with heap:=s.heap.push (newSet led) }) λled=>#[led,rfl,rfl]) λr T g=>?_];cases r with
  |error e=>erw[g]
  |ok fl=>
    cases fl with
    |next=>erw[g.elim]
    |brk=>erw[g.elim]
    |cont=>erw[g.elim]
    |ret z=>
      let(led,rfl,rfl):=g;let I:(s.heap.push (newSet led)).get? ⇑s=some (newSet led):=Xa _ rfl;let g1:Shared.TypeIs { s with heap:=s.heap.push (newSet led) } (.ref ⇑s) "set" :=#[_,I,rfl];let g2:=F.called_set.init.lookup;let g3:=F.called_set.init.bind (.ref ⇑s)
      repeat (any_goals (first | assumption | wp_step))
      refine Xl (codeAny_call_builtin (R:=wants (λr n=>r=.none/\∃ c G,n={ s with heap:=c,toks:=G }/\zbe knd c ⇑s H /\
          ∀ b o,b<⇑s->s.heap.get? b\o->c.get? b\o) E) F.called_set.init.plain F.entry_set_init (check_set_init_1 g1 ?_)) λY n j=>?_
      · rcases B with B | B <;>
        (have d:=B.push (newSet led)
         let(X,x,C,nt,D):=B;let f:=x8 x;cases X with
         |mk oc od W g8=>
           dsimp only at C D;subst C D;let U:=x6 (newSet led) x;let f1:=F.sub_tuple_set;let f4:=F.sub_list_set;let f2:=F.sub_tuple_frozenset;let f5:=F.sub_list_frozenset;let f6:(Value.type "list" ==Value.type "dict")=false:=by decide
           let f3:(Value.type "tuple" ==Value.type "dict")=false:=by decide
           unfold Builtin.«set.__init__» noKeywords Builtin.Frozenset.updateFrom;generalize t:pyIter=pI
           wp_walk
           subst t
           first | refine wpAny_pyIter_tuple d (x5 (wpAny_runValue ?_)) | refine wpAny_pyIter_list d (x5 (wpAny_runValue ?_))
           let p:(s.heap.push (newSet led)).objs.size=⇑s+1:=Heap.size_push ..
           let J:a≠(s.heap.push (newSet led)).objs.size:=by rw[p];exact xj (Nat.lt_succ_of_lt f)
           let L:⇑s∉ [(s.heap.push (newSet led)).objs.size,a]:=λz=>by
             rcases xA.mp z with z | z
             · rw[p]at z;exact absurd z (xj (uU _))
             · have : ⇑s = a := by simpa using z
               erw[absurd this.symm (xj f)]
           let M:A.in1.in1.in1.handled=none:=by simp[hd]
           first | refine V2 ((Walks.tuple M _ a J l).toS) ⇑s L hl hv y (l.size-0) 0 _ rfl (xY _) #[#[_,Xa _ rfl,rfl,rfl],d.push _] ?u ?v | refine V2 ((Walks.list M _ a J l).toS) ⇑s L hl hv y (l.size-0) 0 _ rfl (xY _) #[#[_,Xa _ rfl,rfl,rfl],d.push _] ?u ?v
           case u=>
             let V:=λo=>x6 (h:=s.heap.push (newSet led)) o I;exact SetOf_congr ((setObjOf_fresh (knd:=knd) led).setOf (V _) (by unfold scanBound;lia)) (λ_=>rfl) rfl
           case v=>
             intro n hm m;let N:=hm.gens;let O:=hm.drawn;let P:=hm.os;let S:=hm.heap;cases n with
             |mk c gg gd gt go=>
               dsimp only at N O P S m;subst N O P;show wpAny _ _ _ _ _ _;erw[x9 ?_];show wpAny _ _ (ret Value.none) _ _ _;erw[x9 #[rfl,c,gt,rfl,m,λb o hb e=>S b o (λz=>?_) (x6 _ (x6 _ e))]];rcases xA.mp z with z | z
               · exact absurd z (xj hb)
               · have : b = (s.heap.push (newSet led)).objs.size := by simpa using z
                 rw[p]at this;lia)
      · cases Y with
        |error e=>erw[j]
        |ok q=>
          cases q with
          |next=>erw[j.elim]
          |brk=>erw[j.elim]
          |cont=>erw[j.elim]
          |ret r=>
            let(rfl,c,G,rfl,m,hk):=j
            repeat (any_goals (first | assumption | wp_step))
            erw[k c G m hk]
end
end Lake.Tab
namespace Lake.L2
open PySem PySem.Spec PyProof.Rows
variable [Cs]
section
variable {X:Cx}
def WC:j6 X (.type "range") (λxs H Q=>∃ n:Int,xs= [.int n]/\∀ p,H p=none->Q (.ref p) (upd H p (.rng 0 n))):=by
 intro pins s O H xs us Q I r h;let(n,rfl,q):=h;let(u,rfl,a):=Zo r;let(t,rfl):=a;erw[call_range_1 #[.ref ⇑s,upd H ⇑s (.rng 0 n),I.laid (o:=.rng 0 n) (λb o e=>x6 _ e) (xh _) (show ∃ t u v,_ from #[s.toks,t,s.toks+1,Xa _ rfl]),rfl,q _ (I.hok.fresh (xh _))]]
def zaz{n:Nat}:∀{k:Nat}{its:An},↑its=n->(∀(i:Nat)(v:Aj),its[i]?\v->∃ t,v=Value.int ((k:Int)+(i:Int)) t)->Vals ((List.range n).map λ(i:Nat)=>V.int ((k:Int)+(i:Int))) its:=by
 induction n with
 |zero=>
  intro k its hl _;rw[List.eq_nil_of_length_eq_zero hl];exact .nil
 |succ n a=>
  intro k its hl h;cases its with
  |nil=>cases hl
  |cons v its=>
  let(t,e):=h 0 v rfl;rw[uR,xn,xy];erw[.cons #[t,e] ?_];let a:=a (k:=k+1) (its:=its) (Nat.succ.inj hl) λi w hw=>by
   let(t,e):=h (i+1) w hw;exact#[t,by rw[e];congr 1;lia]
  let em:((λi:Nat=>V.int ((k:Int)+(i:Int)))∘Nat.succ)=λi:Nat=>V.int (((k+1:Nat):Int)+(i:Int)):=by
   funext i;show V.int _=V.int _;congr 1;simp only[Nat.succ_eq_add_one];lia
  rw[em];exact a
def vZ (hc:X.calm=true):j6 X (.type "list") (λxs H Q=>∃ p,∃ n:Nat,xs= [.ref p]/\H p\(.rng 0 (n:Int))/\n<=1000000/\∀ l,H l=none->Q (.ref l) (upd H l (.lst ((List.range n).map λ(i:Nat)=>V.int (i:Int))))):=by
 intro pins s O H xs us Q I r h;let(p,n,rfl,hp,C,q):=h;let(u,rfl,z):=Zo r;cases z;let(t,u,v,e):=I.hok p _ hp;let c:=small_one (a:=0) (b:=(n:Int)) (by decide) (by decide) (by lia) (by lia);let f:Builtin.Range.rangeSize 0 (n:Int) 1=(n:Int):=by rw[rangeSize_one];split<;>lia
 refine call_list_range (I.ok.hd hc) (show IsRange s.heap p 0 (n:Int) 1 t u v from e) c f (by lia) λB A acc g hk j d=>?_;let hv:Vals ((List.range n).map λ(i:Nat)=>V.int (i:Int)) acc.toList:=by
  have:=zaz (n:=n) (k:=0) (its:=acc.toList) (~~~d.1) λi w hw=>by
   let(t,e):=d.2 i w (~~~hw);grind
  simpa using this
 let x:n<=sizeLine:=by have:=Xg;lia
 exact#[.ref ⇑s,_,I.laid (t':=A) (o:=.lst ((List.range n).map λ(i:Nat)=>V.int (i:Int))) hk (xh _) (show _/\∃ y m,_ from #[~~~x,acc.toList,g,hv,~~~j]),rfl,q _ (I.hok.fresh (xh _))]
def V0 {K:Type} [DecidableEq K] (knd:KeyKind X.prog X.w K) (f:K->V) (hf:∀ k u,RelV (f k) u->knd.is k u=true/\u.scannable=true){a:Expr}{U A B y:Pos}(hc:X.calm=true) (Y:Gl X "len") (L:X.mg "len" =none) (hg:Gl X "set") (hm:X.mg "set" =none) (r:a⁻¹) :
  PE X (.Call (.Name "len" U) [.Call (.Name "set" A) [a] [] y] [] B) (λO H Q=>wpE X a O H λv H1=>∃ l ns,v=.ref l/\(SqT X.K H1 l (List.map f ns)∨SqL X.K H1 l (List.map f ns))/\↑ns<=60/\Q (.int ↑(Tab.dedup ns)) H1):=by
 cbv;erw[Xk (wb I Y L PySem.boot_len ?_)];erw[PyProof.Rows.callWith_builtin1 (E:=X.xe) ?_ rfl rfl];show wpAny _ _ (spliced ((false,eval (.Call (.Name "set" A) [a] [] y) X.env)::backTo B (starEach [] X.env))) _ _ s;erw[Calls.spliced_cons ?_];let M:zgp (wpE X a) zlx O H (λw H1=>∃ v,w= [v]/\∃ l ns,v=.ref l/\(SqT X.K H1 l (List.map f ns)∨SqL X.K H1 l (List.map f ns))/\↑ns<=60/\Q (.int ↑(Tab.dedup ns)) H1):=wpE.mono h λv H1 q=>#[v,rfl,q];erw[Call_ (wb I hg hm JR (PyProof.Rows.callWith_type1 (thn ((zY zC pa_nil r) y pins s O H _ I M) λus s1 ⟨w,H1,m,W,z⟩=>?_) r rfl))];let(v,rfl,l,ns,rfl,g,hn,q):=z;let(u,rfl,t):=Zo W;cases t;obtain⟨c,d,j⟩:∃ c,Vals (List.map f ns) c/\(s1.heap.IsTuple l c.toArray∨s1.heap.IsList l c.toArray):=g.elim (λg=>let #[c,d,j,_]:=m.tuple g;#[c,d,.inl j]) λg=>let #[c,d,j,_]:=m.list g;#[c,d,.inr j.isList];let hlen:=↑d;rw[xo]at hlen;let p:c.toArray.size=↑ns:=by rw[xm];exact hlen.symm
 let Z:scanBound=4096:=rfl;refine Tab.set_tupleT (m.ok.hd hc) j p.symm (knd:=knd) (λi v e=>?_) (by lia) λN n P hk=>?_
 ·let hi:=(ug.mp e).1;let(u,S,t):=d.get (i:=i) (x:=f (ns[i]'(by lia))) (by rw[xg,xc (by lia)];rfl);rw[<- Array.getElem?_toList,List.toList_toArray]at e;cases S.symm.trans e;exact#[_,xc (by lia),hf _ _ t]
 erw[Calls.spliced_nil ?_];let(o3,Hk,Hm,t3,F,T,G,_,_,ak,C,D):=P;let R:=Tab.dedup_len ns;let J:Inv X pins O H1 { s1 with heap:=N,toks:=n }:=m.kept (t':=n) λb o e=>hk b o (x8 e) e;refine call_len_set F T G C (by lia) ?_;refine#[.int ↑(Tab.dedup ns),H1,J.kept (t':=n+1+1) λb o e=>e,#[n+1,?_],q];rw[D]
end
end Lake.L2
namespace Lake.L3
open PySem PySem.Spec PyProof.Rows L2
variable [Cs]
section
variable {X:Cx}{mp:Ac}{a:Expr}{p1 p2 q1 q2:Pos}{fa:EM FV}
private def WX(fa:EM FV):EM FV:=λU=>(fa U).bind λ(u,a)=>match derS a u with|some (.tuple ds)=>R.get (Jg ds) λns=>if ↑ns<=60 then .ok (.dat (.int ↑(Tab.dedup ns)),a) else .bad|_=>.bad
def QN{M:Ae}{H:Hp}:∀{c:List V}{ds:Aa}{ns:List Int},RepL M H c ds->Jg ds\ns->c=ns.map V.int
 |_,_,_,.nil,e=>by cases e;rfl
 |_,_,_,.cons (ds:=ds) (d:=d) r t,e=>by
  cases d with
  |int i=>
   unfold Jg at e;cases q:Jg ds with
   |none=>rw[q]at e;cases e
   |some ms=>
    rw[q]at e;cases e;cases r;rw[xn,QN t q]
  |_=>cases e
def zil (hc:X.calm=true) (A:Gl X "len") (o:X.mg "len" =none) (z:Gl X "set") (y:X.mg "set" =none) (s:SE X mp a fa) (i:a⁻¹) :
  SE X mp (.Call (.Name "len" p1) [.Call (.Name "set" p2) [a] [] q2] [] q1) (WX fa):=by?
 erw[(V0 (intKind _ _) V.int (λk u ⟨t,e⟩=>e ▸ #[intKind_is ..,rfl]) hc A o z y i).wp (s.run rs hs hp λd j H1 u v c s1 h b=>?_)];delta b ds ed;let(ns,en,b):=R.got id b;let(g,b):=R.gif id b;let(l,m,rfl,f,r):=(h.strong c ed).tup_inv;let hv:=QN r en;subst hv;exact#[l,ns,rfl,.inl (SqT.of f),g,b d H1 c (.refl _ _) _ (Rep.int _)]
private def zaO(fa:EM FV):EM (Aa):=λU=>(fa U).bind λ(u,a)=>match derf a u with|some (.int n)=>if 0<=n/\n<=1000000 then .ok (qi n.toNat,a) else .bad|_=>.bad
def zcW{M:Ae}{H:Hp}(n:Nat):RepL M H ((List.range n).map λ(i:Nat)=>V.int (i:Int)) (qi n):=by
 unfold qi;generalize List.range n=l
 induction l with|nil=>erw[.nil]|cons x l a=>erw[.cons (.int _) a]
def ziB {x y:Str}(hc:X.calm=true) (B:BiK X x (.type "list")) (c:BiK X y (.type "range")) (o:SE X mp a fa) (i:a⁻¹):SN X mp (.Call (.Name x p1) [.Call (.Name y p2) [a] [] q2] [] q1) (zaO fa):=by?
 erw[(jU (vZ hc) B.gl B.mg B.bt (zY (jU WC c.gl c.mg c.bt (zY zC pa_nil i) c.n c.d i rfl) pa_nil rfl) B.n B.d rfl rfl).wp (o.run rs hs hp λf j H1 u v b s1 h d=>?_)];delta d n en;delta d hn;cases h.weak b en;refine#[n,rfl,λp g=>?_];let e:Same H1 (upd H1 p (.rng 0 n)):=qg g;refine#[p,n.toNat,rfl,by rw[zK];congr 2;lia,by lia,λl hl=>?_];erw[d f _ (b.same e) (.same e) _ l (zcW n.toNat) hl]
end
end Lake.L3
namespace Lake.L2
open PySem PySem.Spec PyProof.Rows
variable [Cs]
end Lake.L2
namespace Lake.L3
open PySem PySem.Spec PyProof.Rows L2
variable [Cs]
def ORL.appD{ds:Aa}(r:RepL M H zs ds):∀{c:List V}{os:List OV}{A:List Ap},ORL M H c os A->ORL M H (c++zs) (os++ds.map .d) A :=
 r.ind (P:=λzs ds=>∀{c:List V}{os:List OV}{A:List Ap},ORL M H c os A->ORL M H (c++zs) (os++ds.map .d) A) (λh=>~~~h) λr _ a _ _ _ h=>by simpa using a (ORL.snoc r h)
section
variable {X:Cx}{mp io:Ac}{a e:Expr}{p q1 pos px py ps:Pos}{fa:EM FV}
private def zfR(i:Nat)(fa:EM FV):SM:=λU=>if isOwn U i then (fa U).bind λ(u,a)=>match derS a u,a[i]? with|some (.list ds),some (some (.l xs))=>if ↑xs+↑ds<=1000000 then .ok (.next,a.set i (some (.l (xs++ds.map .d)))) else .bad|_,_=>.bad
 else .bad
def Sees.again{Z:Nu}{O:St}{s i:Nat}{v:V}(h:Sees mp Z O)(hm:mp[s]?\i)(hv:Z[i]?\(some v))(l:s<↑O):Sees mp Z (O.set s (some v)):=λa j w b c=>by
 by_cases d:s=a
 ·grind
 ·rw[xi d];exact h a j w b c
def zll{s i:Nat}{x:Str}(n:NmK X mp s i x)(hN:X.N.Nodup)(hx:Loc X.env.scope x)(hf:X.fn x=true∨X.env.scope.names.lookup x\.local)(y:SE X mp a fa):SS X mp io (.AugAssign (.Name x p) .Add a pos) (zfR i fa):=λm F U Z O H D rs d hl hp=>by
 unfold zfR at hp;delta hp hw;let(E,o):=Jv hw;let(a0,J,z,c,C,K,_,_):=ν3 rs o;let f:s<↑O:=by rw[hl];exact (xa.mp n.hN).1
 erw[(zkH hN n.hN hx zC zhq hf).wp #[.ref a0,d s i _ n.hm c,?_]];erw[y m F U Z O H _ rs d ((SPost.seq d hl hp).mono λG I H1 u b s1 e v hv=>?_)];delta e ds xs ed ex;delta e hz;let(a1,t,B,h,j,q1,_,_):=ν3 b ex;rw[c]at h;cases h;let(l,zs,rfl,q,_,r):=(hv.strong b ed).lst_inv;refine#[a0,l,t,zs,rfl,rfl,j,q,by have:=Xg;rw[q1.length,r.length];lia,?_];let(k,g,s2):=y3 b ex c j λA w=>ORL.appD r w;exact e k Z _ _ g s2 (d.again n.hm c f) (~~~hl) λ_ _=>rfl
private def sStar(io:Ac)(i j:Nat)(fa:EM FV):SM:=λU=>(fa U).bind λ(u,a)=>match derS a u with|some (.list (d::ds))=>if i<↑a/\j<↑a/\i∉io/\j∉io then .ok (.next,(a.set i (@&d)).set j (@&(.list ds))) else .bad|some (.tuple (d::ds))=>if i<↑a/\j<↑a/\i∉io/\j∉io then .ok (.next,(a.set i (@&d)).set j (@&(.list ds))) else .bad|_=>.bad
def ziN{s i t j:Nat}{x y:Str}{k:Nat}(hc:X.calm=true)(hN:X.N.Nodup)(I:mp.Nodup)(hi:X.N[s]?\x)(hx:Loc X.env.scope x)(u5:X.fn x=true∨X.env.scope.names.lookup x\.local)(hm:mp[s]?\i)(G:X.N[t]?\y)(hy:Loc X.env.scope y)(M:X.fn y=true∨X.env.scope.names.lookup y\.local)(K:mp[t]?\j)
  (Y:SE X mp a fa) (T:swapsWithSole [.Tuple [.Name x px,.Starred (.Name y py) ps] k p] a pos.line X.env=pure false) (hw:swappedStores [.Tuple [.Name x px,.Starred (.Name y py) ps] k p] a X.env=pure none) :
  SS X mp io (.Assign [.Tuple [.Name x px,.Starred (.Name y py) ps] k p] a pos) (sStar io i j fa):=λf F U Z O H D rs B hl hp=>by
 let C:s<X.N.length:=(xa.mp hi).1;let su:t<X.N.length:=(xa.mp G).1;erw[(zak zC (zhS hc hN hi hx u5 G hy M) T hw).wp (Y f F U Z O H _ rs B ((SPost.seq B hl hp).mono λh n H1 u b s1 c v hv=>?_))];let go:∀(d:PyData)(ds:Aa)(l:Ap)(zs:List V),(SqL X.K H1 l zs∨SqT X.K H1 l zs)->v=.ref l->RepL (MM f h) H1 zs (d::ds)->SPost X.xp f h Z H1 mp X.N.length io D (if i<↑n/\j<↑n/\i∉io/\j∉io then R.ok (FL.next,(n.set i (@&d)).set j (@&(.list ds))) else .bad)->zjl X.K s t v O H1 λQ P=>D.nx Q P:=λd ds l zs m hv r c=>by
  subst hv;delta c hh;let(W,k2,k3,k4):=hh;cases r with
  |cons r1 r2=>
   rename_i w ws;refine#[l,w,ws,rfl,m,λq m=>?_];let g:Same H1 (upd H1 q (.lst ws)):=qg m;let(F2,E,s2):=(b.same g).setD (i:=i) (r1.grow g.grow) W;let L:¬ MM f h q:=λz=>b.al q z m;let rl:Rep (MM f h) (upd H1 q (.lst ws)) (.ref q) (.list ds):=Rep.list zK L (r2.grow g.grow);let(N,S,s3):=E.setD (i:=j) (qj s2 (b.same g).al0 rl) (~~~k2);refine c N _ _ _ S (((Stp.same g).trans s2).trans s3) ((B.set I hm (by rw[hl];exact C)).set I K (by rw[xN,hl];exact su)) (~~~hl) λz J=>?_;rw[xi (λe=>k4 (by rw[e];exact J)),xi (λe=>k3 (by rw[e];exact J))]
 dsimp only at c
 split at c
 next d ds o=>
  let(l,zs,e,A,_,r):=(hv.strong b o).lst_inv;erw[go d ds l zs (.inl (SqL.of A)) e r c]
 next d ds o=>
  let(l,zs,e,A,r):=(hv.strong b o).tup_inv;erw[go d ds l zs (.inr (SqT.of A)) e r c]
 ·erw[c.elim]
end
end Lake.L3
namespace Lake.L2
open PySem PySem.Spec PyProof.Rows
variable [Cs]
section
variable {X:Cx}
def zkv:OpR X (compareOp .In) (λx y H Q=>∃ a b,x=.str a/\y=.str b/\Q (.bl (Txt.contains b a)) H):=by
 intro pins s O H x y v u Q I c d h;let(a,b,rfl,rfl,q):=h;let(t,rfl):=c;let(e,rfl):=d;erw[SB.contains #[.bl _,H,I,rfl,q]]
def yw:j6 X (.builtin "len") (λxs H Q=>∃ a,xs= [.str a]/\↑a<=sizeLine/\Q (.int ↑a) H):=by
 intro pins s O H xs us Q I r h;let(a,rfl,b,q):=h;let(u,rfl,t,rfl):=Zo r;have:=Xg;exact PyProof.Rows.len_str (by lia) #[.int ↑a,H,I.tok _,#[_,rfl],q]
def vP:∀{xs:List V}{us:An}{c:Ab},Vals xs us->xs=c.map .str->StrsAre us c
 |_,_,[],.nil,_=>.nil
 |_,_,_::_,.nil,e=>by cases e
 |_,_,[],.cons _ _,e=>by cases e
 |_,_,y::c,.cons r t,e=>by
  rw[xn,List.cons.injEq]at e;let(a,b):=e;subst a;let(d,rfl):=r;erw[.cons y d (vP t b)]
def zhz:MtR X "str.join" (λx xs H Q=>∃ (a:Str) (p:Ap) (c:Ab),x=.str a/\xs= [.ref p]/\(SqL X.K H p (c.map .str)∨SqT X.K H p (c.map .str))/\↑a<=16/\(c.map (·.length)).sum+↑c<=1048576/\Q (.str (Txt.join a c)) H):=by
 intro pins s O H x xs v us Q I m r h;let(a,p,c,rfl,rfl,b,i,hw,q):=h;let(t,rfl):=m;let(u,rfl,l):=Zo r;cases l;rcases b with b | b
 ·let(d,f,e,j):=I.list b;exact join_listW e.isList (by simpa using vP f rfl) i hw λg k=>#[.str _,H,I.tok k,#[g,rfl],q]
 ·let(d,f,e,j):=I.tuple b;exact join_tupleW e (by simpa using vP f rfl) i hw λg k=>#[.str _,H,I.tok k,#[g,rfl],q]
end
end Lake.L2
namespace Lake.L3
open PySem PySem.Spec PyProof.Rows L2
variable [Cs]
section
variable {X:Cx}{mp:Ac}{a b c e:Expr}{es:Ag}{pos p2:Pos}{fa fb:EM FV}
def yT:PyData->PyData->Option Bool|.str x,.str y=>some (Txt.contains y x)|_,_=>none
def zf7:Wl X .In yT:=λx y z e=>by
 unfold yT at e
 split at e
 ·cases e;exact⟨_,zkv,λH v u Q a b k=>by
   cases a;cases b;exact#[_,_,rfl,rfl,k]⟩
 ·cases e
def Qp:PyData->Option PyData|.str x=>if ↑x<=1000000 then some (.int ↑x) else none|_=>none
def zg4:wo X (.builtin "len") Qp:=λx z e=>by
 unfold Qp at e
 split at e
 ·split at e
  next h=>
   cases e;exact#[rfl,_,yw,λH v Q r k=>by cases r;exact#[_,rfl,sz6 h,k _ (.int _)]]
  ·cases e
 ·cases e
private def zhg(fa fb:EM FV):EM FV:=λU=>(fa U).bind λ(u,b)=>(fb b).bind λ(w,a)=>match derf a u,derf a w with
 |some (.str x),some (.int i)=>if ↑x<=1000000 then match atI x.cps.toList i with
  |some c=>.ok (.dat (.str #[(List.toArray [c])]),a)
  |none=>.bad
  else .bad
 |_,_=>.bad
def zk4(l:SE X mp a fa)(hb:SE X mp b fb)(hx:w9 b):SE X mp (.Subscript a b pos) (zhg fa fb):=λq F U Z O H Q rs f hp=>
 (zfu zj9 zC zC hx).wp (l.run rs f hp λp r H1 u v d s1 k j=>hb.run d f j λg s h w v2 c s2 m e=>by
  delta e x i e1 e2;delta e hz;delta e cc ec;let n:=(k.stp s2 d.al0).weak c e1;let o:=m.weak c e2;cases n;cases o;exact#[_,_,cc,rfl,rfl,sz6 hz,ec,e g h c (.refl _ _) _ (Rep.str _)])
def ZG:Aa->Option (Ab)|[]=>some []|.str x::r=>(ZG r).map (x::·)|_=>none
def ν9(xs:Ab):ZG (xs.map .str)\xs:=by
 induction xs with|nil=>rfl|cons b r a=>simp[ZG,a]
def ZQ:∀{ds:Aa}{xs:Ab},ZG ds\xs->ds=xs.map .str
 |[],xs,e=>by cases e;rfl
 |.str b::r,xs,e=>by
  unfold ZG at e;cases q:ZG r with
  |none=>rw[q]at e;cases e
  |some l=>rw[q]at e;cases e;rw[ZQ q];rfl
 |.none::r,xs,e=>by cases e
 |.bool _::r,xs,e=>by cases e
 |.int _::r,xs,e=>by cases e
 |.list _::r,xs,e=>by cases e
 |.tuple _::r,xs,e=>by cases e
 |.dict _::r,xs,e=>by cases e
def ZP:∀{i:List V}{xs:Ab},RepL M H i (xs.map .str)->i=xs.map .str
 |_,[],.nil=>rfl
 |_,x::xs,.cons r t=>by
  cases r;rw[ZP t];rfl
def WZ(z:Str)(x:PyData):Option PyData:=match (match x with | .list ds=>ZG ds | .tuple ds=>ZG ds | _=>none) with|some a=>if (a.map (·.length)).sum+↑a<=1000000/\↑z<=16 then some (.str (Txt.join z a)) else none|none=>none
def zik {name:Str}{z:Str}{j:Nat}{s:Pos}(en:name= "join") (o:SE X mp a fa) (i:a⁻¹) (hl:(p2.endLine==pos.line)=true) :
  SE X mp (.Call (.Attribute (.Constant (.str z) j s) name p2) [a] [] pos) (f1 (WZ z) fa):=by?
 subst en;let n:((backTo pos (starEach [a] X.env)).all (λx=> !x.1)&&(backToKw pos (keywordEach [] X.env)).all (λx=>x.1.isSome)&&decide ([a].length+↑([]:List Keyword)+(if ([]:List Keyword).isEmpty then 0 else 1)<30))=true:=by rw[i];rfl
 erw[(zaX PySem.F.plainAttrs_str PySem.F.slot_str_join PySem.F.type_str_join zhz pe_str (zY zC pa_nil i) rfl n hl i rfl).wp #[rfl,?_]];erw[o.run rs hs hp λg t H1 u v c s1 p f=>?_];let(x,ex,f):=R.got id f;let(y,b,h):=R.got id f;let b:WZ z x\y:=b;unfold WZ at b
 split at b
 next m es=>
  split at b
  next k=>
   cases b;let r:=p.weak c ex;cases x with
   |list ds=>
    let(l,q,rfl,e,_,d):=r.lst_inv;rw[ZQ es]at d;have:=ZP d;subst this;exact#[z,l,m,rfl,rfl,.inl (SqL.of e),k.2,by lia,h g H1 c (.refl _ _) _ (Rep.str _)]
   |tuple ds=>
    let(l,q,rfl,e,d):=r.tup_inv;rw[ZQ es]at d;have:=ZP d;subst this;exact#[z,l,m,rfl,rfl,.inr (SqT.of e),k.2,by lia,h g H1 c (.refl _ _) _ (Rep.str _)]
   |_=>cases es
  ·cases b
 ·cases b
end
end Lake.L3
namespace Lake.L2
open PySem PySem.Spec PyProof.Rows PySem.Builtin PySem.Builtin.Str
variable [Cs]
def Itc(x:Str):It:=#[λi _=>i<↑x,λi H v a=>a=H/\∃ c,x.cps[i]?\c/\v=.str #[(List.toArray [c])],λi _=>↑x<=i]
def zat {K:Ah}(x:Str) (t:Tok) (it:Ap):Wr P w K J (Itc x) [it] it (λi h=>h.IsStrIter it "str_ascii_iterator" x t i) where
 mem:=by simp
 obj:=λi h st b hb=>by
  let e:b=it:= ~~~hb;subst e;let(o,e,c,d):=st;exact#[o,e,λv z=>by rw[d]at z;cases z]
 keep:=λi h l st k=>by
  let(o,e,c,d):=st;exact#[o,k it (by simp) o e,c,d]
 item:=by
  intro X g hw hK hc i pins s O H E I hf st hg;subst g hw hK;let hg:=hg;let(f0,f1,f2,a,f4,f):=hf it (by simp);let hx:=Array.getElem?_eq_getElem hg;erw[wpAny_pyNext_ascii_item st hx λl j p=>?_];let m:=I.turned (t':=s.toks+1) (λb o hb e=>(p.2 b hb).trans e) f0 f1 a f4 f;let(o,e,c,d):=id j;exact#[_,rfl,YS e c d (by decide) #[.str #[(List.toArray [x.cps[i]])],H,m,#[_,rfl],#[rfl,_,hx,rfl],j,λb hb=>(hf b hb).1]]
 done:=by
  intro X g hw hK hc i pins s O H E I hf st hg;subst g hw hK;let hg:=hg;let(f0,f1,f2,a,f4,f):=hf it (by simp);erw[wpAny_pyNext_ascii_end (I.ok.hd hc) st (Array.getElem?_eq_none hg) λl n=>#[rfl,I.turned (t':=s.toks) (λb o hb e=>n b o hb e) f0 f1 a f4 f]]
 self:=λ_ _ _ _ _ st h=>wpAny_pyIter_striter_ascii st h
section
variable {X:Cx}
def zj7(c:TE):TI:=λO H R=>c O H λx H1=>∃ a:Str,x=.str a/\a.cps.all (·<128)=true/\R (Itc a) H1
def zfB{o l:Expr}(hl:PE X l J):PI X o l (zj7 J):=by
 intro pins s O H R I h;erw[thn (hl pins s O H _ I h) λv s1 ⟨x,H1,c,i,g⟩=>?_];let(a,rfl,f,q):=g;let(t,rfl):=i;erw[wpAny_pyIter_ascii f ?_];let d:Inv X pins O H1 { s1 with heap:=s1.heap.push { cls:=.type "str_ascii_iterator",data:=.fields (List.toArray [.str a t,.int 0 0]) } }:=c.kept (t':=s1.toks) λb j q=>x6 _ q;refine#[⇑s1,[⇑s1],_,_,H1,rfl,d,zat a t _,#[_,Xa _ rfl,rfl,rfl],λb hb=>?_,q];let e:b=⇑s1:= ~~~hb;subst e;erw[c.fpOk (xh _) (c.hok.fresh (xh _))]
end
open PySem PySem.Spec PyProof.Rows
def yM (w:World) (l:List (Str×Nat×Addr)) (c:Nat):Obj:={ cls:=.type "dict",data:=.dict (l.map λp=>(#[PySem.PyData.keyHash w.params p.1,.str p.1 p.2.1,.ref p.2.2]:DictEntry)).toArray c }
inductive GRows(mg:Aq):List (Str×Nat×Addr)->List (Str×Str)->Prop|nil:GRows mg [] []|cons {k f:Str} {t:Nat} {a:Ap} {l kf}:mg f\(.ref a)->GRows mg l kf->GRows mg ((k,t,a)::l) ((k,f)::kf)
structure GD(w:World)(K:Ah)(mg:Aq)(x:Str)(kf:List (Str×Str)):Prop where
 ex:∃(D:Ap)(ep:Nat)(l:List (Str×Nat×Addr)),mg x\(.ref D)/\(D==sysModules)=false/\K.lookup D\(yM w l ep)/\GRows mg l kf/\(kf.map (·.1)).Nodup
def GRows.keys(h:GRows mg l kf):l.map (·.1)=kf.map (·.1):=by
 induction h with|nil=>rfl|cons _ _ a=>simp[a]
def GRows.find(h:GRows mg l c)(k:Str):match c.lookup k with|some f=>∃ a,mg f\(.ref a)/\valueAt (l.map λp=>(p.1,Value.ref p.2.2)) k\(.ref a)|none=>valueAt (l.map λp=>(p.1,Value.ref p.2.2)) k=none:=by
 induction h with
 |nil=>rfl
 | @cons b f t a l c hm j i=>
  rw[xD];by_cases e:k=b
  ·subst e;simp only[beq_self_eq_true];exact#[a,hm,by simp[valueAt]]
  ·let d:(k==b)=false:= ~~~e;rw[d];let g:valueAt (((b,t,a)::l).map λp=>(p.1,Value.ref p.2.2)) k=valueAt (l.map λp=>(p.1,Value.ref p.2.2)) k:=by
    unfold valueAt;rw[xn,List.find?_cons_of_neg (by simpa using Ne.symm e)]
   rw[g];exact i
def ke:∀(l:List (Str×Nat×Addr)),Pairs (PySem.strKind P w) (l.map λp=>(#[PySem.PyData.keyHash w.params p.1,.str p.1 p.2.1,.ref p.2.2]:DictEntry)) (l.map λp=>(p.1,Value.ref p.2.2))|[]=>.nil|p::r=>.cons (by simp[PySem.strKind,Value.isStrOf]) rfl (ke r)
def zg7{h:Heap}{D:Ap}(hd:h.get? D\(yM w l o))(nd:(l.map (·.1)).Nodup):h.DictOf (PySem.strKind P w) D (l.map λp=>(p.1,Value.ref p.2.2)):=by
 refine#[_,_,o,hd,#[rfl,rfl,rfl],rfl,?_,by simpa using ke l,?_]
 ·intro e he;simp only[List.mem_toArray,xv]at he;let(p,hp,rfl):=he;exact#[p.1,by simp[PySem.strKind,Value.isStrOf],rfl]
 ·rw[xy];exact nd
section
variable {X:Cx}
def ziQ {A E B F:Pos}(g:GD X.w X.K X.mg x kf) (hg:Gl X x) (G:(↥x)) (S:∀ z o,subscripted e false z o=operate [z,o] (getItem z o)) (hN:X.N.Nodup) (hi:X.N[i]?\r) (hx:Loc X.env.scope r)
  (J:swapsWith (.Subscript (.Name x A) e B) (some (.Name r E)) F.line X.env=pure false) (hf:X.fn r=true∨X.env.scope.names.lookup r\.local) :
  PS X (.Assign [.Name r E] (.Subscript (.Name x A) e B) F) (λD O H=>wpE X e O H λv H1=>∃(a f:Str)(b:Ap),v=.str a/\kf.lookup a\f/\(X.mg f\(.ref b)->D.nx (O.set i (some (.ref b))) H1)/\X.mg f\(.ref b)):=by
 let n:PE X (.Subscript (.Name x A) e B) (λO H Q=>wpE X e O H λv H1=>∃(a f:Str)(b:Ap),v=.str a/\kf.lookup a\f/\X.mg f\(.ref b)/\Q (.ref b) H1):=by
  cbv;let(D,V,l,M,W,N,m,R):=g.ex;erw[Subscript_ (Zt I hg M (thn (h pins s I) λo s2 ⟨y,p,j,T,a,f,b,L,K,C,q⟩=>?_) G)];subst L;let(t,rfl):=T;let hd:=zg7 (P:=X.prog) (j.kIn D _ N) (by rw[m.keys];exact R);let c:=m.find a;rw[K]at c;let(U,d,ev):=c;rw[C]at d;cases d;erw[tail_any hd.typeIs PySem.F.slot_dict_getitem.lookup ?_ (S _ _)];exact wpAny_getItem_of (by simp[PySem.strKind,Value.isStrOf]) hd.mapOf ev #[.ref b,p,j.tok _,rfl,q]
 intro pins s O H D I h;erw[wg hN hi hx n J hf pins s O H D I (h.mono λv H1 ⟨a,f,b,u,w,q,k⟩=>#[a,f,b,u,w,k,q k])]
end
def V1(K:Ah):List (Str×Nat×Addr)->List (Str×Str)->Bool
 |[],[]=>true
 | (k,_,a)::l,(c,f)::d=>decide (k=c)&&(match W.nsIn K mainGlobals f with
  |some (some (.ref b))=>decide (b=a)
  |_=>false)&&V1 K l d
 |_,_=>false
def GRows.of{K:Ah}(X:K.In h)(G:h.Ns mainGlobals mg):∀{l:List (Str×Nat×Addr)}{r:List (Str×Str)},V1 K l r=true->GRows mg l r
 |[],[],_=>.nil
 |[],_::_,h=>by simp[V1]at h
 |_::_,[],h=>by simp[V1]at h
 | (k,t,a)::l,(i,f)::r,h=>by
  simp only[V1,xf,x0]at h;let((d,c),g):=h;subst d
  split at c
  next b e=>
   have:b=a:= ~~~c;subst this;erw[.cons (W.mg_of X G e) (GRows.of X G g)]
  ·cases c
def GD.of{w:World}{K:Ah}{x:Str}{c:List (Str×Str)}{ep:Nat}{l:List (Str×Nat×Addr)}(X:K.In h)(G:h.Ns mainGlobals mg)(hd:W.nsIn K mainGlobals x\(some (.ref D)))(v:(D==sysModules)=false)
  (ho:K.lookup D\(yM w l ep)) (s:V1 K l c=true) (r:(c.map (·.1)).Nodup):GD w K mg x c:=#[#[D,ep,l,W.mg_of X G hd,v,ho,GRows.of X G s,r]]
end Lake.L2
namespace Lake.L3
open PySem PySem.Spec PyProof.Rows L2
variable [Cs]
section
variable {X:Cx}{mp io:Ac}{a b c e:Expr}{es:Ag}{p2:Pos}{fa:EM FV}
def Zy(x:Str):Aa:=x.cps.toList.map λc=>.str #[(List.toArray [c])]
def zeX(x:Str):JI o F (Itc x) (Zy x) H1:=λi g h s h0=>by
 refine#[λd hd=>?_,λhi=>?_]
 ·unfold Zy at hd;rw[xg]at hd;cases q:x.cps.toList[i]? with
  |none=>rw[q]at hd;cases hd
  |some c=>
   rw[q]at hd;cases hd;let b:x.cps[i]?\c:= ~~~q;refine#[(ug.mp b).1,λz j ⟨e,k,a,f⟩=>?_];subst e f;rw[b]at a;cases a;exact#[.refl _,.str _]
 ·have:↑(Zy x)=↑x:=by simp[Zy,Str.length]
  rw[this]at hi;exact hi
private def ZC(fa:EM FV):EM (Aa):=λU=>(fa U).bind λ(u,a)=>match derf a u with|some (.str x)=>if x.cps.all (·<128) then .ok (Zy x,a) else .bad|_=>.bad
def zf5(i:SE X mp a fa):SI X mp o a (ZC fa):=λh F U Z O H R rs e hp=>
 (zfB zC).wp (i.run rs e hp λd j H1 u v b s1 f c=>by
  delta c x ex;delta c hz;let g:=f.weak b ex;cases g;exact#[_,rfl,hz,c d H1 b (.refl _ _) _ (zeX x)])
def RS.unset(r:RS I F U Z H)(h:∀ o,U[i]?≠some (some o)):RS I F U (Z.set i none) H :=
 ⟨r.al0,r.dis0,r.nd,r.dis,λj o e=>by
  let(w,a,z):=r.at' j o e;refine#[w,?_,z];rw[xi (λq=>h o (by rw[q];exact e))];exact a,r.emp,by rw[xN];exact r.len⟩
def Sees.unset(h:Sees mp Z O)(l:mp.Nodup)(hm:mp[s]?\i):Sees mp (Z.set i none) (O.set s (some v)):=λt j w b a=>by
 by_cases c:j=i
 ·subst c;let e:=(List.getElem?_inj (xa.mp b).1 l).mp (b.trans hm.symm);subst e;rw[List.getElem?_set_self']at a;cases q:Z[j]? with|none=>rw[q]at a;cases a|some z=>rw[q]at a;cases a
 ·rw[xi (Ne.symm c)]at a;let d:s≠t:=λz=>by grind
  rw[xi d];erw[h t j w b a]
private def sDisp(io:Ac)(r:List (Str×Str))(run:Str->List OV->RF)(i:Nat)(l:EM FV)(fl:EM (List AV)):SM:=λU=>(l U).bind λ(u,a)=>match derf a u with
 |some (.str k)=>match r.lookup k with
  |some f=>if i∈io∨(a[i]?.join).isSome=true then .bad else (fCall (run f) fl a).bind λ(o,b)=>.ok (.ret o,b)
  |none=>.bad
 |_=>.bad
def zh8 {s i k n:Nat}{r x:Str}{run:Str->List OV->RF}{fl:EM (List AV)}{J p3 K L M q4:Pos}(g:GD X.w X.K X.mg x kf) (hg:Gl X x) (b8:(↥x))
  (px:PxOk X) (kn:∀ key f,kf.lookup key\f->Kn X.prog X.w X.K X.mg X.base (CX1 X.prog X.w) f k (spX X.mg n (run f))/\Ran n (run f)) (hr:Room k X.A)
  (he:SE X mp e fa) (m6:PS X (.Assign [.Name r p2] (.Subscript (.Name x J) e K) L) (λD O H=>wpE X e O H λv H1=>∃(a f:Str)(b:Ap),v=.str a/\kf.lookup a\f/\(X.mg f\(.ref b)->D.nx (O.set s (some (.ref b))) H1)/\X.mg f\(.ref b)))
  (hN:X.N[s]?\r) (hv:Vis X.env.scope r) (hd:(↥r)) (hcd:(r==("__classdict__" :Str))=false) (Y:mp.Nodup) (hm:mp[s]?\i)
  (hl:SA X mp (a::es) fl) (A:starEach (a::es) X.env=(false,eval a X.env)::starEach es X.env) (y:(backTo M (starEach es X.env)).any (·.1)=false) :
  SB X mp io [.Assign [.Name r p2] (.Subscript (.Name x J) e K) L,.Return (some (.Call (.Name r p3) (a::es) [] M)) q4] (sDisp io kf run i fa fl):=λm F U Z O H D rs w c hp=>by
 erw[(Qt m6 (JA (zal zC))).wp ?_];erw[he m F U Z O H _ rs w ((SPost.seq w c hp).mono λE p H1 u h s1 d v W=>?_)];delta d key ek;let r1:=W.weak h ek;cases r1;delta d f ef
 split at d
 ·erw[d.elim]
 next I=>
  let(C,R):=kn key f ef;let(b,fd,ps,_,hb,_):=C.ex;let t:i∉io:=λz=>I (.inl z);have B:∀ o,p[i]?≠some (some o):=λo z=>I (.inr (by rw[z];rfl));let l:=h.unset B;let G:Sees mp (Z.set i none) (O.set s (some (.ref b))):=w.unset Y hm;let hlen:↑(O.set s (some (.ref b)):St)=X.N.length:=by rw[xN];exact c
  refine#[key,f,b,rfl,ef,λ_=>?_,hb];erw[zdh C hb hr hN hv hd hcd ?_ px.call (hl m E p (Z.set i none) (O.set s (some (.ref b))) H1 _ l G (QE l R ?_)) A y]
  ·have:s<↑O:=by rw[c];exact (xa.mp hN).1
   rw[xk this]
  ·let q:SPost X.xp m E (Z.set i none) H1 mp X.N.length io D ((fCall (run f) fl p).bind λ(o,Q)=>.ok (.ret o,Q)):=d.step (.refl _ _) λj V=>by
    rw[xi (λz=>t (by rw[z];exact V))]
   erw[(SPost.seqO G hlen q).mono λN U3 P o v S s3 T=>T N _ v P S (.refl _ _) λ_ _=>rfl]
end
end Lake.L3
namespace Lake.L2
open PySem PySem.Spec PyProof.Rows
section
variable {β:Type}
def zG(ds:List (Str×β))(x:Str):Option β:=(ds.find? λp=>decide (p.1=x)).map (·.2)
def zZ(ds:List (Str×β))(x:Str)(y:β):List (Str×β):=if (ds.any λp=>decide (p.1=x))=true then ds.map (λp=>if p.1=x then (p.1,y) else p) else ds++ [(x,y)]
def qy(ds:List (Str×β))(x:Str):List (Str×β):=ds.filter λp=>decide (p.1≠x)
def zO(ds more:List (Str×β)):List (Str×β):=more.foldl (λacc p=>zZ acc p.1 p.2) ds
def wy(ds:List (Str×β))(x:Str)(y:β):↑(zZ ds x y)<=↑ds+1:=by
 unfold zZ
 split
 ·rw[xo];lia
 ·rw[xB,xz,uo];lia
end
def inr_eq:((Sum.inr x:Key)=Sum.inr y)↔x=y:=#[λh=>by injection h,λh=>by rw[h]]
def Qa(x:Str):∀(c:List (Str×V)),vW (c.map kK) (.inr x)=zG c x
 |[]=>rfl
 |p::r=>by
  let a:=Qa x r;unfold vW zG at *;rw[xn,ue,ue];by_cases h:p.1=x
  ·rw[decide_eq_true (show (kK p).1=Sum.inr x from inr_eq.mpr h),decide_eq_true h];rfl
  ·rw[Xc (show ¬ (kK p).1=Sum.inr x from λz=>h (inr_eq.mp z)),Xc h];exact a
def zdu(x:Str):∀(c:List (Str×V)),((c.map kK).any λp=>decide (p.1=(.inr x:Key)))=c.any λp=>decide (p.1=x)
 |[]=>rfl
 |p::r=>by
  rw[xn,xX,xX,zdu x r];congr 1;erw[decide_eq_decide.mpr inr_eq]
def Ye(c:List (Str×V))(x:Str)(v:V):JC (c.map kK) (.inr x) v=(zZ c x v).map kK:=by
 unfold JC zZ;rw[zdu]
 split
 ·rw[xy,xy];erw[uv λp _=>?_];show (if (kK p).1=Sum.inr x then _ else _)=kK (if p.1=x then _ else _);by_cases h:p.1=x
  ·rw[if_pos (show (kK p).1=Sum.inr x from inr_eq.mpr h),if_pos h];rfl
  ·rw[if_neg (show ¬ (kK p).1=Sum.inr x from λz=>h (inr_eq.mp z)),if_neg h]
 ·rw[xC];rfl
def YO(x:Str):∀(c:List (Str×V)),WU (c.map kK) (.inr x)=(qy c x).map kK
 |[]=>rfl
 |p::r=>by
  let a:=YO x r;unfold WU qy at *;rw[xn,ur,ur];by_cases h:p.1=x
  ·rw[if_neg (by simp[kK,h]),if_neg (by simp[h])];exact a
  ·rw[if_pos (by simp[kK,inr_eq,h]),if_pos (by simp[h]),xn,a]
def VR:∀(more c:List (Str×V)),Ji (c.map kK) (more.map kK)=(zO c more).map kK
 |[],c=>rfl
 |p::r,c=>by
  show Ji (JC (c.map kK) (.inr p.1) p.2) (r.map kK)=_;rw[Ye,VR r];rfl
variable [Cs]
inductive KR(M:Ae)(H:Hp):List (Str×V)->Ad->Prop|nil:KR M H [] []|cons {x:Str} {v:V} {d:PyData} {ks:List (Str×V)} {ds:Ad}:Rep M H v d->KR M H ks ds->KR M H ((x,v)::ks) ((x,d)::ds)
section
variable {M M':Ae}{H H':Hp}
def KR.of:∀{c:List (Str×V)}{ds:Ad},c.map (·.1)=ds.map (·.1)->RepL M H (c.map (·.2)) (ds.map (·.2))->KR M H c ds
 |[],[],_,_=>.nil
 |[],_::_,h,_=>by simp at h
 |_::_,[],h,_=>by simp at h
 | (x,v)::c,(y,d)::ds,h,r=>by
  simp only[xn,List.cons.injEq]at h;let(rfl,h):=h;simp only[xn]at r;cases r with
  |cons r t=>erw[.cons r (KR.of h t)]
def KR.keys:∀{c:List (Str×V)}{ds:Ad},KR M H c ds->c.map (·.1)=ds.map (·.1)|_,_,.nil=>rfl|_,_,.cons _ t=>by rw[xn,xn,t.keys]
def KR.vals:∀{c:List (Str×V)}{ds:Ad},KR M H c ds->RepL M H (c.map (·.2)) (ds.map (·.2))|_,_,.nil=>.nil|_,_,.cons r t=>.cons r t.vals
def KR.length(h:KR M H ks ds):↑ks=↑ds:=by have:=congrArg List.length h.keys;simpa using this
def KR.map(l:∀ v d,Rep M H v d->Rep M' H' v d):∀{s:List (Str×V)}{ds:Ad},KR M H s ds->KR M' H' s ds|_,_,.nil=>.nil|_,_,.cons r t=>.cons (l _ _ r) (t.map l)
def KR.any(x:Str):∀{i:List (Str×V)}{ds:Ad},KR M H i ds->(i.any λp=>decide (p.1=x))=ds.any λp=>decide (p.1=x)|_,_,.nil=>rfl|_,_,.cons _ t=>by rw[xX,xX,t.any x]
def KR.repl(r:Rep M H v d):∀{c:List (Str×V)}{ds:Ad},KR M H c ds->KR M H (c.map λp=>if p.1=x then (p.1,v) else p) (ds.map λp=>if p.1=x then (p.1,d) else p)
 |_,_,.nil=>.nil
 |_,_,.cons (x:=y) q t=>by
  rw[xn,xn];by_cases h:y=x
  ·rw[if_pos h,if_pos h];exact .cons r (t.repl r)
  ·rw[if_neg h,if_neg h];exact .cons q (t.repl r)
def KR.append:∀{i l:List (Str×V)}{ds c:Ad},KR M H i ds->KR M H l c->KR M H (i++l) (ds++c)|_,_,_,_,.nil,s=>s|_,_,_,_,.cons r t,s=>.cons r (t.append s)
def KR.put(x:Str)(h:KR M H o ds)(r:Rep M H v d):KR M H (zZ o x v) (zZ ds x d):=by
 unfold zZ;rw[h.any x]
 split
 ·erw[h.repl r]
 ·erw[h.append (.cons r .nil)]
def KR.drop(x:Str):∀{c:List (Str×V)}{ds:Ad},KR M H c ds->KR M H (qy c x) (qy ds x)
 |_,_,.nil=>.nil
 |_,_,.cons (x:=y) q t=>by
  unfold qy;rw[ur,ur];by_cases h:y=x
  ·rw[if_neg (by simp[h]),if_neg (by simp[h])];exact t.drop x
  ·rw[if_pos (by simp[h]),if_pos (by simp[h])];exact .cons q (t.drop x)
def KR.merge(r:KR M H more o):∀{c:List (Str×V)}{ds:Ad},KR M H c ds->KR M H (zO c more) (zO ds o):=by
 induction r with|nil=>erw[id]|cons r _ a=>erw[λh=>a (h.put _ r)]
def KR.val(x:Str):∀{c:List (Str×V)}{ds:Ad},KR M H c ds->(zG c x).isSome=(zG ds x).isSome/\∀ d,zG ds x\d->∃ v,zG c x\v/\Rep M H v d
 |_,_,.nil=>#[rfl,λd e=>by cases e]
 |_,_,.cons (x:=y) (v:=v) q t=>by
  let a:=t.val x;unfold zG at *;rw[ue,ue];by_cases h:y=x
  ·rw[decide_eq_true (show (y,v).1=x from h)];exact#[rfl,λd e=>by cases e;exact#[v,rfl,q]]
  ·rw[Xc (show ¬ (y,v).1=x from h)];exact a
def KR.get:∀{c:List (Str×V)}{ds:Ad}{i:Nat}{p:Str×PyData},KR M H c ds->ds[i]?\p->∃ v,c[i]?\(p.1,v)/\Rep M H v p.2
 |_,_,_,_,.nil,e=>by simp at e
 |_,_,0,_,.cons r _,e=>by simp at e;subst e;exact#[_,rfl,r]
 |_,_,i+1,p,.cons _ t,e=>by
  let(v,a,b):=KR.get t (~~~e);exact#[v,~~~a,b]
def Rep.dict_inv(r:Rep M H v (.dict o)):∃ a,v=.ref a/\¬ M a/\((∃ l ds,Rd H a (.dK (l.map kK))/\o=ds.map dK/\KR M H l ds)∨(∃ i c fs ds,H a\(.ins (Cs.adr c) i fs)/\o=(.none,.str c)::ds.map dK/\KR M H fs ds)∨∃ i c fs ds,H a\(ExO (Cs.adr c) i a)/\(i=Option.none/\fs= []∨∃ d,i\d/\H d\(.xd fs)/\¬ M d)/\o=(.bool true,.str c)::ds.map dK/\KR M H fs ds):=by
 cases r with|dict e n k q=>exact#[_,rfl,n,.inl #[_,_,e,rfl,.of k q]]|inst e n k q=>exact#[_,rfl,n,.inr (.inl #[_,_,_,_,e,rfl,.of k q])]|exo e n x k q=>exact#[_,rfl,n,.inr (.inr #[_,_,_,_,e,x,rfl,.of k q])]
end
def unD:Ao->Option (Ad)|[]=>some []| (.str x,d)::r=>(unD r).map ((x,d)::·)|_=>none
def zN(ds:Ad):unD (ds.map dK)\ds:=by
 induction ds with|nil=>rfl|cons p r a=>simp[unD,dK,a]
section
variable {X:Cx}{pins:Ak}{O:St}{H:Hp}{s:Am}{a b:Ap}{kvs more:List (Key×V)}{A:Around}{E:Af}
def zdL{Q:Af}(I:Inv X pins O H s)(e:H a\(.dK kvs))(o:Rd H b (.dK more))(l:a≠b)(hl:↑kvs+↑more<=sizeLine)
  (h:∀ i,Inv X pins O (upd H a (.dK (Ji kvs more))) i->Q .none i):wpAny (model X.prog X.w) A (call (.builtin "dict.update") [.ref a,.ref b]) Q E s:=by
 let(z,hd,n,rel,c):=zaK I.hok e;let(p,hd2,ws,f,m):=Qd I.hok o;refine call_meetsIn PySem.F.slot_dict_update c.typeIs PySem.F.entry_dict_update (PySem.F.args_dict_update_2 _ _) (meets_dict_update (qv X.prog X.w) a b l hd2) #[n,ws,c,m,by rw[<- ↑rel,<- ↑f];exact hl,λg d _ k=>h _ ?_];let he:∃ q,g.get? a\q:=let #[q,_,_,j,_]:=d;#[q,j];exact yL I (by rw[e];exact True.intro) k he (WT (xK (QS more kvs) hl) hd (f.merge rel) d)
end
def zmM(i l:TE):TE:=λO H Q=>i O H λx H1=>∃ a,x=.ref a/\IsD H1 a/\l O H1 λy d=>∃ b c more,y=.ref b/\d a\(.dK c)/\Rd d b (.dK more)/\a≠b/\↑c+↑more<=sizeLine/\Q .non (upd d a (.dK (Ji c more)))
section
variable {X:Cx}{o e:Expr}{apos af:Pos}{td te:TE}
def zhR (ho:PE X o td) (he:PE X e te) (m:M1 X o "update" apos e af):PE X (.Call (.Attribute o "update" apos) [e] [] af) (zmM td te):=by
 cbv;erw[wpAny_Call_method m.base m.few m.line PySem.F.plainAttrs_dict PySem.F.slot_dict_update PySem.F.type_dict_update (thn (ho pins s O H _ I h) λu s1 ⟨x,H1,c,t,a,ex,d,q⟩=>?_)];subst ex;obtain rfl:u=Value.ref a:=t;let(t1,w,_):=yZ c d;refine#[t1,w,?_];rw[m.trees];erw[Calls.callWith_builtin rfl (Calls.evalArgs_plain (Calls.spliced_cons (thn (he pins s1 O H1 _ c q) λn s2 ⟨y,z,g,v,b,p,more,l,j,k,f,hl,r⟩=>Calls.spliced_nil ?_)))];subst l;obtain rfl:n=Value.ref b:=v;erw[zdL g j k f hl λs3 i=>#[.non,_,i,rfl,r]]
def zbw:j6 X (.type "dict") (λxs H Q=>∃ a c,xs= [V.ref a]/\Rd H a (.dK c)/\∀ p,H p=none->Q (.ref p) (upd H p (.dK c))):=by
 intro pins s O H xs us Q I r h;let(a,c,rfl,e,q):=h;let(u,rfl,d):=Zo r;cases d;erw[zdJ I e λp f hp b=>#[.ref p,_,b,rfl,q p hp]]
end
def qc(ss:Ab):Ab:=ss.mergeSort λa b=> !decide (b.cps.toList<a.cps.toList)
def qD(ss:Ab):(qc ss).Perm ss:=List.mergeSort_perm _ _
def zc3(ss:Ab):↑(qc ss)=↑ss:=(qD ss).length_eq
def Str.ext'{a b:Str}(h:a.cps.toList=b.cps.toList):a=b:=by
 cases a with
 |mk x=>
  cases b with
  |mk y=>
   have:x=y:=by
    cases x;cases y;erw[congrArg Array.mk h]
   rw[this]
def zge(ss:Ab):(qc ss).Pairwise (λa b=>¬ b.cps.toList<a.cps.toList):=by
 let h:=List.pairwise_mergeSort (le:=λa b:Str=> !decide (b.cps.toList<a.cps.toList)) (by
  grind) (by
  grind) ss
 exact h.imp λ{a b} h=>by simpa using h
def wF:∀(p:Str)(l:Ab),risingS p l=true->(p::l).Pairwise (λa b=>¬ b.cps.toList<a.cps.toList)
 |p,[],_=>by simp
 |p,x::r,h=>by
  unfold risingS at h;rw[xf,Bool.not_eq_true',ltCps_eq,decide_eq_false_iff_not]at h;let d:=wF x r h.2;erw[List.pairwise_cons.mpr #[λy c=>?_,d]];rcases xA.mp c with rfl | c
  ·erw[h.1]
  ·erw[List.le_trans h.1 (List.rel_of_pairwise_cons d c)]
def zgd{ss ms:Ab}(hp:ms.Perm ss)(i:sortedS ms=true):ms=qc ss:=by
 let c:ms.Pairwise (λa b=>¬ b.cps.toList<a.cps.toList):=by
  cases ms with|nil=>erw[.nil]|cons x r=>erw[wF x r i]
 erw[List.Perm.eq_of_pairwise (λa b _ _ c d=>Str.ext' (List.le_antisymm c d)) c (zge ss) (hp.trans (qD ss).symm)]
def StrsAre.of:∀{ss:Ab}{us:An},Vals (ss.map V.str) us->StrsAre us ss|[],_,.nil=>.nil|n::ns,_,.cons ⟨t,e⟩ r=>by subst e;exact .cons n t (StrsAre.of r)
def Vals.ofStrs{us:An}(h:StrsAre us ss):Vals (ss.map V.str) us:=by
 induction h with|nil=>erw[.nil]|cons n t _ a=>erw[.cons #[t,rfl] a]
section
variable {prog:Ar}{w:World}{A:Around}{E:Af}{s:Am}
open PySem.W in
def yz{Q:An->Am->Prop}(z:A.handled=none)(lo:(d==sysModules)=false)(hm:s.heap.DictAt (qv prog w) d kvs ep)(r:↑kvs<=sizeLine)
  (h:∀(y:Array Aj)(c:Heap)(l:Nat),ItemsOf (λi v=>∃ k x,kvs[i]?\(k,x)/\(qv prog w).is k v=true) y ↑kvs->(∀ b o,s.heap.get? b\o->c.get? b\o)->⇑s<c.objs.size->Q y.toList { s with heap:=c,toks:=l }) :
  wpAny (model prog w) A (collect (.ref d)) Q E s:=by
 let f:=hm.lt_size;let key:∀ R:Result->Am->Prop,(∀ c l a g,(∀ b o,b≠⇑s->(s.heap.push (seqObj "list" (List.toArray []) 0)).get? b=some o->c.get? b\o)->c.get? ⇑s=some { cls:=.type "list",dict:=none,data:=.seq a g,slots:=(List.toArray []) }->ItemsOf (λi v=>∃ k x,kvs[i]?\(k,x)/\(qv prog w).is k v=true) a ↑kvs->R (.ok (.ret (.ref ⇑s))) { s with heap:=c,toks:=l }) ->
   codeAny (model prog w) A (.builtin "proto.collect" #[[.ref d],[]]) R s:=λR p=>by
  erw[codeAny_builtin entry_proto_collect' ?_];show wpAny _ _ (do again (.builtin "list.__iadd__" #[[<- newList [],.ref d],[]])) _ _ s;refine x5 (wpAny_newList (x9 #[Code.quiet_builtin _ (by decide +kernel),codeAny_builtin entry_list_iadd' ?_]));show wpAny _ _ (Builtin.List.listExtendWith (.ref ⇑s) (.ref d) (.ref ⇑s)) _ _ { s with heap:=s.heap.push (seqObj "list" (List.toArray []) 0) };rw[Around.under_plainId (show plainId "list.__iadd__" =true by decide +kernel)];erw[kdl_extend (s:={ s with heap:=s.heap.push (seqObj "list" (List.toArray []) 0) }) (kdl_dict (knd:=qv prog w) (kvs:=kvs) (ep:=ep) lo) z (hm.push _) ⇑s (pi f) (pi f) (.ref ⇑s) 0 (Xa _ rfl) (λc l a g m j n=>p c l a g m j n) r]
 unfold collect;erw[x5 (wpAny_runValue (key _ λc l a g m j n=>?_))];show wpAny (model prog w) A (do
   let o<-load ⇑s
   match o.data with|.seq xs _=>pure xs.toList|_=>unsupported "internal:collect") Q E { s with heap:=c,toks:=l }
 erw[x5 (wpAny_load j ?_)];erw[x9 (h a c l n (λb o e=>m b o (xj (x8 e)) (x6 _ e)) (x8 j))]
end
def y0(h:(qv P w).is k u=true):RelV (kV k) u:=by
 rcases qz h with ⟨i,t,rfl,rfl⟩ | ⟨x,t,rfl,rfl⟩
 ·exact#[t,rfl]
 ·exact#[t,rfl]
section
variable {X:Cx}
def yx (M:X.calm=true):j6 X (.builtin "sorted") (λxs H Q=>∃ (p:Ap) (c:List (Str×V)),xs= [.ref p]/\Rd H p (.dK (c.map kK))/\↑c<64/\∀ l,H l=none->Q (.ref l) (upd H l (.lst ((qc (c.map (·.1))).map V.str)))):=by
 intro pins s O H xs us Q I r h;let(p,c,rfl,Y,dw,q):=h;let(u,rfl,rx):=Zo r;cases rx;let(z,hd,lq,rel,T):=Qd I.hok Y;let(ep,K):=T.dictAt;let hlen:↑lq=↑c:=by rw[<- ↑rel,xo]
 erw[Calls.call_function_entry kind_sorted plain_sorted entry_sorted (args_sorted1 _) ?_];unfold Builtin.«sorted»
 erw[x5 (m:=checkCount "sorted" 1 1 _) (x9 ?_)];refine x5 (yz (by exact I.ok.hd M) hd K (by rw[<- ↑rel];exact z) λa f tk hi hk A=>?_);let t:StrsAre a.toList (c.map (·.1)):=by
  erw[StrsAre.of ?_];let B:a.size=↑c:=by rw[hi.1,hlen]
  let key:∀(l:List (Str×V))(us:An),↑us=↑l->(∀(j:Nat)(v:Aj),us[j]?\v->∃(x:Str)(y:V),l[j]?\(x,y)/\RelV (.str x) v)->Vals ((l.map (·.1)).map V.str) us:=by
   intro l
   induction l with
   |nil=>
    intro us n _;cases us with
    |nil=>erw[.nil]
    |cons _ _=>simp at n
   |cons p l Z=>
    intro us n F;cases us with
    |nil=>simp at n
    |cons u us=>
     let(x,y,i,d):=F 0 u rfl;simp at i;subst i;exact .cons d (Z us (~~~n) λj v w=>by simpa using F (j+1) v (~~~w))
  refine key c a.toList (~~~B) λj v w=>?_;let(k,x,i,d):=hi.2 j v (~~~w);let g:((c.map kK).map (·.1))[j]?\k:=by rw[rel.keys,xg,i];rfl
  rw[xy,xg]at g;cases eq:c[j]? with
  |none=>rw[eq]at g;cases g
  |some p=>
   rw[eq]at g;let W:(Sum.inr p.1:Key)=k:=by simpa [kK] using g
   subst W;exact#[p.1,p.2,rfl,y0 d]
 let L:↑a.toList<64:=by
  have:a.size=↑c:=by rw[hi.1,hlen]
  simp[this];lia
 refine x5 (wpAny_newList ?_ (by have:=Xg;lia));let C:(f.push (seqObj "list" a.toList.toArray 0)).get? f.objs.size=some (seqObj "list" a.toList.toArray 0):=Xa _ rfl;show wpAny _ _ _ _ _ { s with heap:=f.push (seqObj "list" a.toList.toArray 0),toks:=tk };refine x5 (Xd (wpAny_call_entry slot_list_sort #[_,C,rfl] entry_list_sort (list_sort_treeK strKind_oneLt C t.keysOf (λG J rest e=>keyKind_strs (by rw[<- e];exact t)) L λD a1 a2=>#[_,rfl,?_]) (args_list_sort _)));let(G0,N,P,R):=sorted_out_str t a1 a2;let e:=zgd P R;subst e;let hold:∀ b o,s.heap.get? b\o->(sortedHeap (f.push (seqObj "list" a.toList.toArray 0)) f.objs.size a.toList ((arrOf D).map (·.2))).get? b=some o:=λb o e=>by
  let d:=hk b o e;let E:=x6 (seqObj "list" a.toList.toArray 0) d;rw[sortedHeap_old (xj (x8 d)) (x8 E)];exact E
 let hle:=uq A;let(S,U):=sortedHeap_at C;erw[x9 #[_,rfl,#[.ref f.objs.size,_,I.laid hold hle (show ObjOk X.prog X.w _ _ _ (.lst ((qc (c.map (·.1))).map V.str)) from #[?_,((arrOf D).map (·.2)).toList,S,Vals.ofStrs N,?_]),rfl,q _ (I.hok.fresh hle)]]]
 ·rw[xo,zc3,xo];have:=Xg;lia
 ·rw[U]
end
section
variable {X:Cx}{pins:Ak}{O:St}{H:Hp}{s:Am}{a:Ap}{kvs:List (Key×V)}
def Inv.ghost(I:Inv X pins O H s)(e:H a\o)(y:∀ xs,o≠ .tup xs)(A:∀ b,o≠ .own b)(l:∀ ps,o≠ .tbl ps)(hf:∀ i u,X.H₀ a≠some (.frz i u))(new:ObjOk X.prog X.w (upd H a J) s.heap a J):Inv X pins O (upd H a J) s where
 ok:=I.ok
 os:=I.os
 bare:=I.bare
 base:={
  keep:=I.base.keep
  slot:=I.base.slot
  free:=λb i d n hx=>by
   have:=I.base.free b i d n hx;rw[zH (λz=>by subst z;rw[e]at this;cases this)];exact this
  there:=I.base.there
  tups:=λb xs d=>by
   have:=I.base.tups b xs d;rw[zH (λz=>by grind)];exact this
  frzs:=λb i u d=>by
   rw[zH (λz=>by subst z;exact hf i u d)];exact I.base.frzs b i u d
  tbls:=λb ps d=>by
   let(mo,this):=I.base.tbls b ps d;exact#[mo,by rw[zH (λz=>by grind)];exact this] }
 loc:=I.loc
 cell:=I.cell
 free:=by rw[zH (λz=>by have:=I.free;rw[z,e]at this;cases this)];exact I.free
 freeC:=λx c d=>by
  have:=I.freeC x c d;rw[zH (λz=>by rw[z,e]at this;cases this)];exact this
 pin:=λp h=>by
  let(f,n,r):=I.pin p h;exact#[f,by rw[zH (λz=>by rw[z,e]at n;cases n)];exact n,r]
 hok:=λb u q=>by
  by_cases hb:b=a
  ·subst hb;rw[zK]at q;cases q;exact new
  ·rw[zH hb]at q;exact (I.hok b u q).stay (λc v _ r=>r) (λc r=>by rw[zH (λz=>by grind)];exact r) λc xs r=>by rw[zH (λz=>by grind)];exact r
 len:=I.len
def Fz(X:Cx)(H c:Hp)(a:Ap)(o:Obj)(kvs:List (Key×V)):Prop:=c a\(.frz o (.dK kvs))/\(c=H∨(H a\(.dK kvs)/\c=upd H a (.frz o (.dK kvs))/\∀ b u,X.H₀ a≠some (.frz b u)))
def Inv.freeze(I:Inv X pins O H s)(e:Rd H a (.dK kvs)):∃ o i,s.heap.get? a\o/\Fz X H i a o kvs/\Inv X pins O i s:=by
 rcases e with e | ⟨o,e⟩
 ·let(z,hd,h,rel,b,f,d,c,g):=zaK I.hok e;let hf:∀ b u,X.H₀ a≠some (.frz b u):=λb u q=>by
   have:=I.base.frzs a b u q;rw[e]at this;cases this
  refine#[b,upd H a (.frz b (.dK kvs)),c,#[zK,.inr #[e,rfl,hf]],I.ghost e (λ_ z=>nomatch z) (λ_ z=>nomatch z) (λ_ z=>nomatch z) hf #[c,z,hd,h,rel,b,f,d,c,g]]
 ·let(c,_):=(show ObjOk X.prog X.w H s.heap a (.frz o (.dK kvs)) from I.hok a _ e);exact#[o,H,c,#[e,.inl rfl],I]
def Inv.thaw{H':Hp}(I:Inv X pins O H s)(e:H a\(.frz o (.dK kvs)))(hf:∀ c u,X.H₀ a≠some (.frz c u)):Inv X pins O (upd H a (.dK kvs)) s:=by
 let(_,z,hd,d,rel,b):=(show ObjOk X.prog X.w H s.heap a (.frz o (.dK kvs)) from I.hok a _ e);erw[I.ghost e (λ_ z=>nomatch z) (λ_ z=>nomatch z) (λ_ z=>nomatch z) hf #[z,hd,d,rel,b]]
def kQ(h:wpE X e O H λv c=>Q v c∨∃ a kvs o,c a\(.frz o (.dK kvs))/\(∀ i u,X.H₀ a≠some (.frz i u))/\Q v (upd c a (.dK kvs))):wpE X e O H Q:=λpins s I=>
 thn (h pins s I) λu d ⟨v,c,b,r,q⟩=>by
  rcases q with q | ⟨a,kvs,o,e,hf,q⟩
  ·exact#[v,c,b,r,q]
  ·exact#[v,_,b.thaw (H':=c) e hf,r,q]
end
def zeE(o:Obj):Nat:=match o.data with|.dict _ a=>a|_=>0
def Itk(a:Ap)(o:Obj)(c:List (Key×V)):It :=
 #[λi H=>H a\(.frz o (.dK c))/\i<↑c,λi H x b=>b=H/\∃ p,c[i]?\p/\x=kV p.1,λi H=>H a\(.frz o (.dK c))/\↑c<=i]
def J6(ok:HOk P w H h)(e:H a\(.frz o (.dK I))):∃ c,KV I c/\h.DictAt (qv P w) a c (zeE o):=by
 let(b,z,hd,c,rel,l,i,g,d,j,f,k):=(show ObjOk P w H h a (.frz o (.dK I)) from ok a _ e);rw[b]at d;cases d;have:zeE o=g:=by unfold zeE;rw[f]
 exact#[c,rel,o,i,b,j,by rw[this];exact f,k]
def zda{K:Ah}(a it:Ap)(o:Obj)(l:List (Key×V)):Wr P w K J (Itk a o l) [it] it (λi h=>h.IsKeyIter it a i ↑l (zeE o)) where
 mem:=by simp
 obj:=λi h st b hb=>by
  let e:b=it:= ~~~hb;subst e;let(o,e,c,d):=st;exact#[o,e,λv z=>by rw[d]at z;cases z]
 keep:=λi h q st k=>st.at λo e=>k it (by simp) o e
 item:=by
  intro X m hw hK hc i pins s O H E I hf st hg;subst m hw hK;let(n,hx):=hg;let(f,rel,dat):=J6 I.hok n;let(f0,f1,f2,g,f4,j):=hf it (by simp);let hl:=↑rel;rw[hl]at st;let y:f[i]?\(f[i].1,f[i].2):=by rw[xc (by lia)]
  erw[wpAny_pyNext_dict_item st dat y λkey q hk p A=>?_];let u:=I.turned (t':=s.toks) (λb o hb e=>(A.2 b hb).trans e) f0 f1 g f4 j;let(B,e,c,d):=id p;let t:(l[i]'hx).1=f[i].1:=by
   let r:(l.map (·.1))[i]?=(f.map (·.1))[i]?:=by rw[rel.keys]
   rw[xg,xg,xc hx,xc (by lia)]at r;simpa using r
  refine#[key,rfl,YS e c d (by decide) #[kV (l[i]'hx).1,H,u,by rw[t];exact y0 hk,#[rfl,l[i],by simp[hx],rfl],by rw[hl];exact p,λb hb=>(hf b hb).1]]
 done:=by
  intro X m hw hK hc i pins s O H E I hf st hg;subst m hw hK;let(n,hx):=hg;let(f,rel,dat):=J6 I.hok n;let(f0,f1,f2,g,f4,j):=hf it (by simp);let hl:=↑rel;rw[hl]at st;exact wpAny_pyNext_dict_end (I.ok.hd hc) st dat (xI (by lia)) λq x=>#[rfl,I.turned (t':=s.toks) (λb o hb e=>x b o hb e) f0 f1 g f4 j]
 self:=λ_ _ _ _ _ st h=>wpAny_pyIter_keyiter st h
section
variable {X:Cx}{tg:Expr}
def zl8(X:Cx)(i:TE):TI:=λO H R=>i O H λx H1=>∃ a b,x=.ref a/\Rd H1 a (.dK b)/\∀ o c,Fz X H1 c a o b->R (Itk a o b) c
def zhV(hl:PE X l J):PI X tg l (zl8 X J):=by
 intro pins s O H R I h;erw[thn (hl pins s O H _ I h) λv s1 ⟨x,H1,f,k,j⟩=>?_];let(a,c,e,i,q):=j;subst e;cases k;let(o,d,ho,g,If):=f.freeze i;let(z,hd,_):=Qd f.hok i;let(m,rel,dat):=J6 If.hok g.1;erw[wpAny_pyIter_dict hd dat ?_];refine#[⇑s1,[⇑s1],_,_,d,rfl,If.kept λb o e=>x6 _ e,zda a _ o c,?_,λb hb=>?_,q o d g]
 ·rw[rel.length];exact#[_,Xa _ rfl,rfl,rfl]
 ·let e:b=⇑s1:= ~~~hb;subst e;erw[If.fpOk (xh _) (If.hok.fresh (xh _))]
end
def Iti(a:Ap)(o:Obj)(c:List (Key×V)):It :=
 #[λi H=>H a\(.frz o (.dK c))/\i<↑c,λi H x b=>∃ p t,c[i]?\p/\x=.ref t/\H t=none/\b=upd H t (.tup [kV p.1,p.2]),λi H=>H a\(.frz o (.dK c))/\↑c<=i]
def zau{K:Ah}(Z:∃ F n p,tg=.Tuple F n p)(a it:Ap)(o:Obj)(y:List (Key×V)):Wr P w K tg (Iti a o y) [it] it (λi h=>∃ ok z,IsItemIter h it a i ↑y (zeE o) ok z) where
 mem:=by simp
 obj:=λi h st b hb=>by
  grind
 keep:=λi h U ⟨ok,z,st⟩ k=>#[ok,z,k it (by simp) _ st]
 item:=by
  intro X A hw hK hc i pins s O H E I hf st hg;subst A hw hK;let(F,n,p,rfl):=Z;let(ok,z,st):=st;let(B,hx):=hg;let(d,rel,dat):=J6 I.hok B;let(f0,f1,f2,q,f4,u):=hf it (by simp);let hl:=↑rel;rw[hl]at st;let mj:d[i]?\(d[i].1,d[i].2):=by rw[xc (by lia)]
  erw[wpAny_pyNext_items_item st dat mj λkey h1 hk oo Y hz kp=>#[_,rfl,wpAny_letOwnedTupleGo_items oo λf Q D=>?_]];let sy:∀{l:List (Key×V)}{m:List (Key×Value)},KV l m->∀(j:Nat)(g:j<↑l)(C:j<↑m),l[j].1=m[j].1/\RelV l[j].2 m[j].2:=by
   intro l m r;unfold KV at r
   induction r with
   |nil=>intro j g;simp at g
   |cons h t ih=>
    intro j g C;cases j with
    |zero=>erw[h]
    |succ j=>exact ih j (~~~g) (~~~C)
  let(R,S):=sy rel i hx (by lia);let G:it≠⇑s:=xj (x8 st);let old:∀ b o,b≠it->s.heap.get? b\o->f.get? b\o:=λb o hb e=>(D.2 b hb).trans (kp b o hb e);let M:f.get? ⇑s=some { cls:=.type "tuple",data:=.seq (List.toArray [key,d[i].2]) }:=(D.2 _ (Ne.symm G)).trans Y;let fresh:H ⇑s=none:=I.hok.fresh (xh _);let J:Inv X pins O H { s with heap:=f }:=I.turned old f0 f1 q f4 u;let L:Inv X pins O (upd H ⇑s (.tup [kV (y[i]'hx).1,(y[i]'hx).2])) { s with heap:=f }:=J.track I.sz fresh (Ne.symm (xj I.lt)) (λx c e=>by
   let(v,ob,N,_):=I.cell x c e;exact xj (x8 N)) (λp hp=>xj (x8 (I.pin p hp).1)) #[by rw[Xg];simp,[key,d[i].2],.cons (by rw[R];exact y0 hk) (.cons S .nil),_,M,rfl,_,rfl]
  refine#[.ref ⇑s,_,L,rfl,#[y[i],_,by simp[hx],rfl,fresh,rfl],#[key,d[i].2,by rw[hl];exact Q],λb hb=>?_];let e:b=it:= ~~~hb;subst e;rw[zH G];exact f0
 done:=by
  intro X A hw hK hc i pins s O H E I hf st hg;subst A hw hK;let(ok,z,st):=st;let(B,hx):=hg;let(d,rel,dat):=J6 I.hok B;let(f0,f1,f2,q,f4,u):=hf it (by simp);let hl:=↑rel;rw[hl]at st;exact wpAny_pyNext_items_end (I.ok.hd hc) st dat (xI (by lia)) λU T=>#[rfl,I.turned (λb o hb e=>T b o hb e) f0 f1 q f4 u]
 self:=λ_ _ _ _ _ ⟨ok,z,st⟩ h=>W.kcp_self st h
section
variable {X:Cx}{tg o:Expr}{apos af:Pos}
def zj8(X:Cx)(i:TE):TI:=λO H R=>i O H λx H1=>∃ a b,x=.ref a/\Rd H1 a (.dK b)/\∀ o c,Fz X H1 c a o b->R (Iti a o b) c
def zfC (v:∃ r n p,tg=.Tuple r n p) (hl:PE X o J) (hb:attributeBase o "items" X.env (eval o X.env)=eval o X.env) (l:(apos.endLine==af.line)=true):PI X tg (.Call (.Attribute o "items" apos) [] [] af) (zj8 X J):=by
 intro pins s O H R I h;erw[wpAny_Call_method0_late hb l (thn (hl pins s O H _ I h) λu s1 ⟨x,H1,f,t,a,c,ex,g,q⟩=>?_)];subst ex;obtain rfl:u=Value.ref a:=t;let(t1,w,hd):=yZ f #[c,g];refine#[_,_,PySem.F.plainAttrs_dict,PySem.F.slot_dict_items,PySem.F.type_dict_items,t1,w,?_];let(z,_,m,y,k):=Qd f.hok g;erw[Calls.callWith_builtin rfl (PySem.evalArgs_none ?_)];erw[call_meetsIn PySem.F.slot_dict_items t1 PySem.F.entry_dict_items (PySem.F.args_dict_items_1 _) (meets_dict_items (qv X.prog X.w) a hd) #[#[m,k],?_]];let(o,i,ho,j,If):=f.freeze g;let d:=If.kept (h':=s1.heap.push { cls:=.type "dict_items",data:=.fields (List.toArray [.ref a]) }) (t':=s1.toks) λb o e=>x6 _ e;let(A,rel,dat):=J6 d.hok j.1;erw[wpAny_pyIter_items #[_,Xa _ rfl,rfl,rfl] dat ?_];refine#[_,[_],_,_,i,rfl,d.kept λb o e=>x6 _ e,zau v a _ o c,?_,λb hb=>?_,q o i j]
 ·rw[rel.length];exact#[.none,.none,Xa _ rfl]
 ·let e:b=(s1.heap.push { cls:=.type "dict_items",data:=.fields (List.toArray [.ref a]) }).objs.size:= ~~~hb;subst e;erw[d.fpOk (xh _) (d.hok.fresh (xh _))]
end
end Lake.L2
namespace Lake.L3
open PySem PySem.Spec PyProof.Rows L2
variable [Cs]
def Eqv(H c:Hp):=∀ b o,H b\o->c b\o∨∃ a,(o=.dK a∨∃ d,o=.frz d (.dK a))/\Rd c b (.dK a)
section
variable {M0 M:Ae}{F F':Fp}{U:Gv}{Z:Nu}{H H' Hf:Hp}{X:Cx}{a:Ap}{o:Obj}{kvs:List (Key×V)}
def Eqv.refl(H:Hp):Eqv H H:=λ_ _ e=>.inl e
def Eqv.rd(h:Eqv H H')(r:Rd H b (.dK kvs)):Rd H' b (.dK kvs):=by
 rcases r with e | ⟨a,e⟩
 ·rcases h b _ e with z | ⟨k,z | ⟨a,z⟩,r⟩
  ·erw[.inl z]
  ·cases z;exact r
  ·cases z
 ·rcases h b _ e with z | ⟨k,z | ⟨c,z⟩,r⟩
  ·erw[.inr #[_,z]]
  ·cases z
  ·cases z;exact r
def Eqv.of(h:Eqv H H'){o:HO}(e:H b\o)(s:∀ kvs,o≠ .dK kvs)(v:∀ c kvs,o≠ .frz c (.dK kvs)):H' b\o:=by
 rcases h b _ e with z | ⟨k,z | ⟨c,z⟩,r⟩
 ·erw[z]
 ·erw[absurd z (s k)]
 ·erw[absurd z (v c k)]
def Eqv.stay(h:Eqv H H')(n:H b≠none):H' b≠none:=by
 cases q:H b with
 |none=>erw[absurd q n]
 |some o=>
  rcases h b _ q with z | ⟨k,_,z | ⟨a,z⟩⟩<;>rw[z]<;>exact λw=>nomatch w
def Rep.eqv(h:Eqv H H'){v:V}{d:PyData}(r:Rep M H v d):Rep M H' v d:=r.go (λa o e n b c=>#[h.of e b c,n]) (λa xs e=>h.of e (λ_ z=>nomatch z) (λ_ _ z=>nomatch z)) λa x e n=>#[h.rd e,n]
def RS.eqv(r:RS M0 F U Z H)(h:Eqv H H')(l:∀ i,∀ a∈F i,H' a=H a):RS M0 F U Z H' :=
 #[λa d=>h.stay (r.al0 a d),r.dis0,r.nd,r.dis,λi o e=>let #[v,c,q]:=r.at' i o e;#[v,c,q.go (λ_ _ x=>Rep.eqv h x) (λb xs e=>h.of e (λ_ z=>nomatch z) (λ_ _ z=>nomatch z)) (l i)],r.emp,r.len]
def zeL(z:Fz X H Hf a o kvs):Eqv H Hf:=by
 obtain⟨e,rfl | ⟨d,rfl,_⟩⟩:=z
 ·erw[.refl _]
 ·intro b u c;by_cases hb:b=a
  ·subst hb;rw[d]at c;cases c;erw[.inr #[kvs,.inl rfl,.inr #[o,zK]]]
  ·exact .inl (by rw[zH hb];exact c)
def kI(e:H a\(.frz o (.dK kvs))):Eqv H (upd H a (.dK kvs)):=λb u c=>by
 by_cases hb:b=a
 ·subst hb;rw[e]at c;cases c;erw[.inr #[kvs,.inr #[o,rfl],.inl zK]]
 ·exact .inl (by rw[zH hb];exact c)
def zgq{l:Hp}(e:H a\(.dK kvs))(s:Stp F (upd H a (.frz o (.dK kvs))) F' l)(r:∀ i,a∉F i):Stp F H F' (upd l a (.dK kvs)):=by
 let d:=s.keep a _ zK r;refine#[λb u c nb=>?_,λb xs c=>?_,λb hb=>?_]
 ·by_cases hb:b=a
  ·subst hb;rw[e]at c;cases c;exact#[zK,d.2]
  ·rw[zH hb];exact s.keep b u (by rw[zH hb];exact c) nb
 ·let hb:b≠a:=λz=>by subst z;rw[e]at c;cases c
  rw[zH hb];exact s.tups b xs (by rw[zH hb];exact c)
 ·by_cases z:b=a
  ·subst z;rw[zK];exact λw=>nomatch w
  ·rw[zH z];exact s.stay b (by rw[zH z];exact hb)
end
def Ju(c:Ae)(F:Fp)(i:Nat):Ae:=λa=>c a∨a∈F i
section
variable {M0:Ae}{F F':Fp}{U U':Gv}{Z:Nu}{H H':Hp}{i:Nat}
def Jw(h:o i= []):MM (Ju M0 F i) o=MM M0 (fset o i (F i)):=by
 funext a;apply propext;constructor
 ·rintro ((b | b) | ⟨j,b⟩)
  ·erw[.inl b]
  ·exact .inr #[i,by rw[zM];exact b]
  ·refine .inr #[j,?_];rw[zR (λz=>by subst z;rw[h]at b;cases b)];exact b
 ·rintro (b | ⟨j,b⟩)
  ·erw[.inl (.inl b)]
  ·by_cases z:j=i
   ·subst z;rw[zM]at b;exact .inl (.inr b)
   ·rw[zR z]at b;exact .inr #[j,b]
def yS:fset (fset F i []) i (F i)=F:=by
 funext j;by_cases z:j=i
 ·subst z;rw[zM]
 ·rw[zR z,zR z]
def RS.hide(r:RS M0 F U Z H):RS (Ju M0 F i) (fset F i []) (U.set i none) Z H:=by
 let hm:MM (Ju M0 F i) (fset F i [])=MM M0 F:=by rw[Jw zM,yS]
 let sub:∀ j a,a∈fset F i [] j->j≠i/\a∈F j:=λj a h=>by
  by_cases z:j=i
  ·subst z;rw[zM]at h;cases h
  ·rw[zR z]at h;exact#[z,h]
 refine#[λa h=>?_,λj a h=>?_,λj=>?_,λj k a c b=>r.dis _ _ a (sub _ _ c).2 (sub _ _ b).2,λj o e=>?_,λj h=>?_,by rw[xN];exact r.len]
 ·rcases h with h | h
  ·erw[r.al0 a h]
  ·erw[r.al a (.inr #[i,h])]
 ·let(c,b):=sub j a h;rintro (z | z)
  ·erw[r.dis0 j a b z]
  ·erw[c (r.dis _ _ a b z)]
 ·by_cases z:j=i
  ·subst z;rw[zM];exact .nil
  ·rw[zR z];exact r.nd j
 ·by_cases z:j=i
  ·subst z;by_cases hl:j<↑U
   ·rw[xk hl]at e;cases e
   ·rw[xI (~~~hl)]at e;cases e
  ·rw[xi (Ne.symm z)]at e;rw[hm,zR z];erw[r.at' j o e]
 ·by_cases z:j=i
  ·subst z;exact zM
  ·rw[zR z];erw[r.emp j λo e=>h o ?_];rw[xi (Ne.symm z)];exact e
def RS.unhide(r:RS M0 F U Z H)(e:U[i]?\(some o))(l:RS (Ju M0 F i) F' U' Z H')(B:U'[i]?\none)(s:Stp (fset F i []) H F' H'):RS M0 (fset F' i (F i)) (U'.set i (some o)) Z H'/\Stp F H (fset F' i (F i)) H':=by
 let G:i<↑U':=(xa.mp B).1;let t:=l.emp i λo z=>by rw[B]at z;cases z
 let hm:MM (Ju M0 F i) F'=MM M0 (fset F' i (F i)):=Jw t;let kp:∀ a∈F i,H' a=H a/\∀ j,a∉F' j:=λa n=>by
  let(u,C):=r.laidF n;let(y,A):=s.keep a u C λj c=>by
   by_cases z:j=i
   ·subst z;rw[zM]at c;cases c
   ·rw[zR z]at c;exact z (r.dis _ _ a c n)
  exact#[by rw[y,C],A]
 let cls:∀ j a,a∈fset F' i (F i) j->(j=i/\a∈F i)∨(j≠i/\a∈F' j):=λj a h=>by
  by_cases z:j=i
  ·subst z;rw[zM]at h;exact .inl #[rfl,h]
  ·rw[zR z]at h;exact .inr #[z,h]
 let s0:MM (Ju M0 F i) (fset F i [])=MM M0 F:=by rw[Jw zM,yS]
 refine#[#[λa h=>l.al0 a (.inl h),λj a h=>?_,λj=>?_,λj k a g m=>?_,λj p f=>?_,λj h=>?_,by rw[xN];exact l.len],#[λb u I nb=>?_,s.tups,s.stay]]
 ·rcases cls j a h with ⟨_,h⟩ | ⟨_,h⟩
  ·erw[r.dis0 i a h]
  ·erw[λz=>l.dis0 j a h (.inl z)]
 ·by_cases z:j=i
  ·subst z;rw[zM];exact r.nd _
  ·rw[zR z];exact l.nd j
 ·rcases cls j a g with ⟨D,g⟩ | ⟨D,g⟩<;>rcases cls k a m with ⟨E,m⟩ | ⟨E,m⟩
  ·rw[D,E]
  ·erw[absurd m ((kp a g).2 k)]
  ·erw[absurd g ((kp a m).2 j)]
  ·erw[l.dis _ _ a g m]
 ·by_cases z:j=i
  ·subst z;rw[xk G]at f;cases f;let(v,ev,q):=r.at' j _ e;refine#[v,ev,?_];rw[zM,<- hm];exact q.go (λw d x=>qj s (λa h=>(r.hide).al0 a h) (by rw[s0];exact x)) s.tups λa n=>(kp a n).1
  ·rw[xi (Ne.symm z)]at f;rw[<- hm,zR z];erw[l.at' j p f]
 ·by_cases z:j=i
  ·grind
  ·rw[zR z];erw[l.emp j λp f=>h p ?_];rw[xi (Ne.symm z)];exact f
 ·let(y,A):=s.keep b u I λj c=>by
   by_cases z:j=i
   ·subst z;rw[zM]at c;cases c
   ·rw[zR z]at c;exact nb j c
  refine#[y,λj c=>?_];rcases cls j b c with ⟨_,h⟩ | ⟨_,h⟩
  ·erw[nb i h]
  ·erw[A j h]
end
private def noX{c:Type}(r:R c):R c:=match r with|.ok y=>.ok y|_=>.bad
def hid{c:Type}(z:Option (Option Nat))(f:EM c):EM c:=λU=>match z with
 |none=>f U
 |some none=>noX (f U)
 |some (some i)=>match U[i]? with
  |some (some o)=>match f (U.set i none) with
   |.ok (y,a)=>match a[i]? with
    |some none=>.ok (y,a.set i (some o))
    |_=>.bad
   |_=>.bad
  |_=>.bad
def Wk(X:Cx)(F:Fp)(H c:Hp):Prop:=c=H∨∃ a o b,Fz X H c a o b/\∀ i,a∉F i
def JIw(X:Cx)(l:Ae)(F:Fp)(J:It)(z:Aa×Option (Option Nat))(H c:Hp):Prop:=match z.2 with|none=>c=H/\JI l F J z.1 H|some none=>Wk X F H c/\JI l F J z.1 c|some (some i)=>c=H/\JI (Ju l F i) (fset F i []) J z.1 H
def SIw(X:Cx)(mp:Ac)(i iter:Expr)(f:EM (Aa×Option (Option Nat))):=∀(a:Ae)(F:Fp)(U:Gv)(Z:Nu)(O:St)(H:Hp)(R:It->Hp->Prop),RS a F U Z H->Sees mp Z O ->
 EPost X.xp a F Z O H (λc e d z=>∀ J b,JIw X a c J z d b->R J b) (f U)->wpI X i iter O H R
section
variable {X:Cx}{mp:Ac}{a b c e tg iter elt:Expr}{ifs:Ag}{pos p:Pos}{na:EM (Aa)}
private def fStd(f:EM (Aa)):EM (Aa×Option (Option Nat)):=λU=>(f U).bind λ(ds,a)=>.ok ((ds,none),a)
def ziw(h:SI X mp tg iter na):SIw X mp tg iter (fStd na):=λc F U Z O H R rs f hp=>
 h c F U Z O H R rs f (hp.seq.mono λb g H1 ds a s1 d J e=>d b H1 a (.refl _ _) J H1 #[rfl,e])
def loopG{β i:Type}(k:Nat)(t:IT)(cond:EM Bool)(it:EM β)(add:i->β->i):Aa->i->Gv->R (i×Gv)
 |[],b,U=>.ok (b,U)
 |d::ds,b,U=>match tgF t d (U++List.replicate k none) with
  |none=>.bad
  |some e=>match cond e with
   |.ok (true,a)=>match it a with
    |.ok (y,c)=>loopG k t cond it add ds (add b y) (c.take ↑U)
    |.exc x c=>.exc x (c.take ↑U)
    |.bad=>.bad
   |.ok (false,a)=>loopG k t cond it add ds b (a.take ↑U)
   |.exc x a=>.exc x (a.take ↑U)
   |.bad=>.bad
structure zdk{α β γ δ:Type}(ac:Acc α β)(ad:γ->δ->γ)(RA:(Ae)->Fp->Hp->α->γ->Prop)(RB:(Ae)->Fp->Hp->β->δ->Prop)(ln:γ->Nat):Prop where
 stp:∀{M0:Ae}{F F':Fp}{H H':Hp}{x:α}{y:γ},RA M0 F H x y->Stp F H F' H'->(∀ a,M0 a->H a≠none)->RA M0 F' H' x y
 add:∀{M0:Ae}{F:Fp}{H:Hp}{x:α}{y:γ}{u:β}{d:δ},RA M0 F H x y->RB M0 F H u d->RA M0 F H (ac.add x u) (ad y d)
 bst:∀{M0:Ae}{F F':Fp}{H H':Hp}{u:β}{d:δ},RB M0 F H u d->Stp F H F' H'->(∀ a,M0 a->H a≠none)->RB M0 F' H' u d
 len:∀{M0:Ae}{F:Fp}{H:Hp}{x:α}{y:γ},RA M0 F H x y->ac.len x=ln y
 lin:∀(y:γ)(d:δ),ln (ad y d)<=ln y+1
 eqv:∀{M0:Ae}{F:Fp}{H H':Hp}{x:α}{y:γ},RA M0 F H x y->Eqv H H'->RA M0 F H' x y
 mm:∀{M0 M0':Ae}{F F':Fp}{H:Hp}{x:α}{y:γ},MM M0 F=MM M0' F'->RA M0 F H x y->RA M0' F' H x y
abbrev XPc(xp:XPT)(O:St):XPT:=λx _ H=>xp x O H
def jx{α β S δ:Type}{ac:Acc α β}{add:S->δ->S}{T:(Ae)->Fp->Hp->α->S->Prop}{RB:(Ae)->Fp->Hp->β->δ->Prop}{len:S->Nat}(B:zdk ac add T RB len){N':Ab}{scope:Scope}{n k:Nat}{ix:Ac}{t:IT}{cond:EM Bool}{it:EM δ}{te:St->Hp->(β->Hp->Prop)->Prop}{l:Ae}{I:Fp}{Z:Nu}{O:St}{H1:Hp}{J:It}{ds:Aa}{P:Fp->Gv->Hp->S->Prop}{U1:Gv}{Q:α->Hp->Prop}{c0:S}
  (hm:∀ j i:Nat,ix[j]?\i->∃ m,mp[i]?\m/\m<n) (lp:↑N'=k+↑ix) (h0:T l I H1 ac.a0 c0) (hl0:len c0=0)
  (hg:∀ cl C s2 H2 fp,SG ⋯ (mpC mp n k ix) (·<n) tg t) (hc:∀ cl C s2 H2 fp,SF ⋯ (mpC mp n k ix) ifs cond)
  (he:∀(l:Ae)(F:Fp)(U:Gv)(Z:Nu)(O1:St)(H:Hp)(Q:β->Hp->Prop),RS l F U Z H->Sees (mpC mp n k ix) Z O1->EPost (XPc X.xp O) l F Z O1 H (λo E r d=>∀ y,RB l o r y d->Q y r) (it U)->te O1 H Q)
  (G:RS l I U1 Z H1) (hs:Sees mp Z O) (hJ:JI l I J ds H1) (hd:↑ds<=1000000) (hn:↑U1=n) (hp:EPost X.xp l I Z O H1 P (loopG k t cond it add ds c0 U1))
  (fin:∀ o E r A N,RS l o E Z r->T l o r N A->P o E r A->Stp I H1 o r->Q N r) :
  yv ac k ix (gU X N' scope tg O) (fU X N' scope ifs O) te O J H1 Q:=by
 have hνn:↑Z=n:=by rw[G.len,hn]
 refine#[λi m N H=>m=↑ds-i/\i<=↑ds/\∃ o E A,RS l o E Z H/\Stp I H1 o H/\T l o H N A/\↑E=n/\len A<=i/\EPost X.xp l o Z O H P (loopG k t cond it add (ds.drop i) A E),#[↑ds,by simp,xY _,I,U1,c0,G,.refl _ _,h0,hn,by rw[hl0];exact xh _,hp],?_];rintro i m N H ⟨rfl,hil,o,E,A,rs,st,rv,t5,Fe,hp⟩;let hsz:=Xg;refine#[by rw[B.len rv];lia,?_];by_cases w:i<↑ds
 ·rw[List.drop_eq_getElem_cons w,loopG]at hp;let(AX,AW):=hJ i o H st G.al0;let(go,yl):=AX ds[i] (by simp[w]);refine .inr #[go,λvs' r=>∃ Bj f d4,RS l Bj f Z r/\Stp I H1 Bj r/\T l Bj r vs' d4/\↑f=n/\len d4<=i+1/\EPost X.xp l Bj Z O r P (loopG k t cond it add (ds.drop (i+1)) d4 f),λvs' r h=>#[↑ds-(i+1),by lia,rfl,w,h],λx H2 hy=>?_];let(s2,rx):=yl x H2 hy;let rs2:=(rs.same s2).ext k;let hcl:↑(cS k ix O)=↑N':=by unfold cS;simp[lp]
  let BJ:Sees (mpC mp n k ix) (Z++List.replicate k none) (cS k ix O):=λs j v g V=>by
   by_cases hsk:s<k
   ·rw[zki hsk]at g;cases g;rw[xr (by lia),xQ]at V
    split at V<;>cases V
   ·obtain⟨j',rfl⟩:∃ j',s=k+j':=#[s-k,by lia];rw[zfc]at g;cases q:ix[j']? with
    |none=>rw[q]at g;cases g
    |some i0=>
     rw[q]at g;let(m,i8,Y):=hm j' i0 q;have:mp.getD i0 0=m:=by rw[xP,i8];rfl
     let ej:m=j:=by
      let e3:some (mp.getD i0 0)\j:=g;rw[this]at e3;exact Option.some.inj e3
     subst ej;rw[xb (by lia)]at V;erw[zjI q (hs i0 m v i8 V)]
  cases et:tgF t ds[i] (E++List.replicate k none) with
  |none=>rw[et]at hp;exact hp.elim
  |some U2=>
   rw[et]at hp;intro cl C Bq De fp cat;erw[hg cl C Bq De fp l o _ U2 _ (cS k ix O) H2 x ds[i] _ rs2 BJ hcl rx et λF3 R O3 ax s3 hs3 t6 n3 m3=>#[?_,λcl C Bq De fp cat=>?_]]
   ·apply xZ;intro j;rw[List.getElem?_drop,List.getElem?_drop];by_cases W:j<↑ix
    ·let(m,i8,Y):=hm j ix[j] (by simp[W]);erw[m3 (k+j) m ?_ Y];rw[zfc,xc W];show some (mp.getD ix[j] 0)\m;rw[xP,i8];rfl
    ·let FI:↑O3=↑N':=t6;rw[xI (by lia),xI (by lia)]
   ·let stA:=(st.trans (.same s2)).trans s3;let back:∀{b:Fp}{c:Gv}{a:Hp},RS l b c R a->RS l (WY b n) (c.take n) Z a/\Stp b a (WY b n) a:=λ{b c a} r4=>by
     let(L,s5):=r4.cut n;have:R.take n=Z:=by
      apply xZ;intro j;by_cases W:j<n
      ·rw[uc W,n3 j W,xb (by lia)]
      ·rw[xI (by rw[xM];lia),xI (by lia)]
     rw[this]at L;exact#[L,s5]
    let lenOf:∀{b:Fp}{c:Gv}{a:Hp},RS l b c R a->↑(c.take n)=n:=λ{b c a} r4=>by
     let h1:=r4.len;let h2:=ax.len;let h3:↑U2=n+k:=by rw[zas _ _ _ _ et,xB,uz,t5]
     rw[xM];lia
    erw[hc cl C Bq De fp l F3 U2 R O3 H2 _ ax hs3 ?_];dsimp only at hp;cases ec:cond U2 with
    |bad=>rw[ec]at hp;exact hp.elim
    |exc xx yy=>
     rw[ec]at hp;intro b a p s4;let(L,s5):=back p;exact#[_,cat,hp _ a (by rw[t5];exact L) ((((Stp.same s2).trans s3).trans s4).trans s5)]
    |ok z=>
     let(bb,U3):=z;rw[ec]at hp;intro b a p s4;let rvA:=B.stp (B.stp (B.stp rv (.same s2) rs.al0) s3 (rs.same s2).al0) s4 ax.al0;cases bb with
     |false=>
      erw[YW ?_];let(L,s5):=back p;let D:=(stA.trans s4).trans s5;rw[t5]at hp;exact#[_,_,A,L,D,B.stp rvA s5 p.al0,lenOf p,by lia,hp.step ((((Stp.same s2).trans s3).trans s4).trans s5)]
     |true=>
      erw[YX (he l b U3 R O3 a _ p hs3 ?_)];dsimp only at hp;cases ee:it U3 with
      |bad=>rw[ee]at hp;exact hp.elim
      |exc xx yy=>
       rw[ee]at hp;intro F5 H5 K s5;let(r6,M):=back K;exact hp _ H5 (by rw[t5];exact r6) (((((Stp.same s2).trans s3).trans s4).trans s5).trans M)
      |ok z=>
       let(u,c):=z;rw[ee]at hp;intro F5 H5 K s5 v hv;dsimp only at hp;let(r6,M):=back K;let D:=((stA.trans s4).trans s5).trans M;rw[t5]at hp;exact#[_,_,add A u,r6,D,B.add (B.stp (B.stp rvA s5 p.al0) M K.al0) (B.bst hv M K.al0),lenOf K,by have:=B.lin A u;lia,hp.step (((((Stp.same s2).trans s3).trans s4).trans s5).trans M)]
 ·let e:i=↑ds:=by lia
  subst e;rw[uV,loopG]at hp;let(AX,AW):=hJ _ o H st G.al0;erw[.inl #[AW (xh _),fin o E H A N rs rv (hp o H rs (.refl _ _)) st]]
def zgv{H:Hp}{a b:Ap}{o u:HO}(h:a≠b):upd (upd H a o) b u=upd (upd H b u) a o:=by
 funext c;unfold upd;grind
def EPost.noX{α:Type}{P:Fp->Gv->Hp->α->Prop}{r:R (α×Gv)}{xp i:XPT}(h:EPost xp o F Z O H P (noX r)):EPost i o F Z O H P r:=by
 cases r with|ok a=>erw[h]|_=>erw[h.elim]
def EPost.imp{α:Type}{P:Fp->Gv->Hp->α->Prop}{r:R (α×Gv)}{xp l:XPT}(h:EPost xp o F Z O H P r)(k:∀ x i,xp x O i->l x O i):EPost l o F Z O H P r:=by
 cases r with|exc x U=>erw[λa i rs s=>k x i (h a i rs s)]|_=>erw[h]
def zlV{α β N δ:Type}{ac:Acc α β}{ad:N->δ->N}{S:(Ae)->Fp->Hp->α->N->Prop}{RB:(Ae)->Fp->Hp->β->δ->Prop}{ln:N->Nat}(Y:zdk ac ad S RB ln){N':Ab}{scope:Scope}{n k:Nat}{ix:Ac}{t:IT}{cond:EM Bool}{it:EM δ}{te:St->Hp->(β->Hp->Prop)->Prop}{v:Ae}{E:Fp}{Z:Nu}{O:St}{H1 G:Hp}{J:It}{ds:Aa}{I:Gv}{Q:VK}{K:N}
  (hm:∀ j i:Nat,ix[j]?\i->∃ m,mp[i]?\m/\m<n) (lp:↑N'=k+↑ix) (h0:∀ v F H,S v F H ac.a0 K) (L:ln K=0)
  (hg:∀ cl C s2 H2 fp,SG ⋯ (mpC mp n k ix) (·<n) tg t) (hc:∀ cl C s2 H2 fp,SF ⋯ (mpC mp n k ix) ifs cond)
  (he:∀(v:Ae)(F:Fp)(U:Gv)(Z:Nu)(O1:St)(H:Hp)(Q:β->Hp->Prop),RS v F U Z H->Sees (mpC mp n k ix) Z O1->EPost (XPc X.xp O) v F Z O1 H (λA T r d=>∀ y,RB v A r y d->Q y r) (it U)->te O1 H Q)
  (M:RS v E I Z H1) (hs:Sees mp Z O) (wk:Wk X E H1 G) (hJ:JI v E J ds G) (hd:↑ds<=1000000) (hn:↑I=n)
  (hp:EPost X.xp v E Z O H1 (λA T r s=>∀ B p,S v A r B s->r p=none->Q (.ref p) (upd r p (ac.ho B))) (noX (loopG k t cond it ad ds K I))) :
  yv ac k ix (gU X N' scope tg O) (fU X N' scope ifs O) te O J G λs H2=>∀ p,H2 p=none->(Q (.ref p) (upd H2 p (ac.ho s))∨∃ a l o,upd H2 p (ac.ho s) a\(.frz o (.dK l))/\(∀ ob u,X.H₀ a≠some (.frz ob u))/\Q (.ref p) (upd (upd H2 p (ac.ho s)) a (.dK l))):=by
 let plain:G=H1->yv ac k ix (gU X N' scope tg O) (fU X N' scope ifs O) te O J G λs H2=>∀ p,H2 p=none->(Q (.ref p) (upd H2 p (ac.ho s))∨∃ a l o,upd H2 p (ac.ho s) a\(.frz o (.dK l))/\(∀ ob u,X.H₀ a≠some (.frz ob u))/\Q (.ref p) (upd (upd H2 p (ac.ho s)) a (.dK l))):=λe=>by
  subst e;erw[jx Y hm lp (h0 _ _ _) L hg hc he M hs hJ hd hn hp.noX λA T r s B h D w st p f=>.inl (w B p D f)]
 rcases wk with e | ⟨a,o,l,⟨ef,e | ⟨V,e,W⟩⟩,c⟩
 ·erw[plain e]
 ·erw[plain e]
 ·subst e;let Fv:EPost X.xp v E Z O (upd H1 a (.frz o (.dK l))) (λA T r s=>∀ B p,S v A (upd r a (.dK l)) B s->upd r a (.dK l) p=none->Q (.ref p) (upd (upd r a (.dK l)) p (ac.ho B))) (loopG k t cond it ad ds K I):=by
   cases q:loopG k t cond it ad ds K I with
   |bad=>rw[q]at hp;exact hp
   |exc x y=>rw[q]at hp;exact hp.elim
   |ok z=>
    rw[q]at hp;intro A r h P;let g:=(P.keep a _ zK c).1;exact hp A _ (h.eqv (kI g) λi b hb=>zH λz=>(P.keep a _ zK c).2 i (by rw[<- z];exact hb)) (zgq V P c)
  refine jx Y hm lp (h0 _ _ _) L hg hc he (M.eqv (zeL #[zK,.inr #[V,rfl,W]]) λi b hb=>zH λz=>c i (by rw[<- z];exact hb)) hs hJ hd hn Fv λA T r s B h D w st p f=>.inr #[a,l,o,?_,W,?_]
  ·let g:=(st.keep a _ zK c).1;rw[zH (λz=>by subst z;rw[g]at f;cases f)];exact g
  ·let g:=(st.keep a _ zK c).1;let R:p≠a:=λz=>by subst z;rw[g]at f;cases f
   rw[zgv R];exact w B p (Y.eqv D (kI g)) (by rw[zH R];exact f)
def zjh{α β L δ:Type}{ac:Acc α β}{ad:L->δ->L}{S:(Ae)->Fp->Hp->α->L->Prop}{RB:(Ae)->Fp->Hp->β->δ->Prop}{ln:L->Nat}(M:zdk ac ad S RB ln){N':Ab}{scope:Scope}{n k:Nat}{ix:Ac}{t:IT}{cond:EM Bool}{it:EM δ}{te:St->Hp->(β->Hp->Prop)->Prop}{s:Ae}{N:Fp}{Z:Nu}{O:St}{H1 Hf:Hp}{J:It}{z:Aa×Option (Option Nat)}{Y:Gv}{Q:VK}{c0:L}
  (hm:∀ j i:Nat,ix[j]?\i->∃ m,mp[i]?\m/\m<n) (lp:↑N'=k+↑ix) (h0:∀ s F H,S s F H ac.a0 c0) (I:ln c0=0)
  (hg:∀ cl C s2 H2 fp,SG ⋯ (mpC mp n k ix) (·<n) tg t) (hc:∀ cl C s2 H2 fp,SF ⋯ (mpC mp n k ix) ifs cond)
  (he:∀(s:Ae)(F:Fp)(U:Gv)(Z:Nu)(O1:St)(H:Hp)(Q:β->Hp->Prop),RS s F U Z H->Sees (mpC mp n k ix) Z O1->EPost (XPc X.xp O) s F Z O1 H (λE T l d=>∀ y,RB s E l y d->Q y l) (it U)->te O1 H Q)
  (B:RS s N Y Z H1) (hs:Sees mp Z O) (G:JIw X s N J z H1 Hf) (hd:↑z.1<=1000000) (hn:↑Y=n)
  (hp:EPost X.xp s N Z O H1 (λE T l A=>∀ v p,S s E l v A->l p=none->Q (.ref p) (upd l p (ac.ho v))) (hid z.2 (loopG k t cond it ad z.1 c0) Y)) :
  yv ac k ix (gU X N' scope tg O) (fU X N' scope ifs O) te O J Hf λA H2=>∀ p,H2 p=none->(Q (.ref p) (upd H2 p (ac.ho A))∨∃ a K o,upd H2 p (ac.ho A) a\(.frz o (.dK K))/\(∀ ob u,X.H₀ a≠some (.frz ob u))/\Q (.ref p) (upd (upd H2 p (ac.ho A)) a (.dK K))):=by
 let(ds,z):=z;cases z with
 |none=>
  let(rfl,G):=G;erw[jx M hm lp (h0 _ _ _) I hg hc he B hs G hd hn hp λE T l A v c f e st p b=>.inl (e v p f b)]
 |some z=>cases z with
  |none=>erw[zlV M hm lp h0 I hg hc he B hs G.1 G.2 hd hn hp]
  |some i=>
   let(rfl,G):=G;dsimp only [hid]at hp;delta hp o eo;refine jx M hm lp (h0 _ _ _) I hg hc he (B.hide) hs G hd (by rw[xN];exact hn) (P:=λE T l A=>∀ v p,S (Ju s N i) E l v A->l p=none->Q (.ref p) (upd l p (ac.ho v))) ?_ λE T l A v c f e st p b=>.inl (e v p f b);generalize loopG k t cond it ad ds c0 (Y.set i none)=r at hp;cases r with
   |bad=>erw[hp]
   |exc x g=>erw[hp.elim]
   |ok w=>
    let(A,g):=w;delta hp e2;intro E l c D v p q b;let(h,s3):=B.unhide eo c e2 D;exact hp _ l h s3 v p (M.mm (Jw (c.emp i λo z=>by rw[e2]at z;cases z)) q) b
def itL(elt:EM FV):EM PyData:=λU=>(elt U).bind λ(u,a)=>match derS a u with|some y=>.ok (y,a)|none=>.bad
def Vn:zdk zgS (λ(l:Aa) y=>l++ [y]) (λi F H o l=>RepL (MM i F) H o l) (λi F H v y=>Rep (MM i F) H v y) List.length where
 stp r s h0:=vG s h0 r
 add r q:=RepL.append r (.cons q .nil)
 bst r s h0:=qj s h0 r
 len r:=↑r
 lin y d:=by simp
 eqv r h:=Zn (λ_ _=>Rep.eqv h) r
 mm e r:=by rw[<- e];exact r
def qR(k:Nat)(t:IT)(cond:EM Bool)(elt:EM FV):Aa->Aa->Gv->R (Aa×Gv):=loopG k t cond (itL elt) λa y=>a++ [y]
private def fComp(n k:Nat)(t:IT)(src:EM (Aa))(cond:EM Bool)(elt:EM FV):EM (Aa):=λU=>(src U).bind λ(ds,a)=>if ↑ds<=1000000/\↑a=n then qR k t cond elt ds [] a else .bad
private def fCompW(n k:Nat)(t:IT)(src:EM (Aa×Option (Option Nat)))(cond:EM Bool)(elt:EM FV):EM (Aa):=λU=>(src U).bind λ(z,a)=>if ↑z.1<=1000000/\↑a=n then hid z.2 (loopG k t cond (itL elt) (λb y=>b++ [y]) z.1 []) a else .bad
def zeW(he:SE Y o elt J)(rs:RS I F U Z H)(r:Sees o Z O)(hp:EPost Y.xp I F Z O H (λl s i d=>∀ y,Rep (MM I l) i y d->Q y i) (itL J U)):wpE Y elt O H Q :=
 he.run rs r hp λc f H1 u v a s1 e b=>by
  delta b y ey;erw[b c H1 a (.refl _ _) v (e.strong a ey)]
def kB{N':Ab}{scope:Scope}{n k:Nat}{ix:Ac}{t:IT}{src:EM (Aa)}{cond:EM Bool}{l:EM FV}(S:CSc X.env.scope X.N scope N' k ix)(hm:∀ j i:Nat,ix[j]?\i->∃ m,mp[i]?\m/\m<n)
  (hi:SI X mp tg iter src) (hg:∀ cl C s2 H2 fp,SG ⋯ (mpC mp n k ix) (·<n) tg t) (hc:∀ cl C s2 H2 fp,SF ⋯ (mpC mp n k ix) ifs cond) (he:∀ cl C s2 H2 fp,SE ⋯ (mpC mp n k ix) elt l) :
  SNt X mp (kG k ix (wpI X tg iter) (gU X N' scope tg) (fU X N' scope ifs) (eU X N' scope elt)) (fComp n k t src cond l):=by?
 erw[hi M0 F U Z O H _ rs hs (hp.seq.mono λr v H1 ds a s1 b J e=>?_)];delta b hh;erw[jx Vn hm S.len .nil rfl hg hc (λM0 F U Z s H Q rs hs hp cl C s2 H2 fp cat=>zeW (he cl C s2 H2 fp) rs hs (hp.imp λx c h=>#[_,cat,h])) a hs e hh.1 hh.2 b λq u c y o w g f _ p d=>f o p g d]
def ziz{t:IT}{src:EM (Aa)}{cond:EM Bool}{l:EM FV}(o:X.calm=true)(S:CSc X.env.scope X.N scope N' k ix)(hm:∀ j i:Nat,ix[j]?\i->∃ m,mp[i]?\m/\m<n)
  (hi:SI X mp tg iter src) (hg:∀ cl C s2 H2 fp,SG ⋯ (mpC mp n k ix) (·<n) tg t) (hc:∀ cl C s2 H2 fp,SF ⋯ (mpC mp n k ix) ifs cond) (he:∀ cl C s2 H2 fp,SE ⋯ (mpC mp n k ix) elt l)
  (hf:∀ x,foldedSetIterable iter X.env x=pure x):SN X mp (.ListComp elt [#[tg,iter,ifs,0]] scope pos) (fComp n k t src cond l):=λa F U Z O H Q rs b hp=>
 (ki o S hf).wp (kB S hm hi hg hc he a F U Z O H Q rs b hp)
def zf9{N':Ab}{scope:Scope}{n k:Nat}{ix:Ac}{t:IT}{src:EM (Aa×Option (Option Nat))}{cond:EM Bool}{l:EM FV}(o:X.calm=true)(S:CSc X.env.scope X.N scope N' k ix)(hm:∀ j i:Nat,ix[j]?\i->∃ m,mp[i]?\m/\m<n)
  (hi:SIw X mp tg iter src) (hg:∀ cl C s2 H2 fp,SG ⋯ (mpC mp n k ix) (·<n) tg t) (hc:∀ cl C s2 H2 fp,SF ⋯ (mpC mp n k ix) ifs cond) (he:∀ cl C s2 H2 fp,SE ⋯ (mpC mp n k ix) elt l)
  (hf:∀ x,foldedSetIterable iter X.env x=pure x):SN X mp (.ListComp elt [#[tg,iter,ifs,0]] scope pos) (fCompW n k t src cond l):=λc F U Z O H Q rs a hp=>
 kQ ((ki o S hf).wp (hi c F U Z O H _ rs a (hp.seq.mono λf r H1 z b s1 d J p e=>by
  delta d hh;exact zjh Vn hm S.len (λ_ _ _=>.nil) rfl hg hc (λc F U Z q H Q rs a hp cl C s2 H2 fp cat=>zeW (he cl C s2 H2 fp) rs a (hp.imp λx g h=>#[_,cat,h])) b a e hh.1 hh.2 d)))
def SD(X:Cx)(mp:Ac)(e:Expr)(f:EM (Ad)):=∀(b:Ae)(F:Fp)(U:Gv)(Z:Nu)(O:St)(H:Hp)(Q:VK),RS b F U Z H->Sees mp Z O ->
 EPost X.xp b F Z O H (λd g a ds=>∀ c p,KR (MM b d) a c ds->a p=none->Q (.ref p) (upd a p (.dK (c.map kK)))) (f U)->wpE X e O H Q
def SDt(X:Cx)(mp:Ac)(t:TE)(f:EM (Ad)):=∀(b:Ae)(F:Fp)(U:Gv)(Z:Nu)(O:St)(H:Hp)(Q:VK),RS b F U Z H->Sees mp Z O ->
 EPost X.xp b F Z O H (λd e a ds=>∀ c p,KR (MM b d) a c ds->a p=none->Q (.ref p) (upd a p (.dK (c.map kK)))) (f U)->t O H Q
def KR.stp(h:KR (MM I F) H ks ds)(s:Stp F H J U)(h0:∀ a,I a->H a≠none):KR (MM I J) U ks ds:=h.map λ_ _ x=>qj s h0 x
def itD(ek ev:EM FV):EM (Str×PyData):=λU=>(ek U).bind λ(u,a)=>match derf a u with
 |some (.str x)=>(ev a).bind λ(w,b)=>match derS b w with
  |some y=>.ok ((x,y),b)
  |none=>.bad
 |_=>.bad
def Vm:zdk zgR (λ(v:Ad)(y:Str×PyData)=>zZ v y.1 y.2) (λl F H o v=>∃ i,o=i.map kK/\KR (MM l F) H i v) (λl F H (u:Key×V) (y:Str×PyData)=>u.1=.inr y.1/\Rep (MM l F) H u.2 y.2) List.length where
 stp:=λ⟨i,e,r⟩ s h0=>#[i,e,KR.stp r s h0]
 add:=λ{l F H x y u d} ⟨i,e,r⟩ ⟨a,b⟩=>#[zZ i d.1 u.2,by rw[e,<- Ye,<- a],r.put d.1 b]
 bst:=λ⟨a,b⟩ s h0=>#[a,qj s h0 b]
 len:=λ⟨i,e,r⟩=>by rw[e];show ↑(i.map kK)=_;rw[xo,r.length]
 lin y d:=wy y d.1 d.2
 eqv:=λ⟨i,e,r⟩ h=>#[i,e,r.map λ_ _ x=>Rep.eqv h x]
 mm:=λe ⟨i,c,r⟩=>#[i,c,by rw[<- e];exact r]
def eD(X:Cx)(i:Ab)(scope:Scope)(o r:Expr)(l:St):St->Hp->(Key×V->Hp->Prop)->Prop:=kH (eU X i scope o l) (eU X i scope r l)
private def fCompD(n k:Nat)(t:IT)(src:EM (Aa×Option (Option Nat)))(cond:EM Bool)(i ev:EM FV):EM (Ad):=λU=>(src U).bind λ(z,a)=>if ↑z.1<=1000000/\↑a=n then hid z.2 (loopG k t cond (itD i ev) (λb y=>zZ b y.1 y.2) z.1 []) a else .bad
def zcL{i l:Expr}(y:X.calm=true)(S:CSc X.env.scope X.N scope o k ix)(hf:∀ x,foldedSetIterable iter X.env x=pure x) :
  PE X (.DictComp i l [#[tg,iter,ifs,0]] scope pos) (vR k ix (wpI X tg iter) (gU X o scope tg) (fU X o scope ifs) (eD X o scope i l)) :=
 zfo y S Jz (λ_ cl C s2 a b cat pins s O H v u Q I r h=>h cl C s2 a b cat pins s u I r) (λ_ cl C s2 a b cat pins s O H Q I h=>h cl C s2 a b cat pins s I)
  (λ_ cl C s2 a b cat pins s O H Q I h=>h cl C s2 a b cat pins s I) (λ_ cl C s2 a b cat pins s O H Q I h=>h cl C s2 a b cat pins s I) hf
def zjj(hk:∀ cl C s2 H2 fp,SE ⋯ o kx ek)(hv:∀ cl C s2 H2 fp,SE ⋯ o vx ev){Q:Key×V->Hp->Prop}(rs:RS I F U Z H)(l:Sees o Z O)
  (hp:EPost (XPc X.xp J) I F Z O H (λr s i d=>∀ y:Key×V,(y.1=.inr d.1/\Rep (MM I r) i y.2 d.2)->Q y i) (itD ek ev U)):eD X N' scope kx vx J O H Q:=λcl C s2 H2 fp cat=>
 hk cl C s2 H2 fp I F U Z O H _ rs l ((hp.seq.mono λk m H1 u a s1 c v g=>by
  dsimp only at c
  split at c
  next x ex=>
   cases g.weak a ex;intro cl C s2 H2 fp cat;erw[(hv cl C s2 H2 fp).run a l (c.imp λx i h=>#[_,cat,h]) λf n H2 w v2 b s2 j e=>?_];delta e y ey;exact#[.inr x,rfl,e f H2 b (.refl _ _) (.inr x,v2) #[rfl,j.strong b ey]]
  ·exact c.elim).imp λx i h=>#[_,cat,h])
def zh9{o s:Expr}{N':Ab}{scope:Scope}{n k:Nat}{ix:Ac}{t:IT}{src:EM (Aa×Option (Option Nat))}{cond:EM Bool}{l ev:EM FV}(v:X.calm=true)(S:CSc X.env.scope X.N scope N' k ix)(hm:∀ j i:Nat,ix[j]?\i->∃ m,mp[i]?\m/\m<n)
  (hi:SIw X mp tg iter src) (hg:∀ cl C s2 H2 fp,SG ⋯ (mpC mp n k ix) (·<n) tg t) (hc:∀ cl C s2 H2 fp,SF ⋯ (mpC mp n k ix) ifs cond) (hk:∀ cl C s2 H2 fp,SE ⋯ (mpC mp n k ix) o l) (hv:∀ cl C s2 H2 fp,SE ⋯ (mpC mp n k ix) s ev)
  (hf:∀ x,foldedSetIterable iter X.env x=pure x):SD X mp (.DictComp o s [#[tg,iter,ifs,0]] scope pos) (fCompD n k t src cond l ev):=λc F U Z O H Q rs a hp=>
 kQ ((zcL v S hf).wp (hi c F U Z O H _ rs a (hp.seq.mono λw E H1 z b s1 d J A g=>by
  delta d hh;exact zjh Vm hm S.len (λ_ _ _=>#[[],rfl,.nil]) rfl hg hc (λc F U Z B H Q rs a hp=>zjj hk hv rs a hp) b a g hh.1 hh.2 (d.mono λu D y L G I h K p ⟨q,e,r⟩ f=>by rw[e];exact h q p r f))))
def zfT{o s:Expr}{N':Ab}{scope:Scope}{n k:Nat}{ix:Ac}{t:IT}{src:EM (Aa)}{cond:EM Bool}{l ev:EM FV}(S:CSc X.env.scope X.N scope N' k ix)(hm:∀ j i:Nat,ix[j]?\i->∃ m,mp[i]?\m/\m<n)
  (hi:SI X mp tg iter src) (hg:∀ cl C s2 H2 fp,SG ⋯ (mpC mp n k ix) (·<n) tg t) (hc:∀ cl C s2 H2 fp,SF ⋯ (mpC mp n k ix) ifs cond) (hk:∀ cl C s2 H2 fp,SE ⋯ (mpC mp n k ix) o l) (hv:∀ cl C s2 H2 fp,SE ⋯ (mpC mp n k ix) s ev) :
  SDt X mp (vR k ix (wpI X tg iter) (gU X N' scope tg) (fU X N' scope ifs) (eD X N' scope o s)) (fCompD n k t (fStd src) cond l ev):=by?
 unfold fCompD fStd at hp;rw[R.bind_assoc]at hp;erw[hi M0 F U Z O H _ rs hs (hp.seq.mono λq x H1 ds b s1 a J d=>?_)];simp only[R.bind,hid]at a;delta a hh;exact jx Vm hm S.len #[[],rfl,.nil] rfl hg hc (λM0 F U Z v H Q rs hs hp=>zjj hk hv rs hs hp) b hs d hh.1 hh.2 a λh w u A z y ⟨g,e,r⟩ f _ p c=>by
  rw[e];exact f g p r c
def zfL{y z:Expr}{pos' l:Pos}(hN:X.N.Nodup)(B:X.N[i]?\x)(hx:Loc X.env.scope x)(A:X.calm=true)(S:CSc X.env.scope X.N scope o k ix)
  (E:swapsWith (.DictComp y z [#[tg,iter,ifs,0]] scope pos) (some (.Name x pos')) l.line X.env=pure true) (F:∀ x,foldedSetIterable iter X.env x=pure x) (hf:X.fn x=true∨X.env.scope.names.lookup x\.local) :
  PS X (.Assign [.Name x pos'] (.DictComp y z [#[tg,iter,ifs,0]] scope pos) l) (Yn (vR k ix (wpI X tg iter) (gU X o scope tg) (fU X o scope ifs) (eD X o scope y z)) (W0 i)) :=
 zfK hN B hx A S Jz (λ_ cl C s2 a b cat pins s O H v u Q I r h=>h cl C s2 a b cat pins s u I r) (λ_ cl C s2 a b cat pins s O H Q I h=>h cl C s2 a b cat pins s I)
  (λ_ cl C s2 a b cat pins s O H Q I h=>h cl C s2 a b cat pins s I) (λ_ cl C s2 a b cat pins s O H Q I h=>h cl C s2 a b cat pins s I) E F hf
end
end Lake.L3
namespace Lake.L2
open PySem PySem.Spec PyProof.Rows
variable [Cs]
def zlw(c i:TE):TE:=λO H Q=>c O H λx H1=>i O H1 λy a=>∃ k:Key,x=kV k/\∀ p,a p=none->Q (.ref p) (upd a p (.dK [(k,y)]))
def zfq(hk:PE X k U)(hv:PE X v tv):PE X (.Dict [some k] [v] pos) (zlw U tv):=by
 intro pins s O H Q I q;let B:=I.hok.fresh (xh ⇑s);let l:(s.heap.push { cls:=.type "dict",data:=.dict (List.toArray []) }).get? ⇑s=some { cls:=.type "dict",data:=.dict (List.toArray []) }:=Xa _ rfl;let m:Inv X pins O H { s with heap:=s.heap.push { cls:=.type "dict",data:=.dict (List.toArray []) } }:=I.kept (t':=s.toks) λb o e=>x6 _ e;let n:=m.pinned (fp:= [⇑s]) (λb hb=>by
  let e:b=⇑s:= ~~~hb;subst e;exact I.fpOk (xh _) B) (λb hb=>by
  let e:b=⇑s:= ~~~hb;subst e;exact#[_,l,λv z=>by cases z])
 refine wpAny_Dict_walk (knd:=qv X.prog X.w) rfl rfl (by simp) (by simp) (pairTrees_cons_walk (thn (hk _ _ O _ _ n q) λD s2 ⟨x,H1,r,K,G⟩=>thn (hv _ _ O _ _ r G) λa s3 ⟨y,h,i,L,f,w,J⟩=>pairTrees_nil_walk ?_));let hm:=Zj (fp:= [⇑s]) (by simp) l;let(F,g,_):=i.pin _ (xE _ (xE _ hm));let t:Inv X pins O h s3:=i.unpinned;subst w;refine#[[(f,a)],#[ww K,rfl,True.intro],⟨_,(List.toArray []),0,F,⟨rfl,rfl,rfl⟩,rfl,λ_ he=>by simp at he,Pairs.nil,List.nodup_nil⟩,λA j C=>#[.ref ⇑s,_,?_,rfl,J _ g]];let em:merged [] [(f,a)]= [(f,a)]:=rfl;rw[em]at j;let u:Inv X pins O h { s3 with heap:=A,toks:=s3.toks+ [(D,a)].length }:=t.turned (it:=⇑s) (λb o hb e=>(C.2 b hb).trans e) g (Ne.symm (xj I.lt)) (.inr I.sz)
  (λx c e=>by
   let(v,E,d,_):=I.cell x c e;exact xj (x8 d)) (λp hp=>xj (x8 (I.pin p hp).1))
 exact u.track I.sz g (Ne.symm (xj I.lt)) (λx c e=>by
   let(v,E,d,_):=I.cell x c e;exact xj (x8 d)) (λp hp=>xj (x8 (I.pin p hp).1)) (WT (by show 1<=sizeLine;decide) (Xb.mpr (Ne.symm (xj I.big))) (.cons #[rfl,L] .nil) j)
def zhK:OpR X (binaryOp .Mult) (λx y H Q=>∃ l xs k,x=.ref l/\y=.int k/\H l\(.lst xs)/\0<=k/\k<=1000000/\↑xs=1/\∀ p,H p=none->Q (.ref p) (upd H p (.lst (List.replicate k.toNat xs).flatten))):=by
 intro pins s O H x y v u Q I i j h;let(l,xs,k,rfl,rfl,g,h0,A,hx,q):=h;cases i;let(t,rfl):=j;let(z,a,n,r,e):=(show ObjOk X.prog X.w H s.heap l (.lst xs) from I.hok l _ g);let hl:↑a=1:=by rw[<- ↑r,hx]
 let c:a.toArray.size=1:= ~~~hl;let d:a.toArray.isEmpty=false:=by simp[<- List.length_eq_zero_iff,hl]
 refine wpAny_binaryOp_repeat_ref (T:= "list") (U:= "int") (by decide) #[_,e,rfl] (λm=>typeIs_int m k t) noFill_list_mul F.fills_int_mul F.slot_int_rmul repeat_list F.slot_int_index.lookup
  (call_meets F.slot_int_rmul (typeIs_int s k t) F.entry_int_rmul (F.args_int_rmul_2 _ _) (int___rmul___int_list k t l a.toArray n)
   ⟨e,rfl,⟨_,e,rfl⟩,call_meets F.slot_list_mul ⟨_,e,rfl⟩ F.entry_list_mul (F.args_list_mul_2 _ _)
    (AutoListH.list___mul___list_int_3 l a.toArray n k t (by simp[Builtin.List.listFitsIndex];lia) (by rw[c];lia) (by rw[c];simp[Builtin.List.listTooLong,sizeLine];lia)) #[e,?_]⟩)
 let f:List.foldl (λo w=>o++w) (List.toArray []) (List.replicate (if a.toArray.isEmpty=true then 0 else k.toNat) a.toArray)=(List.replicate k.toNat a).flatten.toArray:=by
  rw[d,if_neg (by decide)];have:=J5 a k.toNat [];rw[uH]at this;erw[this]
 rw[f];refine#[.ref ⇑s,_,I.laid (λb u e=>x6 _ e) (xh _) ?_,rfl,q _ (I.hok.fresh (xh _))];exact#[by rw[y2,hx,Xg];lia,_,0,r.rep k.toNat,Xa _ rfl]
end Lake.L2
namespace Lake.L3
open PySem PySem.Spec PyProof.Rows L2
def ixF:Ab->Str->Option Nat|[],_=>none|n::ns,f=>if n=f then some 0 else (ixF ns f).map (·+1)
def yP:∀{fs:List (Str×V)}{j:Nat},ixF (fs.map (·.1)) f\j->(∃ v,fs[j]?\(f,v)/\fs.lookup f\v)/\∀ y,jV f y fs=fs.set j (f,y)
 |[],j,h=>by cases h
 | (n,v)::fs,j,h=>by
  rw[xn,ixF]at h
  split at h
  next b=>
   cases h;let a:=b;subst a;exact#[#[v,rfl,by simp],λy=>by simp[jV]]
  next b=>
   let a:=b;cases e:ixF (fs.map (·.1)) f with
   |none=>rw[e]at h;cases h
   |some k=>
    rw[e]at h;cases h;let((w,c,d),g):=yP e;refine#[#[w,~~~c,?_],λy=>?_]
    ·rw[xD,Xb.mpr (λz=>a z.symm)];exact d
    ·rw[jV,if_neg a,g y];rfl
def yQ:∀{fs:List (Str×V)},ixF (fs.map (·.1)) f=none->fs.lookup f=none/\∀ y,jV f y fs=fs++ [(f,y)]
 |[],h=>#[rfl,λy=>rfl]
 | (n,v)::fs,h=>by
  rw[xn,ixF]at h
  split at h
  ·cases h
  next d=>
   let a:=d;cases e:ixF (fs.map (·.1)) f with
   |some k=>rw[e]at h;cases h
   |none=>
    let(b,c):=yQ e;refine#[by rw[xD,Xb.mpr (λz=>a z.symm)];exact b,λy=>?_];rw[jV,if_neg a,c y];rfl
variable [Cs]
def ORL.at':∀{F:List V}{xs:List OV}{A:List Ap}{j:Nat}{x:OV},ORL M H F xs A->xs[j]?\x->∃ v o B s,F[j]?\v/\OR M H v x B/\A=o++(B++s) /\
  ∀(l:Ae)(i:Hp)(z:V)(E:OV)(y:List Ap),(∀ w d,Rep M H w d->Rep l i w d)->(∀ c xs,H c\(.tup xs)->i c\(.tup xs))->(∀ b∈o++s,i b=H b)->OR l i z E y->ORL l i (F.set j z) (xs.set j E) (o++(y++s))
 |_,_,_,_,_,.nil,e=>by simp at e
 |_,_,_,0,x,.cons (A:=A) (B:=B) r t,e=>by
  simp at e;subst e;exact#[_,[],A,B,rfl,r,rfl,λl i z E y a f hk q=>ORL.cons (B:=B) q (t.go a f λb hb=>hk b (~~~hb))]
 |_,_,_,j+1,x,.cons (A:=A) r t,e=>by
  let(v,o,C,s,g,h,k,m):=ORL.at' (j:=j) t (~~~e);refine#[v,A++o,C,s,~~~g,h,by rw[k];simp,λl i z E y a f hk q=>?_];have:=ORL.cons (r.go a f λb hb=>hk b (by simp[hb])) (m l i z E y a f (λb hb=>hk b (by grind)) q);simpa using this
section
variable {M0:Ae}{F F':Fp}{U:Gv}{Z:Nu}{H:Hp}{c:Str}{ns:Ab}{xs:List OV}
def vn(rs:RS M0 F U Z H)(e:U[i]?\(some (.o c ns xs))):∃ a l fs A,Z[i]?\(some (.ref a))/\H a\(.ins (Cs.adr c) l fs)/\fs.map (·.1)=ns/\ORL (MM M0 F) H (fs.map (·.2)) xs A/\F i=a::A:=by
 let(v,ev,q):=rs.at' i _ e;generalize f:F i=A at q;cases q with|o b k d=>exact#[_,_,_,_,ev,b,k,d,rfl]
def zfi(h:Z[i]?\(some v)):Z.set i (some v)=Z:=by
 apply xZ;intro k;by_cases hk:i=k
 ·subst hk;rw[xk (xa.mp h).1,h]
 ·rw[xi hk]
def RS.wrO{u:HO}{o:OV}(r:RS M0 F U Z H)(hi:i<↑U)(hv:Z[i]?\(some v))(hb:b∈F i)(B:∀ xs,H b≠some (.tup xs))(l:∀ a∈A,a∈F i)(y:A.Nodup)
  (q:(∀ w d,Rep (MM M0 F) H w d->Rep (MM M0 (fset F i A)) (upd H b u) w d)->(∀ c xs,H c\(.tup xs)->upd H b u c\(.tup xs))->OR (MM M0 (fset F i A)) (upd H b u) v o A) :
  ∃ F',RS M0 F' (U.set i (some o)) Z (upd H b u)/\Stp F H F' (upd H b u):=by
 let g:∀ c xs,H c\(.tup xs)->upd H b u c\(.tup xs):=λc xs e=>by
  rw[zH (λz=>by subst z;exact B xs e)];exact e
 let s:Stp F H (fset F i A) (upd H b u):=⟨λc o m f=>⟨by
   rw[zH (λz=>by subst z;exact f i hb)];exact m,λk h=>by
   by_cases hk:k=i
   ·subst hk;rw[zM]at h;exact f _ (l _ h)
   ·rw[zR hk]at h;exact f _ h⟩,g,λc h=>by
   by_cases z:c=b
   ·subst z;rw[zK];exact λz=>nomatch z
   ·rw[zH z];exact h⟩
 let j:=r.put s (λk hk c hc=>zH λz=>by subst z;exact hk (r.dis _ _ _ hc hb))
  (λc h=>s.stay c (r.al0 c h)) (λa n=>r.dis0 i a (l a n)) y (λk hk c hc h=>hk (r.dis _ _ c h (l c hc))) hi (q (λw d x=>qj s r.al0 x) g)
 rw[zfi hv]at j;exact#[_,j,s]
def RS.lessO{o:OV}(r:RS M0 F U Z H)(hi:i<↑U)(hv:Z[i]?\(some v))(l:∀ a∈A,a∈F i)(y:A.Nodup)
  (q:(∀ w d,Rep (MM M0 F) H w d->Rep (MM M0 (fset F i A)) H w d)->OR (MM M0 (fset F i A)) H v o A):RS M0 (fset F i A) (U.set i (some o)) Z H/\Stp F H (fset F i A) H:=by
 let s:Stp F H (fset F i A) H:=JJ λk a h=>by
  by_cases hk:k=i
  ·subst hk;rw[zM]at h;exact#[_,l _ h]
  ·rw[zR hk]at h;exact#[_,h]
 let b:=r.put s (λ_ _ _ _=>rfl) r.al0 (λa e=>r.dis0 i a (l a e)) y (λk hk c hc h=>hk (r.dis _ _ c h (l c hc))) hi (q (λw d x=>qj s r.al0 x));rw[zfi hv]at b;exact#[b,s]
end
structure wH(X:Cx)(c f:Str):Prop where
 cl:Cls X.K (Cs.adr c)
 no:NoAttr X.K (Cs.adr c) f
def objF(U:Gv)(i:Nat)(c f:Str):Option OV:=match U[i]? with|some (some (.o a ns xs))=>if a=c then (ixF ns f).bind λj=>xs[j]? else none|_=>none
section
variable {X:Cx}{mp io:Ac}{a b e:Expr}{pos p p2 p3:Pos}{fo:EM OV}{c f x:Str}{s i:Nat}{M0:Ae}{F:Fp}{U:Gv}{Z:Nu}{O:St}{H:Hp}
def Y9(h:objF U i c f\o):∃ ns xs j,U[i]?\(some (.o c ns xs))/\ixF ns f\j/\xs[j]?\o:=by
 unfold objF at h
 split at h
 next a ns xs e=>
  split at h
  next hc=>
   subst hc;cases q:ixF ns f with|none=>rw[q]at h;cases h|some j=>rw[q]at h;exact#[ns,xs,j,e,q,h]
  ·cases h
 ·cases h
structure FldAt(M0:Ae)(F:Fp)(U:Gv)(Z:Nu)(H:Hp)(i:Nat)(c f:Str)(o:OV)(v:V):Prop where
 ex:∃ a dx fs ns xs j A1 B A2,U[i]?\(some (.o c ns xs))/\Z[i]?\(some (.ref a))/\H a\(.ins (Cs.adr c) dx fs)/\fs.map (·.1)=ns/\ixF ns f\j/\xs[j]?\o/\fs[j]?\(f,v)/\OR (MM M0 F) H v o B/\F i=a::(A1++(B++A2)) /\
  ∀(M':Ae)(H':Hp)(v':V)(x':OV)(B':List Ap),(∀ w d,Rep (MM M0 F) H w d->Rep M' H' w d)->(∀ c xs,H c\(.tup xs)->H' c\(.tup xs))->(∀ b∈A1++A2,H' b=H b)->OR M' H' v' x' B'->ORL M' H' ((fs.set j (f,v')).map (·.2)) (xs.set j x') (A1++(B'++A2))
def Jm(n:NmK X mp s i x)(K:wH X c f)(rs:RS M0 F U Z H)(E:Sees mp Z O)(h:objF U i c f\o)(q:∀ v,FldAt M0 F U Z H i c f o v->Q v H):wpE X (.Attribute (.Name x p) f p2) O H Q:=by
 let(ns,xs,j,e,k,hx):=Y9 h;let(a,b,fs,A,ev,d,hk,I,C):=vn rs e;subst hk;let((v,g,z),L):=yP k;let(l,m,B,r,g1,g2,g3,y):=I.at' hx;rw[xg,g]at g1;cases g1;refine (zfs (qG n.hN n.hv n.hd n.hcd) rfl).wp #[.ref a,E s i _ n.hm ev,a,_,b,fs,v,rfl,d,K.cl,K.no,z,q v #[a,b,fs,_,xs,j,m,B,r,e,ev,d,rfl,k,hx,g,g2,by rw[C,g3],λw u l J t D G hk q=>?_]];rw[ui];erw[y w u l J t D G hk q]
private def fFdat(i:Nat)(c f:Str):EM FV:=λU=>match objF U i c f with|some (.d x)=>.ok (.dat x,U)|_=>.bad
def zif(n:NmK X mp s i x)(K:wH X c f):SE X mp (.Attribute (.Name x p) f p2) (fFdat i c f):=by?
 unfold fFdat at hp;delta hp y e;erw[Jm n K rs hs e λv hv=>?_];let(a,h,fs,ns,xs,j,b,B,g,_,_,_,_,_,_,_,q,_,_):=hv.ex;cases q with|d q=>erw[hp F H rs (.refl _ _) v q]
private def fFlen(i:Nat)(c f:Str):EM FV:=λU=>match objF U i c f with|some (.l xs)=>.ok (.dat (.int ↑xs),U)|_=>.bad
def zih (B:BiK X y (.builtin "len")) (n:NmK X mp s i x) (K:wH X c f):SE X mp (.Call (.Name y p3) [.Attribute (.Name x p) f p2] [] pos) (fFlen i c f):=by?
 unfold fFlen at hp;delta hp ys e;erw[(Qs ZX B.gl B.mg B.bt (zY zC pa_nil rfl) B.n B.d rfl rfl).wp (Jm n K rs hs e λv hv=>?_)];let(a,k,fs,ns,xs,j,g,B,h,_,_,_,_,_,_,_,q,_,_):=hv.ex;cases q with|l b d=>exact#[_,_,rfl,.inl (SqL.of b),by rw[d.length];exact hp F H rs (.refl _ _) _ (Rep.int _)]
private def fFtru(i:Nat)(c f:Str):EM Bool:=λU=>match objF U i c f with|some (.l xs)=>.ok (!xs.isEmpty,U)|_=>.bad
def ziO(n:NmK X mp s i x)(K:wH X c f):ST X mp (.Attribute (.Name x p) f p2) (fFtru i c f):=by?
 unfold fFtru at hp;delta hp ys e;erw[(km zC (λ_=>rfl)).wp (Jm n K rs hs e λv hv=>?_)];let(a,o,fs,ns,xs,j,k,B,m,_,_,_,_,_,_,_,q,_,_):=hv.ex;cases q with
 | @l b us _ h d g=>
  let he:(!ys.isEmpty)= !us.isEmpty:=by cases g<;>rfl
  exact#[_,.inl #[_,SqL.of d,he],hp F H rs (.refl _ _)]
private def fFlast(i:Nat)(c f:Str):EM FV:=λU=>match objF U i c f with
 |some (.l xs)=>match xs.getLast? with
  |some (.d x)=>.ok (.dat x,U)
  |_=>.bad
 |_=>.bad
def zfW(n:NmK X mp s i x)(K:wH X c f):SE X mp (.Subscript (.Attribute (.Name x p) f p2) (.UnaryOp .USub (.Constant (.int 1) I J) p5) pos) (fFlast i c f):=by?
 unfold fFlast at hp;delta hp ys e;delta hp y ey;erw[(zfu ix_list zC (zfx zgu pe_int) (λ_ _=>rfl)).wp (Jm n K rs hs e λv hv=>?_)];let(a,E,fs,ns,xs,j,C,B,D,_,_,_,_,_,_,_,q,_,_):=hv.ex;cases q with
 | @l b us _ A t k=>
  let hl:=↑k;rw[List.getLast?_eq_getElem?,<- hl]at ey;let(w,hw,o):=k.get ey;let m:atI us (-1)\w:=by
   let h:0<↑us:=by have:=(xa.mp hw).1;lia
   let r:us.dropLast++ [w]=us:=by
    let g:us.getLast?\w:=by grind
    let d:us≠ []:=λz=>by rw[z]at h;simp at h
    let u:us.getLast d=w:=by rw[List.getLast?_eq_some_getLast d]at g;exact Option.some.inj g
    rw[<- u];exact List.dropLast_concat_getLast d
   rw[<- r];exact zdx _ _
  exact#[1,rfl,b,us,-1,w,rfl,rfl,SqL.of t,m,hp F H rs (.refl _ _) w o]
def RS.absorb{o I:OV}{A:Hp}(r:RS M0 F (U++ [some o]) (Z++ [some v]) H)(hi:i<↑U)(hw:Z[i]?\(some w))(J:∀ b∈A',b∈F i∨b∈F ↑U)(B:A'.Nodup)
  (G:∀ b u,H b\u->b∉F i->A b\u) (E:∀ b,H b≠none->A b≠none) (K:∀ b xs,H b\(.tup xs)->A b\(.tup xs))
  (q:∀ l,Stp F H l A->OR (MM M0 l) A w I A'):∃ l,RS M0 l (U.set i (some I)) Z A/\Stp F H l A:=by
 let hl:↑Z=↑U:= ~~~r.len;let sub:∀ j b,b∈(if j=i then A' else F j)->∃ k,b∈F k/\(k=j∨j=i/\k=↑U):=λj b h=>by
  split at h
  ·subst j;rcases J b h with h | h
   ·exact#[_,h,.inl rfl]
   ·exact#[_,h,.inr #[rfl,rfl]]
  ·exact#[_,h,.inl rfl]
 refine r.of (λj=>if j=i then A' else F j) (λl h=>#[λb u e n=>#[G b u e (n i),λj d=>?_],K,E]) (λj a h=>?_) (λj=>?_) (λj k o p a c m t C=>?_) (λl _ s j p e=>?_) (by simp[hl])
 ·let(k,z,_):=sub j b (h j b d);erw[n k z]
 ·let(k,z,_):=sub j a h;erw[r.dis0 k a z]
 ·split
  ·erw[B]
  ·erw[r.nd _]
 ·let(x,D,M):=sub j a t;let(y,L,N):=sub k a C;have:=r.dis _ _ a D L;have:=(xa.mp c).1;have:=(xa.mp m).1;simp at *;lia
 ·split
  ·subst j;rw[xk hi]at e;cases e;exact#[w,hw,q l s]
  next d=>
   rw[xi (Ne.symm d)]at e;let f:=(xa.mp e).1;let(u,c,z):=r.at' j p (by rw[xb f];exact e);rw[xb (by lia)]at c;refine#[u,c,z.go (λ_ _ x=>qj s r.al0 x) s.tups λb hb=>?_];let(y,g):=z.laid b hb;rw[g];erw[G b y g λz=>d (r.dis _ _ b hb z)]
def setO(c:Str)(ns:Ab)(xs:List OV)(f:Str)(o:OV):OV:=match ixF ns f with|some j=>.o c ns (xs.set j o)|none=>.o c (ns++ [f]) (xs++ [o])
private def sFset(i:Nat)(c f:Str)(fo:EM OV):SM:=λU=>(fo U).bind λ(o,a)=>match a[i]? with|some (some (.o b ns xs))=>if b=c/\↑ns<100 then .ok (.next,a.set i (some (setO c ns xs f o))) else .bad|_=>.bad
def ziM(n:NmK X mp s i x)(K:wH X c f)(h:SO X mp e fo)(cb:swapsWith e (some (.Attribute (.Name x p) f p2)) pos.line X.env=pure false):SS X mp io (.Assign [.Attribute (.Name x p) f p2] e pos) (sFset i c f fo):=λM0 F U Z O H D rs Y hl hp=>by
 erw[(zkI (qG n.hN n.hv n.hd n.hcd) zC cb).wp (h M0 F U Z O H _ rs Y ((SPost.seqO Y hl hp).mono λm C H1 o v g s1 E=>?_))];delta E c' ns xs e;delta E hh;let(rfl,bx):=hh;let hi:=(xa.mp e).1;have N:↑Z=↑C:=by have:=g.len;simp at this;exact this
 let(a,I,fs,A,ev,ea,hk,qa,r):=vn g (by rw[xb hi];exact e);rw[xb (by lia)]at ev;subst hk;let(w,ew,qo):=g.at' ↑C o (by grind);let GQ:w=v:=by
  rw[xr (by lia),N]at ew;simpa using ew.symm
 subst GQ;let l:∀ b,b∈m ↑C->b∉m i:=λb E V=>by have:=g.dis _ _ b E V;lia
 let P:=g.nd i;rw[r]at P;let(t,nh):=xG.mp P;refine#[.ref a,Y s i _ n.hm ev,a,_,I,fs,rfl,ea,K.cl,K.no,by rw[xo]at bx;lia,?_];let hH:∀ b u,H1 b\u->b∉m i->upd H1 a (.ins (Cs.adr c') I (jV f w fs)) b\u:=λb u J nb=>by
  rw[zH (λz=>nb (by rw[r,z];exact xF))];exact J
 let hst:∀ b,H1 b≠none->upd H1 a (.ins (Cs.adr c') I (jV f w fs)) b≠none:=λb hb=>by
  by_cases z:b=a
  ·subst z;rw[zK];exact λz=>nomatch z
  ·rw[zH z];exact hb
 let ht:∀ b xs,H1 b\(.tup xs)->upd H1 a (.ins (Cs.adr c') I (jV f w fs)) b\(.tup xs):=λb xs J=>by
  rw[zH (λz=>by subst z;rw[ea]at J;cases J)];exact J
 have fin:∀(T:List Ap)(AQ:Ab)(gq:List OV),(∀ b∈T,b∈A∨b∈m ↑C)->T.Nodup->setO c' (fs.map (·.1)) xs f o=.o c' AQ gq->(jV f w fs).map (·.1)=AQ ->
   (∀ G q,(∀ w d,Rep (MM M0 m) H1 w d->Rep G q w d)->(∀ c xs,H1 c\(.tup xs)->q c\(.tup xs))->(∀ b,b≠a->q b=H1 b)->ORL G q ((jV f w fs).map (·.2)) gq T)->D.nx O (upd H1 a (.ins (Cs.adr c') I (jV f w fs))):=λT AQ gq az B7 dm B0 tf=>by
  let(F2,rs2,s2):=g.absorb hi ev (λb hb=>by
   grind) (xG.mpr ⟨λh=>by
   rcases az a h with h | h
   ·erw[t h]
   ·exact l a h (by rw[r];exact xF),B7⟩) hH hst ht λF' s'=>.o zK B0 (tf _ _ (λ_ _ x=>qj s' g.al0 x) ht λb hb=>zH hb)
  rw[dm]at E;erw[E F2 Z O _ rs2 s2 Y hl λ_ _=>rfl]
 cases W:ixF (fs.map (·.1)) f with
 |some j=>
  let((v0,V,h3),M):=yP W;let FQ:j<↑xs:=by
   rw[<- ↑qa,xo];exact (xa.mp V).1
  let(v',A1,B,A2,g1,g2,g3,g4):=qa.at' (xc FQ);let L:∀ b,b∈A1++A2->b∈A:=λb hb=>by rw[g3];simp at hb |-;rcases hb with h | h<;>simp[h]
  refine fin (A1++(m ↑C++A2)) (fs.map (·.1)) (xs.set j o) (λb hb=>?_) ?_ (by unfold setO;rw[W]) ?_ λG q Q S hk=>?_
  ·simp at hb;rcases hb with h | h | h
   ·exact .inl (L b (by simp[h]))
   ·erw[.inr h]
   ·exact .inl (L b (by simp[h]))
  ·rw[g3]at nh;let n1:=xO.mp nh;let n2:=xO.mp n1.2.1;erw[xO.mpr #[n1.1,xO.mpr #[g.nd _,n2.2.1,λx hx y R z=>?_],λx hx y R z=>?_]]
   ·subst z;exact l x hx (by rw[r];exact xt _ (L x (by simp[R])))
   ·subst z;rcases xJ.mp R with h | h
    ·exact l x h (by rw[r];exact xt _ (L x (by simp[hx])))
    ·erw[n1.2.2 x hx x (xE _ h) rfl]
  ·rw[M w,ui];let e1:(fs.map (·.1))[j]?\f:=by rw[xg,V];rfl
   apply xZ;intro k;by_cases lj:j=k
   ·subst lj;rw[xk (xa.mp e1).1,e1]
   ·rw[xi lj]
  ·rw[M w,ui];erw[g4 G q w o _ Q S (λb hb=>hk b λz=>?_) (qo.go Q S λb hb=>hk b λz=>?_)]
   ·subst z;exact t (L b hb)
   ·subst z;exact l b hb (by rw[r];exact xF)
 |none=>
  let(_,M):=yQ W;refine fin (A++m ↑C) (fs.map (·.1)++ [f]) (xs++ [o]) (λb hb=>xJ.mp hb) ?_ (by unfold setO;rw[W]) (by rw[M w];simp) λG q Q S hk=>?_
  ·exact xO.mpr #[nh,g.nd _,λx hx y R z=>by subst z;exact l x R (by rw[r];exact xt _ hx)]
  ·rw[M w,xC];exact ORL.snocO (qo.go Q S λb hb=>hk b λz=>by grind) (qa.go Q S λb hb=>hk b λz=>by subst z;exact t hb)
end
def updF(U:Gv)(i:Nat)(f:Str)(o:OV):Gv:=match U[i]? with|some (some (.o c ns xs))=>U.set i (some (setO c ns xs f o))|_=>U
section
variable {X:Cx}{mp io:Ac}{a b e:Expr}{pos p p2 pos' p3:Pos}{kx:Nat}{c f x:Str}{s i:Nat}{M0:Ae}{F:Fp}{U:Gv}{Z:Nu}{O:St}{H H':Hp}
def zhh(rs:RS M0 F U Z H)(h:objF U i c f\o):∃ v,FldAt M0 F U Z H i c f o v:=by
 let(ns,xs,j,e,d,hx):=Y9 h;let(a,p,fs,A,ev,r,hk,x,t):=vn rs e;subst hk;let((v,b,z),C):=yP d;let(g,k,B,l,g1,g2,g3,s):=x.at' hx;rw[xg,b]at g1;cases g1;refine#[v,#[a,p,fs,_,xs,j,k,B,l,e,ev,r,rfl,d,hx,b,g2,by rw[t,g3],λn H' g y m u w hk q=>?_]];rw[ui];erw[s n H' g y m u w hk q]
def FldAt.same(h:FldAt M0 F U Z H i c f o v)(y:FldAt M0 F U Z H' i c f J I)(s:Same H H'):v=I:=by
 let(a,x,fs,ns,xs,j,_,_,_,l,m,n,_,p,_,q,_):=h.ex;let(w,u,t,r,z,A,_,_,_,b,k,g,_,e,_,d,_):=y.ex;rw[l]at b;cases b;rw[m]at k;cases k;rw[s _ _ n]at g;cases g;rw[p]at e;cases e;rw[q]at d;cases d;rfl
def FldAt.mut{o r:OV}{b:Ap}{u:HO}(h:FldAt M0 F U Z H i c f o (.ref b))(rs:RS M0 F U Z H)(Y:∀ B,OR (MM M0 F) H (.ref b) o B->B=b::I)(hu:∀ xs,H b≠some (.tup xs))(P:∀ C A fs,H b≠some (.ins C A fs))
  (q:∀(y:Ae)(H':Hp),H' b\u->(∀ w d,Rep (MM M0 F) H w d->Rep y H' w d)->(∀ l∈I,l≠b->H' l=H l)->(∀ c xs,H c\(.tup xs)->H' c\(.tup xs))->OR y H' (.ref b) r (b::I)) :
  ∃ v,RS M0 v (updF U i f r) Z (upd H b u)/\Stp F H v (upd H b u):=by
 let(a,A,fs,ns,xs,j,G,B,J,s,R,t,S,T,e6,x,V,n,K):=h.ex;let X:=Y B V;subst X;let hi:=(xa.mp s).1;let O:b≠a:=λz=>by subst z;exact P _ _ _ t
 let M:b∈F i:=by rw[n];simp
 let e:=rs.nd i;let Q:updF U i f r=U.set i (some (.o c ns (xs.set j r))):=by
  unfold updF;rw[s];show U.set i (some (setO c ns xs f r))=_;unfold setO;rw[T]
 rw[Q];let N:fs.set j (f,.ref b)=fs:=by
  apply xZ;intro k;by_cases hk:j=k
  ·subst hk;rw[xk (xa.mp x).1,x]
  ·rw[xi hk]
 erw[rs.wrO hi R M hu (λ_ h=>h) e λD E=>?_];rw[n]at e;let m:=xG.mp e;let n1:=xO.mp m.2;let n2:=xO.mp n1.2.1;let L:∀ l,l∈G++J->l≠b:=λl g z=>by
  grind
 have:=K (MM M0 (fset F i (F i))) (upd H b u) (.ref b) r (b::I) D E (λl g=>zH (L l g)) (q _ _ zK D (λl _ p=>zH p) E);rw[N]at this;let W:=n;generalize MM M0 (fset F i (F i))=MX at this |-
 rw[n];exact .o (by rw[zH (Ne.symm O)];exact t) S this
def FldAt.lst(h:FldAt M0 F U Z H i c f (.l I) v)(rs:RS M0 F U Z H)(hl:leaves I\ds):∃ b us,v=.ref b/\H b\(.lst us)/\RepL (MM M0 F) H us ds /\
  ∀ r y,RepL (MM M0 F) H r y->∃ A,RS M0 A (updF U i f (.l (y.map .d))) Z (upd H b (.lst r))/\Stp F H A (upd H b (.lst r)):=by
 let(a,k,fs,ns,xs,j,D,B,g,J,K,L,M,N,O,P,m,Q,E):=id h.ex;cases m with
 | @l b us _ x d t=>
  let(p,s):=t.leaf hl;subst s;refine#[b,us,rfl,d,p,λr y u=>h.mut rs (λB q=>?_) (λxs z=>by rw[d]at z;cases z) (λC k fs z=>by rw[d]at z;cases z) λG H' hb o _ _=>.l hb (ORL.data (Zn o u))];cases q with
  | @l _ w _ g n e=>
   rw[(e.leaf hl).2]
inductive IZ where|w (w:IW)|p (a b:IW)
def zD(U:Gv):IZ->Option PyData
 |.w w=>wD U w
 |.p a b=>match wD U a,wD U b with
  |some x,some y=>some (.tuple [x,y])
  |_,_=>none
def ZOk(X:Cx)(mp:Ac)(a:Expr)(z:IZ):=∀(M0:Ae)(F:Fp)(U:Gv)(Z:Nu)(O:St)(H:Hp)(x:PyData),RS M0 F U Z H->Sees mp Z O->zD U z\x->∀ Q:VK,(∀ v H',Same H H'->Rep (MM M0 F) H' v x->Q v H')->wpE X a O H Q
def zm4(h:WOk X mp a w):ZOk X mp a (.w w):=λM0 F U Z O H x rs b e Q k=>by
 let(v,r,q):=h M0 F U Z O H x rs b e;erw[q Q (k v H (Same.refl _) r)]
def zm3(r:WOk X mp a I)(v:WOk X mp b J)(l:starEach [a,b] X.env=(false,eval a X.env)::starEach [b] X.env)(o:b⁻¹):ZOk X mp (.Tuple [a,b] kx pos) (.p I J):=λM0 F U Z O H x rs d e Q k=>by
 dsimp only [zD]at e
 split at e
 next q s f g=>
  cases e;let(v1,m,i):=r M0 F U Z O H q rs d f;let(v2,n,j):=v M0 F U Z O H s rs d g;refine (zfw (zY zC (zY zC pa_nil o) l)).wp (i _ (j _ #[by show 2<=sizeLine;decide,λp h=>?_]));let c:Same H (upd H p (.tup [v1,v2])):=qg h;erw[k _ _ c (.tuple zK (.cons (m.grow c.grow) (.cons (n.grow c.grow) .nil)))]
 ·cases e
private def sFapp(i:Nat)(c f:Str)(z:IZ):SM:=λU=>match objF U i c f,zD U z with|some (.l a),some x=>R.get (leaves a) λds=>if ↑ds<1000000 then .ok (.next,updF U i f (.l ((ds++ [x]).map .d))) else .bad|_,_=>.bad
def ziL(n:NmK X mp s i x)(K:wH X c f)(B:ZOk X mp a z)(l:a⁻¹)(A:(p3.endLine==pos.line)=true) :
  SS X mp io (.Expr (.Call (.Attribute (.Attribute (.Name x p) f p2) "append" p3) [a] [] pos) pos') (sFapp i c f z):=λM0 F U Z O H D rs g hl hp=>by
 unfold sFapp at hp;delta hp ys y e ez;let(ds,m,hp):=R.got id hp;let(u,hp):=R.gif id hp;refine (QM (zaX PySem.F.plainAttrs_list PySem.F.slot_list_append PySem.F.type_list_append VW zC (zY zC pa_nil l) rfl (by rw[l];rfl) A l rfl) rfl).wp (Jm n K rs g e λv hv=>?_);let(b,us,rfl,t,I,_):=hv.lst rs m;refine#[.inl #[rfl,_,SqL.of t],B M0 F U Z O H y rs g ez _ λv2 E d C=>?_];let(J,j):=zhh (rs.same d) e;let ev:=hv.same j d;subst ev;let(G,o,eq,q,k,w):=j.lst (rs.same d) m;cases eq;refine#[b,o,v2,rfl,rfl,q,by have:=Xg;rw[k.length];lia,?_];let(r,h,s2):=w (o++ [v2]) (ds++ [y]) (k.append (.cons C .nil));erw[hp r Z O _ h ((Stp.same d).trans s2) g hl λ_ _=>rfl]
end
private def derD(U:Gv):FV->Option (Ad)
 |.dat (.dict a)=>unD a
 |.own i=>match U[i]? with
  |some (some (.m ds))=>some ds
  |some (@&(.dict a))=>unD a
  |_=>none
 |_=>none
def zeJ(c f:Str):PyData->Option PyData|.dict ((.none,.str a)::b)=>if a=c then (unD b).bind λfs=>zG fs f else none|_=>none
def wG{β:Type}(f:Str):∀(fs:List (Str×β)),fs.lookup f=zG fs f
 |[]=>rfl
 | (x,y)::r=>by
  rw[xD];unfold zG;rw[ue];by_cases h:x=f
  ·subst h;simp
  ·let a:(f==x)=false:=by simpa using λz=>h z.symm
   rw[a];simp only[h,decide_false];erw[wG f r]
def Rep.tab(r:Rep M H v (.dict o))(e:unD o\ds):∃ a c,v=.ref a/\¬ M a/\Rd H a (.dK (c.map kK))/\KR M H c ds:=by
 obtain⟨a,rfl,n,h | h | h⟩:=r.dict_inv
 ·let(c,f,b,rfl,d):=h;rw[zN]at e;cases e;exact#[a,c,rfl,n,b,d]
 ·let(_,_,_,_,_,rfl,_):=h;cases e
 ·let(_,_,_,_,_,_,rfl,_):=h;cases e
def RepL.strs:∀(ss:Ab),RepL M H (ss.map V.str) (ss.map .str)|[]=>.nil|x::r=>.cons (.str x) (RepL.strs r)
section
variable {X:Cx}{mp:Ac}{a b c e:Expr}{pos p:Pos}{fa fb fc:EM FV}{ma:EM (Ad)}{cl f x:Str}{s i:Nat}{M0:Ae}{F:Fp}{U:Gv}{Z:Nu}{O:St}{H H':Hp}{u:FV}{v:V}
def FOk.dict(h:FOk M0 F Z H v u)(rs:RS M0 F U Z H)(e:derD U u\ds):∃ a l,v=.ref a/\Rd H a (.dK (l.map kK))/\KR (MM M0 F) H l ds:=by
 cases u with
 |dat y=>
  cases y<;>try (cases e;done)
  rename_i n;let(a,l,c,_,f,g):=Rep.tab (show Rep (MM M0 F) H v _ from h) e;exact#[a,l,c,f,g]
 |own i=>
  let hv:=h;dsimp only [derD]at e
  split at e
  next o q=>
   cases e;let(w,b,r):=rs.at' i _ q;rw[hv]at b;cases b;generalize F i=A at r;cases r with
   |m j k r=>exact#[_,_,rfl,.inl j,.of k r]
  next n q=>
   let(w,b,r):=rs.at' i _ q;rw[hv]at b;cases b;generalize F i=A at r;cases r with
   |d r=>
    let(a,l,c,_,f,g):=Rep.tab r e;exact#[a,l,c,f,g]
  ·cases e
private def fDget(fa fb:EM FV):EM FV:=λU=>(fa U).bind λ(u,b)=>(fb b).bind λ(w,a)=>R.get (derD a u) λds=>match derf a w with|some (.str z)=>R.get (zG ds z) λx=>.ok (.dat x,a)|_=>.bad
def zie(A:X.A.units+1<cLine)(r:SE X mp a fa)(hb:SE X mp b fb)(hx:zgN b):SE X mp (.Subscript a b pos) (fDget fa fb):=λM0 F U Z O H Q rs f hp=>
 (zhQ A zC zC hx).wp (r.run rs f hp λt x H1 u v e s1 q o=>hb.run e f o λh B i w v2 c s2 s d=>by
  let(ds,k,d):=R.got id d;delta d z e2;let(y,n,d):=R.got id d;let(l,C,rfl,m,p):=(q.stp s2 e.al0).dict c k;cases s.weak c e2;let(g,hw,j):=(p.val z).2 y n;exact#[l,g,rfl,#[_,.inr z,m,rfl,by rw[Qa,hw]],d h i c (.refl _ _) g j])
private def fDgd(fa fb fc:EM FV):EM FV:=λU=>(fa U).bind λ(u,b)=>R.get (derD b u) λ_=>(fb b).bind λ(w,c)=>(fc c).bind λ(z,a)=>R.get (derD a u) λds=>match derf a w,derS a z with|some (.str k),some y=>.ok (.dat ((zG ds k).getD y),a)|_,_=>.bad
def zkZ {c:Expr}{fc:EM FV}{ap:Pos}(K:X.A.units+1<cLine) (I:SE X mp a fa) (hb:SE X mp b fb) (hc:SE X mp c fc) (m:M2 X a "get" ap b c pos):SE X mp (.Call (.Attribute a "get" ap) [b,c] [] pos) (fDgd fa fb fc):=λM0 F U Z O H Q rs j hp=>
 (zfp K zC zC zC m).wp (I.run rs j hp λP V H1 u v e s1 t i=>by
  let(_,C,i):=R.got id i;let(l,N,rfl,A,_):=t.dict e C;refine#[l,rfl,#[_,A],hb.run e j i λS W T w v2 f s2 L G=>hc.run f j G λn Y o z v3 g s3 o3 d=>?_];let(ds,D,d):=R.got id d;delta d k y e2 e3;let(l',s,E,p,r):=((t.stp s2 e.al0).stp s3 f.al0).dict g D;cases E;cases (L.stp s3 f.al0).weak g e2;cases h:zG ds k with
  |some M=>
   rw[h]at d;let(x,hw,B):=(r.val k).2 M h;exact#[some x,#[_,.inr k,p,rfl,by rw[Qa,hw]],d n o g (.refl _ _) x B]
  |none=>
   rw[h]at d;let J:zG s k=none:=by
    have:=(r.val k).1;rw[h]at this;cases q:zG s k with
    |none=>rfl
    |some _=>rw[q]at this;cases this
   exact#[none,#[_,.inr k,p,rfl,by rw[Qa,J]],d n o g (.refl _ _) v3 (o3.strong g e3)])
def gDin(x y:PyData):Option Bool:=match x,y with|.str z,.dict a=>(unD a).map λds=>(zG ds z).isSome|_,_=>none
def gDnin(x y:PyData):Option Bool:=match x,y with|.str z,.dict a=>(unD a).map λds=> !(zG ds z).isSome|_,_=>none
def zkq(r:X.A.units+1<cLine):OpR X (compareOp .In) (λx y H Q=>∃ l o,y=.ref l/\V8 H l x o/\Q (.bl o.isSome) H):=by
 rintro pins s O H x y v u Q I b c ⟨l,o,rfl,g,k⟩;obtain rfl:u=Value.ref l:=c;erw[d_in r I g b λd a=>#[.bl o.isSome,H,a,rfl,k]]
def zhI(r:X.A.units+1<cLine):OpR X (compareOp .NotIn) (λx y H Q=>∃ l o,y=.ref l/\V8 H l x o/\Q (.bl (!o.isSome)) H):=by
 rintro pins s O H x y v u Q I b c ⟨l,o,rfl,g,k⟩;obtain rfl:u=Value.ref l:=c;erw[zg5 r I g b λd a=>#[.bl (!o.isSome),H,a,rfl,k]]
def zdP(o:X.A.units+1<cLine):Wl X .In gDin:=λx y z e=>by
 unfold gDin at e
 split at e
 next k g=>
  cases q:unD g with
  |none=>rw[q]at e;cases e
  |some ds=>
   rw[q]at e;cases e;exact⟨_,zkq o,λH v u Q h i c=>by
    cases h;let(l,f,rfl,_,a,d):=Rep.tab i q;let b:=(d.val k).1;exact#[l,zG f k,rfl,#[_,.inr k,a,rfl,by rw[Qa]],by rw[b];exact c]⟩
 ·cases e
def zaL(o:X.A.units+1<cLine):Wl X .NotIn gDnin:=λx y z e=>by
 unfold gDnin at e
 split at e
 next k g=>
  cases q:unD g with
  |none=>rw[q]at e;cases e
  |some ds=>
   rw[q]at e;cases e;exact⟨_,zhI o,λH v u Q h i c=>by
    cases h;let(l,f,rfl,_,a,d):=Rep.tab i q;let b:=(d.val k).1;exact#[l,zG f k,rfl,#[_,.inr k,a,rfl,by rw[Qa]],by rw[b];exact c]⟩
 ·cases e
private def fAttr(cl f:Str)(fa:EM FV):EM FV:=λU=>(fa U).bind λ(u,a)=>R.get (derS a u) λd=>R.get (zeJ cl f d) λx=>.ok (.dat x,a)
def zib(K:wH X cl f)(r:SE X mp a fa)(hb:attributeBase a f X.env (eval a X.env)=eval a X.env):SE X mp (.Attribute a f pos) (fAttr cl f fa):=λM0 F U Z O H Q rs q hp=>
 (zfs zC hb).wp (r.run rs q hp λi x H1 u v c s1 t g=>by
  let(d,m,g):=R.got id g;let(y,b,p):=R.got id g;unfold zeJ at b
  split at b
  next z C=>
   split at b
   next hc=>
    subst hc;obtain⟨l,rfl,n,h | h | h⟩:=(t.strong c m).dict_inv
    ·let(B,ds,_,e,_):=h;cases ds<;>cases e
    ·let(k,A,fs,ds,o,e,s):=h;cases e;rw[zN]at b;let(w,hw,j):=(s.val f).2 y b;exact#[l,_,k,fs,w,rfl,o,K.cl,K.no,by rw[wG];exact hw,p i H1 c (.refl _ _) w j]
    ·let(_,_,_,_,_,_,e,_):=h;cases e
   ·cases b
  ·cases b)
def RS.newM{p:Ap}(r:RS M0 F U Z H)(n:H p=none)(q:KR (MM M0 F) H ks ds) :
  RS M0 (fset F ↑U [p]) (U++ [some (.m ds)]) (Z++ [some (.ref p)]) (upd H p (.dK (ks.map kK)))/\Stp F H (fset F ↑U [p]) (upd H p (.dK (ks.map kK))):=r.new1 n (qg n) λs=>let a:=KR.stp q s r.al0;.m zK a.keys a.vals
private def fOwnD(n:EM (Ad)):EM OV:=λU=>(n U).bind λ(ds,a)=>.ok (.m ds,a)
def SD.so(h:SD X mp a ma):SO X mp a (fOwnD ma):=λM0 F U Z O H Q rs d hp=>
 h M0 F U Z O H Q rs d (hp.seq.mono λf g H1 ds b s1 c i p r n=>by
  let(e,s2):=b.newM n r;exact c _ _ _ e s2)
private def fNewD(n:EM (Ad)):EM FV:=fOD (fOwnD n)
def SD.se(h:SD X mp a ma):SE X mp a (fNewD ma):=h.so.se
def SDt.so(h:SDt X mp t ma):SOt X mp t (fOwnD ma):=λM0 F U Z O H Q rs c hp=>
 h M0 F U Z O H Q rs c (hp.seq.mono λe f H1 ds a s1 b g p r n=>by
  let(d,s2):=a.newM n r;exact b _ _ _ d s2)
def SDt.sd(h:SDt X mp t ma):SOt X mp t (fD (fNewD ma)):=λM0 F U Z O H Q rs g hp=>
 h M0 F U Z O H Q rs g (by
  let d:OPost X.xp M0 F Z O H (λl q H' o v=>Q v H') ((ma U).bind λ(ds,a)=>.ok (.d (.dict (ds.map dK)),a)):=by
   let e:fD (fNewD ma) U=(ma U).bind λ(ds,a)=>.ok (.d (.dict (ds.map dK)),a):=by
    unfold fD fNewD fOD fOwnD;cases ma U<;>rfl
   rw[<- e];exact hp
  exact d.seq.mono λm a H1 ds b s1 f s p r n=>by
   let(j,s2):=b.newM n r;let(c,k,s3,i):=j.dropD;exact f c _ _ (k.newD i) (s2.trans s3))
private def fDnil:EM (Ad):=λU=>.ok ([],U)
def zkW:SD X mp (.Dict [] [] pos) fDnil:=λM0 F U Z O H Q rs a hp=>pe_dnewK.wp λp n=>hp F H rs (.refl _ _) [] p .nil n
private def fDone(fa fb:EM FV):EM (Ad):=λU=>(fa U).bind λ(u,a)=>match derf a u with
 |some (.str z)=>(fb a).bind λ(w,b)=>match derS b w with
  |some y=>.ok ([(z,y)],b)
  |none=>.bad
 |_=>.bad
def zkX(l:SE X mp a fa)(hb:SE X mp b fb):SD X mp (.Dict [some a] [b] pos) (fDone fa fb):=λM0 F U Z O H Q rs g hp=>
 (zfq zC zC).wp (l.run rs g hp λm o H1 u v c s1 j e=>by
  delta e z ez;cases j.weak c ez;erw[hb.run c g e λh q i w v2 d s2 k f=>?_];delta f y ey;exact#[.inr z,rfl,λp n=>f h i d (.refl _ _) [(z,v2)] p (.cons (k.strong d ey) .nil) n])
private def fDcopy(fa:EM FV):EM (Ad):=λU=>(fa U).bind λ(u,a)=>R.get (derD a u) λds=>.ok (ds,a)
def zia (B:BiK X x (.type "dict")) (r:SE X mp a fa) (o:a⁻¹):SD X mp (.Call (.Name x p) [a] [] pos) (fDcopy fa):=λM0 F U Z O H Q rs g hp=>
 (jU zbw B.gl B.mg B.bt (zY zC pa_nil o) B.n B.d o rfl).wp (r.run rs g hp λd k H1 u v b s1 j c=>by
  let(ds,e,c):=R.got id c;let(l,i,rfl,f,h):=j.dict b e;exact#[l,_,rfl,f,λp n=>c d H1 b (.refl _ _) i p h n])
private def fSortD(fa:EM FV):EM (Aa):=λU=>(fa U).bind λ(u,a)=>R.get (derD a u) λds=>if ↑ds<64 then .ok ((qc (ds.map (·.1))).map .str,a) else .bad
def zga (r:X.calm=true) (B:BiK X x (.builtin "sorted")) (y:SE X mp a fa) (o:a⁻¹):SN X mp (.Call (.Name x p) [a] [] pos) (fSortD fa):=λM0 F U Z O H Q rs i hp=>
 (Qs (yx r) B.gl B.mg B.bt (zY zC pa_nil o) B.n B.d o rfl).wp (y.run rs i hp λf m H1 u v c s1 k b=>by
  let(ds,e,b):=R.got id b;let(g,b):=R.gif id b;let(l,j,rfl,h,d):=k.dict c e;refine#[l,j,rfl,h,by rw[d.length];exact g,λp n=>?_];rw[d.keys];exact b f H1 c (.refl _ _) _ p (RepL.strs _) n)
private def fMul(fa fb:EM FV):EM (Aa):=λU=>(fa U).bind λ(u,b)=>(fb b).bind λ(w,a)=>match derL a u,derf a w with|some [d],some (.int k)=>if 0<=k/\k<=1000000 then .ok (List.replicate k.toNat d,a) else .bad|_,_=>.bad
def RepL.rep1(r:Rep M H v d):∀(n:Nat),RepL M H (List.replicate n [v]).flatten (List.replicate n d)
 |0=>.nil
 |n+1=>by
  rw[xS,xS,ul];erw[.cons r (RepL.rep1 r n)]
def zlj(o:SE X mp a fa)(hb:SE X mp b fb):SN X mp (.BinOp a .Mult b pos) (fMul fa fb):=λM0 F U Z O H Q rs g hp=>
 (vt zhK zC zC).wp (o.run rs g hp λx y H1 u v e s1 q m=>hb.run e g m λh z i w v2 c s2 s f=>by
  delta f d k e1 e2;delta f hk;let(l,A,rfl,j,r):=(q.stp s2 e.al0).list c e1;cases s.weak c e2;cases r with
  |cons r t=>
   cases t;exact#[l,_,k,rfl,rfl,j,hk.1,hk.2,rfl,λp n=>f h i c (.refl _ _) _ p (RepL.rep1 r _) n])
end
section
variable {X:Cx}{mp:Ac}{a b e tg:Expr}{es:Ag}{p p2 apos af:Pos}{fa:EM FV}{c f x:Str}{s i:Nat}{M0:Ae}{F:Fp}{U:Gv}{Z:Nu}{O:St}{H H':Hp}{u:FV}{v:V}
private def fFfrz(i:Nat)(c f:Str):EM FV:=λU=>match objF U i c f with|some o=>.ok (.dat o.view,updF U i f (.d o.view))|none=>.bad
def zig(n:NmK X mp s i x)(K:wH X c f):SE X mp (.Attribute (.Name x p) f p2) (fFfrz i c f):=by?
 unfold fFfrz at hp;delta hp o e;erw[Jm n K rs hs e λv hv=>?_];let(a,W,fs,ns,xs,j,m,B,q,w,J,L,M,N,Y,y,P,A,D):=hv.ex;let hi:i<↑U:=(xa.mp w).1;let I:updF U i f (.d o.view)=U.set i (some (.o c ns (xs.set j (.d o.view)))):=by
  unfold updF;rw[w];show U.set i (some (setO c ns xs f _))=_;unfold setO;rw[N]
 let g:=rs.nd i;rw[A]at g;let d:=xG.mp g;let r:=xO.mp d.2;let V:=xO.mp r.2.1;let u:∀ b∈a::(m++([]++q)),b∈F i:=λb hb=>by
  grind
 let G:fs.set j (f,v)=fs:=by
  apply xZ;intro k;by_cases hk:j=k
  ·subst hk;rw[xk (xa.mp y).1,y]
  ·rw[xi hk]
 let C:Rep (MM M0 (fset F i (a::(m++([]++q))))) H v o.view:=P.rep (λb hb=>by
  rcases hb with hb | ⟨k,hb⟩
  ·erw[.inl hb]
  ·by_cases hk:k=i
   ·subst hk;rw[zM]at hb;exact .inr #[k,u b hb]
   ·rw[zR hk]at hb;exact .inr #[k,hb]) λb hb hm=>by
  let t:b∈F i:=by rw[A];simp[hb]
  rcases hm with hm | ⟨k,hm⟩
  ·erw[rs.dis0 i b t hm]
  ·by_cases hk:k=i
   ·subst hk;rw[zM]at hm;grind
   ·rw[zR hk]at hm;exact hk (rs.dis _ _ b hm t)
 let E:(a::(m++([]++q))).Nodup:=xG.mpr ⟨λh=>d.1 (by
  simp at h |-
  rcases h with h | h
  ·erw[.inl h]
  ·exact .inr (.inr h)),xO.mpr #[r.1,V.2.1,λb R c S=>r.2.2 b R c (xE _ S)]⟩
 let(l,s2):=rs.lessO hi J u E λT=>by
  have:=D _ H v (.d o.view) [] T (λ_ _ z=>z) (λ_ _=>rfl) (.d C);rw[G]at this;erw[.o L M this]
 rw[<- I]at l;erw[hp _ H l s2 v C]
private def fItems(fa:EM FV):EM (Aa×Option (Option Nat)):=λU=>(fa U).bind λ(u,a)=>match derS a u with|some (.dict b)=>R.get (unD b) λds=>.ok ((ds.map λp=>.tuple [.str p.1,p.2],some none),a)|_=>.bad
private def fKeys(fa:EM FV):EM (Aa×Option (Option Nat)):=λU=>(fa U).bind λ(u,a)=>match derS a u with|some (.dict b)=>R.get (unD b) λds=>.ok ((ds.map λp=>.str p.1,some none),a)|_=>.bad
def zc1 (J:∃ es n p,tg=.Tuple es n p) (E:SE X mp a fa) (hb:attributeBase a "items" X.env (eval a X.env)=eval a X.env) (y:(apos.endLine==af.line)=true):SIw X mp tg (.Call (.Attribute a "items" apos) [] [] af) (fItems fa):=λM0 F U Z O H R rs G hp=>
 (zfC J zC hb y).wp (E.run rs G hp λm N H1 u v b s1 K c=>by
  delta c kv eu;let(ds,A,c):=L3.R.got id c;let(l,P,rfl,nl,B,f):=Rep.tab (K.strong b eu) A;refine#[l,_,rfl,B,λo r e=>c m H1 b (.refl _ _) _ r #[.inr #[l,o,_,e,λi hi=>nl (.inr #[i,hi])],λi L H' st h0=>?_]];let h:=(st.keep l _ e.1 λj D=>nl (.inr #[j,D])).1;refine#[λd hd=>?_,λhle=>#[h,by rw[xo,f.length];simpa using hle]];rw[xg]at hd;cases q:ds[i]? with
  |none=>rw[q]at hd;cases hd
  |some pr=>
   rw[q]at hd;cases hd;let(w,hw,s):=f.get q;refine#[#[h,by rw[xo,f.length];exact (xa.mp q).1],λz M ⟨Q,t,g,C,I,x⟩=>?_];rw[xg,hw]at g;cases g;subst C x;let k:Same H' (upd H' t (.tup [kV (kK (pr.1,w)).1,(kK (pr.1,w)).2])):=qg I;refine#[k,.tuple zK (.cons (.str pr.1) (.cons ((qj st h0 (Rep.eqv (zeL e) s)).grow k.grow) .nil))])
def zf8(y:SE X mp a fa):SIw X mp tg a (fKeys fa):=λM0 F U Z O H R rs x hp=>
 (zhV zC).wp (y.run rs x hp λk D H1 u v b s1 A c=>by
  delta c kv eu;let(ds,p,c):=L3.R.got id c;let(l,G,rfl,nl,r,e):=Rep.tab (A.strong b eu) p;refine#[l,_,rfl,r,λo m h=>c k H1 b (.refl _ _) _ m #[.inr #[l,o,_,h,λi hi=>nl (.inr #[i,hi])],λi B H' st h0=>?_]];let g:=(st.keep l _ h.1 λj t=>nl (.inr #[j,t])).1;refine#[λd hd=>?_,λhle=>#[g,by rw[xo,e.length];simpa using hle]];rw[xg]at hd;cases q:ds[i]? with
  |none=>rw[q]at hd;cases hd
  |some pr=>
   rw[q]at hd;cases hd;let(w,hw,E):=e.get q;refine#[#[g,by rw[xo,e.length];exact (xa.mp q).1],λz C ⟨n,I,f,s⟩=>?_];rw[xg,hw]at f;cases f;subst s n;exact#[.refl _,.str pr.1])
private def fFldS(l:Bool)(i:Nat)(c f:Str):EM (Aa×Option (Option Nat)):=λU=>match objF U i c f with
 |some (.l a)=>match leaves a with
  |some ds=>.ok ((if l then ds.reverse else ds,some (some i)),U)
  |none=>.bad
 |_=>.bad
def FldAt.own(h:FldAt M0 F U Z H i c f (.l I) v)(rs:RS M0 F U Z H)(hl:leaves I\ds):∃ b us,v=.ref b/\H b\(.lst us)/\RepL (MM (Ju M0 F i) (fset F i [])) H us ds/\∀ j,b∉fset F i [] j:=by
 let(a,s,fs,ns,xs,j,p,B,q,t,u,w,x,y,A,C,e,g,r):=id h.ex;cases e with
 | @l b us _ o k n=>
  let(m,D):=n.leaf hl;refine#[b,us,rfl,k,by rw[Jw zM,yS];exact m,λj d=>?_];let hb:b∈F i:=by rw[g];simp
  by_cases z:j=i
  ·subst z;rw[zM]at d;cases d
  ·rw[zR z]at d;exact z (rs.dis _ _ b d hb)
def ziv(n:NmK X mp s i x)(K:wH X c f):SIw X mp tg (.Attribute (.Name x p) f p2) (fFldS false i c f):=λM0 F U Z O H R rs d hp=>by
 unfold fFldS at hp;delta hp ys e;delta hp ds ed;erw[(y9 zC).wp (Jm n K rs d e λv hv=>?_)];let(b,us,rfl,a,q,nb):=hv.own rs ed;exact#[b,rfl,#[us,SqL.of a],hp F H rs (.refl _ _) _ H #[rfl,YY a nb q]]
end
end Lake.L3
namespace Lake.L2
open PySem PySem.Spec PyProof.Rows
variable [Cs]
section
variable {X:Cx}{O:St}{H:Hp}{CX:CXT}{E:XK}{sp:Sp}{Q:VK}{C f:Ap}{fd:FuncData}{ps:Ab}{k:Nat}{m x:Str}{o e:Expr}{es:Ag}{p pos apos:Pos}
def VU{A:Around}{Q:Af}{E:Af}{s:Am}(y:attributeBase o m env (eval o env)=eval o env)(z:methodCallForm (↑args+0) (backTo pos (starEach args env)) (backToKw pos (keywordEach [] env))=true)(v:(apos.endLine==pos.line)=true)
  (h:wpAny (model X.prog X.w) A (eval o env) (λr c=>wpAny (model X.prog X.w) A (getMethod r m (do return (<- importBound o env).getD true)) (λl i=>wpAny (model X.prog X.w) A (callWith pos l.1 l.2 (backTo pos (starEach args env)) (backToKw pos (keywordEach [] env))) Q E i) E c) E s) :
  wpAny (model X.prog X.w) A (eval (.Call (.Attribute o m apos) args [] pos) env) Q E s:=by
 rw[arm_eval_Call,y];erw[x5 (Xe h (λr c a=>?_) λ_ _ e=>e)];erw[x5 (wpAny_standAt ?_)];let f:methodCallForm (↑args+↑([]:List Keyword)) (backTo pos (starEach args env)) (backToKw pos (keywordEach [] env))=true:=z;let d:methodCallPos true o env apos pos=pure pos:=by unfold methodCallPos;simp[v]
 unfold methodCall;rw[f];erw[x5 (Xd (Xe a (λl i b=>x5 (wpAny_of_eq d b)) λ_ _ x=>x))]
def za3{pins:Ak}{s:Am}{us:An}{vs:List V}(F:FnOk X.prog X.w X.K X.mg X.base CX k f fd ps sp)(i:Room k X.A)(hb:Binds X.K fd ps [])
  (hx:∀ pins H s e c,Inv X pins O H s->CX X.stack H s E e c->X.xe e c) (I:Inv X pins O H s) (r:Vals vs us) (h:sp vs H Q E):∅ (call (.ref f) us) (EP X pins O Q) X.xe s:=by
 let hl:↑us=↑ps:=by rw[<- ↑r];exact F.len _ _ _ _ h
 let a:=hb s us I.kIn (~~~hl);rw[xT]at a;erw[wpAny_call (Xl (F.run X.A X.stack s H #[us,[]] us vs Q E i I.env0 a r h) λr c b=>?_)];cases r with
 |error e=>erw[hx pins H s e c I b]
 |ok fl=>
  cases fl with
  |ret u=>erw[I.after b]
  |next=>erw[False.elim b]
  |brk=>erw[False.elim b]
  |cont=>erw[False.elim b]
def zgJ(c:Cls X.K C)(hm:Ka X.K C m f)(F:FnOk X.prog X.w X.K X.mg X.base CX k f fd ps sp)(L:Room k X.A)(hb:Binds X.K fd ps [])(hx:∀ pins H s e B,Inv X pins O H s->CX X.stack H s E e B->X.xe e B)
  (h:wpE X o O H λx H1=>∃ a A fs,x=.ref a/\H1 a\(.ins C A fs)/\fs.lookup m=none/\wpA X (e::es) O H1 λy z=>sp (x::y) z Q E)
  (v:starEach (e::es) X.env=(false,eval e X.env)::starEach es X.env) (i:(backTo pos (starEach es X.env)).any (·.1)=false) (J:attributeBase o m X.env (eval o X.env)=eval o X.env) (K:methodCallForm (↑(e::es)+0) (backTo pos (starEach (e::es) X.env)) (backToKw pos (keywordEach [] X.env))=true) (G:(apos.endLine==pos.line)=true):wpE X (.Call (.Attribute o m apos) (e::es) [] pos) O H Q:=λpins s I=>by
 erw[VU J K G (thn (h pins s I) λu s1 ⟨x,H1,b,n,a,A,fs,ex,g,l,q⟩=>?_)];subst ex;obtain rfl:u=Value.ref a:=n;erw[W1 b g c hm l ?_];erw[W.callWith_K I.ok.mod.kin hm.kp (thn (q pos pins s1 b) λus s2 ⟨y,z,d,r,j⟩=>#[d.kIn,?_]) v i];erw[za3 (vs:=.ref a::y) F L hb hx d (.cons rfl r) j]
def zdj(c:Cls X.K C)(hm:Ka X.K C m f)(F:FnOk X.prog X.w X.K X.mg X.base CX k f fd ps sp)(z:Room k X.A)(hb:Binds X.K fd ps [])(hx:∀ pins H s e r,Inv X pins O H s->CX X.stack H s E e r->X.xe e r)
  (h:wpE X o O H λx H1=>∃ a i fs,x=.ref a/\H1 a\(.ins C i fs)/\fs.lookup m=none/\sp [x] H1 Q E) (y:attributeBase o m X.env (eval o X.env)=eval o X.env) (v:(apos.endLine==pos.line)=true):wpE X (.Call (.Attribute o m apos) [] [] pos) O H Q:=λpins s I=>by
 erw[VU y rfl v (thn (h pins s I) λu s1 ⟨x,H1,b,g,a,i,fs,ex,d,l,q⟩=>?_)];subst ex;obtain rfl:u=Value.ref a:=g;erw[W1 b d c hm l ?_];erw[W.callWith_K0 b.kIn hm.kp (za3 (vs:= [.ref a]) F z hb hx b (.cons rfl .nil) q)]
def zgI(M:Mk X.K C f)(F:FnOk X.prog X.w X.K X.mg X.base CX k f fd ps sp)(G:Room (k+1) X.A)(hg:Gl X x)(hm:X.mg x\(.ref C))(hb:Binds X.K fd ps [])(hx:∀ pins H s e l,Inv X pins O H s->CX X.stack H s E e l->X.xe e l)
  (h:wpA X (e::es) O H λz H1=>∀ x i,H1 x=none->H1 i=none->i≠x->sp (.ref x::z) (upd (upd H1 i (.own x)) x (.ins C i [])) (λv A=>v=.non/\Q (.ref x) A) E)
  (B:(↥x)) (he:starEach (e::es) X.env=(false,eval e X.env)::starEach es X.env) (y:(backTo pos (starEach es X.env)).any (·.1)=false):wpE X (.Call (.Name x p) (e::es) [] pos) O H Q:=λpins s I=>by
 erw[Xk (Zt I hg hm ?_ B)];erw[W.callWith_K I.ok.mod.kin M.kp (thn (h pos pins s I) λus s1 ⟨z,H1,a,r,q⟩=>#[a.kIn,?_]) he y];let g:=q (⇑s1+1) ⇑s1 (a.hok.fresh (uY _)) (a.hok.fresh (xh _)) (xj (uU _));let d:=Inv.made (C:=C) a;let j:Vals (V.ref (⇑s1+1)::z) (Value.ref (⇑s1+1)::us):=.cons rfl r;let hl:↑(Value.ref (⇑s1+1)::us)=↑ps:=by
  let e:=↑j;rw[F.len _ _ _ _ g]at e;erw[e.symm]
 let b:=hb _ (Value.ref (⇑s1+1)::us) d.kIn (~~~hl);rw[xT]at b;refine wpAny_call (ze9 (f:=f) a.kIn M.makes M.init (beq_iff_eq.mp M.fn) (Xl (F.run _ X.stack _ _ #[Value.ref (⇑s1+1)::us,[]] (Value.ref (⇑s1+1)::us) _ _ E (G.make C us [])
  (d.env0.make C us []) b j g) λr l c=>?_))
 cases r with
 |error e=>erw[hx pins _ _ e l d c]
 |ok fl=>
  cases fl with
  |ret u=>
   let(v,m,n,t,ev,o):=d.after c;subst ev;exact#[t,#[V.ref (⇑s1+1),m,n,rfl,o]]
  |next=>erw[False.elim c]
  |brk=>erw[False.elim c]
  |cont=>erw[False.elim c]
end
structure KnM(P:Ar)(w:World)(K:Ah)(mg:Aq)(base:Heap)(CX:CXT)(C:Ap)(m:Str)(k:Nat)(sp:Sp):Prop where
 ex:∃(f:Ap)(fd:FuncData)(ps:Ab),FnOk P w K mg base CX k f fd ps sp/\Cls K C/\Ka K C m f/\Binds K fd ps []
structure KnI(P:Ar)(w:World)(K:Ah)(mg:Aq)(base:Heap)(CX:CXT)(C:Ap)(k:Nat)(sp:Sp):Prop where
 ex:∃(f:Ap)(fd:FuncData)(ps:Ab),FnOk P w K mg base CX k f fd ps sp/\Mk K C f/\Binds K fd ps []
end Lake.L2
namespace Lake.L3
open PySem PySem.Spec PyProof.Rows L2
variable [Cs]
section
variable {X:Cx}{mp io:Ac}{a b e:Expr}{es:Ag}{pos p p2 pos' apos:Pos}{fa fb:EM FV}{fl:EM (List AV)}{c m x:Str}{s i k n:Nat}{M0:Ae}{F F':Fp}{U:Gv}{Z:Nu}{O:St}{H H':Hp}{u:FV}{v:V}{run:List OV->RF}
private def fMeth(i:Nat)(c m:Str)(run:List OV->RF)(fl:EM (List AV)):EM OV:=λU=>match U[i]? with|some (some (.o a ns _))=>if a=c/\ixF ns m=none then fCall run (aIo i fl) U else .bad|_=>.bad
def VV{Q:VK}(rs:RS M0 F U Z H)(B:Ran n run)(e:U[i]?\(some o))(ev:Z[i]?\(some z))
  (hp:OPost X.xp M0 F Z O H (λF' E H' o v=>Q v H') (fCall run (aIo i fl) U)):APost X.xp M0 F Z O H (λr A y H1 as=>∀ l,AOks M0 r y H1 l as->spX X.mg n run (z::l) H1 Q (EX X O)) (fl U):=by
 let h:=QE (X:=X) rs B hp;unfold aIo at h;rw[e]at h;erw[h.tail.mono λr A y H1 as b a s1 q l oks=>q (z::l) (.io ?_ oks)];let(t,rfl):=a;rw[xb (xa.mp ev).1];exact ev
def ziE(px:PxOk X)(kn:KnM X.prog X.w X.K X.mg X.base (CX1 X.prog X.w) (Cs.adr c) m k (spX X.mg n run))(z:Room k X.A)(r:Ran n run)(nm:NmK X mp s i x)(hl:SA X mp (a::es) fl)
  (he:starEach (a::es) X.env=(false,eval a X.env)::starEach es X.env) (l:(backTo pos (starEach es X.env)).any (·.1)=false) (y:methodCallForm (↑(a::es)+0) (backTo pos (starEach (a::es) X.env)) (backToKw pos (keywordEach [] X.env))=true) (o:(apos.endLine==pos.line)=true):SO X mp (.Call (.Attribute (.Name x p) m apos) (a::es) [] pos) (fMeth i c m run fl):=by?
 unfold fMeth at hp;delta hp c' ns xs e;delta hp hh;let(rfl,d):=hh;let(g,fd,ps,b,cl,hm,hb):=kn.ex;let(ad,f,fs,A,ev,h,hk,q,j):=vn rs e;subst hk;erw[zgJ cl hm b z hb px.call ((qG nm.hN nm.hv nm.hd nm.hcd).wp #[.ref ad,hs s i _ nm.hm ev,ad,f,fs,rfl,h,(yQ d).1,hl M0 F U Z O H _ rs hs (VV rs r e ev hp)]) he l rfl y o]
def zgc(px:PxOk X)(kn:KnM X.prog X.w X.K X.mg X.base (CX1 X.prog X.w) (Cs.adr c) m k (spX X.mg n run))(r:Room k X.A)(o:Ran n run)(nm:NmK X mp s i x)(l:(apos.endLine==pos.line)=true):SO X mp (.Call (.Attribute (.Name x p) m apos) [] [] pos) (fMeth i c m run aNil):=by?
 unfold fMeth at hp;delta hp c' ns xs e;delta hp hh;let(rfl,b):=hh;let(g,fd,ps,a,cl,hm,hb):=kn.ex;let(ad,d,fs,A,ev,f,hk,j,h):=vn rs e;subst hk;erw[zdj cl hm a r hb px.call ((qG nm.hN nm.hv nm.hd nm.hcd).wp #[.ref ad,hs s i _ nm.hm ev,ad,d,fs,rfl,f,(yQ b).1,VV rs o e ev hp F Z H rs (uW _) (.refl _ _) [] .nil]) rfl l]
def RS.newI{p l:Ap}(r:RS M0 F U Z H)(n:H p=none)(nd:H l=none)(y:l≠p) :
  RS M0 (fset F ↑U [p]) (U++ [some (.o c [] [])]) (Z++ [some (.ref p)]) (upd (upd H l (.own p)) p (.ins (Cs.adr c) l []))/\Stp F H (fset F ↑U [p]) (upd (upd H l (.own p)) p (.ins (Cs.adr c) l [])):=r.new1 n (λb o e=>by
  rw[zH (λz=>by subst z;rw[n]at e;cases e),zH (λz=>by subst z;rw[nd]at e;cases e)];exact e) λs=>.o (fs:= []) (A:= []) zK rfl .nil
def AOks.stp(s1:Stp F H I H1)(h0:∀ a,M0 a->H a≠none)(l:Z <+: J):∀{y:List V}{as:List AV},AOks M0 F Z H y as->AOks M0 I J H1 y as
 |_,_,.nil=>.nil
 |_,_,.v h t=>.v ((h.stp s1 h0).ext l) (AOks.stp s1 h0 l t)
 |_,_,.io h t=>.io (by
   let(b,rfl):=l;rw[xb (xa.mp h).1];exact h) (AOks.stp s1 h0 l t)
def vV:∀{as:List AV}{args:List OV},toArgs U as\args->toArgs (U++ [o]) as\args/\∀ i∈ios as,i<↑U
 |[],_,e=>#[e,λ_ h=>nomatch h]
 |a::as,_,e=>by
  unfold toArgs at e
  split at e
  next m os b f=>
   cases e;let(l,d):=vV f;let key:toArg (U++ [o]) a\m/\∀ i∈ios [a],i<↑U:=by
    cases a with
    |v u=>
     refine#[?_,λ_ h=>nomatch h];cases u with
     |dat y=>erw[b]
     |own j=>
      simp only[toArg,derS,uQ]at b |-
      let(y,c,k):=b;refine#[y,?_,k]
      split at c
      next q=>
       rw[xb (xa.mp q).1,q];exact c
      ·cases c
    |io j=>
     simp only[toArg]at b |-
     split at b
     next q=>
      let g:=(xa.mp q).1;refine#[by rw[xb g,q];exact b,λi h=>?_];have:i=j:=by simpa [ios] using h
      lia
     ·cases b
   refine#[by unfold toArgs;rw[key.1,l],λi h=>?_];cases a with
   |v u=>erw[d i h]
   |io j=>
    rw[ios,xA]at h;rcases h with rfl | h
    ·exact key.2 _ (by simp[ios])
    ·erw[d i h]
  ·cases e
def Qu:∀{as:List AV}{outs:List (Option OV)}{U l:Gv},putBack as outs U\l->putBack as outs (U++ [o])\(l++ [o])
 |[],_,U,_,e=>by
  have:some U\_:=e;cases this;rfl
 |.v u::as,[],U,_,e=>by cases e
 |.v u::as,x::os,U,l,e=>Qu (as:=as) e
 |.io k::as,[],U,_,e=>by cases e
 |.io k::as,none::os,U,_,e=>by cases e
 |.io k::as,some q::os,U,l,e=>by
  rw[putBack]at e |-
  split at e
  next hk=>
   rw[if_pos (by simp;lia),List.set_append_left _ _ hk];erw[Qu e]
  ·cases e
private def fMake(c:Str)(run:List OV->RF)(fl:EM (List AV)):EM OV:=λU=>(fl U).bind λ(as,a)=>if ↑a=↑U/\(ios as).Nodup then match toArgs a as with
 |some args=>match run (.o c [] []::args) with
  |.ok (.d .none) (some o::outs)=>match putBack as outs a with
   |some b=>.ok (o,b)
   |none=>.bad
  |_=>.bad
 |none=>.bad
 else .bad
def ziD(px:PxOk X)(kn:KnI X.prog X.w X.K X.mg X.base (CX1 X.prog X.w) (Cs.adr c) k (spX X.mg n run))(T:Room (k+1) X.A)(hg:Gl X c)(hm:X.mg c\(.ref (Cs.adr c)))(L:Ran n run)(hl:SA X mp (a::es) fl)
  (N:(↥c)) (he:starEach (a::es) X.env=(false,eval a X.env)::starEach es X.env) (A:(backTo pos (starEach es X.env)).any (·.1)=false):SO X mp (.Call (.Name c p) (a::es) [] pos) (fMake c run fl):=by?
 let(g,fd,ps,J,mk,hb):=kn.ex;erw[zgI mk J T hg hm hb px.call (hl M0 F U Z O H _ rs hs ?_) N he A];unfold fMake at hp;generalize fl U=W at hp;cases W with
 |bad=>erw[hp]
 |exc x y=>erw[hp]
 |ok z=>
  let(as,b):=z;intro F1 j H1 d S s1 D oks x dx hx m s;simp only[R.bind]at hp;delta hp hh;let(hlen,nd):=hh;have l:j=Z:=by
   let(t,rfl):=S;let P:=d.len;let h2:=rs.len;have:t= []:=by
    apply List.eq_nil_of_length_eq_zero;rw[xB]at P;lia
   rw[this,xT]
  subst l;delta hp args ea;let(e,s2):=d.newI (c:=c) hx m s;let(K,r):=vV (o:=some (.o c [] [])) ea;let C:↑j=↑b:=d.len;let u:AOks M0 _ (j++ [some (.ref x)]) _ (V.ref x::D) (.io ↑b::as):=.io (by rw[<- C];simp) (oks.stp s2 d.al0 (List.prefix_append _ _));let w:(ios (.io ↑b::as)).Nodup:=by
   rw[ios];exact xG.mpr #[λh=>ua _ (r _ h),nd]
  let i:toArgs (b++ [some (.o c [] [])]) (.io ↑b::as)\(.o c [] []::args):=by
   unfold toArgs;rw[K];have:toArg (b++ [some (.o c [] [])]) (.io ↑b)\(.o c [] []):=by
    show (match (b++ [some (OV.o c [] [])])[↑b]? with
     |some (some o)=>some o
     |_=>none)=_
    rw[xr (xh _)];simp
   rw[this]
  let I:↑(V.ref x::D)=n:=by
   rw[u.len,<- jW i];erw[L _ λz=>?_];rw[z]at hp;exact hp.elim
  refine#[I,_,_,_,WA e u i w,?_];let E:∀{outs:List (Option OV)}{f:Gv}{o:OV},putBack as outs b\f->putBack (.io ↑b::as) (some o::outs) (b++ [some (.o c [] [])])\(f++ [some o]):=λ{outs f o} h=>by
   rw[putBack,if_pos (by simp),uB _ _ (xh _)];simp only[Nat.sub_self,List.set_cons_zero];erw[Qu h]
  delta hp o outs er;delta hp f eb;rw[er];intro F' v H' rc sc;let q:=(Zx eb nd).1;let(F2,M,s3):=JT (n:=↑b+1) e u i w rc sc (E eb) (uW _) (by simp[C]);let(G,B,s4,Y):=M.dropD;rw[ux (by simp[q])]at B;refine#[?_,hp G H' (.ref x) B (((s1.trans s2).trans s3).trans s4)];cases Y;rfl
def RS.mutM(r:RS M0 F U Z H)(e:U[i]?\(some (.m ds))):∃ l o,Z[i]?\(some (.ref l))/\H l\(.dK (o.map kK))/\KR (MM M0 F) H o ds/\l∈F i /\
  ∀ y B,KR (MM M0 F) H y B->∃ F',RS M0 F' (U.set i (some (.m B))) Z (upd H l (.dK (y.map kK)))/\Stp F H F' (upd H l (.dK (y.map kK))):=by
 let(v,ev,q):=r.at' i _ e;generalize c:F i=A at q;cases q with
 | @m l o _ b k q=>
  refine#[l,o,ev,b,.of k q,by simp,λy B d=>r.wrO (A:= [l]) (xa.mp e).1 ev (by rw[c];simp) (λxs z=>by rw[b]at z;cases z) (λa h=>by rw[c];exact h) (xG.mpr #[(λz=>nomatch z),.nil]) λf _=>.m zK d.keys (Zn f d.vals)]
private def sDupd(i:Nat)(fb:EM FV):SM:=λU=>match U[i]? with
 |some (some (.m _))=>(fb U).bind λ(w,a)=>match a[i]?,derS a w with
  |some (some (.m ds)),some (.dict b)=>match unD b with
   |some es=>if ↑ds+↑es<=1000000 then .ok (.next,a.set i (some (.m (zO ds es)))) else .bad
   |none=>.bad
  |_,_=>.bad
 |_=>.bad
def ziJ (n:NmK X mp s i x) (hb:SE X mp b fb) (y:M1 X (.Name x p) "update" p2 b pos):SS X mp io (.Expr (.Call (.Attribute (.Name x p) "update" p2) [b] [] pos) pos') (sDupd i fb):=λM0 F U Z O H D rs d hl hp=>by
 unfold sDupd at hp;delta hp d0 e0;let(l,u,ev,r,_):=rs.mutM e0;erw[(QM (zhR (qG n.hN n.hv n.hd n.hcd) zC y) rfl).wp #[.ref l,d s i _ n.hm ev,l,rfl,#[_,.inl r],hb M0 F U Z O H _ rs d ((SPost.seq d hl hp).mono λA B H1 w a s1 c v hv=>?_)]];delta c ds kv e1 e2;delta c es ek;delta c hsz;let(G,E,g,j,h,k,t):=a.mutM e1;rw[ev]at g;cases g;let(o,C,rfl,nb,q,f):=Rep.tab (hv.strong a e2) ek;let(m,e,s2):=t _ _ (f.merge h);refine#[o,_,_,rfl,j,q,λz=>nb (.inr #[i,by rw[<- z];exact k]),by have:=Xg;rw[xo,xo,h.length,f.length];lia,?_];rw[VR];erw[c m Z O _ e s2 d hl λ_ _=>rfl]
private def JE(i:Nat)(fb fa:EM FV):SM:=λU=>(fa U).bind λ(u,b)=>match b[i]? with
 |some (some _)=>(fb b).bind λ(w,a)=>match a[i]?,derS a u,derf a w with
  |some (some (.m ds)),some d,some (.str z)=>if ↑ds<1000000 then .ok (.next,a.set i (some (.m (zZ ds z d)))) else .bad
  |_,_,_=>.bad
 |_=>.bad
def ziI(B:X.A.units+1<cLine)(n:NmK X mp s i x)(A:SE X mp a fa)(hb:SE X mp b fb)(y:swapsWith a (some (.Subscript (.Name x p) b pos')) pos.line X.env=pure false):SS X mp io (.Assign [.Subscript (.Name x p) b pos'] a pos) (JE i fb fa):=λM0 F U Z O H D rs f hl hp=>by
 erw[(zhY B (qG n.hN n.hv n.hd n.hcd) zC zC y).wp (A M0 F U Z O H _ rs f ((SPost.seq f hl hp).mono λo r H1 u c s1 k v hv=>?_))];delta k o0 e0;let(v0,ev,_):=c.at' i _ e0;refine#[v0,f s i _ n.hm ev,hb M0 o r Z O H1 _ c f ((SPost.seq f hl k).mono λI K J w e s2 g v2 h=>?_)];delta g ds d z e1 e2 e3;delta g hsz;let(C,L,j,m,l,G,E):=e.mutM e1;rw[ev]at j;cases j;cases h.weak e e3;let(q,t,s3):=E _ _ (l.put z ((hv.stp s2 c.al0).strong e e2));refine#[C,_,rfl,#[_,.inr z,m,rfl,by have:=Xg;rw[xo,l.length];lia,rfl],?_];rw[Ye];erw[g q Z O _ t s3 f hl λ_ _=>rfl]
private def ku(i:Nat)(fb:EM FV):SM:=λU=>match U[i]? with
 |some (some (.m _))=>(fb U).bind λ(w,a)=>match a[i]?,derf a w with
  |some (some (.m ds)),some (.str z)=>if (zG ds z).isSome then .ok (.next,a.set i (some (.m (qy ds z)))) else .bad
  |_,_=>.bad
 |_=>.bad
def ziH (n:NmK X mp s i x) (hb:SE X mp b fb) (o:M1 X (.Name x p) "pop" p2 b pos):SS X mp io (.Expr (.Call (.Attribute (.Name x p) "pop" p2) [b] [] pos) pos') (ku i fb):=λM0 F U Z O H D rs c hl hp=>by
 unfold ku at hp;delta hp d0 e0;let(l,t,ev,k,_):=rs.mutM e0;erw[(QM (zfr (qG n.hN n.hv n.hd n.hcd) zC o) rfl).wp #[.ref l,c s i _ n.hm ev,l,rfl,#[_,.inl k],hb M0 F U Z O H _ rs c ((SPost.seq c hl hp).mono λu y H1 w a s1 d v hv=>?_)]];delta d ds z e1 e2;delta d hv2;let(B,A,f,h,g,r,m):=a.mutM e1;rw[ev]at f;cases f;cases hv.weak a e2;let(q,hw):=ub.mp (((g.val z).1).trans hv2);let(j,e,s2):=m _ _ (g.drop z);refine#[_,.inr z,q,h,rfl,by rw[Qa,hw],?_];rw[YO];erw[d j Z O _ e s2 c hl λ_ _=>rfl]
end
section
variable {X:Cx}{mp:Ac}{a:Expr}{p1 p2 q1 q2:Pos}{fa:EM FV}
private def Jd(fa:EM FV):EM FV:=λU=>(fa U).bind λ(u,a)=>match derS a u with|some (.tuple ds)=>R.get (ZG ds) λns=>if ↑ns<=60 then .ok (.dat (.int ↑(Tab.dedup ns)),a) else .bad|some (.list ds)=>R.get (ZG ds) λns=>if ↑ns<=60 then .ok (.dat (.int ↑(Tab.dedup ns)),a) else .bad|_=>.bad
def zfX (hc:X.calm=true) (B:Gl X "len") (s:X.mg "len" =none) (A:Gl X "set") (z:X.mg "set" =none) (y:SE X mp a fa) (o:a⁻¹) :
  SE X mp (.Call (.Name "len" p1) [.Call (.Name "set" p2) [a] [] q2] [] q1) (Jd fa):=by?
 erw[(V0 (strKind _ _) V.str (λk u ⟨t,e⟩=>e ▸ #[strKind_is ..,rfl]) hc B s A z o).wp (y.run rs hs hp λh m H1 u v c s1 i b=>?_)];dsimp only at b
 split at b
 next ds d=>
  let(ns,en,b):=R.got id b;let(g,b):=R.gif id b;let(l,j,rfl,f,r):=(i.strong c d).tup_inv;let hv:=ZP (ZQ en ▸ r);subst hv;exact#[l,ns,rfl,.inl (SqT.of f),g,b h H1 c (.refl _ _) _ (Rep.int _)]
 next ds d=>
  let(ns,en,b):=R.got id b;let(g,b):=R.gif id b;let(l,j,rfl,f,_,r):=(i.strong c d).lst_inv;let hv:=ZP (ZQ en ▸ r);subst hv;exact#[l,ns,rfl,.inr (SqL.of f),g,b h H1 c (.refl _ _) _ (Rep.int _)]
 ·erw[b.elim]
end
abbrev CF:=Str->List OV->RF
private def fNo:EM Bool:=λ_=>.bad
private def fNoV:EM FV:=λ_=>.bad
structure Wd where
 bi:Ab
 gi:List (Str×Int)
 gs:List (Str×Str)
 fl:List (Str×Nat)
 gd:List (Str×List (Str×Str))
 fk:List (Str×Str):= []
 mc:List (Str×Str×Nat):= []
 ml:List (Str×Str×Str×Nat):= []
 ex:Ab:= []
def zS(e:Expr):Bool:=e.ctorIdx !=22
def j8(e:Expr):Bool:=e.ctorIdx !=26
def ZD(e:Expr):Bool:=e.ctorIdx !=7
def zgA(sc:Scope)(x:Str):Bool:=decide (sc.names.lookup x\.local)||decide (sc.names.lookup x\.cell)||decide (sc.names.lookup x\.free)
def zcw(sc:Scope)(x:Str):Bool:=decide (sc.names.lookup x\.globalImplicit)
def nmB (sc:Scope) (N:Ab) (mp:Ac) (s i:Nat) (x:Str):Bool:=decide (N[s]?\x)&&zgA sc x&&decide (mp[s]?\i)&& !(x==("__debug__" :Str))&& !(x==("__classdict__" :Str))
def okO{α:Type}(o:Option α)(f:α->Bool):Bool:=match o with|some a=>f a|none=>false
def zaW{α:Type}{o:Option α}{f:α->Bool}(h:okO o f=true):∃ a,o\a/\f a=true:=by
 cases o with|none=>cases h|some a=>exact#[a,rfl,h]
mutual
noncomputable def Yy(sc:Scope)(N:Ab)(mp:Ac)(lo:Nat):IT->Expr->Bool|.nm s i,.Name x _=>decide (N[s]?\x)&&decide (mp[s]?\i)&&decide (lo<=i)&&(decide (sc.names.lookup x\.local)||decide (sc.names.lookup x\.cell))|.tp b,.Tuple a _ _=>VC sc N mp lo b a|_,_=>false
noncomputable def VC(sc:Scope)(N:Ab)(mp:Ac)(lo:Nat):ITs->Ag->Bool|.nil,[]=>true|.cons t b,e::a=>zS e&&Yy sc N mp lo t e&&VC sc N mp lo b a|_,_=>false
end
structure XSc(X:Cx)(sc:Scope)(N:Ab):Prop where
 hN:X.N=N
 vis:∀ x,zgA sc x=true->Vis X.env.scope x
 loc:∀ x,sc.names.lookup x\.local->X.env.scope.names.lookup x\.local
 cel:∀ x,sc.names.lookup x\.cell->X.env.scope.names.lookup x\.cell/\X.fn x=true
 fre:∀ x,sc.names.lookup x\.free->X.env.scope.names.lookup x\.cell∨X.env.scope.names.lookup x\.free
 glo:∀ x,zcw sc x=true->Gl X x
structure XW(X:Cx)(cf:CF)(W:Wd)(k:Nat):Prop where
 bi:∀ x,W.bi.contains x=true->X.mg x=none
 gi:∀ x i,W.gi.contains (x,i)=true->∃ t,X.mg x\(.int i t)
 gs:∀ x i,W.gs.contains (x,i)=true->∃ t,X.mg x\(.str i t)
 fn:∀ x n,W.fl.contains (x,n)=true->Kn X.prog X.w X.K X.mg X.base (CX1 X.prog X.w) x k (spX X.mg n (cf x))/\Ran n (cf x)
 rm:Room k X.A
 hk:1<=k
 calm:X.calm=true
 gd:∀ x kf,W.gd.contains (x,kf)=true->GD X.w X.K X.mg x kf
 fk:∀ c f,W.fk.contains (c,f)=true->wH X c f
 mc:∀ c q n,W.mc.contains (c,q,n)=true->X.mg c\(.ref (Cs.adr c))/\(∃ j,j+1<=k/\KnI X.prog X.w X.K X.mg X.base (CX1 X.prog X.w) (Cs.adr c) j (spX X.mg n (cf q)))/\Ran n (cf q)
 ml:∀ c m q n,W.ml.contains (c,m,q,n)=true->KnM X.prog X.w X.K X.mg X.base (CX1 X.prog X.w) (Cs.adr c) m k (spX X.mg n (cf q))/\Ran n (cf q)
 xl:ExL X.K X.mg W.ex
 px:PxOk X
 sk:Sk X
def zV(h:zS e=true):starEach (e::o) env=(false,eval e env)::starEach o env:=by
 cases e<;>first | rfl | (cases h)
def Qv:c.all zS=true->(starEach c env).any (·.1)=false:=by
 induction c with
 |nil=>intro;rfl
 |cons e c a=>
  intro h;rw[uf,xf]at h;rw[zV h.1,xX,a h.2];rfl
def jP:∀{l:List (Bool×Sem Aj)},l.any (·.1)=false->(backTo pos l).any (·.1)=false
 |[],_=>rfl
 | (b,t)::r,h=>by
  rw[xX,Bool.or_eq_false_iff]at h;show ((b,_)::backTo pos r).any (·.1)=false;rw[xX,jP h.2];let hb:=h.1;rw[hb];rfl
def vD(h:j8 e=true):w9 e:=λo i=>by
 cases e<;>first | rfl | (cases h)
def VJ(h:ZD e=true)(x:Aj):foldedSetIterable e env x=pure x:=by
 cases e<;>first | rfl | (cases h)
def jK(op:CmpOp)(h:ZD e=true):behindInMarks op e=false:=by
 cases e<;>first | rfl | (cases h)
def VQ(op c:CmpOp)(h:ZD e=true):lastMarks [op,c] [b,e]=false:=jK c h
def za7{x y:Str}(h:(!(x==y))=true):(x==y)=false:= ~~~h
section
variable {X:Cx}{cf:CF}{W:Wd}{k:Nat}{sc:Scope}{N:Ab}{mp:Ac}{m:Nat}
def zjn(S:XSc X sc N)(h:nmB sc N mp s i x=true):NmK X mp s i x:=by
 unfold nmB at h;simp only[xf,x0]at h;let((((a,b),c),d),e):=h;exact#[by rw[S.hN];exact a,S.vis x b,c,za7 d,za7 e]
def wA{f:Str->NameKind->NameKind}:∀{names:List (Str×NameKind)}{x:Str},(names.map λ(n,k)=>(n,f n k)).lookup x=(names.lookup x).map (f x)
 |[],_=>rfl
 | (n,k)::r,x=>by
  rw[xn];cases hx:x==n with
  |true=>rw[xD,xD,hx];rw[eq_of_beq hx];rfl
  |false=>rw[xD,xD,hx];exact wA
def jL:(relabel scope env).names.lookup x=(scope.names.lookup x).map λk=>if (k==.free&&env.scope.kind==ScopeKind.function&&env.kindOf x==some NameKind.cell) then .cell else k:=by
 unfold relabel;have e:(scope.names.map λ(n,k)=>if (k==NameKind.free&&env.scope.kind==ScopeKind.function&&env.kindOf n==some NameKind.cell) then (n,NameKind.cell) else (n,k)) =
   scope.names.map λ(n,k)=>(n,(λn k=>if (k==NameKind.free&&env.scope.kind==ScopeKind.function&&env.kindOf n==some NameKind.cell) then NameKind.cell else k) n k):=by
  apply uv;rintro⟨n,k⟩ _;dsimp only
  split<;>rfl
 rw[e];erw[wA (f:=λn k=>if (k==NameKind.free&&env.scope.kind==ScopeKind.function&&env.kindOf n==some NameKind.cell) then NameKind.cell else k)]
def XSc.comp(S:CSc I N scope N' k ix)(cl:List (Str×Addr))(C:Ap)(s2:Am)(H2:Hp)(fp:List Ap):XSc ⋯ scope N' where
 hN:=rfl
 vis x h:=by
  unfold zgA at h;simp only[xV,x0]at h;show Vis (relabel scope X.env) x;unfold Vis;rw[jL];rcases h with (h | h) | h
  ·rw[h];exact .inl rfl
  ·rw[h];exact .inr (.inl rfl)
  ·rw[h];simp only[pd]
   split
   ·erw[.inr (.inl rfl)]
   ·erw[.inr (.inr rfl)]
 loc x h:=by
  show (relabel scope X.env).names.lookup x=_;rw[jL,h];rfl
 cel x h:=by
  refine#[?_,decide_eq_true h];show (relabel scope X.env).names.lookup x=_;rw[jL,h];rfl
 fre x h:=by
  show (relabel scope X.env).names.lookup x=_∨(relabel scope X.env).names.lookup x=_;rw[jL,h];simp only[pd]
  split
  ·erw[.inl rfl]
  ·erw[.inr rfl]
 glo x h:=by
  unfold zcw at h;simp only[x0]at h;show (relabel scope X.env).names.lookup x=_;rw[jL,h];rfl
def XW.comp(T:XW X cf W k):XW ⋯ cf W k:=#[T.bi,T.gi,T.gs,T.fn,T.rm,T.hk,T.calm,T.gd,λc f h=>#[(T.fk c f h).cl,(T.fk c f h).no],T.mc,T.ml,T.xl,zh3 T.px T.sk,T.sk]
def zjQ(S:XSc X sc N)(h:CSc sc N scope o k ix):CSc X.env.scope X.N scope o k ix :=
 ⟨h.kind,h.cel,h.loc,λy a e=>by
  rcases h.fre y a e with z | z
  ·erw[.inl (S.cel _ z).1]
  ·exact S.fre _ z,h.len,h.nd,λj i e=>by
  rw[S.hN];exact h.cap j i e⟩
def Room.at1(T:XW X cf W k):Room 1 X.A:=T.rm.mono T.hk
def Room.atk(T:XW X cf W k):Room k X.A:=T.rm
def Kl:↑(assignEach c env)=↑c:=by
 induction c with|nil=>rfl|cons e c a=>cases e<;>simp[assignEach,a]
def wt(h:zS e=true):assignEach (e::o) env=(false,assign e env)::assignEach o env:=by
 cases e<;>first | rfl | (cases h)
mutual
theorem Yj{lo:Nat}(S:XSc X sc N)(hN:N.Nodup)(l:mp.Nodup)(hc:X.calm=true)(hk:∀ i,lo<=i->¬ kp i):∀(t:IT)(e:Expr),Yy sc N mp lo t e=true->SG X mp kp e t
  |.nm s i,e,h=>by
   cases e with
   |Name x p=>
    simp only[Yy,xf,xV,x0]at h;let(((b,c),d),a):=h;refine zir (by rw[S.hN];exact hN) l (by rw[S.hN];exact b) c (hk i d) ?_ ?_
    · rcases a with a | a
      · exact .inl (S.loc x a)
      · exact .inr (S.cel x a).1
    · rcases a with a | a
      · exact .inr (S.loc x a)
      · exact .inl (S.cel x a).2
   |_=>simp[Yy]at h
  |.tp g,e,h=>by
   cases e with
   |Tuple f n p=>
    simp only[Yy]at h;let(b,c,d):=kC S hN l hc hk g f h;exact zla hc b (by rw[Kl];exact c) d
   |_=>simp[Yy]at h
theorem kC{lo:Nat}(S:XSc X sc N)(hN:N.Nodup)(o:mp.Nodup)(hc:X.calm=true)(hk:∀ i,lo<=i->¬ kp i):∀(l:ITs)(c:Ag),VC sc N mp lo l c=true->SGs X mp kp c l/\l.len=↑c/\(assignEach c X.env).findIdx? (·.1)=none
  |.nil,[],h=>#[zis,rfl,rfl]
  |.cons t l,e::c,h=>by
    simp only[VC,xf]at h;let((b,d),f):=h;let a:=Yj S hN o hc hk t e d;let(g,j,k):=kC S hN o hc hk l c f;refine#[zf3 a g (by rw[wt b];rfl),by rw[ITs.len,j];rfl,?_];rw[wt b,List.findIdx?_cons];simp[k]
  |.nil,_::_,h=>by simp[VC]at h
  |.cons ..,[],h=>by simp[VC]at h
end
def zmS:Expr->Bool|.UnaryOp .Not _ _=>true|_=>false
def Yb(e:Expr):Bool:=e.ctorIdx !=0&&e.ctorIdx !=5&&e.ctorIdx !=15&& !(zmS e)
def zcQ(h:Yb e=true)(whole:Sem Aj):isTrue e env whole=(do let v<-whole;standAt e.pos;holding [v] (truthy v)):=by
 cases e<;>first | rfl | (cases h;done) | skip
 rename_i op x p;cases op<;>first | rfl | (cases h)
def jj(h:SE X mp e fa)(hp:Yb e=true):SE X mp e fa/\ST X mp e (fTru fa):=#[h,zgk h (zcQ hp)]
def kE(h:ST X mp (.BoolOp op o p) t):SW X mp (.BoolOp op o p) t:=λa F U Z O H Q rs b hp whole pins s I=>h a F U Z O H Q rs b hp pins s I
def yu:bootBuiltins "sorted" =some (.builtin "sorted"):=by decide +kernel
def wu:bootBuiltins "range" =some (.type "range"):=by decide +kernel
def ZK:bootBuiltins "len" =some (.builtin "len"):=by decide +kernel
def zbt:bootBuiltins "min" =some (.builtin "min"):=by decide +kernel
def zbs:bootBuiltins "max" =some (.builtin "max"):=by decide +kernel
def Kq:bootBuiltins "dict" =some (.type "dict"):=by decide +kernel
def W5(T:XW X cf W k):X.A.units+1<cLine:=by have:=T.rm.units;lia
def zhE(h:j8 e=true):zgN e:=λo i=>by
 cases e<;>first | rfl | (cases h)
def zhk(h:es.all zS=true)(hl:↑es<20):methodCallForm (↑es+0) (backTo pos (starEach es env)) (backToKw pos (keywordEach [] env))=true:=by
 let a:=jP (pos:=pos) (Qv (env:=env) h);let b:(backTo pos (starEach es env)).all (!·.1)=true:=by
  rw[ut]at a;rw[xH];intro x hx;have:=a x hx;simpa using this
 unfold methodCallForm;rw[b];show (true&&true&&decide _)=true;simp only[Bool.and_self,Bool.true_and,x0];show ↑es+0+0<30;lia
def zjm{x m:Str}(h:zS b=true)(hl:(p2.endLine==q.line)=true):M1 X (.Name x p) m p2 b q:=#[rfl,by rw[zV h];rfl,hl,by rw[zV h];rfl]
def zmC:SE X mp e fNoV:=λa F U Z O H Q rs b hp=>hp.elim
def zgj:ST X mp e fNo:=λa F U Z O H Q rs b hp=>hp.elim
def attF:Expr->Bool|.Call (.Attribute ..) .. =>true|_=>false
def Ya(e:Expr):Bool:=e.ctorIdx==23||e.ctorIdx==21||e.ctorIdx==20||attF e
def QD{o:Expr}{nm:Str}{env:Env}(h:Ya o=true):attributeBase o nm env (eval o env)=eval o env:=by
 cases o<;>first | rfl | (cases h;done) | skip
 rename_i f xs a q;cases f<;>first | rfl | (cases h)
def Wg(e:Expr):Bool:=e.ctorIdx !=8&&e.ctorIdx !=9&&e.ctorIdx !=10
def jR(e:Expr):Bool:=e.ctorIdx !=25&&e.ctorIdx !=8&&e.ctorIdx !=9&&e.ctorIdx !=10
def zkg(sc:Scope)(x:Str):Bool:=decide (sc.names.lookup x\.local)||decide (sc.names.lookup x\.cell)
def vQ(h:jR e=true):swapsWith e t l env=pure false:=by
 cases e<;>first | rfl | (cases h)
def Jl(h:jR e=true):swapsWithSole [t] e l env=pure false:=vQ h
def Qx(h:jR e=true):swappedStores [t] e env=pure none:=by
 let hm:(match (generalizing:=false) [t],e with|[.Tuple a _ _],.Tuple b _ _=>some (a,b)|[.List a _],.Tuple b _ _=>some (a,b)|_,_=>none)=(none:Option (Ag×Ag)):=by
  split
  ·cases h
  ·cases h
  ·rfl
 unfold swappedStores
 split
 next q=>
  erw[absurd (q.symm.trans hm) (λz=>nomatch z)]
 ·rfl
def V3(h:Wg e=true):swapsWithSole [.Subscript x y p] e l env=pure false:=by
 cases e<;>first | rfl | (cases h)
def vM:swappedStores [.Subscript x y p] e env=pure none:=by
 cases e<;>rfl
def zc8:swapsWith e (some (.Attribute o f p)) l env=pure false:=by cases e<;>rfl
def zgo:swapsWith e (some (.Subscript o b p)) l env=pure false:=by cases e<;>rfl
def zc7(h:Wg e=true):swapsWith e (some (.Name x p)) l env=pure false:=by
 cases e<;>first | rfl | (cases h)
def zaq:∃ b:Bool,swapsWith (.ListComp elt gens scope q) (some (.Name x p)) l env=pure b:=#[_,rfl]
def kF:∃ b:Bool,swapsWith (.DictComp o ev gens scope q) (some (.Name x p)) l env=pure b:=#[_,rfl]
def Km(h:j8 b=true)(v:Aj):assign (.Subscript o b p) env v=(do
  let c<-holding [v] (eval o env);let i<-holding [v,c] (eval b env)
  standAt p
  holding [v,c,i] (setItem c i v)
  release [v,c,i] []):=by
 cases b<;>first | rfl | (cases h)
def zkh(S:XSc X sc N)(h:zkg sc x=true):Loc X.env.scope x/\(X.fn x=true∨X.env.scope.names.lookup x\.local):=by
 unfold zkg at h;simp only[xV,x0]at h;rcases h with h | h
 ·exact#[.inl (S.loc x h),.inr (S.loc x h)]
 ·exact#[.inr (S.cel x h).1,.inl (S.cel x h).2]
def zkV{X:Cx}{st:Stmt}(h:SS X mp io st f):SB X mp io [st] f:=λa F U Z O H D rs b hl hp=>(JA za1).wp (h a F U Z O H D rs b hl hp)
def jf{c:List (Str×Str)}{y g:Str}(h:c.lookup y\g):(y,g)∈c:=by
 induction c with
 |nil=>cases h
 |cons p r a=>
  grind
abbrev Ck(E P:Cx->Prop):Type:=Option (PLift (∀ X,E X->P X))
section
variable {E P A B D F:Cx->Prop}
def ck0(h:∀ X,E X->P X):Ck E P:=some #[h]
def ckB(b:Bool)(h:b=true->∀ X,E X->P X):Ck E P:=if q:b=true then some #[h q] else none
def ck1(a:Ck E A)(h:∀ X,E X->A X->P X):Ck E P:=Option.map (λu=>#[λX e=>h X e (u.1 X e)]) a
def ck2(a:Ck E A)(b:Ck E B)(h:∀ X,E X->A X->B X->P X):Ck E P:=Option.bind a λu=>ck1 b λX e=>h X e (u.1 X e)
def ck3(a:Ck E A)(b:Ck E B)(d:Ck E D)(h:∀ X,E X->A X->B X->D X->P X):Ck E P:=Option.bind a λu=>ck2 b d λX e=>h X e (u.1 X e)
def ck4(a:Ck E A)(b:Ck E B)(d:Ck E D)(f:Ck E F)(h:∀ X,E X->A X->B X->D X->F X->P X):Ck E P:=Option.bind a λu=>ck3 b d f λX e=>h X e (u.1 X e)
def tt(b:Bool):Ck E λ_=>b=true:=ckB b λh _ _=>h
def cx(a:Ck E A):Ck B λ_=>∀ X,E X->A X:=Option.map (λu=>#[λ_ _=>u.1]) a
end
section
variable {α:Type}{T:α->Type}{Q:List α->Type}{σ:Option α->Type}
def vw{T:Type}[Inhabited T]{i j:Nat}(f:i=j->T):T:=if h:i=j then f h else default
protected def dq [DecidableEq α][∀ a,Inhabited (T a)](a b:α)(k:T a):T b:=if q:a=b then q ▸ k else default
protected def vB(l:List α)(k:Q [])(h:∀ x r,Q (x::r)):Q l:=match l with|[]=>k|x::r=>h x r
protected def vN [∀ l,Inhabited (Q l)](l:List α)(k:Q []):Q l:=vB l k λ_ _=>default
protected def vC [∀ l,Inhabited (Q l)](l:List α)(k:∀ x r,Q (x::r)):Q l:=vB l default k
protected def v1 [∀ l,Inhabited (Q l)](l:List α)(k:∀ x,Q [x]):Q l:=vC l λx r=>vN r (k x)
protected def v2 [∀ l,Inhabited (Q l)](l:List α)(k:∀ x y,Q [x,y]):Q l:=vC l λx r=>v1 r (k x)
protected def vO [∀ l,Inhabited (σ l)](o:Option α)(k:σ none):σ o:=match o with|none=>k|some _=>default
protected def vS [∀ l,Inhabited (σ l)](o:Option α)(k:∀ x,σ (some x)):σ o:=match o with|none=>default|some x=>k x
end
section
variable {C:Const->Type}[∀ z,Inhabited (C z)]
protected def zlB(z:Const)(k:∀ i,C (.int i)):C z:=vw (Const.int.elim z · k)
protected def zi0(z:Const)(k:∀ i,C (.str i)):C z:=vw (Const.str.elim z · k)
protected def zmU(z:Const)(k:∀ i,C (.bool i)):C z:=vw (Const.bool.elim z · k)
end
section
variable {P:Expr->Type}[∀ e,Inhabited (P e)](e:Expr)
protected def vBl(k:∀ o c p,P (.BoolOp o c p)):P e:=vw (Expr.BoolOp.elim e · k)
protected def zlA(k:∀ x o y p,P (.BinOp x o y p)):P e:=vw (Expr.BinOp.elim e · k)
protected def vUn(k:∀ o x p,P (.UnaryOp o x p)):P e:=vw (Expr.UnaryOp.elim e · k)
protected def vIf(k:∀ z x y p,P (.IfExp z x y p)):P e:=vw (Expr.IfExp.elim e · k)
protected def vDi(k:∀ c i p,P (.Dict c i p)):P e:=vw (Expr.Dict.elim e · k)
protected def vLco(k:∀ x g s p,P (.ListComp x g s p)):P e:=vw (Expr.ListComp.elim e · k)
protected def vDco(k:∀ x y g s p,P (.DictComp x y g s p)):P e:=vw (Expr.DictComp.elim e · k)
protected def zmW(k:∀ x os c p,P (.Compare x os c p)):P e:=vw (Expr.Compare.elim e · k)
protected def zmV(k:∀ f xs c q,P (.Call f xs c q)):P e:=vw (Expr.Call.elim e · k)
protected def kO(k:∀ z j p,P (.Constant z j p)):P e:=vw (Expr.Constant.elim e · k)
protected def zlz(k:∀ o f p,P (.Attribute o f p)):P e:=vw (Expr.Attribute.elim e · k)
protected def Yo(k:∀ x y p,P (.Subscript x y p)):P e:=vw (Expr.Subscript.elim e · k)
protected def vStr(k:∀ x p,P (.Starred x p)):P e:=vw (Expr.Starred.elim e · k)
protected def jb(k:∀ x p,P (.Name x p)):P e:=vw (Expr.Name.elim e · k)
protected def vLst(k:∀ c p,P (.List c p)):P e:=vw (Expr.List.elim e · k)
protected def zdc(k:∀ c n p,P (.Tuple c n p)):P e:=vw (Expr.Tuple.elim e · k)
protected def zmZ(k:∀ l u s p,P (.Slice l u s p)):P e:=vw (Expr.Slice.elim e · k)
protected def vFn(k:∀ f p xs q,P (.Call (.Name f p) xs [] q)):P e:=zmV e λg xs a q=>vN a (jb g λf p=>k f p xs q)
protected def vF1(k:∀ f p x q,P (.Call (.Name f p) [x] [] q)):P e:=vFn e λf p xs q=>v1 xs λx=>k f p x q
protected def vF2(k:∀ f p x y q,P (.Call (.Name f p) [x,y] [] q)):P e:=vFn e λf p xs q=>v2 xs λx y=>k f p x y q
protected def vMo(k:∀ o m c xs q,P (.Call (.Attribute o m c) xs [] q)):P e:=zmV e λg xs a q=>vN a (zlz g λo m c=>k o m c xs q)
protected def zmX(k:∀ x l u p q,P (.Subscript x (.Slice l u none p) q)):P e:=Yo e λx y q=>zmZ y λl u s p=>vO s (k x l u p q)
protected def vFd(f:Str)(k:∀ x p c,P (.Attribute (.Name x p) f c)):P e:=zlz e λo g c=>dq f g (jb o λx p=>k x p c)
protected def ziZ(op:CmpOp)(k:∀ x y p,P (.Compare x [op] [y] p)):P e:=zmW e λx os a p=>v1 os λo=>v1 a λy=>dq op o (k x y p)
protected def zmT(op:BoolOp)(c:∀ x y p,P (.BoolOp op [x,y] p))(i:∀ x y w r p,P (.BoolOp op (x::y::w::r) p)):P e:=vBl e λo a p=>dq op o (vC a λx r=>vC r λy r=>vB r (c x y p) λw r=>i x y w r p)
protected def vLC(k:∀ x c it ifs s p,P (.ListComp x [#[c,it,ifs,0]] s p)):P e:=vLco e λx gs s p=>v1 gs λ⟨c,it,ifs,a⟩=>dq 0 a (k x c it ifs s p)
protected def vDC(k:∀ x y c it ifs s p,P (.DictComp x y [#[c,it,ifs,0]] s p)):P e:=vDco e λx y gs s p=>v1 gs λ⟨c,it,ifs,a⟩=>dq 0 a (k x y c it ifs s p)
end
structure Ct where
 cf:CF
 W:Wd
 k:Nat
 sc:Scope
 N:Ab
 mp:Ac
 tr:Bool:=false
structure En(c:Ct)(X:Cx):Prop where
 S:XSc X c.sc c.N
 T:XW X c.cf c.W c.k
section
variable {c:Ct}
def nmk(s i:Nat)(x:Str):Ck (En c) λX=>NmK X c.mp s i x:=ckB (nmB c.sc c.N c.mp s i x) λh X E=>zjn E.S h
def bik (x y:Str){v:Aj}(hb:bootBuiltins y\v):Ck (En c) λX=>BiK X x v/\x=y:=ckB (decide (x=y)&&zcw c.sc x&&c.W.bi.contains x&&decide (y≠ "__name__")&& !(y==("__debug__" :Str))) λh X E=>by
 simp only[xf,x0]at h;let((((rfl,a),b),d),e):=h;exact#[#[E.S.glo x a,E.T.bi x b,hb,d,za7 e],rfl]
def flk(s i:Nat)(x cl f:Str):Ck (En c) λX=>NmK X c.mp s i x/\wH X cl f:=ckB (nmB c.sc c.N c.mp s i x&&c.W.fk.contains (cl,f)) λh X E=>by
 simp only[xf]at h;exact#[zjn E.S h.1,E.T.fk _ _ h.2]
def glk (x:Str):Ck (En c) λX=>Gl X x/\(↥x):=ckB (zcw c.sc x&& !(x==("__debug__" :Str))) λh X E=>by
 simp only[xf]at h;exact#[E.S.glo x h.1,za7 h.2]
def Ct.inn(c:Ct)(n k:Nat)(ix:Ac)(i:Ab)(sc:Scope):Ct:={ c with sc:=sc,N:=i,mp:=mpC c.mp n k ix }
structure CF1(X:Cx)(c:Ct)(n k:Nat)(ix:Ac)(N':Ab)(sc:Scope)(t:IT)(tg it:Expr):Prop where
 ca:X.calm=true
 cs:CSc X.env.scope X.N sc N' k ix
 hm:∀ j i:Nat,ix[j]?\i->∃ m,c.mp[i]?\m/\m<n
 hg:∀ cl C s2 H2 fp,SG (X.comp N' sc cl C s2 H2 fp) (mpC c.mp n k ix) (·<n) tg t
 hf:∀ x,foldedSetIterable it X.env x=pure x
 en:∀ cl C s2 H2 fp,En (c.inn n k ix N' sc) (X.comp N' sc cl C s2 H2 fp)
def cfk(n k:Nat)(ix:Ac)(l:Ab)(sc:Scope)(t:IT)(o it:Expr):Ck (En c) λX=>CF1 X c n k ix l sc t o it:=ckB (zdH c.sc c.N sc l k ix&&decide (mpC c.mp n k ix).Nodup&&ix.all (λi=>okO c.mp[i]? λj=>decide (j<n))&&ZD it&&Yy sc l (mpC c.mp n k ix) n t o) λh X E=>by
 simp only[xf,x0]at h;let((((f,g),p),q),r):=h;let a:=CSc.of f;refine#[E.T.calm,zjQ E.S a,λj i e=>?_,λcl C s2 b d=>Yj (XSc.comp a cl C s2 b d) a.nd g E.T.calm (λi h=>by lia) t o r,VJ q,λcl C s2 b d=>#[XSc.comp a cl C s2 b d,E.T.comp]];let(m,e,h):=zaW (xH.mp p i (uk e));exact#[m,e,Xh h]
end
structure Es(c:Ct)(io:Ac)(np:Nat)(X:Cx):Prop extends En c X where
 po:c.tr=false->PassesOwn (model X.prog X.w) X.A X.env X.xe
 rz:c.tr=false->zlO X
 st:X.stack=X.env::X.outer
 fr:X.env.frame\X.env.locals
 nd:X.N.Nodup
 mn:c.mp.Nodup
 io:∀ i∈io,i<np
structure Lk1(X:Cx)(mp:Ac)(s i:Nat)(x:Str):Prop where
 hi:X.N[s]?\x
 hm:mp[s]?\i
 hx:Loc X.env.scope x
 hf:X.fn x=true∨X.env.scope.names.lookup x\.local
section
variable {c:Ct}{io:Ac}{np:Nat}{A:Cx->Prop}
def up(a:Ck (En c) A):Ck (Es c io np) A:=Option.map (λu=>#[λX e=>u.1 X e.toEn]) a
def lok(s i:Nat)(x:Str):Ck (Es c io np) λX=>Lk1 X c.mp s i x:=ckB (decide (c.N[s]?\x)&&decide (c.mp[s]?\i)&&zkg c.sc x) λh X E=>by
 simp only[xf,x0]at h;let(l1,l2):=zkh E.S h.2;exact#[by rw[E.S.hN];exact h.1.1,h.1.2,l1,l2]
def tgk(t:IT)(e:Expr):Ck (Es c io np) λX=>SG X c.mp (·∈io) e t:=ckB (Yy c.sc c.N c.mp np t e) λh X E=>Yj E.S (by rw[<- E.S.hN];exact E.nd) E.mn E.T.calm (λi hi hm=>absurd (E.io i hm) (by lia)) t _ h
end
abbrev RE(c:Ct)(e:Expr)(p:EM FV×EM Bool):Type:=Ck (En c) λX=>SE X c.mp e p.1/\ST X c.mp e p.2
def AsC(c:Ct)(X:Cx)(e:Expr)(f:EM OV):=∀{io np s i x p q},Es c io np X->Lk1 X c.mp s i x->SS X c.mp io (.Assign [.Name x p] e q) (sAsg io i f)
end
private def vT(f:EM FV):EM FV×EM Bool:=(f,fTru f)
@[simp] theorem vT_1:(vT f).1=f:=rfl
@[simp] theorem vT_2:(vT f).2=fTru f:=rfl
structure IE where
 ev:CF->EM FV×EM Bool
 rd:∀[Cs](c:Ct)(e:Expr),RE c e (ev c.cf)
 rc:∀[Cs](c:Ct)(e:Expr),Ck (En c) λX=>AsC c X e (fD (ev c.cf).1):=λ_ _=>none
structure IL where
 ev:CF->EM (List FV)
 rd:∀[Cs](c:Ct)(es:Ag),Ck (En c) λX=>SL X c.mp es (ev c.cf)
structure IA where
 ev:CF->EM (List AV)
 rd:∀[Cs](c:Ct)(es:Ag),Ck (En c) λX=>SA X c.mp es (ev c.cf)
 z:Option (PLift (∀ cf,ev cf=aNil)):=none
structure IN where
 ev:CF->EM (Aa)
 rd:∀[Cs](c:Ct)(e:Expr),Ck (En c) λX=>SN X c.mp e (ev c.cf)
 rc:∀[Cs](c:Ct)(e:Expr),Ck (En c) λX=>∀ f,SO X c.mp e f->(∀ t,SNt X c.mp t (ev c.cf)->SOt X c.mp t f)->AsC c X e f:=λ_ _=>none
structure IP where
 ev:CF->EM (Option Int)
 rd:∀[Cs](c:Ct)(o:Option Expr),Ck (En c) λX=>SOp X c.mp o (ev c.cf)
structure II where
 ev:CF->EM (Aa)
 rd:∀[Cs](c:Ct)(tg e:Expr),Ck (En c) λX=>SI X c.mp tg e (ev c.cf)
structure IC where
 ev:CF->EM Bool
 rd:∀[Cs](c:Ct)(es:Ag),Ck (En c) λX=>SF X c.mp es (ev c.cf)
structure IO where
 ev:CF->EM OV
 rd:∀[Cs](c:Ct)(e:Expr),Ck (En c) λX=>SO X c.mp e (ev c.cf)
 rc:∀[Cs](c:Ct)(e:Expr),Ck (En c) λX=>AsC c X e (ev c.cf):=λ_ _=>none
structure IM where
 ev:CF->EM (Ad)
 rd:∀[Cs](c:Ct)(e:Expr),Ck (En c) λX=>SD X c.mp e (ev c.cf)
 rc:∀[Cs](c:Ct)(e:Expr),Ck (En c) λX=>∀ f,SO X c.mp e f->(∀ t,SDt X c.mp t (ev c.cf)->SOt X c.mp t f)->AsC c X e f:=λ_ _=>none
structure IG where
 ev:CF->EM (Aa×Option (Option Nat))
 rd:∀[Cs](c:Ct)(tg e:Expr),Ck (En c) λX=>SIw X c.mp tg e (ev c.cf)
 st:Option {b:II // ∀ cf,ev cf=fStd (b.ev cf)}:=none
def IE.x(s i:Nat):IE where
 ev _:=vT (fVar i)
 rd _ e:=jb e λx p=>ck1 (nmk s i x) λX _ n=>jj (zk7 n.hN n.hv n.hm n.hd n.hcd) rfl
@[simp] theorem zeg:(IE.x s i).ev cf=vT (fVar i):=rfl
def IE.frz(s i:Nat):IE where
 ev _:=vT (fFrz i)
 rd _ e:=jb e λx p=>ck1 (nmk s i x) λX _ n=>jj (zk0 n.hN n.hv n.hm n.hd n.hcd) rfl
@[simp] theorem zd4:(IE.frz s i).ev cf=vT (fFrz i):=rfl
def IE.k(i:Int):IE where
 ev _:=vT (fC (.int i))
 rd _ e:=kO e λz j p=>zlB z λa=>dq i a (ck0 λX _=>jj zk1 rfl)
@[simp] theorem zbQ:(IE.k i).ev cf=vT (fC (.int i)):=rfl
def IE.q(i:Str):IE where
 ev _:=vT (fC (.str i))
 rd _ e:=kO e λz j p=>zi0 z λa=>dq i a (ck0 λX _=>jj zk5 rfl)
@[simp] theorem zbR:(IE.q i).ev cf=vT (fC (.str i)):=rfl
def IE.b(i:Bool):IE where
 ev _:=vT (fC (.bool i))
 rd _ e:=kO e λz j p=>zmU z λa=>dq i a (ck0 λX _=>jj zic rfl)
@[simp] theorem KI:(IE.b i).ev cf=vT (fC (.bool i)):=rfl
def IE.j(x:Str)(i:Int):IE where
 ev _:=vT (fC (.int i))
 rd c e:=jb e λy p=>dq x y (ck2 (glk x) (tt (c.W.gi.contains (x,i))) λX E g h=>jj (zii g.1 (E.T.gi x i h) g.2) rfl)
@[simp] theorem zbZ:(IE.j x i).ev cf=vT (fC (.int i)):=rfl
def IE.gstr(x i:Str):IE where
 ev _:=vT (fC (.str i))
 rd c e:=jb e λy p=>dq x y (ck2 (glk x) (tt (c.W.gs.contains (x,i))) λX E g h=>jj (zij g.1 (E.T.gs x i h) g.2) rfl)
@[simp] theorem zb0:(IE.gstr x i).ev cf=vT (fC (.str i)):=rfl
def IE.tup(a:IL):IE where
 ev cf:=vT (fTup (a.ev cf))
 rd c e:=zdc e λb j p=>ck1 (a.rd c b) λX _ h=>jj (zk6 h) rfl
@[simp] theorem zef:(IE.tup a).ev cf=vT (fTup (a.ev cf)):=rfl
def IE.new(n:IN):IE where
 ev cf:=vT (fNew (n.ev cf))
 rd c e:=ck2 (tt (Yb e)) (n.rd c e) λX _ hp h=>jj (SN.se h) hp
 rc:=λc e=>ck2 (n.rd c e) (n.rc c e) λX _ u r=>r _ (SN.se u).so λ_ h=>h.sd
@[simp] theorem zeb:(IE.new n).ev cf=vT (fNew (n.ev cf)):=rfl
def IE.n(op:Operator)(a b:IE):IE where
 ev cf:=vT (fBin (binD op) (a.ev cf).1 (b.ev cf).1)
 rd c e:=zlA e λx o y p=>dq op o (ck2 (a.rd c x) (b.rd c y) λX _ u v=>jj (zkY (zjG op) u.1 v.1) rfl)
@[simp] theorem zd0:(IE.n op a b).ev cf=vT (fBin (binD op) (a.ev cf).1 (b.ev cf).1):=rfl
def IE.p(op:CmpOp)(a b:IE):IE where
 ev cf:=(fB (fCmp (cmpD op) (a.ev cf).1 (b.ev cf).1),fCmp (cmpD op) (a.ev cf).1 (b.ev cf).1)
 rd c e:=ziZ e op λx y p=>ck3 (tt (ZD y)) (a.rd c x) (b.rd c y) λX E h u v=>#[Yg (JU (Room.at1 E.T) op) u.1 v.1 (jK op h),Yl (JU (Room.at1 E.T) op) u.1 v.1 (jK op h)]
@[simp] theorem zd1:(IE.p op a b).ev cf=(fB (fCmp (cmpD op) (a.ev cf).1 (b.ev cf).1),fCmp (cmpD op) (a.ev cf).1 (b.ev cf).1):=rfl
def IE.h(op r:CmpOp)(a b d:IE):IE where
 ev cf:=(fB (fChain (cmpD op) (cmpD r) (a.ev cf).1 (b.ev cf).1 (d.ev cf).1),fChain (cmpD op) (cmpD r) (a.ev cf).1 (b.ev cf).1 (d.ev cf).1)
 rd c e:=zmW e λx os g p=>v2 os λo f=>v2 g λy z=>dq op o (dq r f (ck4 (tt (ZD z)) (a.rd c x) (b.rd c y) (d.rd c z) λX E h u v w=>#[Ei (JU (Room.at1 E.T) op) (JU (Room.at1 E.T) r) u.1 v.1 w.1 (VQ op r h),zgi (JU (Room.at1 E.T) op) (JU (Room.at1 E.T) r) u.1 v.1 w.1 (VQ op r h)]))
@[simp] theorem KJ:(IE.h op o a b d).ev cf=(fB (fChain (cmpD op) (cmpD o) (a.ev cf).1 (b.ev cf).1 (d.ev cf).1),fChain (cmpD op) (cmpD o) (a.ev cf).1 (b.ev cf).1 (d.ev cf).1):=rfl
def IE.not(a:IE):IE where
 ev cf:=(fB (fNotT (fTru (a.ev cf).1)),fNotT (a.ev cf).2)
 rd c e:=vUn e λo x p=>dq .Not o (ck1 (a.rd c x) λX _ u=>#[zk3 u.1,zls u.2])
@[simp] theorem zec:(IE.not a).ev cf=(fB (fNotT (fTru (a.ev cf).1)),fNotT (a.ev cf).2):=rfl
def IE.neg(a:IE):IE where
 ev cf:=vT (f1 gNeg (a.ev cf).1)
 rd c e:=vUn e λo x p=>dq .USub o (ck1 (a.rd c x) λX _ u=>jj (zk2 u.1) rfl)
@[simp] theorem zea:(IE.neg a).ev cf=vT (f1 gNeg (a.ev cf).1):=rfl
def IE.and(a b:IE):IE where
 ev cf:=(fAndV (a.ev cf).1 (b.ev cf).1,fAndT (a.ev cf).2 (b.ev cf).2)
 rd c e:=zmT e .And (λx y p=>ck2 (a.rd c x) (b.rd c y) λX _ u v=>#[zfU u.1 (zfY v.1),(zgn u.2 (ziR v.2)).st]) λx y w r p=>ck2 (a.rd c x) (b.rd c (.BoolOp .And (y::w::r) p)) λX _ u v=>#[zfU u.1 v.1,(zgn u.2 (kE v.2)).st]
@[simp] theorem zdY:(IE.and a b).ev cf=(fAndV (a.ev cf).1 (b.ev cf).1,fAndT (a.ev cf).2 (b.ev cf).2):=rfl
def IE.or(a b:IE):IE where
 ev cf:=(fOrV (a.ev cf).1 (b.ev cf).1,fOrT (a.ev cf).2 (b.ev cf).2)
 rd c e:=zmT e .Or (λx y p=>ck2 (a.rd c x) (b.rd c y) λX _ u v=>#[zjp u.1 (zfY v.1),(zjq u.2 (ziS v.2)).st]) λx y w r p=>ck2 (a.rd c x) (b.rd c (.BoolOp .Or (y::w::r) p)) λX _ u v=>#[zjp u.1 v.1,(zjq u.2 (kE v.2)).st]
@[simp] theorem zhd:(IE.or a b).ev cf=(fOrV (a.ev cf).1 (b.ev cf).1,fOrT (a.ev cf).2 (b.ev cf).2):=rfl
def IE.f(d a b:IE):IE where
 ev cf:=(fIf (d.ev cf).2 (a.ev cf).1 (b.ev cf).1,fNo)
 rd c e:=vIf e λz x y p=>ck3 (d.rd c z) (a.rd c x) (b.rd c y) λX _ w u v=>#[zmA w.2 u.1 v.1,zgj]
@[simp] theorem zd6:(IE.f d a b).ev cf=(fIf (d.ev cf).2 (a.ev cf).1 (b.ev cf).1,fNo):=rfl
def IE.ix(a b:IE):IE where
 ev cf:=vT (fIx (a.ev cf).1 (b.ev cf).1)
 rd c e:=Yo e λx y p=>ck3 (tt (j8 y)) (a.rd c x) (b.rd c y) λX _ h u v=>jj (zmB u.1 v.1 (vD h)) rfl
@[simp] theorem zhc:(IE.ix a b).ev cf=vT (fIx (a.ev cf).1 (b.ev cf).1):=rfl
def IE.len(a:IE):IE where
 ev cf:=vT (f1 gLen (a.ev cf).1)
 rd c e:=vF1 e λf p x q=>ck3 (bik f "len" ZK) (tt (zS x)) (a.rd c x) λX _ B h u=>jj (za4 zjP B.1 u.1 (zV h)) rfl
@[simp] theorem zd7:(IE.len a).ev cf=vT (f1 gLen (a.ev cf).1):=rfl
def IE.int(a:IE):IE where
 ev cf:=vT (f1 gInt (a.ev cf).1)
 rd c e:=vF1 e λf p x q=>ck3 (bik f "int" zbr) (tt (zS x)) (a.rd c x) λX _ B h u=>jj (zmD zjO B.1 u.1 (zV h)) rfl
@[simp] theorem zd5:(IE.int a).ev cf=vT (f1 gInt (a.ev cf).1):=rfl
def IE.all(a:IE):IE where
 ev cf:=vT (f1 gAll (a.ev cf).1)
 rd c e:=vF1 e λf p x q=>ck3 (bik f "all" zbp) (tt (zS x)) (a.rd c x) λX E B h u=>jj (za4 (zjM E.T.calm) B.1 u.1 (zV h)) rfl
@[simp] theorem zdX:(IE.all a).ev cf=vT (f1 gAll (a.ev cf).1):=rfl
def IE.any(a:IE):IE where
 ev cf:=vT (f1 gAny (a.ev cf).1)
 rd c e:=vF1 e λf p x q=>ck3 (bik f "any" zbq) (tt (zS x)) (a.rd c x) λX E B h u=>jj (za4 (zjN E.T.calm) B.1 u.1 (zV h)) rfl
@[simp] theorem zdZ:(IE.any a).ev cf=vT (f1 gAny (a.ev cf).1):=rfl
def IE.tuple(a:IE):IE where
 ev cf:=vT (fTupC (a.ev cf).1)
 rd c e:=vF1 e λf p x q=>ck3 (bik f "tuple" Yv) (tt (zS x)) (a.rd c x) λX E B h u=>jj (zfZ B.1 u.1 (zV h)) rfl
@[simp] theorem KN:(IE.tuple a).ev cf=vT (fTupC (a.ev cf).1):=rfl
def IE.min(a b:IE):IE where
 ev cf:=vT (f2 gMin (a.ev cf).1 (b.ev cf).1)
 rd c e:=vF2 e λf p x y q=>ck4 (bik f "min" zbt) (tt (zS x&&zS y)) (a.rd c x) (b.rd c y) λX E B h u v=>jj (zin E.T.calm B.1 u.1 v.1 (zV (xL.mp h).1) (zV (xL.mp h).2)) rfl
@[simp] theorem zd9:(IE.min a b).ev cf=vT (f2 gMin (a.ev cf).1 (b.ev cf).1):=rfl
def IE.max(a b:IE):IE where
 ev cf:=vT (f2 gMax (a.ev cf).1 (b.ev cf).1)
 rd c e:=vF2 e λf p x y q=>ck4 (bik f "max" zbs) (tt (zS x&&zS y)) (a.rd c x) (b.rd c y) λX E B h u v=>jj (zim E.T.calm B.1 u.1 v.1 (zV (xL.mp h).1) (zV (xL.mp h).2)) rfl
@[simp] theorem zd8:(IE.max a b).ev cf=vT (f2 gMax (a.ev cf).1 (b.ev cf).1):=rfl
def IE.cutT(a:IE)(l1 i:IP):IE where
 ev cf:=vT (zaN (a.ev cf).1 (l1.ev cf) (i.ev cf))
 rd c e:=zmX e λx l u p q=>ck3 (a.rd c x) (l1.rd c l) (i.rd c u) λX _ u v w=>jj (zid u.1 v w) rfl
@[simp] theorem zbS:(IE.cutT a l1 h1).ev cf=vT (zaN (a.ev cf).1 (l1.ev cf) (h1.ev cf)):=rfl
def IE.call(o:IO):IE where
 ev cf:=vT (fOD (o.ev cf))
 rd c e:=ck2 (tt (Yb e)) (o.rd c e) λX _ hp h=>jj h.se hp
@[simp] theorem zbP:(IE.call o).ev cf=vT (fOD (o.ev cf)):=rfl
def IE.lset(a:IE):IE where
 ev cf:=vT (WX (a.ev cf).1)
 rd c e:=vF1 e λf b z i=>vF1 z λg d y j=>ck4 (bik f "len" ZK) (bik g "set" JR) (tt (zS y)) (a.rd c y) λX E B D h u=>by
  let(B,rfl):=B;let(D,rfl):=D;erw[jj (zil E.T.calm B.gl B.mg D.gl D.mg u.1 (zV h)) rfl]
@[simp] theorem zb2:(IE.lset a).ev cf=vT (WX (a.ev cf).1):=rfl
def IE.lsetS(a:IE):IE where
 ev cf:=vT (Jd (a.ev cf).1)
 rd c e:=vF1 e λf b z i=>vF1 z λg d y j=>ck4 (bik f "len" ZK) (bik g "set" JR) (tt (zS y)) (a.rd c y) λX E B D h u=>by
  let(B,rfl):=B;let(D,rfl):=D;erw[jj (zfX E.T.calm B.gl B.mg D.gl D.mg u.1 (zV h)) rfl]
@[simp] theorem KM:(IE.lsetS a).ev cf=vT (Jd (a.ev cf).1):=rfl
def IE.sin(a b:IE):IE where
 ev cf:=(fB (fCmp yT (a.ev cf).1 (b.ev cf).1),fCmp yT (a.ev cf).1 (b.ev cf).1)
 rd c e:=ziZ e .In λx y p=>ck3 (tt (ZD y)) (a.rd c x) (b.rd c y) λX E h u v=>#[Yg zf7 u.1 v.1 (jK .In h),Yl zf7 u.1 v.1 (jK .In h)]
@[simp] theorem zed:(IE.sin a b).ev cf=(fB (fCmp yT (a.ev cf).1 (b.ev cf).1),fCmp yT (a.ev cf).1 (b.ev cf).1):=rfl
def IE.slen(a:IE):IE where
 ev cf:=vT (f1 Qp (a.ev cf).1)
 rd c e:=vF1 e λf p x q=>ck3 (bik f "len" ZK) (tt (zS x)) (a.rd c x) λX _ B h u=>jj (za4 zg4 B.1 u.1 (zV h)) rfl
@[simp] theorem zb4:(IE.slen a).ev cf=vT (f1 Qp (a.ev cf).1):=rfl
def IE.join(z:Str)(a:IE):IE where
 ev cf:=vT (f1 (WZ z) (a.ev cf).1)
 rd c e:=vMo e λo m b xs q=>v1 xs λx=>kO o λd j g=>zi0 d λf=>dq z f (ck4 (tt (decide (m= "join"))) (tt (zS x)) (tt (b.endLine==q.line)) (a.rd c x) λX E hm h l u=>jj (zik (Xh hm) u.1 (zV h) l) rfl)
@[simp] theorem zb1:(IE.join z a).ev cf=vT (f1 (WZ z) (a.ev cf).1):=rfl
def IE.six(a b:IE):IE where
 ev cf:=vT (zhg (a.ev cf).1 (b.ev cf).1)
 rd c e:=Yo e λx y p=>ck3 (tt (j8 y)) (a.rd c x) (b.rd c y) λX _ h u v=>jj (zk4 u.1 v.1 (vD h)) rfl
@[simp] theorem zee:(IE.six a b).ev cf=vT (zhg (a.ev cf).1 (b.ev cf).1):=rfl
def IE.g(a b:IE):IE where
 ev cf:=vT (fDget (a.ev cf).1 (b.ev cf).1)
 rd c e:=Yo e λx y p=>ck3 (tt (j8 y)) (a.rd c x) (b.rd c y) λX E h u v=>jj (zie (W5 E.T) u.1 v.1 (zhE h)) rfl
@[simp] theorem zbT:(IE.g a b).ev cf=vT (fDget (a.ev cf).1 (b.ev cf).1):=rfl
def IE.dgd(a b d:IE):IE where
 ev cf:=vT (fDgd (a.ev cf).1 (b.ev cf).1 (d.ev cf).1)
 rd c e:=vMo e λo m f xs q=>v2 xs λx y=>dq ("get" :Str) m (ck4 (tt (Ya o&&zS x&&zS y&&f.endLine==q.line)) (a.rd c o) (b.rd c x) (d.rd c y) λX E h u v w=>by
  simp only[xf]at h;exact jj (zkZ (W5 E.T) u.1 v.1 w.1 #[QD h.1.1.1,by rw[zV h.1.1.2,zV h.1.2];rfl,h.2,by rw[zV h.1.1.2,zV h.1.2];rfl]) rfl)
@[simp] theorem zd2:(IE.dgd a b d).ev cf=vT (fDgd (a.ev cf).1 (b.ev cf).1 (d.ev cf).1):=rfl
def IE.d(a b:IE):IE where
 ev cf:=(fB (fCmp gDin (a.ev cf).1 (b.ev cf).1),fCmp gDin (a.ev cf).1 (b.ev cf).1)
 rd c e:=ziZ e .In λx y p=>ck3 (tt (ZD y)) (a.rd c x) (b.rd c y) λX E h u v=>#[Yg (zdP (W5 E.T)) u.1 v.1 (jK .In h),Yl (zdP (W5 E.T)) u.1 v.1 (jK .In h)]
@[simp] theorem zd3:(IE.d a b).ev cf=(fB (fCmp gDin (a.ev cf).1 (b.ev cf).1),fCmp gDin (a.ev cf).1 (b.ev cf).1):=rfl
def IE.dnin(a b:IE):IE where
 ev cf:=(fB (fCmp gDnin (a.ev cf).1 (b.ev cf).1),fCmp gDnin (a.ev cf).1 (b.ev cf).1)
 rd c e:=ziZ e .NotIn λx y p=>ck3 (tt (ZD y)) (a.rd c x) (b.rd c y) λX E h u v=>#[Yg (zaL (W5 E.T)) u.1 v.1 (jK .NotIn h),Yl (zaL (W5 E.T)) u.1 v.1 (jK .NotIn h)]
@[simp] theorem zbU:(IE.dnin a b).ev cf=(fB (fCmp gDnin (a.ev cf).1 (b.ev cf).1),fCmp gDnin (a.ev cf).1 (b.ev cf).1):=rfl
def IE.t(cl f:Str)(a:IE):IE where
 ev cf:=vT (fAttr cl f (a.ev cf).1)
 rd c e:=zlz e λx g p=>dq f g (ck3 (tt (c.W.fk.contains (cl,f))) (tt (Ya x)) (a.rd c x) λX E h hb u=>jj (zib (E.T.fk _ _ h) u.1 (QD hb)) rfl)
@[simp] theorem zbO:(IE.t cl f a).ev cf=vT (fAttr cl f (a.ev cf).1):=rfl
def IE.newD(i:IM):IE where
 ev cf:=(fNewD (i.ev cf),fNo)
 rd c e:=ck1 (i.rd c e) λX _ h=>#[h.se,zgj]
 rc:=λc e=>ck2 (i.rd c e) (i.rc c e) λX _ u r=>r _ u.se.so λ_ h=>h.sd
@[simp] theorem zb3:(IE.newD md).ev cf=(fNewD (md.ev cf),fNo):=rfl
def IE.fdat(s i:Nat)(cl f:Str):IE where
 ev _:=vT (fFdat i cl f)
 rd _ e:=vFd e f λx p a=>ck1 (flk s i x cl f) λX _ n=>jj (zif n.1 n.2) rfl
@[simp] theorem zbV:(IE.fdat s i cl f).ev cf=vT (fFdat i cl f):=rfl
def IE.flen(s i:Nat)(cl f:Str):IE where
 ev _:=vT (fFlen i cl f)
 rd _ e:=vF1 e λg b z q=>vFd z f λx p a=>ck2 (bik g "len" ZK) (flk s i x cl f) λX _ B n=>jj (zih B.1 n.1 n.2) rfl
@[simp] theorem zbX:(IE.flen s i cl f).ev cf=vT (fFlen i cl f):=rfl
def IE.ftru(s i:Nat)(cl f:Str):IE where
 ev _:=(fNoV,fFtru i cl f)
 rd _ e:=vFd e f λx p a=>ck1 (flk s i x cl f) λX _ n=>#[zmC,ziO n.1 n.2]
@[simp] theorem zbY:(IE.ftru s i cl f).ev cf=(fNoV,fFtru i cl f):=rfl
def IE.flast(s i:Nat)(cl f:Str):IE where
 ev _:=vT (fFlast i cl f)
 rd _ e:=Yo e λz y p=>vFd z f λx p b=>vUn y λo w g=>dq .USub o (kO w λd a c=>zlB d λj=>dq 1 j (ck1 (flk s i x cl f) λX _ n=>jj (zfW n.1 n.2) rfl))
@[simp] theorem KK:(IE.flast s i cl f).ev cf=vT (fFlast i cl f):=rfl
def IE.ffrz(s i:Nat)(cl f:Str):IE where
 ev _:=(fFfrz i cl f,fNo)
 rd _ e:=vFd e f λx p a=>ck1 (flk s i x cl f) λX _ n=>#[zig n.1 n.2,zgj]
@[simp] theorem zbW:(IE.ffrz s i cl f).ev cf=(fFfrz i cl f,fNo):=rfl
def IL.nil:IL where
 ev _:=fNil
 rd _ es:=vN es (ck0 λX _=>zle)
@[simp] theorem zek:(IL.nil).ev cf=fNil:=rfl
def IL.cons(e:IE)(a:IL):IL where
 ev cf:=fCons (e.ev cf).1 (a.ev cf)
 rd c es:=vC es λx xs=>ck3 (tt (zS x)) (e.rd c x) (a.rd c xs) λX _ h u v=>zix u.1 v (zV h)
@[simp] theorem zb8:(IL.cons e a).ev cf=fCons (e.ev cf).1 (a.ev cf):=rfl
def IA.nil:IA where
 ev _:=aNil
 rd _ es:=vN es (ck0 λX _=>zkT)
 z:=some #[λ_=>rfl]
@[simp] theorem zdS:(IA.nil).ev cf=aNil:=rfl
def IA.cons(e:IE)(a:IA):IA where
 ev cf:=aCons (e.ev cf).1 (a.ev cf)
 rd c es:=vC es λx xs=>ck3 (tt (zS x)) (e.rd c x) (a.rd c xs) λX _ h u v=>zh5 u.1 v (zV h)
@[simp] theorem zbK:(IA.cons e a).ev cf=aCons (e.ev cf).1 (a.ev cf):=rfl
def IA.io(s i:Nat)(a:IA):IA where
 ev cf:=aIo i (a.ev cf)
 rd c es:=vC es λx xs=>jb x λy p=>ck2 (nmk s i y) (a.rd c xs) λX _ n v=>zmz n.hN n.hv n.hm n.hd n.hcd v rfl
@[simp] theorem zhb:(IA.io s i a).ev cf=aIo i (a.ev cf):=rfl
def IN.lst(a:IL):IN where
 ev cf:=fLst (a.ev cf)
 rd c e:=vLst e λb p=>ck1 (a.rd c b) λX _ h=>zli h
@[simp] theorem zep:(IN.lst a).ev cf=fLst (a.ev cf):=rfl
def IN.cut(a:IE)(l1 i:IP):IN where
 ev cf:=zhf (a.ev cf).1 (l1.ev cf) (i.ev cf)
 rd c e:=zmX e λx l u p q=>ck3 (a.rd c x) (l1.rd c l) (i.rd c u) λX _ u v w=>zlh u.1 v w
@[simp] theorem zeo:(IN.cut a l1 h1).ev cf=zhf (a.ev cf).1 (l1.ev cf) (h1.ev cf):=rfl
def IN.back(a b:IE):IN where
 ev cf:=zaM (a.ev cf).1 (YR (b.ev cf).1)
 rd c e:=Yo e λx y q=>zmZ y λl u s p=>vO l (vO u (vS s λk=>ck2 (a.rd c x) (b.rd c k) λX _ u v=>ziy u.1 (za5 v.1)))
@[simp] theorem zcb:(IN.back a b).ev cf=zaM (a.ev cf).1 (YR (b.ev cf).1):=rfl
def IN.cat(a b:IE):IN where
 ev cf:=K5 (a.ev cf).1 (b.ev cf).1
 rd c e:=zlA e λx o y p=>dq .Add o (ck2 (a.rd c x) (b.rd c y) λX _ u v=>zlg u.1 v.1)
@[simp] theorem zen:(IN.cat a b).ev cf=K5 (a.ev cf).1 (b.ev cf).1:=rfl
def IN.list(a:IE):IN where
 ev cf:=fListC (a.ev cf).1
 rd c e:=vF1 e λf p x q=>ck3 (bik f "list" Q7) (tt (zS x)) (a.rd c x) λX _ B h u=>ziA B.1 u.1 (zV h)
@[simp] theorem zcd:(IN.list a).ev cf=fListC (a.ev cf).1:=rfl
def IN.comp(n k:Nat)(ix:Ac)(r:Ab)(t:IT)(src:II)(cd:IC)(v:IE):IN where
 ev cf:=fComp n k t (src.ev cf) (cd.ev cf) (v.ev cf).1
 rd c e:=vLC e λelt a it ifs sc p=>ck4 (cfk n k ix r sc t a it) (src.rd c a it) (cx (cd.rd (c.inn n k ix r sc) ifs)) (cx (v.rd (c.inn n k ix r sc) elt)) λX E F hi hc he=>ziz F.ca F.cs F.hm hi F.hg (λ_ _ _ _ _=>hc _ (F.en ..)) (λ_ _ _ _ _=>(he _ (F.en ..)).1) F.hf
 rc:=λc e=>vLC e λelt a it ifs sc p=>ck4 (cfk n k ix r sc t a it) (src.rd c a it) (cx (cd.rd (c.inn n k ix r sc) ifs)) (cx (v.rd (c.inn n k ix r sc) elt)) λX _ F hi hc he f d g io np s i x p q E l=>by
  let(b,hb):=zaq;cases b with|false=>erw[zap E.nd l.hi l.hx l.hf E.mn l.hm d hb]|true=>erw[Yk (zh0 E.nd l.hi l.hx E.T.calm F.cs hb F.hf l.hf) E.mn l.hm (xa.mp l.hi).1 (g _ (kB F.cs F.hm hi F.hg (λ_ _ _ _ _=>hc _ (F.en ..)) λ_ _ _ _ _=>(he _ (F.en ..)).1))]
@[simp] theorem zcc:(IN.comp n k ix o t src cd el).ev cf=fComp n k t (src.ev cf) (cd.ev cf) (el.ev cf).1:=rfl
def IN.lrng(a:IE):IN where
 ev cf:=zaO (a.ev cf).1
 rd c e:=vF1 e λf b z i=>vF1 z λg d y j=>ck4 (bik f "list" Q7) (bik g "range" wu) (tt (zS y)) (a.rd c y) λX E B D h u=>ziB E.T.calm B.1 D.1 u.1 (zV h)
@[simp] theorem zce:(IN.lrng a).ev cf=zaO (a.ev cf).1:=rfl
def IN.mul(a b:IE):IN where
 ev cf:=fMul (a.ev cf).1 (b.ev cf).1
 rd c e:=zlA e λx o y p=>dq .Mult o (ck2 (a.rd c x) (b.rd c y) λX _ u v=>zlj u.1 v.1)
@[simp] theorem zeq:(IN.mul a b).ev cf=fMul (a.ev cf).1 (b.ev cf).1:=rfl
def IN.sortD(a:IE):IN where
 ev cf:=fSortD (a.ev cf).1
 rd c e:=vF1 e λf p x q=>ck3 (bik f "sorted" yu) (tt (zS x)) (a.rd c x) λX E B h u=>zga E.T.calm B.1 u.1 (zV h)
@[simp] theorem KW:(IN.sortD a).ev cf=fSortD (a.ev cf).1:=rfl
def IN.compW(n k:Nat)(ix:Ac)(i:Ab)(t:IT)(src:IG)(cd:IC)(l:IE):IN where
 ev cf:=fCompW n k t (src.ev cf) (cd.ev cf) (l.ev cf).1
 rd c e:=vLC e λelt a it ifs sc p=>ck4 (cfk n k ix i sc t a it) (src.rd c a it) (cx (cd.rd (c.inn n k ix i sc) ifs)) (cx (l.rd (c.inn n k ix i sc) elt)) λX E F hi hc he=>zf9 F.ca F.cs F.hm hi F.hg (λ_ _ _ _ _=>hc _ (F.en ..)) (λ_ _ _ _ _=>(he _ (F.en ..)).1) F.hf
@[simp] theorem KU:(IN.compW n k ix o t src cd el).ev cf=fCompW n k t (src.ev cf) (cd.ev cf) (el.ev cf).1:=rfl
def IP.non:IP where
 ev _:=zeH
 rd _ o:=vO o (ck0 λX _=>ziG)
@[simp] theorem zet:(IP.non).ev cf=zeH:=rfl
def IP.one(a:IE):IP where
 ev cf:=YR (a.ev cf).1
 rd c o:=vS o λx=>ck1 (a.rd c x) λX _ u=>za5 u.1
@[simp] theorem zeu:(IP.one a).ev cf=YR (a.ev cf).1:=rfl
def II.list(a:IE):II where
 ev cf:=fSeqL (a.ev cf).1
 rd c tg e:=ck1 (a.rd c e) λX _ u=>ziu u.1
@[simp] theorem zb7:(II.list a).ev cf=fSeqL (a.ev cf).1:=rfl
def II.tup(a:IE):II where
 ev cf:=fSeqT (a.ev cf).1
 rd c tg e:=ck1 (a.rd c e) λX _ u=>zlc u.1
@[simp] theorem zej:(II.tup a).ev cf=fSeqT (a.ev cf).1:=rfl
def II.alt(a b:II):II where
 ev cf:=K4 (a.ev cf) (b.ev cf)
 rd c tg e:=ck2 (a.rd c tg e) (b.rd c tg e) λX _ u v=>zlb u v
@[simp] theorem zlY:(II.alt a b).ev cf=K4 (a.ev cf) (b.ev cf):=rfl
def II.range(a:IE):II where
 ev cf:=fRange (a.ev cf).1
 rd c tg e:=vF1 e λf p x q=>ck3 (bik f "range" wu) (tt (zS x)) (a.rd c x) λX _ B h u=>zf6 B.1 B.2 u.1 (zV h)
@[simp] theorem KT:(II.range a).ev cf=fRange (a.ev cf).1:=rfl
def II.enum(a:IE):II where
 ev cf:=fEnum (a.ev cf).1
 rd c tg e:=vF1 e λf p x q=>zdc tg λb d pt=>ck3 (bik f "enumerate" L2.boot_enumW) (tt (zS x)) (a.rd c x) λX _ B h u=>zit B.1 B.2 u.1 (zV h)
@[simp] theorem zb6:(II.enum a).ev cf=fEnum (a.ev cf).1:=rfl
def II.chars(a:IE):II where
 ev cf:=ZC (a.ev cf).1
 rd c tg e:=ck1 (a.rd c e) λX _ u=>zf5 u.1
@[simp] theorem KQ:(II.chars a).ev cf=ZC (a.ev cf).1:=rfl
def IC.yes:IC where
 ev _:=fYes
 rd _ es:=vN es (ck0 λX _=>zk8)
@[simp] theorem zdW:(IC.yes).ev cf=fYes:=rfl
def IC.one(a:IE):IC where
 ev cf:=(a.ev cf).2
 rd c es:=v1 es λx=>ck1 (a.rd c x) λX _ u=>zk9 u.2
@[simp] theorem zdV:(IC.one a).ev cf=(a.ev cf).2:=rfl
def IO.dat(a:IE):IO where
 ev cf:=fD (a.ev cf).1
 rd c e:=ck1 (a.rd c e) λX _ u=>u.1.so
 rc:=a.rc
@[simp] theorem zer:(IO.dat a).ev cf=fD (a.ev cf).1:=rfl
def IO.own(n:IN):IO where
 ev cf:=fOwn (n.ev cf)
 rd c e:=ck1 (n.rd c e) λX _ u=>u.so
 rc:=λc e=>ck2 (n.rd c e) (n.rc c e) λX _ u r=>r _ u.so λ_ h=>h.so
@[simp] theorem zes:(IO.own n).ev cf=fOwn (n.ev cf):=rfl
def IO.call(g:Str)(n:Nat)(a:IA):IO where
 ev cf:=fCall (cf g) (a.ev cf)
 rd c e:=vFn e λf p xs q=>dq g f (vB xs (Option.bind a.z λz=>ck2 (glk g) (tt (c.W.fl.contains (g,n))) λX E G h=>by
  show SO X _ _ (fCall _ (a.ev _));rw[z.1];exact zgb E.T.px (E.T.fn _ _ h).1 (Room.atk E.T) G.1 (E.T.fn _ _ h).2 G.2) λx xs=>ck4 (glk g) (tt (c.W.fl.contains (g,n))) (tt ((x::xs).all zS)) (a.rd c (x::xs)) λX E G h st u=>by
  rw[uf,xf]at st;exact ziC E.T.px (E.T.fn _ _ h).1 (Room.atk E.T) G.1 (E.T.fn _ _ h).2 u G.2 (zV st.1) (jP (Qv st.2)))
@[simp] theorem zcf:(IO.call g n a).ev cf=fCall (cf g) (a.ev cf):=rfl
def IO.move(s i:Nat):IO where
 ev _:=fMove i
 rd _ e:=jb e λx p=>ck1 (nmk s i x) λX _ n=>ziF n.hN n.hv n.hm n.hd n.hcd
@[simp] theorem zci:(IO.move s i).ev cf=fMove i:=rfl
def IO.ownD(i:IM):IO where
 ev cf:=fOwnD (i.ev cf)
 rd c e:=ck1 (i.rd c e) λX _ u=>u.so
 rc:=λc e=>ck2 (i.rd c e) (i.rc c e) λX _ u r=>r _ u.so λ_ h=>h.so
@[simp] theorem zcj:(IO.ownD md).ev cf=fOwnD (md.ev cf):=rfl
def IO.make(cl q:Str)(n:Nat)(a:IA):IO where
 ev cf:=fMake cl (cf q) (a.ev cf)
 rd c e:=vFn e λf p xs g=>dq cl f (vC xs λx xs=>ck4 (glk cl) (tt (c.W.mc.contains (cl,q,n))) (tt ((x::xs).all zS)) (a.rd c (x::xs)) λX E G h st u=>by
  let(hm,(j,d,kn),b):=E.T.mc _ _ _ h;rw[uf,xf]at st;exact ziD E.T.px kn (E.T.rm.mono d) G.1 hm b u G.2 (zV st.1) (jP (Qv st.2)))
@[simp] theorem zcg:(IO.make cl q n a).ev cf=fMake cl (cf q) (a.ev cf):=rfl
def IO.m(s i:Nat)(cl me q:Str)(n:Nat)(a:IA):IO where
 ev cf:=fMeth i cl me (cf q) (a.ev cf)
 rd c e:=vMo e λo g d xs p=>jb o λx px=>dq me g (vB xs (Option.bind a.z λz=>ck3 (nmk s i x) (tt (c.W.ml.contains (cl,me,q,n))) (tt (d.endLine==p.line)) λX E nm h l=>by
  show SO X _ _ (fMeth i cl me _ (a.ev _));rw[z.1];exact zgc E.T.px (E.T.ml _ _ _ _ h).1 E.T.rm (E.T.ml _ _ _ _ h).2 nm l) λy b=>ck4 (nmk s i x) (tt (c.W.ml.contains (cl,me,q,n))) (tt ((d.endLine==p.line)&&((y::b).all zS&&decide (↑(y::b)<20)))) (a.rd c (y::b)) λX E nm h l u=>by
  simp only[xf,x0]at l;let st:=l.2.1;rw[uf,xf]at st;exact ziE E.T.px (E.T.ml _ _ _ _ h).1 E.T.rm (E.T.ml _ _ _ _ h).2 nm u (zV st.1) (jP (Qv st.2)) (zhk l.2.1 l.2.2) l.1)
@[simp] theorem zch:(IO.m s i cl me q n a).ev cf=fMeth i cl me (cf q) (a.ev cf):=rfl
def IM.nil:IM where
 ev _:=fDnil
 rd _ e:=vDi e λa b p=>vN a (vN b (ck0 λX _=>zkW))
@[simp] theorem zel:(IM.nil).ev cf=fDnil:=rfl
def IM.one(a b:IE):IM where
 ev cf:=fDone (a.ev cf).1 (b.ev cf).1
 rd c e:=vDi e λd f p=>v1 d λk=>vS k λx=>v1 f λy=>ck2 (a.rd c x) (b.rd c y) λX _ u v=>zkX u.1 v.1
@[simp] theorem zem:(IM.one a b).ev cf=fDone (a.ev cf).1 (b.ev cf).1:=rfl
def IM.copy(a:IE):IM where
 ev cf:=fDcopy (a.ev cf).1
 rd c e:=vF1 e λf p x q=>ck3 (bik f "dict" Kq) (tt (zS x)) (a.rd c x) λX _ B h u=>zia B.1 u.1 (zV h)
@[simp] theorem zca:(IM.copy a).ev cf=fDcopy (a.ev cf).1:=rfl
def IM.comp(n k:Nat)(ix:Ac)(r:Ab)(t:IT)(src:IG)(cd:IC)(y A:IE):IM where
 ev cf:=fCompD n k t (src.ev cf) (cd.ev cf) (y.ev cf).1 (A.ev cf).1
 rd c e:=vDC e λb d a it ifs sc p=>ck4 (cfk n k ix r sc t a it) (src.rd c a it) (cx (cd.rd (c.inn n k ix r sc) ifs)) (ck2 (cx (y.rd (c.inn n k ix r sc) b)) (cx (A.rd (c.inn n k ix r sc) d)) λX _ u v=>And.intro u v) λX E F hi hc he=>zh9 F.ca F.cs F.hm hi F.hg (λ_ _ _ _ _=>hc _ (F.en ..)) (λ_ _ _ _ _=>(he.1 _ (F.en ..)).1) (λ_ _ _ _ _=>(he.2 _ (F.en ..)).1) F.hf
 rc:=λc e=>vDC e λb d a it ifs sc p=>Option.bind src.st λz=>ck4 (cfk n k ix r sc t a it) (z.1.rd c a it) (cx (cd.rd (c.inn n k ix r sc) ifs)) (ck2 (cx (y.rd (c.inn n k ix r sc) b)) (cx (A.rd (c.inn n k ix r sc) d)) λX _ u v=>And.intro u v) λX _ F hi hc he f h j io np s i x p q E l=>by
  let(g,hb):=kF;cases g with
  |false=>erw[zap E.nd l.hi l.hx l.hf E.mn l.hm h hb]
  |true=>
   erw[Yk (zfL E.nd l.hi l.hx E.T.calm F.cs hb F.hf l.hf) E.mn l.hm (xa.mp l.hi).1 (j _ ?_)];rw[z.2];erw[zfT F.cs F.hm hi F.hg (λ_ _ _ _ _=>hc _ (F.en ..)) (λ_ _ _ _ _=>(he.1 _ (F.en ..)).1) λ_ _ _ _ _=>(he.2 _ (F.en ..)).1]
@[simp] theorem zb9:(IM.comp n k ix o t src cd ek vv).ev cf=fCompD n k t (src.ev cf) (cd.ev cf) (ek.ev cf).1 (vv.ev cf).1:=rfl
def IG.std(b:II):IG where
 ev cf:=fStd (b.ev cf)
 rd c tg e:=ck1 (b.rd c tg e) λX _ u=>ziw u
 st:=some #[b,λ_=>rfl]
@[simp] theorem zei:(IG.std b).ev cf=fStd (b.ev cf):=rfl
def IG.items(a:IE):IG where
 ev cf:=fItems (a.ev cf).1
 rd c tg e:=vMo e λo g b xs p=>vN xs (dq ("items" :Str) g (zdc tg λd f pt=>ck3 (tt (Ya o)) (tt (b.endLine==p.line)) (a.rd c o) λX _ h l u=>zc1 #[_,_,_,rfl] u.1 (QD h) l))
@[simp] theorem KO:(IG.items a).ev cf=fItems (a.ev cf).1:=rfl
def IG.keys(a:IE):IG where
 ev cf:=fKeys (a.ev cf).1
 rd c tg e:=ck1 (a.rd c e) λX _ u=>zf8 u.1
@[simp] theorem zb5:(IG.keys a).ev cf=fKeys (a.ev cf).1:=rfl
def IG.fld(s i:Nat)(cl f:Str):IG where
 ev _:=fFldS false i cl f
 rd _ tg e:=vFd e f λx p a=>ck1 (flk s i x cl f) λX _ n=>ziv n.1 n.2
@[simp] theorem zeh:(IG.fld s i cl f).ev cf=fFldS false i cl f:=rfl
section
variable {Q:Stmt->Type}[∀ e,Inhabited (Q e)](e:Stmt)
protected def zmY(k:∀ x p,Q (.Return x p)):Q e:=vw (Stmt.Return.elim e · k)
protected def vAsg(k:∀ c x p,Q (.Assign c x p)):Q e:=vw (Stmt.Assign.elim e · k)
protected def vAug(k:∀ t o x p,Q (.AugAssign t o x p)):Q e:=vw (Stmt.AugAssign.elim e · k)
protected def vFor(k:∀ t x b o p,Q (.For t x b o p)):Q e:=vw (Stmt.For.elim e · k)
protected def vIfS(k:∀ x a b p,Q (.If x a b p)):Q e:=vw (Stmt.If.elim e · k)
protected def vEx(k:∀ x p,Q (.Expr x p)):Q e:=vw (Stmt.Expr.elim e · k)
protected def vRai(k:∀ x y p,Q (.Raise x y p)):Q e:=vw (Stmt.Raise.elim e · k)
protected def vTry(k:∀ b h o f p,Q (.Try b h o f p)):Q e:=vw (Stmt.Try.elim e · k)
protected def vAs(k:∀ t x p,Q (.Assign [t] x p)):Q e:=vAsg e λa x p=>v1 a λt=>k t x p
protected def vMs(k:∀ o m c xs q p,Q (.Expr (.Call (.Attribute o m c) xs [] q) p)):Q e:=vEx e λy p=>vMo y λo m c xs q=>k o m c xs q p
protected def vM1(m:Str)(k:∀ o c a q p,Q (.Expr (.Call (.Attribute o m c) [a] [] q) p)):Q e:=vMs e λo g c xs q p=>dq m g (v1 xs λa=>k o c a q p)
end
section
variable {c:Ct}{io:Ac}{np:Nat}
def wk(w:IW)(e:Expr):Ck (Es c io np) λX=>WOk X c.mp e w:=match w with|.v s i=>jb e λx p=>ck1 (up (nmk s i x)) λX _ n=>zm2 n|.c n=>kO e λz j p=>zlB z λi=>dq n i (ck0 λX _=>zm1)
def zk(w:IZ)(e:Expr):Ck (Es c io np) λX=>ZOk X c.mp e w:=match w with|.w w=>ck1 (wk w e) λX _ h=>zm4 h|.p a b=>zdc e λd n p=>v2 d λx y=>ck3 (tt (zS x&&zS y)) (wk a x) (wk b y) λX _ h u v=>zm3 u v (zV (xL.mp h).1) (zV (xL.mp h).2)
end
abbrev RS1(c:Ct)(io:Ac)(np:Nat)(st:Stmt)(f:SM):Type:=Ck (Es c io np) λX=>SS X c.mp io st f
def nt{b:Bool}(h:(!b)=true):b=false:= ~~~h
def hdk:(ns:List (Str×Nat×Nat×HC))->(i:List ExceptHandler)->Ck (Es c io np) λX=>Hds X c.W.ex c.mp i ns
 |[],i=>vN i (ck0 λ_ _=>.nil)
 | (x,t,j,v)::r,i=>vC i λhd b=>match hd with
  |.ExceptHandler ty nm bd hp=>vS ty λe=>vO nm (v1 bd λst=>vAs st λf k o=>jb f λy py=>jb e λm np=>dq x m (kO k λd n pc=>match v with
   |.s z=>zi0 d λa=>dq z a (ck4 (tt (c.W.ex.contains x)) (up (glk x)) (lok t j y) (hdk r b) λX E h g l u=>.cons (v:=.s z) h g.1 g.2 l.hi l.hm l.hx l.hf u)
   |.b z=>zmU d λa=>dq z a (ck4 (tt (c.W.ex.contains x)) (up (glk x)) (lok t j y) (hdk r b) λX E h g l u=>.cons (v:=.b z) h g.1 g.2 l.hi l.hm l.hx l.hf u)))
def asgk(s i:Nat)(o:IO)(c:Ct)(io:Ac)(np:Nat)(x:Str)(p:Pos)(e:Expr)(q:Pos):RS1 c io np (.Assign [.Name x p] e q) (sAsg io i (o.ev c.cf)) :=
 Option.or (ck3 (tt (Wg e)) (lok s i x) (up (o.rd c e)) λX E h l u=>zap E.nd l.hi l.hx l.hf E.mn l.hm u (zc7 h)) (ck2 (lok s i x) (up (o.rc c e)) λX E l r=>r E l)
structure IS where
 ex:CF->Ac->SM
 rd:∀[Cs](c:Ct)(io:Ac)(np:Nat)(st:Stmt),RS1 c io np st (ex c.cf io)
structure IB where
 ex:CF->Ac->SM
 rd:∀[Cs](c:Ct)(io:Ac)(np:Nat)(l:List Stmt),Ck (Es c io np) λX=>SB X c.mp io l (ex c.cf io)
 nl:Bool:=false
def IS.bad:IS where
 ex _ _:=zkR
 rd _ _ _ st:=ck0 λX _=>zlm
@[simp] theorem zey:(IS.bad).ex cf io=zkR:=rfl
def IS.a(s i:Nat)(o:IO):IS where
 ex cf io:=sAsg io i (o.ev cf)
 rd c io np st:=vAs st λt e q=>jb t λx p=>asgk s i o c io np x p e q
@[simp] theorem zew:(IS.a s i o).ex cf io=sAsg io i (o.ev cf):=rfl
def IS.t(t:IT)(e:IE):IS where
 ex cf _:=sAsgT t (e.ev cf).1
 rd c io np st:=vAs st λb x q=>zdc b λa n p=>ck3 (tt (jR x)) (tgk t (.Tuple a n p)) (up (e.rd c x)) λX E h g u=>zgg u.1 g (Jl h) (Qx h) (zak zC y8 (Jl h) (Qx h))
@[simp] theorem zck:(IS.t t e).ex cf io=sAsgT t (e.ev cf).1:=rfl
def IS.e(a:IE):IS where
 ex cf _:=sExpr (a.ev cf).1
 rd c io np st:=vEx st λx p=>ck2 (tt (jR x)) (up (a.rd c x)) λX E h u=>ziK u.1 (vQ h)
@[simp] theorem zco:(IS.e a).ex cf io=sExpr (a.ev cf).1:=rfl
def IS.f(d:IE)(a b:IB):IS where
 ex cf io:=sIf (d.ev cf).2 (a.ex cf io) (b.ex cf io)
 rd c io np st:=vIfS st λx xs e p=>ck3 (up (d.rd c x)) (a.rd c io np xs) (b.rd c io np e) λX E u v w=>zmF u.2 v w
@[simp] theorem zeA:(IS.f d a b).ex cf io=sIf (d.ev cf).2 (a.ex cf io) (b.ex cf io):=rfl
def IS.loop(t:IT)(src:II)(b:IB):IS where
 ex cf io:=sFor t (src.ev cf) (b.ex cf io)
 rd c io np st:=vFor st λa it body d p=>vN d (ck4 (tt (ZD it&& !c.tr)) (tgk t a) (up (src.rd c a it)) (b.rd c io np body) λX E h g u v=>zln (E.po (nt (xL.mp h).2)) E.T.calm u g v (VJ (xL.mp h).1))
@[simp] theorem zcr:(IS.loop t src b).ex cf io=sFor t (src.ev cf) (b.ex cf io):=rfl
def IS.ret(o:IO):IS where
 ex cf _:=sRet (o.ev cf)
 rd c io np st:=zmY st λx p=>vS x λy=>ck1 (up (o.rd c y)) λX E u=>zlp u
@[simp] theorem zeB:(IS.ret o).ex cf io=sRet (o.ev cf):=rfl
def IS.app(s i:Nat)(e:IE):IS where
 ex cf _:=sApp i (e.ev cf).1
 rd c io np st:=vM1 st "append" λo b a q p=>jb o λx p=>ck4 (up (nmk s i x)) (tt (zS a)) (tt (b.endLine==q.line)) (up (e.rd c a)) λX E n h l u=>zlk n u.1 (zV h) l
@[simp] theorem zev:(IS.app s i e).ex cf io=sApp i (e.ev cf).1:=rfl
def IS.set(s i:Nat)(l o:IE):IS where
 ex cf _:=sSet i (l.ev cf).1 (o.ev cf).1
 rd c io np st:=vAs st λt a q=>Yo t λy b e=>jb y λx p=>ck4 (up (nmk s i x)) (tt (j8 b&&Wg a)) (up (l.rd c b)) (up (o.rd c a)) λX E n h u v=>by
  rw[xf]at h;erw[zlq n u.1 v.1 (V3 h.2) vM (λhe hg=>zak he hg (V3 h.2) vM) (λho hi d=>zkB ho hi d (Km h.1))]
@[simp] theorem zeC:(IS.set s i c l).ex cf io=sSet i (c.ev cf).1 (l.ev cf).1:=rfl
def IS.ins(s i:Nat)(l r:IE):IS where
 ex cf _:=zam i (l.ev cf).1 (r.ev cf).1
 rd c io np st:=vMs st λo f d xs q e=>dq ("insert" :Str) f (jb o λx p=>v2 xs λb a=>ck4 (up (nmk s i x)) (tt (zS a&&zS b&&d.endLine==q.line)) (up (l.rd c b)) (up (r.rd c a)) λX E n h u v=>by
  simp only[xf]at h;exact zlo n u.1 v.1 (zV h.1.2) (zV h.1.1) h.2)
@[simp] theorem zez:(IS.ins s i ie ve).ex cf io=zam i (ie.ev cf).1 (ve.ev cf).1:=rfl
def IS.raise(x:Str):IS where
 ex _ _:=sRaise x
 rd c io np st:=vRai st λb z p=>vS b λe=>vO z (vF1 e λf m a q=>dq x f (kO a λd l pc=>zi0 d λi=>ck3 (up (glk x)) (tt (c.W.ex.contains x)) (tt (!c.tr)) λX E g h t=>by
  let(C,j,k):=E.T.xl.ex x h;exact zgh #[g.1,j,k,g.2] E.T.calm (E.rz (nt t))))
@[simp] theorem KZ:(IS.raise x).ex cf io=sRaise x:=rfl
def IS.tryq(b:IB)(i:List (Str×Nat×Nat×HC)):IS where
 ex cf io:=zfS io (b.ex cf io) i
 rd c io np st:=vTry st λbody a d fin p=>vN d (vN fin (vC a λhd e=>ck2 (hdk i (hd::e)) (cx (b.rd { c with tr:=true } io np body)) λX E h u=>zlr E.mn h λpins D=>
  u _ #[#[#[E.S.hN,E.S.vis,E.S.loc,E.S.cel,E.S.fre,E.S.glo],#[E.T.bi,E.T.gi,E.T.gs,E.T.fn,E.T.rm,E.T.hk,E.T.calm,E.T.gd,λc f h=>#[(E.T.fk c f h).cl,(E.T.fk c f h).no],E.T.mc,E.T.ml,E.T.xl,zkO E.st E.fr E.nd E.T.xl h pins D,E.T.sk]],λh=>(nomatch h),λh=>(nomatch h),E.st,E.fr,E.nd,E.mn,E.io]))
@[simp] theorem zlI:(IS.tryq b o).ex cf io=zfS io (b.ex cf io) o:=rfl
def IS.aug(s i:Nat)(e:IE):IS where
 ex cf _:=zfR i (e.ev cf).1
 rd c io np st:=vAug st λt op v p=>dq .Add op (jb t λx px=>ck3 (lok s i x) (up (nmk s i x)) (up (e.rd c v)) λX E l n u=>zll n E.nd l.hx l.hf u.1)
@[simp] theorem zex:(IS.aug s i e).ex cf io=zfR i (e.ev cf).1:=rfl
def IS.star(s i t j:Nat)(e:IE):IS where
 ex cf io:=sStar io i j (e.ev cf).1
 rd c io np st:=vAs st λg v q=>zdc g λf k n=>v2 f λa b=>jb a λx px=>vStr b λd pc=>jb d λy py=>ck4 (tt (jR v)) (lok s i x) (lok t j y) (up (e.rd c v)) λX E h l m u=>ziN E.T.calm E.nd E.mn l.hi l.hx l.hf l.hm m.hi m.hx m.hf m.hm u.1 (Jl h) (Qx h)
@[simp] theorem zcs:(IS.star s i t j e).ex cf io=sStar io i j (e.ev cf).1:=rfl
def IS.fset(s i:Nat)(cl f:Str)(o:IO):IS where
 ex cf _:=sFset i cl f (o.ev cf)
 rd c io np st:=vAs st λt e q=>vFd t f λx p a=>ck2 (up (flk s i x cl f)) (up (o.rd c e)) λX E n u=>ziM n.1 n.2 u zc8
@[simp] theorem zcq:(IS.fset s i cl f o).ex cf io=sFset i cl f (o.ev cf):=rfl
def IS.fapp(s i:Nat)(cl f:Str)(z:IZ):IS where
 ex _ _:=sFapp i cl f z
 rd c io np st:=vM1 st "append" λo b a q e=>vFd o f λx p d=>ck4 (up (flk s i x cl f)) (tt (zS a)) (tt (b.endLine==q.line)) (zk z a) λX E n h l u=>ziL n.1 n.2 u (zV h) l
@[simp] theorem zcp:(IS.fapp s i cl f z).ex cf io=sFapp i cl f z:=rfl
def IS.dupd(s i:Nat)(e:IE):IS where
 ex cf _:=sDupd i (e.ev cf).1
 rd c io np st:=vM1 st "update" λo b a q p=>jb o λx p=>ck4 (up (nmk s i x)) (tt (zS a)) (tt (b.endLine==q.line)) (up (e.rd c a)) λX E n h l u=>ziJ n u.1 (zjm h l)
@[simp] theorem zcn:(IS.dupd s i e).ex cf io=sDupd i (e.ev cf).1:=rfl
def IS.u(s i:Nat)(B G:IE):IS where
 ex cf _:=JE i (B.ev cf).1 (G.ev cf).1
 rd c io np st:=vAs st λt a q=>Yo t λy b d=>jb y λx p=>ck3 (up (nmk s i x)) (up (B.rd c b)) (up (G.rd c a)) λX E n u v=>ziI (W5 E.T) n v.1 u.1 zgo
@[simp] theorem zcm:(IS.u s i ie ve).ex cf io=JE i (ie.ev cf).1 (ve.ev cf).1:=rfl
def IS.dpop(s i:Nat)(e:IE):IS where
 ex cf _:=ku i (e.ev cf).1
 rd c io np st:=vM1 st "pop" λo b a q p=>jb o λx p=>ck4 (up (nmk s i x)) (tt (zS a)) (tt (b.endLine==q.line)) (up (e.rd c a)) λX E n h l u=>ziH n u.1 (zjm h l)
@[simp] theorem zcl:(IS.dpop s i e).ex cf io=ku i (e.ev cf).1:=rfl
def IB.nil:IB where
 ex _ _:=sNext
 rd _ _ _ l:=vN l (ck0 λX _=>zkU)
 nl:=true
def cB1{b:Bool}{α:Type}{f g:α}(h:b=true):(bif b then f else g)=f:=by rw[h];rfl
def cB2{b:Bool}{α:Type}{f g:α}(h:b=false):(bif b then f else g)=g:=by rw[h];rfl
def IB.cons(s:IS)(b:IB):IB where
 ex cf io:=bif b.nl then s.ex cf io else sSeq (s.ex cf io) (b.ex cf io)
 rd c io np l:=if h:b.nl=true then v1 l λx=>ck1 (s.rd c io np x) λX _ u=>by rw[cB1 h];exact zkV u
  else vC l λx r=>ck2 (s.rd c io np x) (b.rd c io np r) λX _ u v=>by rw[cB2 (Bool.eq_false_iff.mpr h)];exact zh7 u v
def IB.disp(s i:Nat)(x:Str)(A:List (Str×Str))(n:Nat)(e:IE)(a:IA):IB where
 ex cf io:=sDisp io A cf i (e.ev cf).1 (a.ev cf)
 rd c io np l:=v2 l λC B=>vAs C λt v H=>jb t λr pr=>Yo v λd w G=>jb d λy py=>dq x y (zmY B λo J=>vS o λz=>vFn z λg pg as I=>dq r g (vC as λa1 as=>ck4 (ck3 (lok s i r) (up (nmk s i r)) (up (glk x)) λX _ l m g=>And.intro l (And.intro m g)) (tt (c.W.gd.contains (x,A)&&(j8 w&&(A.all (λp=>c.W.fl.contains (p.2,n))&&(a1::as).all zS)))) (up (e.rd c w)) (up (a.rd c (a1::as))) λX E l h u v=>by
  simp only[xf]at h;let(j,q,k,b):=h;rw[uf,xf]at b;let(l,m,g):=l;refine zh8 (E.T.gd x A j) g.1 g.2 E.T.px (λkey f hf=>E.T.fn f n (xH.mp k _ (jf hf))) E.T.rm u.1
   (ziQ (E.T.gd x A j) g.1 g.2 ?_ E.nd l.hi l.hx rfl l.hf) l.hi m.hv m.hd m.hcd E.mn l.hm v (zV b.1) (jP (Qv b.2))
  intro F D;cases w<;>first | rfl | (cases q)))
@[simp] theorem zdT:IB.nil.ex cf io=sNext:=rfl
@[simp] theorem zdU:(IB.cons s .nil).ex cf io=s.ex cf io:=rfl
@[simp] theorem zbM:(IB.cons s (.cons t b)).ex cf io=sSeq (s.ex cf io) ((IB.cons t b).ex cf io):=rfl
@[simp] theorem zbN:(IB.disp s i x o n e a).ex cf io=sDisp io o cf i (e.ev cf).1 (a.ev cf):=rfl
@[simp] theorem zbL:(IB.cons t (.disp s i x o n e a)).ex cf io=sSeq (t.ex cf io) ((IB.disp s i x o n e a).ex cf io):=rfl
inductive Kd where|fn|me (c m:Str)|ini (c:Str)
 deriving DecidableEq
structure DefI where
 name:Str
 st:Stmt
 ps:Ab
 N:Ab
 mask:List Bool
 io:Ac
 body:IB
 kd:Kd:=.fn
def outs:List Bool->Gv->List (Option OV)|[],_=> []|_::bs,[]=>none::outs bs []|b::bs,x::U=>(if b then x else none)::outs bs U
def vp:∀(bs:List Bool)(U:Gv),↑(outs bs U)=↑bs|[],_=>rfl|_::bs,[]=>by rw[outs,xz,vp,xz]|b::bs,x::U=>by rw[outs,xz,vp,xz]
def vo:∀{bs:List Bool}{U:Gv}{j:Nat}{o:OV},(outs bs U)[j]?\(some o)->bs[j]?\true/\U[j]?\(some o)
 |[],_,_,_,h=>by simp[outs]at h
 |b::bs,[],0,_,h=>by simp[outs]at h
 |b::bs,[],j+1,o,h=>by
  have:=vo (U:= []) (by simpa [outs] using h);simp at this
 |b::bs,x::U,0,o,h=>by
  simp only[outs,List.getElem?_cons_zero,Option.some.injEq]at h;grind
 |b::bs,x::U,j+1,o,h=>by
  have:=vo (U:=U) (by simpa [outs] using h);simpa using this
def fin(mask:List Bool):R (FL×Gv)->RF|.ok (.ret o,U)=>.ok o (outs mask U)|.ok (.next,U)=>.ok (.d .none) (outs mask U)|.exc x U=>.exc x (outs mask U)|_=>.bad
def DefI.run(d:DefI)(cf:CF)(args:List OV):RF:=if ↑args=d.mask.length then fin d.mask (d.body.ex cf d.io (args.map some++List.replicate (d.N.length-d.mask.length) none)) else .bad
def DefI.run_lenX{d:DefI}(h:d.run cf args≠ .bad):↑args=d.mask.length:=by
 unfold DefI.run at h
 split at h
 ·assumption
 ·erw[absurd rfl h]
def DefI.ran(d:DefI)(cf:CF):Ran d.mask.length (d.run cf):=λ_=>DefI.run_lenX
def Vz(defs:List DefI):Nat->CF
 |0,_,_=>.bad
 |n+1,x,args=>match defs.find? λd=>decide (d.name=x) with
  |some d=>d.run (Vz defs n) args
  |none=>.bad
section
variable {M0:Ae}{F:Fp}{U:Gv}{Z:Nu}{H:Hp}
def RS.outs{mask:List Bool}{us:List V}(r:RS M0 F (U++ [some o]) (Z++ [some v]) H)(s:↑us=↑mask)(i:∀ j:Nat,mask[j]?\true->Z[j]?=(us[j]?).map some) :
  ∃ l,RS M0 l (L3.outs mask U++ [some o]) (us.map some++ [some v]) H/\Stp F H l H:=by
 let hl:↑Z=↑U:= ~~~r.len;let ho:=vp mask U;let lt:∀{j p},(L3.outs mask U++ [some o])[j]?\(some p)->j≠↑mask->mask[j]?\true/\j<↑U/\U[j]?\(some p)/\j<↑mask:=λ{j p} a d=>by
  let c:=(xa.mp a).1;simp[ho]at c;rw[xb (by lia)]at a;let b:=vo a;exact#[b.1,(xa.mp b.2).1,b.2,by lia]
 refine r.map (λj=>if j=↑mask then ↑U else j) (λj p a=>?_) (λj k o p e f=>?_) (by simp[ho,s])
 ·split
  ·subst j;rw[xr (by lia),ho]at a;simp at a;subst a;simp[hl,s]
  next d=>
   let(h0,c,b,g):=lt a d;rw[xb c,xb (by simp;lia),xb (by lia),xg,i j h0];exact#[b,rfl]
 ·let c:=@lt _ _ e;let b:=@lt _ _ f
  split<;>split<;>lia
end
def vI(N ps:Ab)(sc:Scope):Bool:=decide (sc.kind=.function)&& !sc.isCoroutine&& !sc.isGenerator&&decide N.Nodup&&decide (N.take ↑ps=ps)&&ps.all (λx=>decide (sc.names.lookup x\.local)||decide (sc.names.lookup x\.cell))&&sc.names.all (λy=>decide (y.2≠ .free))
def vJ(h:vI N ps sc=true):Zq N ps sc:=by
 unfold vI at h;simp only[xf,x0,xH,xV,Bool.not_eq_true']at h;let((((((a,b),c),d),e),f),g):=h;exact#[a,b,c,d,e,f,g]
def Ck.get{E P:Cx->Prop}{o:Ck E P}(h:o.isSome=true):∀ X,E X->P X:=by
 cases o with|none=>cases h|some u=>erw[u.1]
def IB.chk(cf:CF)(k:Nat)(W:Wd)(sc:Scope)(N:Ab)(io:Ac)(np:Nat)(b:IB)(l:List Stmt):Bool:=(b.rd #[cf,W,k,sc,N,List.range ↑N,false] io np l).isSome
def DefI.ok(W:Wd)(cf:CF)(k:Nat)(d:DefI):Bool:=vI d.N d.ps (defScope d.st)&&decide (d.ps.length=d.mask.length)&&d.io.all (λi=>decide (d.mask[i]?\true))&&(List.range d.mask.length).all (λj=>decide (d.mask[j]?≠some true)||d.io.contains j)
 && d.body.chk cf k W (defScope d.st) d.N d.io d.mask.length (defBody d.st)
abbrev DefI.Ok(W:Wd)(d:DefI):Prop:=∀ cf k,d.ok W cf k=true
structure WK(P:Ar)(w:World)(K:Ah)(mg:Aq)(base:Heap)(cf:CF)(W:Wd)(k:Nat):Prop where
 bi:∀ x,W.bi.contains x=true->mg x=none
 gi:∀ x i,W.gi.contains (x,i)=true->∃ t,mg x\(.int i t)
 gs:∀ x i,W.gs.contains (x,i)=true->∃ t,mg x\(.str i t)
 fn:∀ x n,W.fl.contains (x,n)=true->Kn P w K mg base (CX1 P w) x k (spX mg n (cf x))/\Ran n (cf x)
 gd:∀ x kf,W.gd.contains (x,kf)=true->GD w K mg x kf
 fk:∀ c f,W.fk.contains (c,f)=true->Cls K (Cs.adr c)/\NoAttr K (Cs.adr c) f
 mc:∀ c q n,W.mc.contains (c,q,n)=true->mg c\(.ref (Cs.adr c))/\(∃ j,j+1<=k/\KnI P w K mg base (CX1 P w) (Cs.adr c) j (spX mg n (cf q)))/\Ran n (cf q)
 ml:∀ c m q n,W.ml.contains (c,m,q,n)=true->KnM P w K mg base (CX1 P w) (Cs.adr c) m k (spX mg n (cf q))/\Ran n (cf q)
 xl:ExL K mg W.ex
def Lk(K:Ah)(mg:Aq)(f:Ap)(nm:Str):Kd->Prop|.fn=>mg nm\(.ref f)|.me c m=>Cls K (Cs.adr c)/\Ka K (Cs.adr c) m f|.ini c=>Mk K (Cs.adr c) f/\mg c\(.ref (Cs.adr c))
structure Dx(K:Ah)(mg:Aq)(d:DefI):Prop where
 ex:∃(x:Str)(f:Ap)(fd:FuncData),Fun K x d.name d.st f fd/\Binds K fd d.ps []/\Lk K mg f d.name d.kd
section
variable {P:Ar}{w:World}{K:Ah}{mg:Aq}{base:Heap}{cf:CF}{W:Wd}{k:Nat}
def zlH:XSc (Q9 CX0 P w K mg base N x sc f o A outer s H E).nox sc N where
 hN:=rfl
 vis x h:=by
  unfold zgA at h;simp only[xV,x0]at h;rcases h with (h | h) | h
  ·erw[.inl h]
  ·erw[.inr (.inl h)]
  ·erw[.inr (.inr h)]
 loc x h:=h
 cel x h:=#[h,rfl]
 fre x h:=.inr h
 glo x h:=by
  unfold zcw at h;simp only[x0]at h;erw[h]
def zi9:XSc (Q9 (CX1 P w) P w K mg base N x sc f o A outer s H E) sc N where
 hN:=rfl
 vis x h:=by
  unfold zgA at h;simp only[xV,x0]at h;rcases h with (h | h) | h
  ·erw[.inl h]
  ·erw[.inr (.inl h)]
  ·erw[.inr (.inr h)]
 loc x h:=h
 cel x h:=#[h,rfl]
 fre x h:=.inr h
 glo x h:=by
  unfold zcw at h;simp only[x0]at h;erw[h]
def zio:Sees (List.range n) Z Z:=λs i v a b=>by
 let c:s<n:=by
  have:=(xa.mp a).1;simpa using this
 rw[uu c]at a;cases a;erw[b]
def zkN{N:Ab}{x:Str}{sc:Scope}{f:Ap}{c:Aj}{A:Around}{outer:List Env}{s:Am}{H:Hp}{E:XK}:PxOk (Q9 (CX1 P w) P w K mg base N x sc f c A outer s H E):=λO pins H1 e d x C a b u=>Yx u rfl rfl rfl (b C a)
def zaR{st:Stmt}{f:Ap}{sp:Sp}(F:Fun K x qual st f fd)(S:Zq N ps (defScope st))(len:∀ c H Q E,sp c H Q E->↑c=↑ps)
  (o:∀(i:Aj)(A:Around)(outer:List Env)(s:Am)(H:Hp)(c:List V)(Q:VK)(E:XK),Room k (A.deeper (envOfC qual (defScope st) ⇑s f i))->sp c H Q E ->
   wpB (Q9 (CX1 P w) P w K mg base N qual (defScope st) f i A outer s H E) (defBody st) { nx:=λ_ l=>Q .non l,rt:=Q } (start N c) H):FnOk P w K mg base (CX1 P w) (k+1) f fd ps sp:=by
 let(g,h,kV,doc,pm,an,i,ct,e,rfl,d,hcd):=F.ex;erw[zjk d hcd S len λA outer s H c Q E b a=>#[_,Za,o i A outer s H c Q E b a]]
def zl0{d:DefI}{f:Ap}(D:Fun K x d.name d.st f fd)(hok:d.Ok W)(T:WK P w K mg base cf W k)(hk:1<=k):FnOk P w K mg base (CX1 P w) (k+1) f fd d.ps (spX mg d.mask.length (d.run cf)):=by
 replace hok:=hok cf k;unfold DefI.ok at hok;simp only[xf,x0,xH,xV]at hok;let((((Z,h2),h3),h4),h5):=hok;let S:=vJ Z;let Hd:d.mask.length<=d.N.length:=by
  have:=congrArg List.length S.pre;rw[xM]at this;lia
 refine zaR D S (λq H Q E h=>by rw[h.1,h2]) λX A outer s H q Q E hr Y=>?_;let(hv,u,F,args,rs,hm):=Y;let B:↑args=d.mask.length:=by have:=rs.len;simpa [hv] using this.symm
 let M:=rs.ext (d.N.length-d.mask.length);let L:L2.start d.N q=q.map some++List.replicate (d.N.length-d.mask.length) none:=by unfold L2.start;rw[hv]
 rw[L];let J:↑(q.map some++List.replicate (d.N.length-d.mask.length) none:L2.St)=d.N.length:=by simp[hv];lia
 erw[Ck.get h5 (Q9 (CX1 P w) P w K mg base d.N d.name (defScope d.st) f X A outer s H E) #[#[zi9,#[T.bi,T.gi,T.gs,T.fn,hr,hk,rfl,T.gd,λc f h=>#[(T.fk c f h).1,(T.fk c f h).2],T.mc,T.ml,T.xl,zkN,#[_,_,_,rfl,rfl,rfl]]],λ_=>PassesOwn.leaving,λ_ x O a h C y pins s1 I h' ea hm=>Y0 I rfl rfl rfl hm (h C y),rfl,rfl,S.nd,List.nodup_range,λi hi=>?_] u F _ _ _ H _ M zio J ?_]
 ·erw[(xa.mp (h3 i hi)).1]
 ·have back:∀{b:Fp}{r:Gv}{p:Nu}{o:OV}{v:V}{a:Hp}{G:Prop},RS u b (r++ [some o]) (p++ [some v]) a->(∀ i∈d.io,p[i]?=(q.map some++List.replicate (d.N.length-d.mask.length) none:Nu)[i]?)->Stp F H b a ->
    (∀ b,RS u b (outs d.mask r++ [some o]) (q.map some++ [some v]) a->Stp F H b a->G)->G:=λ{b r p o v a G} l g n hq=>by
   let(e,m,s2):=l.outs hv λj N=>by
    let t:=(xa.mp N).1;let R:j∈d.io:=by
     rcases h4 j (uN.mpr t)with z | z
     ·erw[absurd N z]
     ·simpa using z
    rw[g j R,xb (by simp[hv];exact t),xg]
   erw[hq e m (n.trans s2)]
  unfold DefI.run at hm;rw[if_pos B]at hm;generalize d.body.ex cf d.io (args.map some++List.replicate (d.N.length-d.mask.length) none)=rr at hm;cases rr with
  |bad=>erw[hm.elim]
  |exc x r=>erw[λb p U a l n _ _ g C y=>back (l.newD .none) g n λe m s2=>hm C y e a m s2]
  |ok z=>
   let(fl,r):=z;cases fl with
   |brk=>erw[hm.elim]
   |cnt=>erw[hm.elim]
   |next=>
    intro b p U a l n d5 cu g;erw[back (l.newD .none) g n λe m s2=>hm e _ a m s2]
   |ret o=>
    intro b p v a l n g;erw[back l g n λe m s2=>hm e v a m s2]
def zj4{d:DefI}(D:Fun K x d.name d.st f fd)(hok:d.Ok W):FnOk P w K mg base (CX1 P w) 1 f fd d.ps (spX mg d.mask.length λ_=>.bad):=by
 replace hok:=hok (λ_ _=>.bad) 0;unfold DefI.ok at hok;simp only[xf,x0]at hok;refine zaR D (vJ hok.1.1.1.1) (λb H Q E h=>by rw[h.1,hok.1.1.1.2]) λe A outer s H b Q E g a=>?_;let(hv,c,F,args,rs,hm):=a;erw[hm.elim]
def wOk(defs:List DefI)(W:Wd):Bool:=W.fl.all (λp=>okO (defs.find? λd=>decide (d.name=p.1)) λd=>decide (d.mask.length=p.2)&&decide (d.kd=.fn))
 && W.mc.all (λp=>okO (defs.find? λd=>decide (d.name=p.2.1)) λd=>decide (d.mask.length=p.2.2)&&decide (d.kd=.ini p.1))
 && W.ml.all (λp=>okO (defs.find? λd=>decide (d.name=p.2.2.1)) λd=>decide (d.mask.length=p.2.2.2)&&decide (d.kd=.me p.1 p.2.1))
def zbc{j:Nat}(hd:∀ d∈defs,Dx K mg d/\d.Ok W)(hw:wOk defs W=true)(r:∀ x,W.bi.contains x=true->mg x=none)
  (B:∀ x i,W.gi.contains (x,i)=true->∃ t,mg x\(.int i t)) (A:∀ x i,W.gs.contains (x,i)=true->∃ t,mg x\(.str i t))
  (hgd:∀ x o,W.gd.contains (x,o)=true->GD w K mg x o)
  (E:∀ c f,W.fk.contains (c,f)=true->Cls K (Cs.adr c)/\NoAttr K (Cs.adr c) f) (s:ExL K mg W.ex)
  (v:∀(d:DefI)(x:Str)(f:Ap)(fd:FuncData),defs.find? (λe=>decide (e.name=d.name))\d->Fun K x d.name d.st f fd->d.Ok W->FnOk P w K mg base (CX1 P w) j f fd d.ps (spX mg d.mask.length (cf d.name))/\Ran d.mask.length (cf d.name)) (z:j+1<=k) (H:2<=k):WK P w K mg base cf W k:=by
 unfold wOk at hw;simp only[xf,xH]at hw;let((u,C),G):=hw;let get:∀(x:Str)(n:Nat)(kd:Kd),okO (defs.find? λd=>decide (d.name=x)) (λd=>decide (d.mask.length=n)&&decide (d.kd=kd))=true->∃(d:DefI)(y:Str)(f:Ap)(fd:FuncData),d.name=x/\Fun K y d.name d.st f fd/\Binds K fd d.ps []/\Lk K mg f x kd/\FnOk P w K mg base (CX1 P w) j f fd d.ps (spX mg n (cf x))/\Ran n (cf x):=λx n kd h=>by
  let(d,e,h):=zaW h;simp only[xf,x0]at h;let(rfl,rfl):=h;let l:=List.mem_of_find?_eq_some e;let p:d.name=x:=by simpa using List.find?_some e
  subst p;let(D,ok):=hd d l;let(y,f,fd,F,hb,a):=D.ex;let(b,g):=v d y f fd e F ok;exact#[d,y,f,fd,rfl,F,hb,a,b,g]
 refine#[r,B,A,λx n h=>?_,hgd,E,λc q n h=>?_,λc m q n h=>?_,s]
 ·let(d,y,f,fd,e,F,hb,a,b,g):=get x n .fn (u (x,n) (ud.mp h));exact#[#[f,fd,d.ps,b.mono (by lia),a,F.kp,hb],g]
 ·let(d,y,f,fd,e,F,hb,a,b,g):=get q n (.ini c) (C (c,q,n) (ud.mp h));exact#[a.2,#[j,z,f,fd,d.ps,b,a.1,hb],g]
 ·let(d,y,f,fd,e,F,hb,a,b,g):=get q n (.me c m) (G (c,m,q,n) (ud.mp h));exact#[#[f,fd,d.ps,b.mono (by lia),a.1,a.2,hb],g]
def wk_all{defs:List DefI}(hd:∀ d∈defs,Dx K mg d/\d.Ok W)(hw:wOk defs W=true)(o:∀ x,W.bi.contains x=true->mg x=none)
  (v:∀ x i,W.gi.contains (x,i)=true->∃ t,mg x\(.int i t)) (s:∀ x i,W.gs.contains (x,i)=true->∃ t,mg x\(.str i t))
  (hgd:∀ x z,W.gd.contains (x,z)=true->GD w K mg x z)
  (y:∀ c f,W.fk.contains (c,f)=true->Cls K (Cs.adr c)/\NoAttr K (Cs.adr c) f) (r:ExL K mg W.ex):∀ n,WK P w K mg base (Vz defs n) W (2*n+2)
 |0=>zbc hd hw o v s hgd y r (λd x f fd _ F ok=>#[zj4 F ok,λargs e=>absurd rfl e]) (by lia) (by lia)
 |n+1=>zbc hd hw o v s hgd y r (λd x f fd e F ok=>by
   let a:Vz defs (n+1) d.name=d.run (Vz defs n):=by
    funext args;rw[Vz,e]
   rw[a];exact#[zl0 F ok (wk_all hd hw o v s hgd y r n) (by lia),d.ran _]) (by lia) (by lia)
def QO(cells:List Int)(i l t s:Int):OV:=.l [.d (.list (cells.map .int)),.d (.int i),.d (.int l),.d (.int t),.d (.int s)]
def law_ok {st:Stmt}{x:Str}{U:Nat}{body:IB}{pos' p3 p2 p pos:Pos}(Fn:Fun K "law" "law" st fa fd) (hS:vI N ["_law_script"] (defScope st)=true) (u0:Kn P w K mg base CX0 "_law_box" U (zgf K)) (Y:U<=k) (T:WK P w K mg base cf W k) (hk:1<=k)
  (hb:defBody st=.Assign [.Name x pos'] (.Call (.Name "_law_box" p3) [.Name "_law_script" p2] [] p) pos::(defBody st).tail) (Gu:N[0]?\("_law_script" :Str)) (J:N[1]?\x) (sr:(defScope st).names.lookup ("_law_script" :Str)=some .local) (hx:Loc (defScope st) x) (hg:(defScope st).names.lookup ("_law_box" :Str)=some .globalImplicit)
  (Z:∀ cf k,body.chk cf k W (defScope st) N [] 0 (defBody st).tail=true)
  (aq:∀ (cells:List Int) (i l t s:Int),0<=i->∃ r,body.ex cf [] (none::some (QO cells i l t s)::List.replicate (↑N-2) none)=.ok (.ret (.d (.bool true)),r)):FnOk P w K mg base CX0 (k+1) fa fd ["_law_script"] (za6 K):=by
 let S:=vJ hS;erw[Fn.law S λL A outer s H Q E a ns O Gr hlen kk=>?_];let D:2<=↑N:=by have:=(xa.mp J).1;lia
 rw[hb];erw[zlE (X:=(Q9 CX0 P w K mg base N "law" (defScope st) fa L A outer s H E).nox) (N:=N) S.nd u0 (O.mono Y) Gr hlen (λb u H1 s1 nb hB G l1=>?_) rfl Gu J (.inl sr) hx (.inl rfl) hg rfl rfl];let(c,cells,i,l,t,sd,B):=hB;have F:u[1]?\(some (.ref b)):=G.av 1 (.ref b) (by
  rw[xk];simp;exact D)
 let C:∀ j a,a∈fset (λ_=> []) 1 [b] j->j=1/\a=b:=λj a h=>by
  by_cases m:j=1
  ·subst m;rw[zM]at h;exact#[rfl,~~~h]
  ·rw[zR m]at h;cases h
 let hM:∀ a,MM qr (fset (λ_=> []) 1 [b]) a->a=b:=λa h=>by
  rcases h with h | ⟨j,h⟩
  ·erw[h.elim]
  ·erw[(C j a h).2]
 let rs:RS qr (fset (λ_=> []) 1 [b]) (none::some (QO cells i l t sd)::List.replicate (↑N-2) none) (none::some (.ref b)::List.replicate (↑N-2) none) H1:=by
  refine#[λa h=>h.elim,λj a h z=>z,λj=>?_,λj k a h1 h2=>by rw[(C j a h1).1,(C k a h2).1],λj o e=>?_,λj h=>?_,by simp]
  ·by_cases m:j=1
   ·subst m;rw[zM];exact xG.mpr #[(λz=>nomatch z),.nil]
   ·rw[zR m];exact .nil
  ·match j,e with
   |0,e=>simp at e
   |1,e=>
    let e':QO cells i l t sd=o:= ~~~e;subst e';refine#[.ref b,rfl,?_];rw[zM];erw[.l B.hb (.cons (.d (B.hc.less λa ha _=>hM a ha)) (.cons (.d (.int _)) (.cons (.d (.int _)) (.cons (.d (.int _)) (.cons (.d (.int _)) .nil)))))]
   |j+2,e=>
    rw[um,um,xQ]at e
    split at e<;>cases e
  ·by_cases m:j=1
   ·subst m;exact absurd rfl (h (QO cells i l t sd))
   ·rw[zR m]
 let sees:Sees (List.range ↑N) (none::some (.ref b)::List.replicate (↑N-2) none) u:=λI j v y g=>by
  let hs:I<↑N:=by
   have:=(xa.mp y).1;simpa using this
  rw[uu hs]at y;cases y
  match I,g with
  |0,g=>simp at g
  |1,g=>
   have:V.ref b=v:= ~~~g;subst this;exact F
  |j+2,g=>
   rw[um,um,xQ]at g
   split at g<;>cases g
 let(r,er):=aq cells i l t sd B.hi;erw[Ck.get (Z cf k) (Q9 CX0 P w K mg base N "law" (defScope st) fa L A outer s H E).nox #[#[zlH,#[T.bi,T.gi,T.gs,T.fn,O,hk,rfl,T.gd,λc f h=>#[(T.fk c f h).1,(T.fk c f h).2],T.mc,T.ml,T.xl,λ_ _ _ _ _ _ _ _ h=>h.elim,#[_,_,_,rfl,rfl,rfl]]],λ_=>PassesOwn.never,λ_ _ _ _ h=>h.elim,rfl,rfl,S.nd,List.nodup_range,λi hi=>nomatch hi] qr _ _ _ u H1 _ rs sees l1 ?_];rw[er];intro F' Z' v H' R I hn;let(w',M,q):=R.at' ↑r (.d (.bool true)) (by rw[xr (xh _)];simp);let hlen:=R.len;have n:↑Z'=↑r:= ~~~hlen;rw[xr (by lia),n]at M;have:v=w':= ~~~M;subst this;generalize F' ↑r=Az at q;cases q with|d q=>cases q;exact kk H'
end
def csOf(mg:Aq):Cs:=⟨λx=>match mg x with|some (.ref C)=>C|_=>0⟩
def yA(h:mg c\(.ref C)):(csOf mg).adr c=C:=by
 show (match mg c with|some (.ref C)=>C|_=>0)=C
 rw[h]
section
variable {K:Ah}{mg:Aq}{h:Heap}{d:DefI}
def dx_fn(hk:d.kd=.fn)(D:Df K mg d.name d.st d.ps): @Dx (csOf mg) K mg d:=by
 let(f,fd,F,hm,hb):=D.ex;exact @Dx.mk (csOf mg) _ _ _ #[d.name,f,fd,F,hb,by rw[hk];exact hm]
structure ClsOf(K:Ah)(c:Str)(C:Ap):Prop where
 n:PySem.W.nsIn K mainGlobals c\(some (.ref C))
 cl:Cls K C
structure Dm(K:Ah)(q c m:Str)(st:Stmt)(ps:Ab):Prop where
 ex:∃(C f:Ap)(fd:FuncData),ClsOf K c C/\Fun K m q st f fd/\Binds K fd ps []/\Ka K C m f
structure Di(K:Ah)(q c:Str)(st:Stmt)(ps:Ab):Prop where
 ex:∃ (C f:Ap) (fd:FuncData),ClsOf K c C/\Fun K "__init__" q st f fd/\Binds K fd ps []/\Mk K C f
def Dm.of{q c m:Str}{st:Stmt}{ps:Ab}{v:Aj}{B an:Option Ap}{sl:Array (Option Aj)}{kV s pm cd ct:Aj}(o:ClsOf K c C)(a:PySem.W.findIn K (.ref C) m\(some (.ref f)))(fn:PySem.W.isFn K (.ref f)=true)
  (l:K.lookup f\#[v,B,.func (PySem.W.fnOf m q (jp st) (defBody st) (defScope st) .none kV s pm an cd ct),sl]) (e:PySem.W.codeIn K cd q=true) (k:PySem.W.keepIn K (.ref f)=true)
  (hb:∀(kV doc pm:Aj)(an:Option Ap)(r ct:Aj)(us:An),↑us=↑ps->bindArgs (PySem.W.fnOf m q (jp st) (defBody st) (defScope st) .none kV doc pm an r ct) #[us,[]]=pure (ps.zip us)):Dm K q c m st ps :=
 #[C,f,_,o,Je l e k,(Je l e k).binds hb,a,fn,k]
def Di.of {q c:Str}{st:Stmt}{ps:Ab}{B:Aj}{E an:Option Ap}{sl:Array (Option Aj)}{kV s pm cd ct:Aj}(o:ClsOf K c C) (mk:PySem.W.makesIn K C=true) (a:PySem.W.findIn K (.ref C) "__init__" =some (some (.ref f))) (fn:PySem.W.isFn K (.ref f)=true) (v:PySem.W.keepIn K (.ref C)=true)
  (l:K.lookup f\#[B,E,.func (PySem.W.fnOf "__init__" q (jp st) (defBody st) (defScope st) .none kV s pm an cd ct),sl]) (e:PySem.W.codeIn K cd q=true) (k:PySem.W.keepIn K (.ref f)=true)
  (hb:∀ (kV doc pm:Aj) (an:Option Ap) (r ct:Aj) (us:An),↑us=↑ps->bindArgs (PySem.W.fnOf "__init__" q (jp st) (defBody st) (defScope st) .none kV doc pm an r ct) #[us,[]]=pure (ps.zip us)):Di K q c st ps :=
 #[C,f,_,o,Je l e k,(Je l e k).binds hb,mk,a,fn,v]
def dx_me(X:K.In h)(G:h.Ns mainGlobals mg)(hk:d.kd=.me c m)(D:Dm K d.name c m d.st d.ps): @Dx (csOf mg) K mg d:=by
 let(C,f,fd,o,F,hb,hm):=D.ex;erw[@Dx.mk (csOf mg) _ _ _ #[m,f,fd,F,hb,?_]];rw[hk];show Cls K ((csOf mg).adr c)/\Ka K ((csOf mg).adr c) m f;rw[yA (PySem.W.mg_of X G o.n)];exact#[o.cl,hm]
def dx_ini(X:K.In h)(G:h.Ns mainGlobals mg)(hk:d.kd=.ini c)(D:Di K d.name c d.st d.ps): @Dx (csOf mg) K mg d:=by
 let(C,f,fd,o,F,hb,hm):=D.ex;erw[@Dx.mk (csOf mg) _ _ _ #["__init__",f,fd,F,hb,?_]];rw[hk];show Mk K ((csOf mg).adr c) f/\mg c\(.ref ((csOf mg).adr c));rw[yA (PySem.W.mg_of X G o.n)];exact#[hm,PySem.W.mg_of X G o.n]
def zlZ(X:K.In h)(G:h.Ns mainGlobals mg)(o:ClsOf K c C)(n:NoAttr K C f):Cls K ((csOf mg).adr c)/\NoAttr K ((csOf mg).adr c) f:=by
 rw[yA (PySem.W.mg_of X G o.n)];exact#[o.cl,n]
end
end Lake.L3
namespace Lake.Wx
open PySem L2 L3
scoped instance noCs:L2.Cs:=#[λ_=>0]
section
local macro_rules|`(#[$a])=>`(.cons $a .nil)|`(#[$a,$b,*])=>`(.cons $a #[$b,*])|`(.($n:num))=>`(.x $n $n)|`(($n:num :))=>`(.k $n)
def Ql:IB:=#[.a 2 2 (.dat (.n .Mod (.n .Add (.n .Add (.n .Mult .(0) (48271:)) (.n .Mult .(1) (69621:))) (12345:)) (2147483647:))),.a 3 3 (.dat (.n .Mod (.n .Add (.n .Add (.n .Mult .(2) (.n .Add (.n .Mod .(2) (65521:)) (7:))) (.n .Mult .(1) (40692:))) (.n .Mod .(0) (104729:))) (998244353:))),.ret (.dat (.n .FloorDiv .(3) (7:)))]
def jO:IB:=#[.set 0 0 (3:) (.n .Add (.ix .(0) (3:)) (1:)),.f (.p .Gt (.ix .(0) (2:)) (0:)) #[.a 2 2 (.dat (.ix .(0) (2:))),.set 0 0 (2:) (.n .FloorDiv .(2) .(1)),.ret (.dat (.n .Mod .(2) .(1)))] .nil,.f (.p .GtE (.ix .(0) (1:)) (.len (.ix .(0) (0:)))) #[.ret (.dat (.n .Mod (.call (.call "_law_mixed" 2 #[.ix .(0) (4:),.ix .(0) (3:)])) .(1)))] .nil,.a 3 3 (.dat (.ix (.ix .(0) (0:)) (.ix .(0) (1:)))),.set 0 0 (1:) (.n .Add (.ix .(0) (1:)) (1:)),.f (.p .Lt .(3) (.n .Pow (10:) (18:))) #[.ret (.dat (.n .Mod (.call (.call "_law_mixed" 2 #[.(3),.ix .(0) (3:)])) .(1)))] .nil,.set 0 0 (2:) (.n .FloorDiv .(3) .(1)),.ret (.dat (.n .Mod .(3) .(1)))]
def jao:IB:=#[.f (.or .(2) (.p .Gt (.call (.call "_law_take" 2 (.io 0 0 #[(4:)]))) (0:))) #[.ins 3 3 (.call (.call "_law_take" 2 (.io 0 0 #[.n .Add (.len .(3)) (1:)]))) .(4)] .nil]
def Q0:IB:=#[.a 3 3 (.own (.lst .nil)),.loop (.nm 4 4) (.list .(1)) jao,.ret (.move 3 3)]
def jbf:IE:=.tup #[.ix (.ix (.x 1 0) (.x 0 1)) (0:),.b false,.ix (.ix (.x 1 0) (.x 0 1)) (2:)]
def QZ:IB:=#[.ret (.own (.comp 1 1 [0] ["_law_at","_law_rows"] (.nm 0 1) (.range (.len .(0))) .yes jbf))]
def jbl:IE:=.call (.call "has_cell" 2 #[.x 1 0,.x 0 2])
def ja3:IE:=.tup #[.x 1 3,.or (.x 2 4) (.p .In (.x 0 2) (.x 4 1)),.x 3 5]
def Zm:IB:=#[.f (.not (.all (.new (.comp 2 1 [0] ["at","bolt"] (.nm 0 2) (.tup .(1)) .yes jbl)))) #[.raise "NoCell"] .nil,.f (.p .NotEq (.lset .(1)) (.len .(1))) #[.raise "Twice"] .nil,.ret (.own (.comp 2 4 [1] ["at","stain","waxed","wish","cells"] (.tp #[.nm 0 2,.tp #[.nm 1 3,.nm 2 4,.nm 3 5]]) (.enum .(0)) .yes ja3))]
def Zl:IB:=#[.ret (.dat (.h .LtE .Lt (0:) .(1) (.len .(0))))]
def ja7:IB:=#[.ret (.dat (.ix (.new (.lst #[.neg (1:),.(1),.n .Add (.n .Add .(1) (1:)) (.call (.call "_law_take" 2 (.io 0 0 #[(50:)]))),.n .Sub (.neg (1:)) .(1)])) (.call (.call "_law_take" 2 (.io 0 0 #[(4:)])))))]
def jd:IB:=.cons (.f (.and (.p .Gt .(1) (0:)) (.p .Gt (.call (.call "_law_take" 2 (.io 0 0 #[(7:)]))) (0:))) #[.ret (.call "_law_take" 2 (.io 0 0 #[.(1)]))] .nil) ja7
def jal:IB:=#[.f (.p .Eq .(2) (0:)) #[.app 4 4 (.call (.call "_law_place" 2 (.io 0 0 #[.(1)])))] #[.a 6 6 (.dat (.call (.call "_law_take" 2 (.io 0 0 #[.n .Add .(1) (1:)])))),.f (.and (.p .Lt .(6) .(1)) (.p .NotIn .(6) .(4))) #[.app 4 4 .(6)] .nil]]
def j7:IB:=#[.a 2 2 (.dat (.call (.call "_law_take" 2 (.io 0 0 #[(3:)])))),.a 3 3 (.dat (.call (.call "_law_take" 2 (.io 0 0 #[(7:)])))),.f (.and (.p .Eq .(2) (2:)) (.p .Eq .(3) (0:))) #[.ret (.dat (.tuple (.new (.back (.new (.lrng .(1))) (.neg (1:))))))] .nil,.a 4 4 (.own (.lst .nil)),.loop (.nm 5 5) (.range .(3)) jal,.ret (.dat (.tuple .(4)))]
def jae:IB:=#[.f (.or (.p .Lt .(2) (0:)) (.p .GtE .(2) .(1))) #[.ret (.dat (.q "NoCell"))] .nil]
def qQ:IB:=#[.loop (.nm 2 2) (.tup .(0)) jae,.f (.p .Lt (.lset .(0)) (.len .(0))) #[.ret (.dat (.q "Twice"))] .nil,.ret (.dat (.q ""))]
def ja9:IE:=.tup #[.ix (.ix (.x 1 0) (.x 0 2)) (0:),.or (.ix (.ix (.x 1 0) (.x 0 2)) (1:)) (.p .In (.x 0 2) (.x 2 1)),.ix (.ix (.x 1 0) (.x 0 2)) (2:)]
def JP:IB:=#[.ret (.own (.comp 2 1 [0,1] ["_law_at","_law_rows","_law_cells"] (.nm 0 2) (.range (.len .(0))) .yes ja9))]
def ja0:IE:=.and (.not (.x 1 3)) (.p .GtE (.ix (.x 0 2) (.x 3 1)) (.j "DEEPEST" (9)))
def ja1:IE:=.tup #[.f (.x 1 3) (.x 0 2) (.call (.call "deepened" 2 #[.x 0 2,.x 3 1])),.x 1 3,.x 2 4]
def ZO:IB:=#[.f (.any (.new (.comp 2 3 [1] ["stain","waxed","wish","dye"] (.tp #[.nm 0 2,.nm 1 3,.nm 2 4]) (.list .(0)) .yes ja0))) #[.raise "TooDeep"] .nil,.ret (.own (.comp 2 3 [1] ["stain","waxed","wish","dye"] (.tp #[.nm 0 2,.nm 1 3,.nm 2 4]) (.list .(0)) .yes ja1))]
def Jj:IB:=#[.ret (.dat (.n .Add (.n .Add (.cutT .(0) .non (.one .(1))) (.tup #[.n .Add (.ix .(0) .(1)) (1:)])) (.cutT .(0) (.one (.n .Add .(1) (1:))) .non)))]
def jap:IE:=.n .Add (.ix (.x 1 3) (.x 0 6)) (.int (.p .Eq (.x 0 6) (.x 2 1)))
def ja4:IB:=#[.f (.not .(4)) #[.a 3 3 (.dat (.tuple (.new (.comp 6 1 [3,1] ["_law_k","_law_stain","_law_dye_here"] (.nm 0 6) (.range (.len .(3))) .yes jap))))] .nil,.app 2 2 (.tup #[.(3),.(4),.(5)])]
def ZI:IB:=#[.a 2 2 (.own (.lst .nil)),.loop (.tp #[.nm 3 3,.nm 4 4,.nm 5 5]) (.list .(0)) ja4,.ret (.move 2 2)]
def ja5:IE:=.and (.not (.ix (.x 0 2) (1:))) (.p .Eq (.ix (.ix (.x 0 2) (0:)) .(1)) (9:))
def ZU:IB:=#[.ret (.dat (.any (.new (.comp 2 1 [1] ["_law_cell_here","_law_dye"] (.nm 0 2) (.list .(0)) .yes ja5))))]
def j9:IB:=#[.f (.not (.call (.call "has_cell" 2 #[.(0),.(1)]))) #[.raise "NoCell"] .nil,.t (.tp #[.nm 3 3,.nm 4 4,.nm 5 5]) (.ix .(0) .(1)),.f (.not (.call (.call "is_picture" 2 #[.(2),.len .(3)]))) #[.raise "BadWish"] .nil,.ret (.own (.cat (.new (.cat (.new (.cut .(0) .non (.one .(1)))) (.new (.lst #[.tup #[.(3),.(4),.(2)]])))) (.new (.cut .(0) (.one (.n .Add .(1) (1:))) .non))))]
def jbc:IE:=.h .LtE .LtE (0:) (.x 0 2) (.j "DEEPEST" (9))
def Zf:IB:=#[.ret (.dat (.and (.p .Eq (.len .(0)) .(1)) (.all (.new (.comp 2 1 [] ["shade"] (.nm 0 2) (.tup .(0)) .yes jbc)))))]
def jbj:IE:=.tup #[.x 0 1,.b false,.x 2 3]
def vq:IB:=#[.ret (.own (.comp 1 3 [] ["stain","waxed","wish"] (.tp #[.nm 0 1,.nm 1 2,.nm 2 3]) (.list .(0)) .yes jbj))]
def ZB:IB:=#[.ret (.dat (.q "abcdefghijklmnopqrstuvwxyz"))]
def ja6:IE:=.six (.call (.call "_law_letters" 0 .nil)) (.call (.call "_law_take" 2 (.io 1 0 #[(26:)])))
def Qm:IB:=#[.a 1 1 (.dat (.n .Add (1:) (.call (.call "_law_take" 2 (.io 0 0 #[(8:)]))))),.ret (.dat (.join "" (.new (.comp 2 1 [0] ["_law_k","_law_box_here"] (.nm 0 2) (.range .(1)) .yes ja6))))]
def ja2:IE:=.sin (.x 0 1) (.gstr "LETTERS" "abcdefghijklmnopqrstuvwxyz")
def jT:IB:=#[.ret (.dat (.and (.h .LtE .LtE (1:) (.slen .(0)) (.j "MOST_LETTERS" (8))) (.all (.new (.comp 1 1 [] ["sign"] (.nm 0 1) (.chars .(0)) .yes ja2)))))]
def qT:IB:=#[.bad]
def jax:IE:=.tup #[.x 1 2,.b false,.x 1 2]
def jbi:IB:=#[.a 2 2 (.dat (.n .Mult (.tup #[(0:)]) .(0))),.ret (.own (.comp 3 1 [2] ["at","clear"] (.nm 0 3) (.range .(1)) .yes jax))]
def QL:IB:=#[.bad,.bad,.bad,.bad]
def QK:IB:=#[.bad,.bad,.bad]
def wf:IB:=#[.bad,.bad]
def ZN:IB:=#[.fset 0 0 "Stand" "fresh" (.dat .(1)),.fset 0 0 "Stand" "cloths" (.dat .(2))]
def Qr:IB:=#[.ret (.dat (.call (.make "Stand" "Stand.__init__" 3 #[.new (.mul (.new (.lst #[.b true])) .(0)),.newD .nil])))]
def qM:IB:=#[.t (.tp #[.nm 2 2,.nm 3 3]) .(1),.e (.call (.call "check_new" 2 #[.(0),.(2)])),.f (.not (.h .LtE .LtE (0:) .(3) (.j "MOST_CELLS" (40)))) #[.raise "BadSize"] .nil,.ret (.call "with_cloths" 2 #[.(0),.newD (.one .(2) (.call (.call "bare" 2 #[.len (.t "Stand" "fresh" .(0)),.(3)])))])]
def zP:IB:=.cons (.star 2 2 3 3 .(1)) (.disp 4 4 "DEEDS" [("hang","behind_hang"),("fold","behind_fold"),("twin","behind_twin"),("wish","behind_wish"),("wax","behind_wax"),("dip","behind_dip"),("boil","behind_boil"),("brew","behind_brew")] 2 .(2) #[.(0),.(3)])
def ZF:IB:=#[.a 2 2 (.ownD (.copy (.t "Stand" "cloths" .(0)))),.dupd 2 2 .(1),.ret (.dat (.call (.make "Stand" "Stand.__init__" 3 #[.t "Stand" "fresh" .(0),.frz 2 2])))]
def jz:IB:=#[.f (.not (.call (.call "is_name" 1 #[.(1)]))) #[.raise "NoName"] .nil,.f (.d .(1) (.t "Stand" "cloths" .(0))) #[.raise "Taken"] .nil]
def jZ:IB:=#[.f (.dnin .(1) (.t "Stand" "cloths" .(0))) #[.raise "NoCloth"] .nil]
def jS:IB:=#[.fset 0 0 "House" "pots" (.dat .(1)),.fset 0 0 "House" "first" (.call "new_stand" 1 #[.(1)]),.fset 0 0 "House" "done" (.own (.lst .nil)),.fset 0 0 "House" "undone" (.own (.lst .nil)),.fset 0 0 "House" "places" (.ownD .nil)]
def y4:IC:=.one (.p .LtE (.x 1 5) (.x 2 3))
def y6:IE:=.x 0 4
def y7:IE:=.x 1 5
def ν6:IB:=#[.a 2 2 (.dat (.call (.call "behind" 2 #[.call (.m 0 0 "House" "now" "House.now" 1 .nil),.(1)]))),.a 3 3 (.dat (.flen 0 0 "House" "done")),.fset 0 0 "House" "places" (.ownD (.comp 4 2 [3] ["word","place","many"] (.tp #[.nm 0 4,.nm 1 5]) (.items (.ffrz 0 0 "House" "places")) y4 y6 y7)),.fapp 0 0 "House" "done" (.p (.v 1 1) (.v 2 2)),.fset 0 0 "House" "undone" (.own (.lst .nil))]
def jbm:IE:=.x 0 1
def ν5:IB:=#[.ret (.own (.compW 1 2 [] ["deed","stand"] (.tp #[.nm 0 1,.nm 1 2]) (.fld 0 0 "House" "done") .yes jbm))]
def Zu:IB:=#[.f (.not (.ftru 0 0 "House" "done")) #[.ret (.dat (.fdat 0 0 "House" "first"))] .nil,.ret (.dat (.ix (.flast 0 0 "House" "done") (1:)))]
def jai:IC:=.one (.p .NotEq (.x 0 3) (.x 1 2))
def jay:IE:=.x 0 3
def jaz:IE:=.g (.t "Stand" "cloths" (.x 2 0)) (.x 0 3)
def jn:IB:=#[.a 2 2 (.dat (.ix .(1) (0:))),.e (.call (.call "check_hangs" 2 #[.(0),.(2)])),.ret (.dat (.call (.make "Stand" "Stand.__init__" 3 #[.t "Stand" "fresh" .(0),.newD (.comp 3 1 [2,0] ["other","name","stand"] (.nm 0 3) (.keys (.t "Stand" "cloths" .(0))) jai jay jaz)])))]
def qZ:IB:=#[.t (.tp #[.nm 2 2,.nm 3 3]) .(1),.e (.call (.call "check_hangs" 2 #[.(0),.(2)])),.e (.call (.call "check_new" 2 #[.(0),.(3)])),.ret (.call "with_cloths" 2 #[.(0),.newD (.one .(3) (.g (.t "Stand" "cloths" .(0)) .(2)))])]
def q8:IB:=#[.t (.tp #[.nm 2 2,.nm 3 3,.nm 4 4]) .(1),.e (.call (.call "check_hangs" 2 #[.(0),.(2)])),.ret (.call "with_cloths" 2 #[.(0),.newD (.one .(2) (.call (.call "with_wish" 3 #[.g (.t "Stand" "cloths" .(0)) .(2),.(3),.(4)])))])]
def ji:IB:=#[.t (.tp #[.nm 2 2,.nm 3 3]) .(1),.e (.call (.call "check_hangs" 2 #[.(0),.(2)])),.ret (.call "with_cloths" 2 #[.(0),.newD (.one .(2) (.call (.call "with_wax" 2 #[.g (.t "Stand" "cloths" .(0)) .(2),.(3)])))])]
def jab:IE:=.x 0 5
def jac:IE:=.call (.call "dipped" 2 #[.g (.t "Stand" "cloths" (.x 1 0)) (.x 0 5),.x 2 3])
def qH:IB:=#[.t (.tp #[.nm 2 2,.nm 3 3]) .(1),.e (.call (.call "check_dye" 2 #[.(0),.(3)])),.f (.not (.ix (.t "Stand" "fresh" .(0)) .(3))) #[.raise "Spent"] .nil,.e (.call (.call "check_names" 2 #[.(0),.(2)])),.a 4 4 (.dat (.newD (.comp 5 1 [0,3] ["name","stand","dye"] (.nm 0 5) (.std (.tup .(2))) .yes jab jac))),.ret (.call "with_pot" 3 #[.call (.call "with_cloths" 2 #[.(0),.(4)]),.(3),.b false])]
def jba:IE:=.x 0 3
def jbb:IE:=.call (.call "boiled" 1 #[.g (.t "Stand" "cloths" (.x 1 0)) (.x 0 3)])
def jm:IB:=#[.a 2 2 (.dat (.ix .(1) (0:))),.e (.call (.call "check_names" 2 #[.(0),.(2)])),.ret (.call "with_cloths" 2 #[.(0),.newD (.comp 3 1 [0] ["name","stand"] (.nm 0 3) (.std (.tup .(2))) .yes jba jbb)])]
def qY:IB:=#[.a 2 2 (.dat (.ix .(1) (0:))),.e (.call (.call "check_dye" 2 #[.(0),.(2)])),.f (.ix (.t "Stand" "fresh" .(0)) .(2)) #[.raise "StillFresh"] .nil,.ret (.call "with_pot" 3 #[.(0),.(2),.b true])]
def Jk:IB:=#[.a 3 3 (.own (.list (.t "Stand" "fresh" .(0)))),.set 3 3 .(1) .(2),.ret (.dat (.call (.make "Stand" "Stand.__init__" 3 #[.frz 3 3,.t "Stand" "cloths" .(0)])))]
def jaf:IB:=#[.e (.call (.call "check_hangs" 2 #[.(0),.(2)]))]
def qN:IB:=#[.loop (.nm 2 2) (.alt (.tup .(1)) (.list .(1))) jaf,.f (.p .NotEq (.lsetS .(1)) (.len .(1))) #[.raise "Twice"] .nil]
def jy:IB:=#[.f (.not (.h .LtE .Lt (0:) .(1) (.len (.t "Stand" "fresh" .(0))))) #[.raise "NoDye"] .nil]
def vY:IE:=.and (.not (.ix (.x 0 2) (1:))) (.p .Eq (.ix (.ix (.x 0 2) (0:)) .(1)) (9:))
def Yu:IB:=#[.ret (.dat (.any (.new (.comp 2 1 [1] ["_law_cell","_law_dye_here"] (.nm 0 2) (.list .(0)) .yes vY))))]
def jbh:IE:=.b true
def Q4:IB:=#[.ret (.own (.lst #[.(0),.new (.comp 1 1 [] ["_law_dye_here"] (.nm 0 1) (.range .(0)) .yes jbh),.newD .nil]))]
def jbd:IE:=(0:)
def jbe:IE:=.tup #[.x 1 2,.b false,.x 1 2]
def Qk:IB:=#[.a 2 2 (.dat (.tuple (.new (.comp 3 1 [] ["_law_dye_here"] (.nm 0 3) (.range .(0)) .yes jbd)))),.ret (.own (.comp 3 1 [2] ["_law_at","_law_empty"] (.nm 0 3) (.range .(1)) .yes jbe))]
def js:IB:=#[.u 3 3 .(5) (.call (.call "_law_dip" 2 #[.g .(3) .(5),.ix .(1) (2:)]))]
def jt:IB:=#[.u 3 3 .(5) (.call (.call "_law_boil" 1 #[.g .(3) .(5)]))]
def qP:IB:=#[.a 2 2 (.own (.list (.ix .(0) (1:)))),.a 3 3 (.ownD (.copy (.ix .(0) (2:)))),.f (.p .Eq (.ix .(1) (0:)) (.q "hang")) #[.u 3 3 (.ix .(1) (1:)) (.call (.call "_law_blank" 2 #[.ix .(0) (0:),.ix .(1) (2:)]))] #[.f (.p .Eq (.ix .(1) (0:)) (.q "fold")) #[.dpop 3 3 (.ix .(1) (1:))] #[.f (.p .Eq (.ix .(1) (0:)) (.q "twin")) #[.u 3 3 (.ix .(1) (2:)) (.g .(3) (.ix .(1) (1:)))] #[.f (.p .Eq (.ix .(1) (0:)) (.q "wish")) #[.a 4 4 (.own (.list (.g .(3) (.ix .(1) (1:))))),.set 4 4 (.ix .(1) (2:)) (.tup #[.ix (.ix .(4) (.ix .(1) (2:))) (0:),.ix (.ix .(4) (.ix .(1) (2:))) (1:),.ix .(1) (3:)]),.u 3 3 (.ix .(1) (1:)) (.frz 4 4)] #[.f (.p .Eq (.ix .(1) (0:)) (.q "wax")) #[.u 3 3 (.ix .(1) (1:)) (.call (.call "_law_wax" 2 #[.g .(3) (.ix .(1) (1:)),.ix .(1) (2:)]))] #[.f (.p .Eq (.ix .(1) (0:)) (.q "dip")) #[.set 2 2 (.ix .(1) (2:)) (.b false),.loop (.nm 5 5) (.tup (.ix .(1) (1:))) js] #[.f (.p .Eq (.ix .(1) (0:)) (.q "boil")) #[.loop (.nm 5 5) (.tup (.ix .(1) (1:))) jt] #[.set 2 2 (.ix .(1) (1:)) (.b true)]]]]]]],.ret (.own (.lst #[.ix .(0) (0:),.frz 2 2,.frz 3 3]))]
def jbk:IB:=#[.aug 2 2 (.g (.t "Stand" "cloths" .(0)) .(3))]
def we:IB:=#[.e (.call (.call "check_names" 2 #[.(0),.(1)])),.a 2 2 (.own (.lst .nil)),.loop (.nm 3 3) (.list .(1)) jbk,.ret (.move 2 2)]
def ν4:IB:=#[.ret (.call "bolt_of" 2 #[.call (.m 0 0 "House" "now" "House.now" 1 .nil),.(1)])]
def jat:IB:=#[.a 3 3 (.dat (.call (.call "_law_named" 1 (.io 0 0 .nil)))),.f (.p .NotIn .(3) .(1)) #[.app 1 1 .(3)] .nil]
def Q5:IB:=#[.a 1 1 (.own (.lst .nil)),.loop (.nm 2 2) (.range (.n .Add (2:) (.call (.call "_law_take" 2 (.io 0 0 #[(3:)]))))) jat,.ret (.move 1 1)]
def ZV:IB:=#[.f (.p .Eq (.call (.call "_law_take" 2 (.io 0 0 #[(8:)]))) (0:)) #[.ret (.call "_law_take" 2 (.io 0 0 #[(13:)]))] .nil,.ret (.call "_law_take" 2 (.io 0 0 #[(6:)]))]
end
def runI(n:Nat)(mask:List Bool)(io:Ac)(body:IB)(cf:CF)(args:List OV):RF:=if ↑args=↑mask then fin mask (body.ex cf io (args.map some++List.replicate (n-↑mask) none)) else .bad
end Lake.Wx
local macro_rules
  | `(tactic| simp! [$xs,*])=>do
    let ys←("fin outs sSeq sNext sAsg sIf sRet sSet sApp sFor sAsgT sExpr fVar fFrz fC fBin fCmp fB fTru fNotT fAndT fOrT fAndV fOrV fIf fIx f1 f2 fChain fTup fLst fCons fNil fNew fOwn fOD fD fMove fCall aNil aCons aIo toArg toArgs ios putBack derf derS derSs derL leaves itemF binD cmpD truD R.bind R.get isOwn fSeqL fSeqT fRange fEnum fYes fComp fListC fTupC gLen lenD gInt gAll gAny gMin gMax gNeg tgF tgFs".splitOn " ").toArray.mapM fun s=>`(Lean.Parser.Tactic.simpLemma| $(Lean.mkIdent ("L3."++s).toName):ident)
    `(tactic| simp [Wx.runI,L2.noL,$ys,*,$xs,*])
namespace Lake.Wx
open PySem L2 L3
def Nz{α:Type}(a b:α):Prop:=a=b
def nz{α:Type}{a b:α}(h:a=b):Nz a b:=h
def gNo{α:Type}{a b c:α}(h:a=b)(k:Nz b c):a=c:=h.trans k
section
variable {α:Type}{a b:α}{l m:List α}{n:Nat}
def l1:(a::l).set 0 b=b::l:=rfl
def l2:(a::l).set (n+1) b=a::l.set n b:=rfl
def l3:(a::l).take (n+1)=a::l.take n:=rfl
def l5:↑(a::l)=↑l+1:=rfl
def l6:↑([]:List α)=0:=rfl
def l7:l.take 0= []:=rfl
def l8{β:Type}{f:α->β}:(a::l).map f=f a::l.map f:=rfl
def l9{β:Type}{f:α->β}:([]:List α).map f= []:=rfl
def la:(a::l)++m=a::(l++m):=rfl
def lb:([]:List α)++m=m:=rfl
def lc:List.replicate (n+1) a=a::List.replicate n a:=rfl
def ld:List.replicate 0 a= []:=rfl
def lf{n:Nat}:(n:Int).toNat=n:=rfl
def le{x:PyData}:(OV.d x).view=x:=rfl
def lg{d:Ad}:(OV.m d).view=.dict (d.map dK):=rfl
def lh{d:Aa}:(OV.l (d.map .d)).view=.list d:=by rw[OV.view,OV.views_d]
end
def gB{α β:Type}{r:R α}{f:α->R β}{a:α}{y:R β}(h:r=.ok a)(k:f a=y):r.bind f=y:=by rw[h];exact k
def gG{α β:Type}{o:Option α}{f:α->R β}{a:α}{y:R β}(h:o\a)(k:f a=y):R.get o f=y:=by rw[h];exact k
def kSq(g:SM)(c:Gv)(fl:FL):R (FL×Gv):=match fl with | .next=>g c | fl=>.ok (fl,c)
section
variable {f g:SM}{U U1 U2 U3:Gv}{x:FL×Gv}{fl:FL}{y:R (FL×Gv)}{o:OV}
def kN(h:g U=y):kSq g U .next=y:=h
def kR:kSq g U (.ret o)=.ok (.ret o,U):=rfl
def gSeq(h:f U=.ok x)(c:Nz x (fl,U1))(k:kSq g U1 fl=y):sSeq f g U=y:=by
 cases c;unfold sSeq;rw[h];cases fl<;>exact k
def zl4{x:Str}(h:f U=.exc x U1):sSeq f g U=.exc x U1:=by unfold sSeq;rw[h]
def gIo{i:Nat}{as:List AV}{fa:EM (List AV)}(h:U[i]?\(some o))(k:fa U=.ok (as,U1)):aIo i fa U=.ok (.io i::as,U1):=by
 unfold aIo;rw[h];dsimp only;rw[k];rfl
def gRg{fa:EM FV}{u:FV}{n:Int}{m:Nat}(h:fa U=.ok (u,U1))(c:derf U1 u\(.int n))(i: -1000000<=n/\n<=1000000)(l:Nz n.toNat m):fRange fa U=.ok (qi m,U1):=by
 cases l;unfold fRange;rw[h];dsimp only [R.bind];rw[c];dsimp only;rw[if_pos i]
def gOD{f:EM OV}{x:PyData}(h:f U=.ok (o,U1))(c:Nz o.view x):fOD f U=.ok (.dat x,U1):=by
 cases c;unfold fOD;rw[h];rfl
def zl1{run:List OV->RF}{fa:EM (List AV)}{as:List AV}{args c:List OV}{r:OV}{os:List (Option OV)}(h:fa U=.ok (as,U1))(i:toArgs U1 as\args)(z:Nz args c)(l:decide ((ios as).Nodup)=true)(s:run c=.ok r os)(v:putBack as os U1\U2)(A:Nz (U2.take ↑U) U3):fCall run fa U=.ok (r,U3):=by
 cases A;cases z;unfold fCall;rw[h];dsimp only [R.bind];rw[i];dsimp only;rw[if_pos (Xh l),s];dsimp only;rw[v]
def zl3{n:Nat}{mask:List Bool}{io:Ac}{body:IB}{cf:CF}{args:List OV}{U U1:Gv}{x:Str}{os:List (Option OV)}(h0:decide (↑args=↑mask)=true)(i:Nz (args.map some++List.replicate (n-↑mask) none) U)(h:body.ex cf io U=.exc x U1)(c:fin mask (.exc x U1)=.exc x os):runI n mask io body cf args=.exc x os:=by
 cases i;unfold runI;rw[if_pos (Xh h0),h];exact c
def gRun{n:Nat}{mask:List Bool}{io:Ac}{body:IB}{cf:CF}{args:List OV}{r:OV}{os:List (Option OV)}(h0:decide (↑args=↑mask)=true)(i:Nz (args.map some++List.replicate (n-↑mask) none) U)(h:body.ex cf io U=.ok x)(c:fin mask (.ok x)=.ok r os):runI n mask io body cf args=.ok r os:=by
 cases i;unfold runI;rw[if_pos (Xh h0),h];exact c
end
section
variable {U:Gv}{k:Nat}{i:Int}{x:PyData}{os:List OV}
def mO(e:U[k]?\(some (.l os)))(h:atI os i\(.d x)):itemF U (.own k) i\x:=by simp only[itemF,e,h]
end
section
variable {α:Type}{a b y:R α}
def gT{c:Bool}(h:c=true)(k:a=y):(if c then a else b)=y:=by rw[h];exact k
def gF{c:Bool}(h:c=false)(k:b=y):(if c then a else b)=y:=by rw[h];exact k
def gP{c:Prop}[Decidable c](h:c)(k:a=y):(if c then a else b)=y:=by rw[if_pos h];exact k
def gN{c:Prop}[Decidable c](h:¬ c)(k:b=y):(if c then a else b)=y:=by rw[if_neg h];exact k
end
end Lake.Wx
local macro_rules
  | `(tactic| dsimp! [$xs,*])=>do
    let ys←("fDget fDgd derD fAttr fFdat objF ixF fFlen fFtru fFlast fFfrz updF setO sFset sFapp zD wD fMeth fMake fOwnD fNewD fDnil fDone fDcopy fCompD fCompW hid loopG fStd fItems fKeys fFldS fSortD fMul sRaise sDisp sStar sDupd fNo fNoV gDin gDnin".splitOn " ").toArray.mapM fun s=>`(Lean.Parser.Tactic.simpLemma| $(Lean.mkIdent ("L3."++s).toName):ident)
    `(tactic| simp! [$ys,*,$xs,*])
open PySem L2 L3 Wx in
local macro_rules
  | `(tactic| simp? [$xs,*])=>do
    let ys:=xs.getElems.map λx=>(⟨x.raw[2]⟩:Lean.Term)
    let b:=ys[0]!
    let zs:=ys.extract 1 ys.size
    let es←("vT_1 vT_2 zeg zd4 zbQ zbR KI zbZ zb0 zef zeb zd0 zd1 KJ zec zea zdY zhd zd6 zhc zd7 zd5 zdX zdZ KN zd9 zd8 zbS zbP zb2 KM zed zb4 zb1 zee zbT zd2 zd3 zbU zbO zb3 zbV zbX zbY KK zbW zek zb8 zdS zbK zhb zep zeo zcb zen zcd zcc zce zeq KW KU zet zeu zb7 zej KT zb6 KQ zdW zdV zer zes zcf zci zcj zcg zch zel zem zca zb9 zei KO zb5 zeh zey zew zck zco zeA zcr zeB zev zeC zez KZ zex zcs zcq zcp zcn zcm zcl zdT zdU zbM zbN zbL".splitOn " ").toArray.mapM fun s=>`(Lean.Parser.Tactic.simpLemma|$(Lean.mkIdent s.toName):ident)
    let el←("l1 l2 l3 l5 l6 l7 l8 l9 la lb lc ld le lf lg Nat.reduceAdd Nat.reduceSub".splitOn " ").toArray.mapM fun s=>`(Lean.Parser.Tactic.simpLemma|$(Lean.mkIdent s.toName):ident)
    let g1:=("gSeq kN kR".splitOn " ").toArray.map fun s=>(⟨Lean.mkIdent s.toName⟩:Lean.Term)
    let g2:=("zl1 gOD gRg gB gG".splitOn " ").toArray.map fun s=>(⟨Lean.mkIdent s.toName⟩:Lean.Term)
    let g3:=("mL mT mK".splitOn " ").toArray.map fun s=>(⟨Lean.mkIdent s.toName⟩:Lean.Term)
    let g4:=("gT gF gP gN".splitOn " ").toArray.map fun s=>(⟨Lean.mkIdent s.toName⟩:Lean.Term)
    let cl<-`(tactic| first | (with_reducible rfl) | (with_reducible assumption) | exact of_decide_eq_true rfl | (simp[$[$zs:term],*]<;>omega) | exact decide_eq_true (by omega) | exact decide_eq_false (by omega) | exact rfl | omega)
    let k4:=g4.map λ_=>cl
    `(tactic| (try first | apply gRun | exact rfl | apply zl3)<;>(try dsimp only [$b:term,$es,*])<;>repeat' (first | ((with_reducible apply nz);(try dsimp only [$el,*]);(try simp only[lh]);(try exact rfl);done) | (with_reducible rfl) | ((with_reducible apply zl4);(with_reducible apply gNo);(dsimp! [$[$zs:term],*]);(try exact rfl);(apply nz);exact rfl) | (first $[| (with_reducible apply $g1)]*) | ((fail_if_success (with_reducible show (_:R (FL×Gv))=_));exact rfl) $[| (with_reducible apply $zs)]* | (first $[| (with_reducible apply $g2)]*) | (first $[| ((with_reducible apply $g4);$k4)]*) | (with_reducible apply gIo) | ((with_reducible show (-1000000<=_/\_));$cl) | (first $[| (with_reducible apply $g3)]*) | exact rfl | (apply mO;exact rfl) | (apply mD;exact rfl) | ((with_reducible show ((_:Option _)\_));(conv=>lhs;simp[$[$zs:term],*,cmpD,gDin,gDnin,gLen,lenD,gAll,gAny,gInt,truD,leaves]);(try exact rfl);done) | ((with_reducible show ((_:Option _)\_));(with_reducible apply gNo);(dsimp! [$[$zs:term],*]);(try exact rfl);(apply nz);exact rfl) | ((with_reducible show ((_:Option _)\_));(with_reducible apply gNo);(dsimp! [$[$zs:term],*,OV.view,OV.views]);(try exact rfl);(apply nz);exact rfl) | ((with_reducible show ((_:R _)=_));(with_reducible apply gNo);(dsimp! [$[$zs:term],*]);(try exact rfl);(apply nz);exact rfl) | ((with_reducible show ((_:R _)=_));(with_reducible apply gNo);(dsimp! [$[$zs:term],*,OV.view,OV.views]);(try exact rfl);(apply nz);exact rfl) | ((with_reducible show ((_:RF)=_));(conv=>lhs;simp[$[$zs:term],*,OV.view,OV.views]);(try exact rfl);done) | ((with_reducible show (fin _ _=_));simp[$[$zs:term],*,fin,outs];done) | ((with_reducible show (fin _ _=_));simp[$[$zs:term],*,fin,outs,OV.view,OV.views];done)))
namespace Lake.Wx
open PySem L2 L3
def yj (cf:CF):=∀ a b:Int,∃ r,cf "_law_mixed" [.d (.int a),.d (.int b)]=.ok (.d (.int r)) [none,none]
def zfb(cf:CF):yj λ_=>runI 4 [false,false] [] Ql cf:=λa b=>by
 simp![Ql,OV.view,OV.views,zcY,ixN,atI]
 rw[if_pos]
 ·simp[outs]
 ·lia
def zQ(b:OV):=∃ cells i l t s,0<=i/\b=QO cells i l t s
def zjA(b:OV)(n:Int)(x:RF):=∃(r:Int)(a:OV),0<=r/\r<n/\zQ a/\x=.ok (.d (.int r)) [some a,none]
def qF (cf:CF):=∀ b,zQ b->∀ n:Int,1<=n->n<1073741824->zjA b n (cf "_law_take" [b,.d (.int n)])
def ziV(cf:CF)(hm:yj cf):qF λ_=>runI 4 [true,false] [0] jO cf:=λb hb n h e=>by
 let(cells,i,l,t,s,hi,rfl):=hb;let h0:0<n:=by lia
 let fd:∀ a:Int,binD .FloorDiv (.int a) (.int n)\(.int (a / n)):=λa=>by simp[binD,h0,e]
 let c:∀ a:Int,binD .Mod (.int a) (.int n)\(.int (a % n)):=λa=>by simp[binD,h0,e]
 let hw:(↑(cells.map PyData.int):Int)=↑cells:=by simp
 by_cases hl:0<l
 ·refine#[l % n,QO cells i (l / n) (t+1) s,pe _ (by lia),uM _ h0,#[_,_,_,_,_,hi,rfl],?_];simp? [jO,QO,hl,fd,c,cs1]
 ·by_cases hc:(↑cells:Int)<=i
  ·let(r,d):=hm s (t+1);refine#[r % n,QO cells i l (t+1) s,pe _ (by lia),uM _ h0,#[_,_,_,_,_,hi,rfl],?_];rw[<- hw]at hc;simp? [jO,QO,hl,hc,fd,c,d,cs1]
  ·let g:i.toNat<↑cells:=by lia
   let hg:atI (cells.map PyData.int) i\(.int cells[i.toNat]):=by
    have:i<(↑cells:Int):=by lia
    simp[atI,ixN,hi,this,g]
   generalize j:cells[i.toNat]=C at *;rw[<- hw]at hc;by_cases f:C<10 ^ (18:Int).toNat
   ·let(r,d):=hm C (t+1);refine#[r % n,QO cells (i+1) l (t+1) s,pe _ (by lia),uM _ h0,#[_,_,_,_,_,by lia,rfl],?_];simp? [jO,QO,hl,hc,fd,c,hg,f,d,cs1]
   ·refine#[C % n,QO cells (i+1) (C / n) (t+1) s,pe _ (by lia),uM _ h0,#[_,_,_,_,_,by lia,rfl],?_];simp? [jO,QO,hl,hc,fd,c,hg,f,cs1]
def qS{t:IT}{body:SM}(I:Aa->Gv->Prop){ds:Aa}(h0:I [] U)
  (r:∀ pre d post,ds=pre++d::post->∀ U,I pre U->∃ o l,tgF t d U\o/\body o=.ok (.next,l)/\I (pre++ [d]) l):∃ i,qU t body ds U=.ok (.next,i)/\I ds i:=by
 suffices H:∀ post pre U,ds=pre++post->I pre U->∃ i,qU t body post U=.ok (.next,i)/\I ds i from H ds [] U rfl h0;intro post
 induction post with
 |nil=>intro pre U e h;rw[xT]at e;subst e;exact#[U,rfl,h]
 |cons d post j=>
  intro pre U e h;let(o,l,a,b,f):=r pre d post e U h;let(i,c,g):=j (pre++ [d]) l (by rw[e];simp) f;exact#[i,by rw[qU,a];simp only[b];exact c,g]
def je{k:Nat}{t:IT}{cond:EM Bool}{elt:EM FV}(I:Aa->Aa->Gv->Prop){ds:Aa}(h0:I [] [] U)
  (v:∀ pre d post,ds=pre++d::post->∀ i U,I pre i U->∃ s c o,tgF t d (U++List.replicate k none)\s/\cond s=.ok (c,o)/\(c=true->∃ u r y,elt o=.ok (u,r)/\derS r u\y/\I (pre++ [d]) (i++ [y]) (r.take ↑U))/\(c=false->I (pre++ [d]) i (o.take ↑U))) :
  ∃ i l,qR k t cond elt ds [] U=.ok (i,l)/\I ds i l:=by
 suffices H:∀ post pre i U,ds=pre++post->I pre i U->∃ a l,qR k t cond elt post i U=.ok (a,l)/\I ds a l from H ds [] [] U rfl h0;intro post
 induction post with
 |nil=>intro pre i U e h;rw[xT]at e;subst e;exact#[i,U,rfl,h]
 |cons d post m=>
  intro pre i U e h;let(s,c,o,g,j,w,hf):=v pre d post e i U h;cases c with
  |true=>
   let(u,r,y,n,p,q):=w rfl;let(a,l,b,f):=m (pre++ [d]) _ _ (by rw[e];simp) q;let hit:itL elt o=.ok (y,r):=by simp only[itL,n,R.bind,R.get,p]
   exact#[a,l,by unfold qR;rw[loopG,g];simp only[j,hit];exact b,f]
  |false=>
   let(a,l,b,f):=m (pre++ [d]) _ _ (by rw[e];simp) (hf rfl);exact#[a,l,by unfold qR;rw[loopG,g];simp only[j];exact b,f]
def qW{k:Nat}{t:IT}{cond:EM Bool}{elt:EM FV}(p:PyData->Bool)(f:PyData->PyData){ds:Aa}{U:Gv}
  (r:∀ d∈ds,∃ l c,tgF t d (U++List.replicate k none)\l/\cond l=.ok (p d,c)/\c.take ↑U=U/\(p d=true->∃ u i,elt c=.ok (u,i)/\derS i u\(f d)/\i.take ↑U=U)) :
  qR k t cond elt ds [] U=.ok ((ds.filter p).map f,U):=by
 let(b,a,e,s,rfl):=je (k:=k) (λpre b a=>b=(pre.filter p).map f/\a=U) (ds:=ds) (U:=U) #[rfl,rfl] (by
  rintro pre d post e b a ⟨rfl,rfl⟩;let(l,c,g,j,m,h):=r d (by rw[e];simp);refine#[l,p d,c,g,j,λhp=>?_,λhp=>#[by simp[List.filter_append,hp],m]];let(u,i,n,o,q):=h hp;exact#[u,i,_,n,o,by simp[List.filter_append,hp],q])
 rw[e,s]
def zc4(e:ds=pre++d::post):↑pre<↑ds:=by rw[e];simp
def zE(xs:List Int):PyData:=.tuple (xs.map .int)
def Qo(st:List Int)(w:Bool)(wi:List Int):PyData:=.tuple [zE st,.bool w,zE wi]
def In9(xs:List Int):=∀ x∈xs,0<=x/\x<=9
structure zdo(pots:Nat)(st wi:List Int):Prop where
 sl:↑st=pots
 wl:↑wi=pots
 sn:In9 st
 wn:In9 wi
structure Cl where
 st:List Int
 w:Bool
 wi:List Int
def Cl.D(c:Cl):PyData:=Qo c.st c.w c.wi
def zL(n:Nat)(i:Int):lay n (.int i)=true:=by cases n<;>rfl
def ze2(n:Nat)(i:Bool):lay n (.bool i)=true:=by cases n<;>rfl
def vc(h:∀ x∈xs,lay n x=true):lay (n+1) (.list xs)=true:=by rw[lay];exact xH.mpr h
def QH(h:∀ x∈xs,lay n x=true):lay (n+1) (.tuple xs)=true:=by rw[lay];exact xH.mpr h
def ze3(n:Nat)(c:Cl):lay (n+2) c.D=true:=QH λx h=>by
 have:x=zE c.st∨x=.bool c.w∨x=zE c.wi:= ~~~h;rcases this with rfl | rfl | rfl
 ·exact QH λx h=>by let(i,_,rfl):=xv.mp h;exact zL _ _
 ·erw[ze2 _ _]
 ·exact QH λx h=>by let(i,_,rfl):=xv.mp h;exact zL _ _
def ze1(n:Nat)(cs:List Cl):lay (n+3) (.list (cs.map Cl.D))=true:=vc λx h=>by
 let(c,_,rfl):=xv.mp h;erw[ze3 _ _]
def Wc(h:lay n d=true):PyData.eqv d d=true:=PySem.SeqAt.eqv_refl d (jr n d h).1
def zT(i j:Int):PyData.eqv (.int i) (.int j)=(i==j):=rfl
def zB(cs:List Cl):PyData:=.list (cs.map Cl.D)
def Bolt(i:Nat)(cs:List Cl):Prop:=↑cs<=1000/\∀ c∈cs,zdo i c.st c.wi
def Wb{xs:List Int}(h:d<↑xs):atI (xs.map PyData.int) (d:Int)\(.int (xs.getD d 0)):=by
 let e:(xs.map PyData.int)[d]?\(.int (xs.getD d 0)):=by rw[xg,xc h,xP,xc h];rfl
 unfold atI ixN;rw[if_pos (by lia),if_pos (by rw[xo];lia)];simpa using e
def Zg{α:Type}(a b c:α):atI [a,b,c] 0\a:=rfl
def Zs{α:Type}(a b c:α):atI [a,b,c] 1\b:=rfl
def Zb{α:Type}(a b c:α):atI [a,b,c] 2\c:=rfl
def qX{α:Type}(l:List α):l.filter (λ_=>true)=l:=List.filter_eq_self.mpr λ_ _=>rfl
def kD(s:String):PyData.strOk (Str.ofString s)=true:=by
 rw[Str.ofString_eq_toList];unfold PyData.strOk;rw[uS];intro i hi;let key:∀ c:Char,c.toNat<0x110000:=λc=>by
  have:=c.valid;rcases this with h | h
  ·let a:c.toNat<0xd800:=h;lia
  ·erw[h.2]
 grind
def zht(sep:Str)(c:Ab):Txt.join sep c=Str.join sep c:=StrLaws.glued_eq_join sep c
inductive Deed where|hang (n:Str) (k:Int)|fold (n:Str)|twin (n m:Str)|wish (n:Str) (k:Int) (sh:List Int)|wax (n:Str) (cs:List Int)|dip (ns:Ab) (k:Int)|boil (ns:Ab)|brew (k:Int)
def zU(ns:Ab):PyData:=.tuple (ns.map .str)
def Deed.D:Deed->PyData|.hang n k=>.tuple [.str "hang",.str n,.int k]|.fold n=>.tuple [.str "fold",.str n]|.twin n m=>.tuple [.str "twin",.str n,.str m]|.wish n k sh=>.tuple [.str "wish",.str n,.int k,zE sh]|.wax n cs=>.tuple [.str "wax",.str n,zE cs]|.dip ns k=>.tuple [.str "dip",zU ns,.int k]|.boil ns=>.tuple [.str "boil",zU ns]|.brew k=>.tuple [.str "brew",.int k]
def Nm(x:Str):Prop:=1<=↑x/\↑x<=8/\∀ c∈x.cps.toList,97<=c/\c<=122
def Nm.ok(h:Nm x):PyData.strOk x=true:=by
 unfold PyData.strOk;rw[uS];intro i hi;have:=(h.2.2 x.cps[i] (by simp)).2;simp only[x0];lia
def zac (cf:CF):runI 0 [] [] ZB cf []=.ok (.d (.str "abcdefghijklmnopqrstuvwxyz")) []:=by
 simp? [ZB]
def Qz (cf:CF):Prop:=cf "_law_letters" []=.ok (.d (.str "abcdefghijklmnopqrstuvwxyz")) []
def zcE (h0:0<=i) (l:i<26):∃ c:Nat,atI ("abcdefghijklmnopqrstuvwxyz" :Str).cps.toList i=some c/\97<=c/\c<=122:=by
 have:∀ n:Nat,n<26->∃ c:Nat,atI ("abcdefghijklmnopqrstuvwxyz" :Str).cps.toList (n:Int)=some c/\97<=c/\c<=122:=by
  intro n a;let key:∀ n:Fin 26,("abcdefghijklmnopqrstuvwxyz" :Str).cps.toList[(n:Nat)]?=some (97+(n:Nat)):=by decide +kernel
  exact#[97+n,jY (key #[n,a]),by lia,by lia]
 let e:i=((i.toNat:Nat):Int):=by lia
 rw[e];exact this i.toNat (by lia)
def zba(x:PyData):(OV.d x).view=x:=rfl
def w5 (cf:CF):=∀ b,zQ b->∃ (n:Str) (a:OV),Nm n/\zQ a/\cf "_law_named" [b]=.ok (.d (.str n)) [some a]
def zfd(cf:CF)(v:qF cf)(hl:Qz cf):w5 λ_=>runI 2 [true] [0] Qm cf:=λb hb=>by
 let(r,o,M,H,l,E):=v b hb 8 (by decide) (by decide);let(n,L,q,(f,cs,a,i,g,rfl,rfl)):=je (k:=1) (t:=.nm 0 2) (cond:=fYes) (elt:=(ja6.ev cf).1) (ds:=qi (1+r.toNat)) (U:= [some o,@&(.int (1+r))])
  (λpre n U=>∃(f:OV)(cs:Ac),↑cs=↑pre/\(∀ c∈cs,97<=c/\c<=122)/\zQ f/\n=cs.map (λc=>.str #[(List.toArray [c])])/\U= [some f,@&(.int (1+r))]) #[o,[],rfl,(λ_ h=>nomatch h),l,rfl,rfl] (by
   rintro pre d post e n U ⟨f,cs,a,i,g,rfl,rfl⟩;let(j,p,g1,g2,A,F):=v f g 26 (by decide) (by decide);let(c,hc,G,D):=zcE g1 g2;refine#[[some f,@&(.int (1+r)),@&d],true,_,rfl,rfl,λ_=>#[.dat (.str #[(List.toArray [c])]),[some p,@&(.int (1+r)),@&d],.str #[(List.toArray [c])],?_,rfl,p,cs++ [c],by simp[a],?_,A,by simp,rfl],λz=>nomatch z]
   ·let m:("abcdefghijklmnopqrstuvwxyz" :Str).length<=1000000:=by decide
    let C:cf "_law_letters" []=.ok (.d (.str "abcdefghijklmnopqrstuvwxyz")) []:=hl;rwa[("abcdefghijklmnopqrstuvwxyz" :Str)=y]
    simp![ja6,C,F,zhg,m,hc,zba]
   ·intro x hx;rcases xJ.mp hx with hx | hx
    ·erw[i x hx]
    ·have:x=c:= ~~~hx;subst this;exact#[G,D])
 rw[zF]at a;let s:Str.join "" (cs.map λc=>(⟨(List.toArray [c])⟩:Str))=⟨cs.toArray⟩:=PyProof.Rows.join_ones cs;let hm:(cs.map λc=>PyData.str ⟨(List.toArray [c])⟩)=(cs.map λc=>(⟨(List.toArray [c])⟩:Str)).map .str:=by rw[xy];rfl
 let u:=ν9 (cs.map λc=>(#[(List.toArray [c])]:Str));let w:((cs.map λc=>(⟨(List.toArray [c])⟩:Str)).map (·.length)).sum=↑cs:=by
  clear u hm s q i a
  induction cs with|nil=>rfl|cons c r J=>simp only[xn,List.sum_cons,J,xz];show 1+_=_;lia
 let hlen:↑(cs.map λc=>(⟨(List.toArray [c])⟩:Str))=↑cs:=by simp
 let hg:WZ "" (.list (cs.map λc=>PyData.str ⟨(List.toArray [c])⟩))\(.str ⟨cs.toArray⟩):=by
  unfold WZ;simp only[hm,u];rw[if_pos #[by rw[w,hlen];lia,by decide],zht,s]
 refine#[#[cs.toArray],f,#[by show 1<=cs.toArray.size;simp;lia,by show cs.toArray.size<=8;simp;lia,λc hc=>i c (~~~hc)],g,?_];let m: -1000000<=1+r/\1+r<=1000000:=by lia
 let I:(1+r).toNat=1+r.toNat:=by lia
 let B:1+r.toNat<=1000000:=by lia
 rwa[(cs.map λc=>PyData.str #[(List.toArray [c])])=K,({ cps:=cs.toArray }:Str)=nm];unfold Qm;rwa[ja6=body]
 simp![E,m,B,I,q,zF,hg,zba]
def zah(h:Str.ofString x=Str.ofString y):x=y:=by
 rw[Str.ofString_eq_toList,Str.ofString_eq_toList]at h;let f:x.toList.map Char.toNat=y.toList.map Char.toNat:=by grind
 let key:∀ a b:List Char,a.map Char.toNat=b.map Char.toNat->a=b:=by
  intro a
  induction a with
  |nil=>intro b e;cases b with
   |nil=>rfl
   |cons _ _=>cases e
  |cons c r g=>
   intro b e;cases b with
   |nil=>cases e
   |cons d s=>
    rw[xn,xn,List.cons.injEq]at e;rw[g s e.2,show c=d from Char.ext (UInt32.toNat_inj.mp e.1)]
 erw[String.toList_inj.mp (key _ _ f)]
def wq(x y:String):PyData.eqv (.str (Str.ofString x)) (.str (Str.ofString y))=decide (x=y):=by
 show decide (Str.ofString x=Str.ofString y)=_;by_cases h:x=y
 ·subst h;simp
 ·rw[Xc h,Xc (λe=>h (zah e))]
def zW(s:String)(n:Nat):lay n (.str (Str.ofString s))=true:=by
 have:=kD s;cases n<;>exact this
def cs1{x y:String}:cmpD .Eq (.str (Str.ofString x)) (.str (Str.ofString y))\(decide (x=y)):=by
 let a:cmpD .Eq (.str (Str.ofString x)) (.str (Str.ofString y))\(PyData.eqv (.str (Str.ofString x)) (.str (Str.ofString y))):=by
  simp[cmpD,zW]
 rw[a,wq x y]
abbrev ch(c:Nat):Str:=#[(List.toArray [c])]
def zdG{α:Type}(xs:List α):(qt (xs.map λ_=>PyData.bool true)).map (λbs=>PyData.bool (bs.all id))\(.bool true):=by
 have:qt (xs.map λ_=>PyData.bool true)\(xs.map λ_=>true):=by
  induction xs with|nil=>rfl|cons a r b=>simp[qt,b]
 rw[this];simp
def zjB(cf:CF){body:IE}(hb:body=.sin (.x 0 1) (.gstr x z)){cs:Ac}{D:OV}(h:∀ c∈cs,Txt.contains z (ch c)=true) :
  qR 1 (.nm 0 1) fYes (body.ev cf).1 (cs.map λc=>PyData.str (ch c)) [] [some D]=.ok (cs.map λ_=>PyData.bool true,[some D]):=by
 let e:=qW (k:=1) (t:=.nm 0 1) (cond:=fYes) (elt:=(body.ev cf).1) (U:= [some D]) (λ_=>true) (λ_=>.bool true) (by
  intro y a;let(c,hc,rfl):=xv.mp a;let b:=h c hc;refine#[[some D,@&(.str (ch c))],_,rfl,rfl,rfl,λ_=>#[.dat (.bool true),[some D,@&(.str (ch c))],?_,rfl,rfl]];subst hb;rwa[ch c=d]
  simp![yT,b])
 rw[qX,xy]at e;erw[e]
def zab:∀ c:Nat,97<=c->c<=122->Txt.contains (Str.ofString "abcdefghijklmnopqrstuvwxyz") (ch c)=true:=λc a b=>by
 have:∀ k:Fin 26,Txt.contains (Str.ofString "abcdefghijklmnopqrstuvwxyz") (ch (97+(k:Nat)))=true:=by decide +kernel
 let e:=this #[c-97,by lia];have:97+(c-97)=c:=by lia
 simp only[this]at e;erw[e]
def Wv{x:Str}(h:∀ c∈x.cps.toList,c<=127):x.cps.all (·<128)=true:=by
 rw[uS];intro i hi;have:=h x.cps[i] (by simp);simp only[x0];lia
def Wn (cf:CF):=∀ n,Nm n->cf "is_name" [.d (.str n)]=.ok (.d (.bool true)) [none]
def K9(cf:CF):Wn λ_=>runI 1 [false] [] jT cf:=λn h=>by
 let(k,l,a):=h;let m:=Wv (x:=n) λc hc=>by have:=(a c hc).2;lia
 let e:=zjB cf (body:=ja2) rfl (cs:=n.cps.toList) (D:=.d (.str n)) λc hc=>zab c (a c hc).1 (a c hc).2;let j:=zdG n.cps.toList;let o:Zy n=n.cps.toList.map λc=>PyData.str (ch c):=rfl;let f:↑n<=1000000:=by lia
 let i:(1:Int)<=(↑n:Int):=by lia
 let g:(↑n:Int)<=8:=by lia
 let d:=k;let b:↑(n.cps.toList.map λc=>PyData.str (ch c))<=1000000:=by simp;exact f
 unfold jT;rwa[ja2=B,(n.cps.toList.map λ_=>PyData.bool true)=p,(n.cps.toList.map λc=>PyData.str (ch c))=q]
 simp![Qp,ZC,m,o,f,b,i,g,d,l,e,j]
abbrev QJ:Str:= "NoCloth"
def tps(l:Ao):Aa:=l.map λp=>.tuple [p.1,p.2]
def prs(l:Ao):List OV:=(tps l).map .d
def vE(l:Ao):leaves (prs l)\(tps l):=Qq _
def ja(x y:String):(Str.ofString x=Str.ofString y)=(x=y):=propext #[zah,λh=>by rw[h]]
def hV (c:Int) (first:PyData) (i un:Ao) (l:Ad):OV:=.o "House" ["pots","first","done","undone","places"] [.d (.int c),.d first,.l (prs i),.l (prs un),.m l]
def stV (fr:Aa) (cl:Ad):PyData:=.dict [(.none,.str "Stand"),(.str "fresh",.list fr),(.str "cloths",.dict (cl.map dK))]
def zA(x:PyData):(OV.d x).view=x:=rfl
def Wh (fr:Aa) (cl:Ad):(OV.o "Stand" ["fresh","cloths"] [.d (.list fr),.d (.dict (cl.map dK))]).view=stV fr cl:=rfl
def qO(x y:String):(Str.ofString x==Str.ofString y)=decide (x=y):=by
 by_cases h:x=y
 ·subst h;simp
 ·rw[Xc h];erw[Xb.mpr λe=>h (zah e)]
def qK (fr:Aa) (cl:Ad):zeJ "Stand" "fresh" (stV fr cl)\(.list fr):=rfl
def qh (fr:Aa) (cl:Ad):zeJ "Stand" "cloths" (stV fr cl)\(.dict (cl.map dK)):=rfl
def QB (cf:CF):=∀ a b,cf "Stand.__init__" [.o "Stand" [] [],.d a,.d b]=.ok (.d .none) [some (.o "Stand" ["fresh","cloths"] [.d a,.d b]),none,none]
def zgl(cf:CF):QB λ_=>runI 3 [true,false,false] [0] ZN cf:=λa b=>rfl
def zds (cf:CF):=∀ p:Nat,p<=12->cf "new_stand" [.d (.int p)]=.ok (.d (stV (List.replicate p (.bool true)) [])) [none]
def zkk(cf:CF)(c:QB cf):zds λ_=>runI 1 [false] [] Qr cf:=λp hp=>by
 let h:=c (.list (List.replicate p (.bool true))) (.dict []);let b:(0:Int)<=p/\(p:Int)<=1000000:=by lia
 let a:p<=1000000:=by lia
 let hv:(OV.m []).view=.dict []:=rfl;let hw:=Wh (List.replicate p (.bool true)) []
 dsimp! [Qr,h,b,a,hv,zA,hw]
 rfl
def yg (cf:CF):=∀ p:Nat,p<=12->cf "House.__init__" [.o "House" [] [],.d (.int p)]=.ok (.d .none) [some (hV p (stV (List.replicate p (.bool true)) []) [] [] []),none]
def zeU(cf:CF)(c:zds cf):yg λ_=>runI 2 [true,false] [0] jS cf:=λp hp=>by
 let h:=c p hp;rwa[stV (List.replicate p (.bool true)) []=D];simp? [jS,h,hV,prs,tps,ja,cs1]
def QP(first:PyData)(c:Ao):PyData:=match c.getLast? with|some p=>p.2|none=>first
def Vl (cf:CF):=∀ (p:Int) (f:PyData) (a un:Ao) (b:Ad),cf "House.now" [hV p f a un b]=.ok (.d (QP f a)) [some (hV p f a un b)]
def zkl(cf:CF):Vl λ_=>runI 1 [true] [0] Zu cf:=λp f a un e=>by
 cases q:a.getLast? with
 |none=>
  have:a= []:=List.getLast?_eq_none_iff.mp q;subst this;simp? [Zu,hV,prs,tps,QP,ja,cs1]
 |some x=>
  let b:a≠ []:=λz=>by rw[z]at q;cases q
  let c:prs a≠ []:=by cases a with
   |nil=>erw[absurd rfl b]
   |cons _ _=>erw[λz=>nomatch z]
  let d:(prs a).getLast?\(.d (.tuple [x.1,x.2])):=by
   unfold prs tps;rw[List.getLast?_map,List.getLast?_map,q];rfl
  let hi:atI [x.1,x.2] 1\x.2:=rfl;simp only[hV,QP,q];rwa[prs a=P];simp? [Zu,c,d,hi,ja,cs1]
def jX (cf:CF):=∀ (fr:Aa) (cl:Ad) (n:Str),cf "check_hangs" [.d (stV fr cl),.d (.str n)]=if (zG cl n).isSome then .ok (.d .none) [none,none] else .exc QJ [none,none]
def zeQ(cf:CF):jX λ_=>runI 2 [false,false] [] jZ cf:=λfr cl n=>by
 let a:=qh fr cl;let b:=zN cl;rwa[stV fr cl=D];cases q:zG cl n<;>(first | (simp? [jZ,a,b,q,fAttr,gDnin,cs1];done) | simp![jZ,a,b,q,fAttr,gDnin,sRaise])
def zs(p:Nat):PyData:=.tuple (List.replicate p (.int 0))
def νc(p:Nat):PyData:=.tuple [zs p,.bool false,zs p]
def kS (cf:CF):=∀ p s:Nat,p<=12->s<=40->cf "bare" [.d (.int p),.d (.int s)]=.ok (.l ((List.replicate s (νc p)).map .d)) [none,none]
def zkj{p:Nat}(hp:p<=12):binD .Mult (.tuple [.int 0]) (.int p)\(zs p):=by
 let a:(0:Int)<=p/\(p:Int)<1000000/\ [PyData.int 0].length*(p:Int).toNat<=1000000:=#[by lia,by lia,by rw[uA];lia];let e:binD .Mult (.tuple [.int 0]) (.int p)=if (0:Int)<=p/\(p:Int)<1000000/\ [PyData.int 0].length*(p:Int).toNat<=1000000 then some (.tuple (List.replicate (p:Int).toNat [.int 0]).flatten) else none:=by
  rw[binD]
 rw[e,if_pos a];unfold zs;simp
def mul_one(p:Int)(S:OV)(c:PyData)(G:PyData->PyData->Option PyData)(hb:G (.tuple [.int 0]) (.int p)\c):fBin G (fTup (fCons (fC (.int 0)) fNil)) (fVar 0) [@&(.int p),some S,none]=.ok (.dat c,[@&(.int p),some S,none]):=by
 simp[fBin,fTup,fCons,fC,fNil,fVar,R.bind,R.get,derf,derS,derSs,hb]
def zjL(l:s<=1000000)(c: -1000000<=S/\S<=1000000)(i:S.toNat=s)(B:EM FV)(e:qR 1 (.nm 0 3) fYes B (qi s) [] [o0,@&(.int S),o]=.ok (I,[o0,@&(.int S),o])):fComp 3 1 (.nm 0 3) (fRange (fVar 1)) fYes B [o0,@&(.int S),o]=.ok (I,[o0,@&(.int S),o]):=by
 simp[fComp,fRange,fVar,R.bind,R.get,derf,c,i,zF,l,e]
def zdB(i:o [some P,some S,none]=.ok (.next,[some P,some S,some c]))(l:I [some P,some S,some c]=.ok (.ret J,[some P,some S,some c])):fin [false,false] (sSeq o I [some P,some S,none])=.ok J [none,none]:=by
 simp[sSeq,i,l,fin,outs]
def zgV(hb:G (.tuple [.int 0]) (.int P)\ν):sAsg [] 2 (fD (fBin G (fTup (fCons (fC (.int 0)) fNil)) (fVar 0))) [@&(.int P),some S,none]=.ok (.next,[@&(.int P),some S,@&ν]):=by
 let a:=mul_one P S ν G hb;unfold sAsg fD;rw[a];rfl
def zgW(l:s<=1000000)(c: -1000000<=S/\S<=1000000)(i:S.toNat=s)(B:EM FV)(e:qR 1 (.nm 0 3) fYes B (qi s) [] [o0,@&(.int S),o]=.ok (ys,[o0,@&(.int S),o])):sRet (fOwn (fComp 3 1 (.nm 0 3) (fRange (fVar 1)) fYes B)) [o0,@&(.int S),o]=.ok (.ret (.l (ys.map .d)),[o0,@&(.int S),o]):=by
 let a:=zjL l c i B e;unfold sRet fOwn;rw[a];rfl
def zgY(cf:CF)(ds:Aa):qR 1 (.nm 0 3) fYes (jax.ev cf).1 ds [] [o0,o1,@&ν]=.ok (ds.map λ_=>.tuple [ν,.bool false,ν],[o0,o1,@&ν]):=by
 let e:=qW (k:=1) (t:=.nm 0 3) (cond:=fYes) (elt:=(jax.ev cf).1) (ds:=ds) (U:= [o0,o1,@&ν]) (λ_=>true) (λ_=>.tuple [ν,.bool false,ν]) (by
  intro x hx;refine#[[o0,o1,@&ν,@&x],_,rfl,rfl,rfl,λ_=>#[.dat (.tuple [ν,.bool false,ν]),[o0,o1,@&ν,@&x],?_,rfl,rfl]];simp? [jax,cs1])
 rw[qX]at e;erw[e]
def zgX:jbi.ex cf []=sSeq (sAsg [] 2 (fD (fBin (binD .Mult) (fTup (fCons (fC (.int 0)) fNil)) (fVar 0)))) (sRet (fOwn (fComp 3 1 (.nm 0 3) (fRange (fVar 1)) fYes (jax.ev cf).1))):=rfl
def zgZ(cf:CF):kS λ_=>runI 3 [false,false] [] jbi cf:=λp s hp b=>by
 let e:=zgY cf (o0:=some (.d (.int p))) (o1:=some (.d (.int s))) (ν:=zs p) (qi s);rw[List.map_const',zF]at e;let f1:=zgV (S:=.d (.int s)) (zkj hp);let f2:=zgW (by lia) (by lia) (by lia) _ e;let a:νc p=.tuple [zs p,.bool false,zs p]:=rfl;rw[a];erw[(if_pos rfl).trans ?_];rw[zgX];erw[zdB f1 f2]
def Qi (cf:CF):=∀ (fr:Aa) (cl ch:Ad),↑cl+↑ch<=1000000->cf "with_cloths" [.d (stV fr cl),.d (.dict (ch.map dK))]=.ok (.d (stV fr (zO cl ch))) [none,none]
def jk(ds:Ad):(OV.m ds).view=.dict (ds.map dK):=rfl
def zi7(cf:CF)(i:QB cf):Qi λ_=>runI 3 [false,false] [] ZF cf:=λfr cl ch hl=>by
 let c:=qh fr cl;let d:=zN cl;let e:=qK fr cl;let f:=zN ch;let b:=i (.list fr) (.dict ((zO cl ch).map dK));let hv:=jk (zO cl ch);let hw:=Wh fr (zO cl ch);generalize a:zO cl ch=g at b hv hw |-
 simp? [ZF,a,c,d,e,f,b,hv,hw,hl,zA,cs1]
def QA (cf:CF):=∀ (fr:Aa) (cl:Ad) (n:Str),Nm n->zG cl n=none->cf "check_new" [.d (stV fr cl),.d (.str n)]=.ok (.d .none) [none,none]
def Y6(cf:CF)(hi:Wn cf):QA λ_=>runI 2 [false,false] [] jz cf:=λfr cl n d hv=>by
 let a:=hi n d;let b:=qh fr cl;let c:=zN cl;simp? [jz,a,b,c,hv,zA,cs1]
def kZ (cf:CF):=∀ (fr:Aa) (cl:Ad) (n:Str) (k:Nat),Nm n->zG cl n=none->↑fr<=12->↑cl<=1000->k<=40->cf "behind_hang" [.d (stV fr cl),.d (.list [.str n,.int k])]=.ok (.d (stV fr (zO cl [(n,.list (List.replicate k (νc ↑fr)))]))) [none,none]
def qu(xs:Aa):(OV.l (xs.map .d)).view=.list xs:=by rw[OV.view,OV.views_d]
def zhn(cf:CF)(hw:Qi cf)(hc:QA cf)(hb:kS cf):kZ λ_=>runI 4 [false,false] [] qM cf:=λfr cl n k h hv hf hl hk=>by
 let d:=hc fr cl n h hv;let e:=hb ↑fr k hf hk;let f:=hw fr cl [(n,.list (List.replicate k (νc ↑fr)))] (by simp;lia);let g:=qK fr cl;let a:=qu (List.replicate k (νc ↑fr));let hm:=jk [(n,PyData.list (List.replicate k (νc ↑fr)))];let c:(0:Int)<=k:=by lia
 let b:(k:Int)<=40:=by lia
 rwa[PyData.dict (List.map dK [(n,PyData.list (List.replicate k (νc ↑fr)))])=j,OV.l ((List.replicate k (νc ↑fr)).map .d)=i]
 dsimp! [qM,d,e,f,g,a,hm,c,b,zA]
def Yr (cf:CF) (S D c:PyData):Prop:=cf "behind" [.d S,.d D]=.ok (.d c) [none,none]
def zjZ(cf:CF)(l:Vl cf)(p:Int)(f:PyData)(c un:Ao)(D i:PyData)(hl:↑c<1000000)(hb:Yr cf (QP f c) D i):runI 4 [true,false] [0] ν6 cf [hV p f c un [],.d D]=.ok (.d .none) [some (hV p f (c++ [(D,i)]) [] []),none]:=by
 let b:=l p f c un [];let d:cf "behind" [.d (QP f c),.d D]=.ok (.d i) [none,none]:=hb;let e:↑(prs c)=↑c:=by unfold prs tps;simp
 let g:=vE c;let h:(tps c++ [PyData.tuple [D,i]]).map OV.d=prs (c++ [(D,i)]):=by unfold prs tps;simp
 let j:↑(tps c)<1000000:=by unfold tps;simpa using hl
 let hv:(OV.m []).view=.dict []:=rfl;let k:unD []\[]:=rfl;simp only[hV]at *;let a:prs []= []:=rfl;simp? [ν6,b,d,e,g,h,j,hv,k,a,zA,ja,cs1]
def Zp(x:PyData):(OV.d x).view=x:=rfl
def J8(d:Nat)(st:List Int):List Int:=(List.range ↑st).map λk=>st.getD k 0+(if k=d then 1 else 0)
def qp(d:Nat)(c:Cl):Cl:=if c.w then c else #[J8 d c.st,c.w,c.wi]
def qf(d:Nat)(c:Cl):Bool:= !c.w&&decide (9<=c.st.getD d 0)
def YU(d:Nat)(st:List Int):↑(J8 d st)=↑st:=by unfold J8;simp
def zeV(h:d<↑st):st.take d++ [st.getD d 0+1]++st.drop (d+1)=J8 d st:=by
 apply xZ;intro k;unfold J8;rw[xg];by_cases hk:k<↑st
 ·rw[uu hk];simp only[pd];rw[uC];by_cases b:k<d
  ·rw[xb (by simp;lia),uc b,xc hk,if_neg (by lia),xP,xc hk];simp
  ·rw[xr (by simp;lia)];by_cases a:k=d
   ·subst a;rw[if_pos rfl];have:k-↑(st.take k)=0:=by simp;lia
    rw[this];rfl
   ·rw[if_neg a];have:k-↑(st.take d)=(k-d-1)+1:=by simp;lia
    rw[this,List.singleton_append,um,List.getElem?_drop,show d+1+(k-d-1)=k by lia,xc hk,xP,xc hk];simp
 ·rw[xI (by simp;lia),xI (by simp;lia)];rfl
def Yf(h:d<=n)(z:Nat):HT.sIx n z (some (d:Int))=d:=by
 show (if (d:Int)<0 then ((d:Int)+(n:Int)).toNat else min ((d:Int).toNat) n)=d;rw[if_neg (by lia)];simp;lia
def ya (cf:CF):=∀ (st:List Int) (d:Nat),d<↑st->↑st<=1000->cf "deepened" [.d (zE st),.d (.int d)]=.ok (.d (zE (J8 d st))) [none,none]
def YL(cf:CF):ya λ_=>runI 2 [false,false] [] Jj cf:=λst d h hl=>by
 let a1:=Wb h;let a:↑(st.map PyData.int)=↑st:=by simp
 let s1:HT.sIx ↑(st.map PyData.int) ↑(st.map PyData.int) (some (d:Int))=d:=by rw[a];exact Yf (by lia) _
 let s2:HT.sIx ↑(st.map PyData.int) 0 (some ((d:Int)+1))=d+1:=by
  have:=Yf (n:=↑st) (d:=d+1) (by lia) 0;rw[a];exact this
 let e:Js (st.map PyData.int) none (some (d:Int))=(st.take d).map PyData.int:=by
  unfold Js;rw[s1];have:HT.sIx ↑(st.map PyData.int) 0 none=0:=rfl;rw[this];simp
 let f:Js (st.map PyData.int) (some ((d:Int)+1)) none=(st.drop (d+1)).map PyData.int:=by
  unfold Js;rw[s2];have:HT.sIx ↑(st.map PyData.int) ↑(st.map PyData.int) none=↑st:=by rw[a];rfl
  rw[this,uX];exact ux (by simp)
 let b:¬ (HT.sIx ↑(st.map PyData.int) 0 none=0/\HT.sIx ↑(st.map PyData.int) ↑(st.map PyData.int) (some (d:Int))=↑(st.map PyData.int)):=by rw[s1,a];lia
 let c:¬ (HT.sIx ↑(st.map PyData.int) 0 (some ((d:Int)+1))=0/\HT.sIx ↑(st.map PyData.int) ↑(st.map PyData.int) none=↑(st.map PyData.int)):=by rw[s2];lia
 let i:↑((st.take d).map PyData.int)+1<=1000000:=by simp;lia
 let j:↑((st.take d).map PyData.int)+1+↑((st.drop (d+1)).map PyData.int)<=1000000:=by simp;lia
 let g:(st.take d).map PyData.int++.int (st.getD d 0+1)::(st.drop (d+1)).map PyData.int=(J8 d st).map PyData.int:=by
  rw[<- zeV h];simp
 unfold zE;rw[<- g];rwa[(st.take d).map PyData.int=k,(st.drop (d+1)).map PyData.int=l,st.map PyData.int=X];simp only[Jj];simp? [zE,zaN,zeH,YR,b,c,e,f,a1,i,j]
abbrev JK:Str:= "TooDeep"
def zg9(cf:CF)(hb:Bolt o cs)(hd:d<o) :
  qR 3 (.tp (.cons (.nm 0 2) (.cons (.nm 1 3) (.cons (.nm 2 4) .nil)))) fYes (ja0.ev cf).1 (cs.map Cl.D) [] [@&(zB cs),@&(.int d)]=.ok ((cs.map (qf d)).map .bool,[@&(zB cs),@&(.int d)]):=by
 let(f,j,e,g,rfl):=je (k:=3) (t:=.tp (.cons (.nm 0 2) (.cons (.nm 1 3) (.cons (.nm 2 4) .nil)))) (cond:=fYes) (elt:=(ja0.ev cf).1) (ds:=cs.map Cl.D) (U:= [@&(zB cs),@&(.int d)])
  (λpre f U=>f=((cs.take ↑pre).map (qf d)).map .bool/\U= [@&(zB cs),@&(.int d)]) #[rfl,rfl] (by
   rintro pre x post e f U ⟨g,rfl⟩;let a:↑pre<↑cs:=by have:=congrArg List.length e;simp at this;lia
   let i:x=(cs[↑pre]).D:=by
    have:(cs.map Cl.D)[↑pre]?\x:=by rw[e];simp
    rw[xg,xc a]at this;simpa using this.symm
   let hc:=hb.2 _ (xW a);let b:(cs.take (↑pre+1)).map (qf d)=(cs.take ↑pre).map (qf d)++ [qf d cs[↑pre]]:=by
    rw[uh,xc a,xC];rfl
   rwa[cs[↑pre]=c];subst i;let a1:=Wb (xs:=c.st) (d:=d) (by rw[hc.sl];exact hd);refine#[[@&(zB cs),@&(.int d),@&(zE c.st),@&(.bool c.w),@&(zE c.wi)],true,_,rfl,rfl,λ_=>#[.dat (.bool (qf d c)),[@&(zB cs),@&(.int d),@&(zE c.st),@&(.bool c.w),@&(zE c.wi)],.bool (qf d c),?_,rfl,?_,rfl],λh=>nomatch h]
   ·unfold qf zE;cases hw:c.w with|true=>simp? [ja0]|false=>simp? [ja0,a1]
   ·rw[g];simp only[xB,xz,uo,uT];rw[b,xC];rfl)
 grind
def zha(cf:CF)(i:ya cf)(hp:o<=1000)(hb:Bolt o cs)(hd:d<o) :
  qR 3 (.tp (.cons (.nm 0 2) (.cons (.nm 1 3) (.cons (.nm 2 4) .nil)))) fYes (ja1.ev cf).1 (cs.map Cl.D) [] [@&(zB cs),@&(.int d)]=.ok ((cs.map (qp d)).map Cl.D,[@&(zB cs),@&(.int d)]):=by
 let(f,m,e,g,rfl):=je (k:=3) (t:=.tp (.cons (.nm 0 2) (.cons (.nm 1 3) (.cons (.nm 2 4) .nil)))) (cond:=fYes) (elt:=(ja1.ev cf).1) (ds:=cs.map Cl.D) (U:= [@&(zB cs),@&(.int d)])
  (λpre f U=>f=((cs.take ↑pre).map (qp d)).map Cl.D/\U= [@&(zB cs),@&(.int d)]) #[rfl,rfl] (by
   rintro pre x post e f U ⟨g,rfl⟩;let a:↑pre<↑cs:=by have:=congrArg List.length e;simp at this;lia
   let l:x=(cs[↑pre]).D:=by
    have:(cs.map Cl.D)[↑pre]?\x:=by rw[e];simp
    rw[xg,xc a]at this;simpa using this.symm
   let hc:=hb.2 _ (xW a);let b:(cs.take (↑pre+1)).map (qp d)=(cs.take ↑pre).map (qp d)++ [qp d cs[↑pre]]:=by
    rw[uh,xc a,xC];rfl
   rwa[cs[↑pre]=c];subst l;let j:=i c.st d (by rw[hc.sl];exact hd) (by rw[hc.sl];exact hp);refine#[[@&(zB cs),@&(.int d),@&(zE c.st),@&(.bool c.w),@&(zE c.wi)],true,_,rfl,rfl,λ_=>#[.dat (qp d c).D,[@&(zB cs),@&(.int d),@&(zE c.st),@&(.bool c.w),@&(zE c.wi)],(qp d c).D,?_,rfl,?_,rfl],λh=>nomatch h]
   ·unfold qp;cases hw:c.w with|true=>simp![ja1,hw,Cl.D,Qo]|false=>simp? [ja1,hw,Cl.D,Qo,j,Zp]
   ·rw[g];simp only[xB,xz,uo,uT];rw[b,xC];rfl)
 grind
def Vo(bs:List Bool):Option.map (λbs=>PyData.bool (bs.any id)) (qt (bs.map .bool))\(.bool (bs.any id)):=by rw[Qn];rfl
def zbJ(cf:CF)(i:ya cf)(hp:o<=1000)(hb:Bolt o cs)(hd:d<o) :
  runI 2 [false,false] [] ZO cf [.d (zB cs),.d (.int d)]=if cs.any (qf d) then .exc JK [none,none] else .ok (.l ((cs.map (qp d)).map λc=>.d c.D)) [none,none]:=by
 let g:=zg9 cf hb hd;let j:=zha cf i hp hb hd;let h:↑cs<=1000000:=by have:=hb.1;lia
 let a:=Vo (cs.map (qf d));let l:(cs.map (qf d)).any id=cs.any (qf d):=by rw[uP];rfl
 rw[l]at a;let e:↑((cs.map (qf d)).map PyData.bool)<=1000000:= ~~~h;let k:((cs.map (qp d)).map Cl.D).map OV.d=(cs.map (qp d)).map λc=>OV.d c.D:=by rw[xy];rfl
 rw[<- k];unfold zB at *;let f:↑(cs.map Cl.D)<=1000000:= ~~~h;rwa[(cs.map (qf d)).map PyData.bool=m,(cs.map (qp d)).map Cl.D=n,cs.map Cl.D=X,cs.any (qf d)=b];cases b with|true=>simp![ZO,g,a,f,e,sRaise,JK]|false=>simp? [ZO,g,j,a,f,e]
def KH(cf:CF)(d:Int):runI 2 [false,false] [] ZO cf [.d (zB []),.d (.int d)]=.ok (.l []) [none,none]:=by
 simp? [ZO,zB,qR,loopG,qt]
def Wm (cf:CF):Prop:=(∀ (a:Nat) (cs:List Cl) (d:Nat),a<=1000->Bolt a cs->d<a->cf "dipped" [.d (zB cs),.d (.int d)]=if cs.any (qf d) then .exc JK [none,none] else .ok (.l ((cs.map (qp d)).map λc=>.d c.D)) [none,none])/\∀ d:Int,cf "dipped" [.d (zB []),.d (.int d)]=.ok (.l []) [none,none]
abbrev vh:Str:= "NoCell"
abbrev zaG:Str:= "BadWish"
def zaB (cf:CF):=∀ (cs:List Cl) (a:Int),↑cs<=1000->cf "has_cell" [.d (zB cs),.d (.int a)]=.ok (.d (.bool (decide (0<=a/\a<↑cs)))) [none,none]
def zj6(cf:CF):zaB λ_=>runI 2 [false,false] [] Zl cf:=λcs a hl=>by
 let b:↑(cs.map Cl.D)=↑cs:=by simp
 rwa[cs.map Cl.D=X];by_cases c:0<=a
 ·by_cases d:a<↑cs
  ·let e:a<(↑X:Int):=by lia
   simp? [Zl,b,c,d]
  ·simp? [Zl,b,c,d]
 ·simp? [Zl,b,c]
def in9(i:Int):Bool:=decide (0<=i)&&decide (i<=9)
def kj(xs:List Int)(c:Nat):Bool:=decide (↑xs=c)&&xs.all in9
def zdt (cf:CF):=∀ (xs:List Int) (a:Nat),↑xs<=1000->cf "is_picture" [.d (zE xs),.d (.int a)]=.ok (.d (.bool (kj xs a))) [none,none]
def zkE(cf:CF):zdt λ_=>runI 2 [false,false] [] Zf cf:=λxs a hl=>by
 let e:=qW (k:=1) (t:=.nm 0 2) (cond:=fYes) (elt:=(jbc.ev cf).1) (ds:=xs.map .int) (U:= [@&(zE xs),@&(.int a)]) (λ_=>true) (λx=>match x with | .int i=>.bool (in9 i) | _=>.none) (by
  intro x hx;let(i,_,rfl):=xv.mp hx;refine#[[@&(zE xs),@&(.int a),@&(.int i)],_,rfl,rfl,by simp,λ_=>#[.dat (.bool (in9 i)),[@&(zE xs),@&(.int a),@&(.int i)],?_,rfl,by simp]];unfold in9;by_cases f:0<=i
  ·simp![jbc,f]
  ·simp![jbc,f])
 rw[qX,xy]at e;let em:(xs.map ((λx=>match x with | .int i=>PyData.bool (in9 i) | _=>.none)∘PyData.int))=(xs.map in9).map .bool:=by rw[xy];rfl
 rw[em]at e;let b:=Qn (xs.map in9);let g:(xs.map in9).all id=xs.all in9:=by rw[pj];rfl
 let d:↑(xs.map PyData.int)=↑xs:=by simp
 let l:↑((xs.map in9).map PyData.bool)<=1000000:=by simp;lia
 let h:↑xs<=1000000:=by lia
 unfold kj;rw[<- g];unfold zE at *;rwa[xs.map in9=m];by_cases hp:↑xs=a
 ·let c:((↑xs:Int)==(a:Int))=true:=by rw[beq_iff_eq];lia
  simp![Zf,d,zL,zT,c,hp,h,e,b,l]
  let j:a<=1000000:=by lia
  simp? [zE,j,b]
 ·let c:((↑xs:Int)==(a:Int))=false:=by
   rw[Xb];lia
  simp? [Zf,d,zL,zT,c,hp]
def qE(a:Nat)(xs:List Int)(cs:List Cl):List Cl:=match cs[a]? with|some c=>cs.take a++#[c.st,c.w,xs]::cs.drop (a+1)|none=>cs
def zbb(cs:List Cl)(a:Int)(xs:List Int)(i:Nat):RF:=if 0<=a/\a<↑cs then (if kj xs i then .ok (.l ((qE a.toNat xs cs).map λc=>.d c.D)) [none,none,none] else .exc zaG [none,none,none]) else .exc vh [none,none,none]
def zjS{α:Type}(X:List α)(h:a<=↑X):Js X none (some (a:Int))=X.take a:=by
 unfold Js;rw[Yf h];have:HT.sIx ↑X 0 none=0:=rfl;rw[this];simp
def zjR{α:Type}(X:List α)(h:a<=↑X):Js X (some (a:Int)) none=X.drop a:=by
 unfold Js;rw[Yf h];have:HT.sIx ↑X ↑X none=↑X:=rfl;rw[this];exact ux (by simp)
def yp (cf:CF):=∀ (b:Nat) (cs:List Cl) (a:Int) (xs:List Int),b<=1000->Bolt b cs->↑xs<=1000->cf "with_wish" [.d (zB cs),.d (.int a),.d (zE xs)]=zbb cs a xs b
def zi6(cf:CF)(o:zaB cf)(hp:zdt cf):yp λ_=>runI 6 [false,false,false] [] j9 cf:=λb cs a xs u hb hl=>by
 let e:=o cs a hb.1;unfold zbb;by_cases h:0<=a/\a<↑cs
 ·let hd:decide (0<=a/\a<(↑cs:Int))=true:= ~~~h;obtain⟨j,rfl⟩:∃ j:Nat,a=j:=#[a.toNat,by lia];let g:j<↑cs:=by lia
  let hc:=hb.2 _ (xW g);let i:cs[j]?\cs[j]:=xc g;let a1:atI (cs.map Cl.D) (j:Int)\(cs[j]).D:=jY (by rw[xg,i];rfl);let hw:qE (j:Int).toNat xs cs=cs.take j++⟨(cs[j]).st,(cs[j]).w,xs⟩::cs.drop (j+1):=by
   unfold qE;simp[i]
  rw[if_pos h,hw];rwa[cs[j]=c];let f:=hp xs b hl;let d:↑(c.st.map PyData.int)=b:=by rw[xo];exact hc.sl
  let l:Js (cs.map Cl.D) none (some (j:Int))=(cs.take j).map Cl.D:=by rw[zjS _ (by simp;lia),List.map_take]
  let m:Js (cs.map Cl.D) (some ((j:Int)+1)) none=(cs.drop (j+1)).map Cl.D:=by
   have:=zjR (cs.map Cl.D) (a:=j+1) (by simp;lia);rw[uX];exact this
  let q:↑((cs.take j).map Cl.D)+1<=1000000:=by have:=hb.1;simp;lia
  let r:↑((cs.take j).map Cl.D)+1+↑((cs.drop (j+1)).map Cl.D)<=1000000:=by have:=hb.1;simp;lia
  let s:↑((cs.take j).map Cl.D)<=1000000:=by lia
  let t:↑((cs.drop (j+1)).map Cl.D)<=1000000:=by lia
  let p:((cs.take j++(⟨c.st,c.w,xs⟩:Cl)::cs.drop (j+1)).map λc=>OV.d c.D)=((cs.take j).map Cl.D).map OV.d++OV.d (.tuple [zE c.st,.bool c.w,zE xs])::((cs.drop (j+1)).map Cl.D).map OV.d:=by
   rw[xC,xn,xy,xy];rfl
  rw[p];unfold zB at *;rwa[(cs.take j).map Cl.D=v,(cs.drop (j+1)).map Cl.D=w];let hcd:c.D=.tuple [.tuple (c.st.map PyData.int),.bool c.w,zE c.wi]:=rfl;let n:zE c.st=.tuple (c.st.map PyData.int):=rfl;rw[hcd]at a1;cases k:kj xs b with
  |true=>
   simp? [j9,e,a1,d,f,zhf,K5,zeH,YR,l,m,q,r,s,t,Zp]
  |false=>
   rw[k]at f;simp? [j9,e,a1,d,f,zaG,Zp]
 ·let hd:decide (0<=a/\a<(↑cs:Int))=false:= ~~~h;rw[hd]at e;rw[if_neg h];simp? [j9,e,vh,Zp]
def exS(h:b.nl=false):(IB.cons s b).ex cf io=sSeq (s.ex cf io) (b.ex cf io):=cB2 h
def vA:ja7.nl=false:=rfl
def zfG(size u:Int)(h0:0<=v)(c:v<4):∃ a:Int,atI [PyData.int (-1),.int size,.int (size+1+u),.int (-1-size)] v\(.int a):=by
 obtain⟨j,rfl⟩:∃ k:Nat,v=k:=#[v.toNat,by lia];let b:j<4:=by lia
 match j,b with|0,_=>exact#[_,rfl]|1,_=>exact#[_,rfl]|2,_=>exact#[_,rfl]|3,_=>exact#[_,rfl]
def zfH(cf:CF)(l:qF cf)(hb:zQ b){size:Nat}(G:size<=1000):∃(a:Int)(i:OV),zQ i/\runI 2 [true,false] [0] jd cf [b,.d (.int size)]=.ok (.d (.int a)) [some i,none]:=by
 let j:∀ d,zQ d->(runI 2 [true,false] [0] jd cf [b,.d (.int size)]=fin [true,false] ((ja7.ex cf [0]) [some d,@&(.int size)]))->∃(a:Int)(i:OV),zQ i/\runI 2 [true,false] [0] jd cf [b,.d (.int size)]=.ok (.d (.int a)) [some i,none]:=λd c s=>by
  let(u,f,E,D,e,g):=l d c 50 (by decide) (by decide);let(v,p,z,y,o,t):=l f e 4 (by decide) (by decide);let(a,w):=zfG size u z y;refine#[a,p,o,?_];rw[s]
  simp![ja7,g,t,w,Zp]
 by_cases h0:size=0
 ·subst h0;erw[j b hb ?_];simp? [jd,exS vA]
 ·let m:(0:Int)<(size:Int):=by lia
  let k:0<size:=by lia
  let(r,d,B,A,c,h):=l b hb 7 (by decide) (by decide);by_cases x:0<r
  ·let(q,f,C,F,e,g):=l d c (size:Int) (by lia) (by lia);refine#[q,f,e,?_];simp? [jd,exS vA,m,k,h,x,g,Zp]
  ·let n:r=0:=by lia
   subst n;erw[j d c ?_]
   simp![jd,exS vA,m,k,h,Zp]
def w6 (cf:CF):=∀ b,zQ b->∀ size:Nat,size<=1000->∃ (a:Int) (c:OV),zQ c/\cf "_law_place" [b,.d (.int size)]=.ok (.d (.int a)) [some c,none]
abbrev zgt:Str:= "Twice"
def Zk(n:Nat)(i:Int):Bool:=decide (0<=i/\i<(n:Int))
def YQ(xs:List Int):Bool:=decide (↑(Tab.dedup xs)<↑xs)
def Yp(xs:List Int)(i:Nat)(c:Cl):Cl:=#[c.st,c.w||xs.contains (i:Int),c.wi]
def Yq(xs:List Int)(cs:List Cl)(k:Nat):List Cl:=(List.range k).filterMap λi=>(cs[i]?).map (Yp xs i)
def jN(xs:List Int)(cs:List Cl):List Cl:=Yq xs cs ↑cs
def V4(xs:List Int)(h:cs[k]?\c):Yq xs cs (k+1)=Yq xs cs k++ [Yp xs k c]:=by
 unfold Yq;rw[List.range_succ,List.filterMap_append];congr 1;rw[xR,h];rfl
def zgD(xs:List Int)(cs:List Cl)(k:Nat):↑(Yq xs cs k)<=k:=by
 have:=List.length_filterMap_le (λi=>(cs[i]?).map (Yp xs i)) (List.range k);rw[List.length_range]at this;exact this
def yW(xs:List Int)(i:Int):inD (.int i) (xs.map .int)=xs.contains i:=by
 unfold inD;rw[uP]
 induction xs with
 |nil=>rfl
 |cons x xs a=>
  rw[xX,a,List.contains_cons];congr 1;show PyData.eqv (.int x) (.int i)=(i==x);rw[zT,Bool.eq_iff_iff,beq_iff_eq,beq_iff_eq];exact#[Eq.symm,Eq.symm]
def wa(xs:List Int):(∀ x∈xs.map PyData.int,lay 20 x=true)=True:=eq_true λx hx=>by
 let(i,_,rfl):=xv.mp hx;erw[zL _ _]
def zi2(cs:List Cl)(xs:List Int):RF:=if xs.all (Zk ↑cs) then (if YQ xs then .exc zgt [none,none] else .ok (.l ((jN xs cs).map λc=>.d c.D)) [none,none]) else .exc vh [none,none]
def zi3(cf:CF){cs:List Cl}{xs:List Int} :
  qR 4 (.tp (.cons (.nm 0 2) (.cons (.tp (.cons (.nm 1 3) (.cons (.nm 2 4) (.cons (.nm 3 5) .nil)))) .nil))) fYes (ja3.ev cf).1 (ZL (cs.map Cl.D)) [] [@&(zB cs),@&(zE xs)]=.ok ((jN xs cs).map Cl.D,[@&(zB cs),@&(zE xs)]):=by
 let(i,n,e,g,rfl):=je (k:=4) (t:=.tp (.cons (.nm 0 2) (.cons (.tp (.cons (.nm 1 3) (.cons (.nm 2 4) (.cons (.nm 3 5) .nil)))) .nil))) (cond:=fYes) (elt:=(ja3.ev cf).1) (ds:=ZL (cs.map Cl.D)) (U:= [@&(zB cs),@&(zE xs)])
  (λpre i U=>i=(Yq xs cs ↑pre).map Cl.D/\U= [@&(zB cs),@&(zE xs)]) #[rfl,rfl] (by
   rintro pre x post e i U ⟨g,rfl⟩;obtain⟨c,hc,rfl⟩:∃ c,cs[↑pre]?\c/\x=.tuple [.int (↑pre:Nat),c.D]:=by
    let j:(ZL (cs.map Cl.D))[↑pre]?\x:=by rw[e];simp
    let(y,a,m):=VI j;rw[xg]at a;cases q:cs[↑pre]? with
    |none=>rw[q]at a;cases a
    |some c=>
     rw[q]at a;cases a;exact#[c,rfl,m]
   let d:=yW xs (↑pre:Int);let b:=wa xs;let f:=V4 xs hc;refine#[[@&(zB cs),@&(zE xs),@&(.int (↑pre:Nat)),@&(zE c.st),@&(.bool c.w),@&(zE c.wi)],true,_,rfl,rfl,λ_=>#[.dat (Yp xs ↑pre c).D,[@&(zB cs),@&(zE xs),@&(.int (↑pre:Nat)),@&(zE c.st),@&(.bool c.w),@&(zE c.wi)],(Yp xs ↑pre c).D,?_,rfl,?_,rfl],λh=>nomatch h]
   ·unfold Yp Cl.D Qo;let l:zE xs=.tuple (xs.map .int):=rfl;rw[l];rwa[xs.contains (↑pre:Int)=ci];cases hw:c.w with|true=>simp? [ja3]|false=>simp? [ja3,d,b,zL]
   ·rw[g];simp only[xB,xz,uo,uT];rw[f,xC];rfl)
 rw[e,g];have:↑(ZL (cs.map Cl.D))=↑cs:=by simp[ZL]
 rw[this];rfl
def yn (cf:CF):=∀ (cs:List Cl) (xs:List Int),↑cs<=1000->↑xs<=60->cf "with_wax" [.d (zB cs),.d (zE xs)]=zi2 cs xs
def zi4(cf:CF)(v:zaB cf):yn λ_=>runI 2 [false,false] [] Zm cf:=λcs xs hl hx=>by
 let d:=qW (k:=1) (t:=.nm 0 2) (cond:=fYes) (elt:=(jbl.ev cf).1) (ds:=xs.map .int) (U:= [@&(zB cs),@&(zE xs)]) (λ_=>true) (λx=>match x with | .int i=>.bool (Zk ↑cs i) | _=>.none) (by
  intro x hx;let(i,_,rfl):=xv.mp hx;let e:=v cs i hl;refine#[[@&(zB cs),@&(zE xs),@&(.int i)],_,rfl,rfl,by simp,λ_=>#[.dat (.bool (Zk ↑cs i)),[@&(zB cs),@&(zE xs),@&(.int i)],?_,rfl,by simp]];simp? [jbl,e,Zp])
 rw[qX,xy]at d;let em:(xs.map ((λx=>match x with | .int i=>PyData.bool (Zk ↑cs i) | _=>.none)∘PyData.int))=(xs.map (Zk ↑cs)).map .bool:=by rw[xy];rfl
 rw[em]at d;let b:=Qn (xs.map (Zk ↑cs));let r:(xs.map (Zk ↑cs)).all id=xs.all (Zk ↑cs):=by rw[pj];rfl
 let p:=zi3 cf (cs:=cs) (xs:=xs);let f:=W7 xs;let s:=Tab.dedup_len xs;let h:↑(xs.map PyData.int)=↑xs:=by simp
 let l:↑xs<=1000000:=by lia
 let m:↑((xs.map (Zk ↑cs)).map PyData.bool)<=1000000:=by simp;lia
 let o:↑(ZL (cs.map Cl.D))<=1000000:=by simp[ZL];lia
 let j:↑(cs.map Cl.D)<=1000000:=by simp;lia
 let q:((jN xs cs).map Cl.D).map OV.d=(jN xs cs).map λc=>OV.d c.D:=by rw[xy];rfl
 unfold zi2 YQ;rw[<- q,<- r];unfold zB zE at *;rwa[xs.map (Zk ↑cs)=n];cases a:n.all id with
 |false=>
  simp![Zm,h,l,d,b,m,a,sRaise,vh]
 |true=>
  by_cases hd:↑(Tab.dedup xs)<↑xs
  ·let g:((↑(Tab.dedup xs):Int)==(↑xs:Int))=false:=by rw[Xb];lia
   simp![Zm,h,l,d,b,m,a,WX,f,hx,hd,zL,zT,g,sRaise,zgt]
  ·let g:((↑(Tab.dedup xs):Int)==(↑xs:Int))=true:=by rw[beq_iff_eq];lia
   let heq:↑(Tab.dedup xs)=↑xs:=by lia
   simp![Zm,h,l,d,b,m,a,WX,f,hx,hd,zL,zT,heq,p,o,j]
def k9 (cf:CF):=∀ (cs:List Cl) (xs:List Int),↑cs<=1000->cf "_law_wax" [.d (zB cs),.d (zE xs)]=.ok (.l ((jN xs cs).map λc=>.d c.D)) [none,none]
def zhy(cf:CF):k9 λ_=>runI 2 [false,false] [] JP cf:=λcs xs hl=>by
 let(m,v,e,f,rfl):=je (k:=1) (t:=.nm 0 2) (cond:=fYes) (elt:=(ja9.ev cf).1) (ds:=qi ↑cs) (U:= [@&(zB cs),@&(zE xs)])
  (λpre m U=>m=(Yq xs cs ↑pre).map Cl.D/\U= [@&(zB cs),@&(zE xs)]) #[rfl,rfl] (by
   rintro pre x post e m U ⟨f,rfl⟩;let r:(qi ↑cs)[↑pre]?\x:=by rw[e];simp
   let(j,rfl):=ν7 r;let hc:cs[↑pre]?\cs[↑pre]:=xc j;let a1:atI (cs.map Cl.D) (↑pre:Int)\(cs[↑pre]).D:=jY (by rw[xg,hc];rfl);let i:=yW xs (↑pre:Int);let g:=wa xs;let l:=V4 xs hc;rwa[cs[↑pre]=c];let hcd:c.D=.tuple [zE c.st,.bool c.w,zE c.wi]:=rfl;rw[hcd]at a1;let a:atI [zE c.st,PyData.bool c.w,zE c.wi] 0\(zE c.st):=rfl;let b:atI [zE c.st,PyData.bool c.w,zE c.wi] 1\(.bool c.w):=rfl;let d:atI [zE c.st,PyData.bool c.w,zE c.wi] 2\(zE c.wi):=rfl;refine#[[@&(zB cs),@&(zE xs),@&(.int (↑pre:Nat))],true,_,rfl,rfl,λ_=>#[.dat (Yp xs ↑pre c).D,[@&(zB cs),@&(zE xs),@&(.int (↑pre:Nat))],(Yp xs ↑pre c).D,?_,rfl,?_,rfl],λh=>nomatch h]
   ·unfold Yp Cl.D Qo;let u:zE xs=.tuple (xs.map .int):=rfl;let n:zB cs=.list (cs.map Cl.D):=rfl;rw[u,n];rwa[cs.map Cl.D=Y,zE c.st=A,zE c.wi=B,xs.map PyData.int=X,xs.contains (↑pre:Int)=ci];cases hw:c.w with
    |true=>
     rw[hw]at a1 a b d;simp? [ja9,a1,a,b,d]
    |false=>
     rw[hw]at a1 a b d;simp? [ja9,a1,a,b,d,i,g,zL]
   ·rw[f];simp only[xB,xz,uo,uT];rw[l,xC];rfl)
 rw[zF]at f;subst f;let s: -1000000<=(↑cs:Int)/\(↑cs:Int)<=1000000:=by lia
 let p:↑cs<=1000000:=by lia
 let o:↑(cs.map Cl.D)=↑cs:=by simp
 let q:((Yq xs cs ↑cs).map Cl.D).map OV.d=(jN xs cs).map λc=>OV.d c.D:=by rw[xy];rfl
 rw[<- q];unfold zB at *;rwa[(Yq xs cs ↑cs).map Cl.D=w,cs.map Cl.D=Y];simp? [JP,o,s,p,zF,e]
def V5(cf:CF):∀(xs:List Int)(c:Option OV),(xs.all (Zk size)=true->∃ i,qU (.nm 2 2) (jae.ex cf []) (xs.map .int) [o0,@&(.int size),c]=.ok (.next,[o0,@&(.int size),i])) /\
  (xs.all (Zk size)=false->∃ l,qU (.nm 2 2) (jae.ex cf []) (xs.map .int) [o0,@&(.int size),c]=.ok (.ret (.d (.str "NoCell")),l))
 |[],c=>#[λ_=>#[c,rfl],λh=>by cases h]
 |x::xs,c=>by
  let(b,d):=V5 cf xs (@&(.int x));let good:Zk size x=true->jae.ex cf [] [o0,@&(.int size),@&(.int x)]=.ok (.next,[o0,@&(.int size),@&(.int x)]):=λh=>by
   unfold Zk at h;simp only[x0]at h;let g1:¬ (x<0):=by lia
   let g2:¬ ((size:Int)<=x):=by lia
   simp? [jae,g1,g2]
  let bad:Zk size x=false->jae.ex cf [] [o0,@&(.int size),@&(.int x)]=.ok (.ret (.d (.str "NoCell")),[o0,@&(.int size),@&(.int x)]):=λh=>by
   unfold Zk at h;simp only[decide_eq_false_iff_not]at h;by_cases g1:x<0
   ·simp? [jae,g1]
   ·let g2:(size:Int)<=x:=by lia
    simp? [jae,g1,g2]
  let a:tgF (.nm 2 2) (PyData.int x) [o0,@&(.int size),c]\[o0,@&(.int size),@&(.int x)]:=rfl;refine#[λh=>?_,λh=>?_]
  ·rw[uf,xf]at h;let(i,e):=b h.2;refine#[i,?_];rw[xn,qU,a];simp only[good h.1];erw[e]
  ·rw[uf,Bool.and_eq_false_iff]at h;cases hx:Zk size x with
   |false=>
    refine#[[o0,@&(.int size),@&(.int x)],?_];rw[xn,qU,a];simp only[bad hx]
   |true=>
    rcases h with h | h
    ·rw[hx]at h;cases h
    ·let(l,e):=d h;refine#[l,?_];rw[xn,qU,a];simp only[good hx];erw[e]
def Qe (xs:List Int) (size:Nat):Str:=if xs.all (Zk size) then (if YQ xs then "Twice" else "") else "NoCell"
def zfN(cf:CF)(hx:↑xs<=60)(size:Nat):runI 3 [false,false] [] qQ cf [.d (zE xs),.d (.int size)]=.ok (.d (.str (Qe xs size))) [none,none]:=by
 let(g,h):=V5 cf (o0:=some (.d (zE xs))) xs none;let b:=W7 xs;let c:↑(xs.map PyData.int)=↑xs:=by simp
 let d:↑xs<=1000000:=by lia
 unfold Qe YQ;unfold zE at *;rwa[xs.map PyData.int=X];cases a:xs.all (Zk size) with
 |false=>
  let(f,e):=h a
  simp![qQ,c,d,e]
  cases f with
  |nil=>rfl
  |cons y r=>
   cases r<;>rfl
 |true=>
  let(i,e):=g a;by_cases hd:↑(Tab.dedup xs)<↑xs
  ·let hd2:(↑(Tab.dedup xs):Int)<(↑xs:Int):=by lia
   simp? [qQ,c,d,e,WX,b,hx,hd,hd2]
  ·let hd2:¬ ((↑(Tab.dedup xs):Int)<(↑xs:Int)):=by lia
   simp? [qQ,c,d,e,WX,b,hx,hd,hd2]
def zaC (cf:CF):=∀ (xs:List Int) (size:Nat),↑xs<=60->cf "_law_picks_word" [.d (zE xs),.d (.int size)]=.ok (.d (.str (Qe xs size))) [none,none]
def zcP(cf:CF)(A:qF cf)(l:w6 cf)(hb:zQ b){size:Nat}(z:size<=1000){sp:Int}{o3 o6:Option OV}{xs:List Int}(hl:↑xs<1000){x:PyData} :
  ∃(s:OV)(v:List Int)(y:Option OV),zQ s/\↑v<=↑xs+1/\jal.ex cf [0] [some b,@&(.int size),@&(.int sp),o3,some (.l (xs.map λi=>.d (.int i))),@&x,o6]=.ok (.next,[some s,@&(.int size),@&(.int sp),o3,some (.l (v.map λi=>.d (.int i))),@&x,y]):=by
 let p:↑xs<1000000:=by lia
 let o:↑(xs.map λi=>OV.d (.int i))=↑xs:=by simp
 let m:∀ a:Int,((xs++ [a]).map λi=>OV.d (.int i))=(xs.map λi=>OV.d (.int i))++ [.d (.int a)]:=λa=>by simp
 by_cases h0:sp=0
 ·subst h0;let(a,f,c,g):=l b hb size z;refine#[f,xs++ [a],o6,c,by simp,?_];rw[m];rwa[(xs.map λi=>OV.d (.int i))=j];simp? [jal,zL,zT,g,o,p,Zp]
 ·let k:(sp==0)=false:= ~~~h0;let(r,f,t,q,c,g):=A b hb ((size:Int)+1) (by lia) (by lia);by_cases e:r<(size:Int)
  ·let n:(OV.l (xs.map λi=>.d (.int i))).view=.list (xs.map .int):=by rw[OV.view,OV.views_map,xy];rfl
   let d:=yW xs r;let h:=wa xs;cases hc:xs.contains r with
   |true=>
    rw[hc]at d;refine#[f,xs,@&(.int r),c,by lia,?_];rwa[(xs.map λi=>OV.d (.int i))=j,xs.map PyData.int=X];simp? [jal,zL,zT,k,h0,g,e,n,d,h,Zp]
   |false=>
    rw[hc]at d;refine#[f,xs++ [r],@&(.int r),c,by simp,?_];rw[m];rwa[(xs.map λi=>OV.d (.int i))=j,xs.map PyData.int=X];simp? [jal,zL,zT,k,h0,g,e,n,d,h,o,p,Zp]
  ·refine#[f,xs,@&(.int r),c,by lia,?_];rwa[(xs.map λi=>OV.d (.int i))=j];simp? [jal,zL,zT,k,h0,g,e,Zp]
def zfF(cf:CF)(s:qF cf)(r:w6 cf)(hb:zQ b){size:Nat}(T:size<=50):∃(xs:List Int)(y:OV),zQ y/\↑xs<=60/\runI 7 [true,false] [0] j7 cf [b,.d (.int size)]=.ok (.d (zE xs)) [some y,none]:=by
 let(sp,E,N,W,o,n):=s b hb 3 (by decide) (by decide);let(m,l,Q,V,c,d):=s E o 7 (by decide) (by decide);obtain⟨M,rfl⟩:∃ k:Nat,m=k:=#[m.toNat,by lia];by_cases A:sp=2/\(M:Int)=0
 ·let(rfl,C):=A;rw[C]at d;let g:(size:Int)<=1000000:=by lia
  refine#[(List.range size).reverse.map λ(i:Nat)=>(i:Int),l,c,by simp;lia,?_];let K:(qi size).reverse=((List.range size).reverse.map λ(i:Nat)=>(i:Int)).map .int:=by
   unfold qi;rw[<- List.map_reverse,xy];rfl
  unfold zE;rw[<- K];simp? [j7,n,d,zL,zT,zaO,g,zaM,YR,Zp]
 ·let(R,B,(a,xs,p,h,j,w,rfl)):=qS (t:=.nm 5 5) (ds:=qi M) (U:= [some l,@&(.int size),@&(.int sp),@&(.int M),some (.l []),none,none])
   (λpre U=>∃(a:OV)(xs:List Int)(p h:Option OV),zQ a/\↑xs<=↑pre/\U= [some a,@&(.int size),@&(.int sp),@&(.int M),some (.l (xs.map λi=>.d (.int i))),p,h]) #[l,[],none,none,c,xh _,rfl] (by
    rintro pre x post e U ⟨a,xs,p,h,j,w,rfl⟩;let P:↑pre<M:=by
     have:=congrArg List.length e;rw[zF]at this;simp at this;lia
    let(F,L,D,J,O,H):=zcP cf s r j (size:=size) (by lia) (sp:=sp) (o6:=h) (xs:=xs) (by lia) (x:=x);exact#[_,_,rfl,H,F,L,_,D,J,by simp;lia,rfl])
  rw[zF]at w;refine#[xs,a,j,by lia,?_];let g: -1000000<=(M:Int)/\(M:Int)<=1000000:=by lia
  let q:leaves (xs.map λi=>OV.d (.int i))\(xs.map .int):=by
   have:=Qq (xs.map PyData.int);rw[xy]at this;exact this
  let v:M<=1000000:=by lia
  unfold zE;rwa[(xs.map λi=>OV.d (.int i))=S,xs.map PyData.int=X];by_cases f:sp=2
  ·let C:¬ ((M:Int)=0):=λz=>A #[f,z];let u:¬ (M=0):=by lia
   let I:((M:Int)==0)=false:= ~~~u;subst f;simp? [j7,n,d,zL,zT,I,u,g,v,zF,B,q,Zp]
  ·let G:(sp==2)=false:= ~~~f;simp? [j7,n,d,zL,zT,G,f,g,v,zF,B,q,Zp]
def zaD (cf:CF):=∀ b,zQ b->∀ size:Nat,size<=50->∃ (xs:List Int) (a:OV),zQ a/\↑xs<=60/\cf "_law_picks" [b,.d (.int size)]=.ok (.d (zE xs)) [some a,none]
def ze7(cf:CF)(hb:Bolt o cs)(hd:d<o) :
  runI 2 [false,false] [] ZU cf [.d (zB cs),.d (.int d)]=.ok (.d (.bool (cs.any (qf d)))) [none,none]:=by
 let(j,v,e,g,rfl):=je (k:=1) (t:=.nm 0 2) (cond:=fYes) (elt:=(ja5.ev cf).1) (ds:=cs.map Cl.D) (U:= [@&(zB cs),@&(.int d)])
  (λpre j U=>j=((cs.take ↑pre).map (qf d)).map .bool/\U= [@&(zB cs),@&(.int d)]) #[rfl,rfl] (by
   rintro pre x post e j U ⟨g,rfl⟩;let b:↑pre<↑cs:=by have:=congrArg List.length e;simp at this;lia
   let p:x=(cs[↑pre]).D:=by
    have:(cs.map Cl.D)[↑pre]?\x:=by rw[e];simp
    rw[xg,xc b]at this;simpa using this.symm
   let hc:=hb.2 _ (xW b);let i:(cs.take (↑pre+1)).map (qf d)=(cs.take ↑pre).map (qf d)++ [qf d cs[↑pre]]:=by
    rw[uh,xc b,xC];rfl
   rwa[cs[↑pre]=c];subst p;let a:d<c.st.length:=by rw[hc.sl];exact hd
   let a1:=Wb (xs:=c.st) (d:=d) a;let w:c.st.getD d 0<=9:=by
    rw[xP,xc a];erw[(hc.sn _ (xW a)).2]
   let r:(c.st.getD d 0==9)=decide (9<=c.st.getD d 0):=by
    rw[Bool.eq_iff_iff,beq_iff_eq,x0];lia
   refine#[[@&(zB cs),@&(.int d),some (.d c.D)],true,_,rfl,rfl,λ_=>#[.dat (.bool (qf d c)),[@&(zB cs),@&(.int d),some (.d c.D)],.bool (qf d c),?_,rfl,?_,rfl],λh=>nomatch h]
   ·unfold qf Cl.D Qo;rw[<- r];let a0:atI [zE c.st,PyData.bool c.w,zE c.wi] 0\(zE c.st):=rfl;let a2:atI [zE c.st,PyData.bool c.w,zE c.wi] 1\(.bool c.w):=rfl;unfold zE at *;cases hw:c.w with
    |true=>
     simp? [ja5,a0,a2]
    |false=>
     rw[hw]at a0 a2
     simp![ja5,a0,a2,a1,zL,zT]
   ·rw[g];simp only[xB,xz,uo,uT];rw[i,xC];rfl)
 let s:(cs.take ↑(cs.map Cl.D))=cs:=by grind
 rw[s]at g;subst g;let l:↑cs<=1000000:=by have:=hb.1;lia
 let f:=Vo (cs.map (qf d));let q:(cs.map (qf d)).any id=cs.any (qf d):=by rw[uP];rfl
 rw[q]at f;let m:↑((cs.map (qf d)).map PyData.bool)<=1000000:= ~~~l;unfold zB at *;let n:↑(cs.map Cl.D)<=1000000:= ~~~l;rwa[(cs.map (qf d)).map PyData.bool=u];simp? [ZU,e,f,n,m]
def zcF(cf:CF)(d:Int):runI 2 [false,false] [] ZU cf [.d (zB []),.d (.int d)]=.ok (.d (.bool false)) [none,none]:=by
 simp? [ZU,zB,qR,loopG,loopG,qt]
def zhv(cf:CF)(hl:↑st<=1000){d:Nat}{o0 o2 o4 o5:Option OV} :
  qR 1 (.nm 0 6) fYes (jap.ev cf).1 (qi ↑st) [] [o0,@&(.int d),o2,@&(zE st),o4,o5]=.ok ((J8 d st).map .int,[o0,@&(.int d),o2,@&(zE st),o4,o5]):=by
 let e:=qW (k:=1) (t:=.nm 0 6) (cond:=fYes) (elt:=(jap.ev cf).1) (ds:=qi ↑st) (U:= [o0,@&(.int d),o2,@&(zE st),o4,o5]) (λ_=>true) (λx=>match x with | .int i=>.int (st.getD i.toNat 0+(if i.toNat=d then 1 else 0)) | _=>.none) (by
  intro x hx;let(i,hi,rfl):=xv.mp hx;let a:i<↑st:= ~~~hi;let a1:=Wb (xs:=st) (d:=i) a;refine#[[o0,@&(.int d),o2,@&(zE st),o4,o5,@&(.int i)],_,rfl,rfl,by simp,λ_=>#[.dat (.int (st.getD i 0+(if i=d then 1 else 0))),[o0,@&(.int d),o2,@&(zE st),o4,o5,@&(.int i)],?_,rfl,by simp]];let c:((i:Int)==(d:Int))=decide (i=d):=by
   rw[Bool.eq_iff_iff,beq_iff_eq,x0];lia
  unfold zE;by_cases hid:i=d
  ·subst hid
   simp![jap,a1,zL,zT]
  ·let b:((i:Int)==(d:Int))=false:=by rw[c];simpa using hid
   simp![jap,a1,zL,zT,b,hid])
 rw[e,qX];unfold qi J8;rw[xy,xy];rfl
def zhw(cf:CF)(hp:o<=1000)(hb:Bolt o cs)(d:Nat) :
  runI 6 [false,false] [] ZI cf [.d (zB cs),.d (.int d)]=.ok (.l ((cs.map (qp d)).map λc=>.d c.D)) [none,none]:=by
 let(v,e,(o3,h,i,rfl)):=qS (t:=.tp (.cons (.nm 3 3) (.cons (.nm 4 4) (.cons (.nm 5 5) .nil)))) (body:=ja4.ex cf []) (ds:=cs.map Cl.D) (U:= [@&(zB cs),@&(.int d),some (.l []),none,none,none])
  (λpre U=>∃ o3 h i:Option OV,U= [@&(zB cs),@&(.int d),some (.l (((cs.take ↑pre).map (qp d)).map λc=>.d c.D)),o3,h,i]) #[_,_,_,rfl] (by
   rintro pre x post e U ⟨o3,h,i,rfl⟩;let a:↑pre<↑cs:=by have:=congrArg List.length e;simp at this;lia
   let q:x=(cs[↑pre]).D:=by
    have:(cs.map Cl.D)[↑pre]?\x:=by rw[e];simp
    rw[xg,xc a]at this;simpa using this.symm
   let hc:=hb.2 _ (xW a);let f:(cs.take (↑pre+1)).map (qp d)=(cs.take ↑pre).map (qp d)++ [qp d cs[↑pre]]:=by
    rw[uh,xc a,xC];rfl
   let m:↑(((cs.take ↑pre).map (qp d)).map λc=>OV.d c.D)<1000000:=by
    have:=hb.1;simp;lia
   rwa[cs[↑pre]=c];subst q;let g:↑(pre++ [c.D])=↑pre+1:=by simp
   rw[g,f,xC];let k:=zhv cf (st:=c.st) (by rw[hc.sl];exact hp) (d:=d) (o0:=some (.d (zB cs))) (o2:=some (.l (((cs.take ↑pre).map (qp d)).map λc=>.d c.D))) (o4:=some (.d (.bool c.w))) (o5:=some (.d (zE c.wi)));let p: -1000000<=(c.st.length:Int)/\(c.st.length:Int)<=1000000:=by rw[hc.sl];lia
   let n:c.st.length<=1000000:=by rw[hc.sl];lia
   let u:↑((J8 d c.st).map PyData.int)<=1000000:=by simp[YU];rw[hc.sl];lia
   rwa[((cs.take ↑pre).map (qp d)).map (λc=>OV.d c.D)=j];refine#[[@&(zB cs),@&(.int d),some (.l j),@&(zE c.st),@&(.bool c.w),@&(zE c.wi)],[@&(zB cs),@&(.int d),some (.l (j++ [.d (qp d c).D])),@&(zE (qp d c).st),@&(.bool c.w),@&(zE c.wi)],rfl,?_,_,_,_,rfl];unfold qp;let b:↑(c.st.map PyData.int)=c.st.length:=by simp
   cases hw:c.w with
   |true=>
    simp![ja4,hw,Cl.D,Qo,m]
   |false=>
    rw[hw]at k;unfold zE at *;generalize l:(J8 d c.st).map PyData.int=Y at *;generalize r:c.wi.map PyData.int=w at *
    simp![ja4,hw,Cl.D,Qo,zE,b,p,n,u,k,m,zF]
    exact#[#[l.symm,r.symm],l.symm])
 let s:(cs.take ↑(cs.map Cl.D))=cs:=by grind
 rw[s]at e;unfold zB at *;simp? [ZI,e]
def ze6(cf:CF)(d:Int):runI 6 [false,false] [] ZI cf [.d (zB []),.d (.int d)]=.ok (.l []) [none,none]:=by
 simp? [ZI,zB,qU]
def yi (cf:CF):Prop:=(∀ (a:Nat) (cs:List Cl) (d:Nat),Bolt a cs->d<a->cf "_law_full" [.d (zB cs),.d (.int d)]=.ok (.d (.bool (cs.any (qf d)))) [none,none])/\∀ d:Int,cf "_law_full" [.d (zB []),.d (.int d)]=.ok (.d (.bool false)) [none,none]
def zdr (cf:CF):Prop:=(∀ (a:Nat) (cs:List Cl) (d:Nat),a<=1000->Bolt a cs->cf "_law_dip" [.d (zB cs),.d (.int d)]=.ok (.l ((cs.map (qp d)).map λc=>.d c.D)) [none,none])/\∀ d:Int,cf "_law_dip" [.d (zB []),.d (.int d)]=.ok (.l []) [none,none]
def zjK{α:Type}{k:Nat}{t:IT}{elt:EM FV}(g f:α->PyData){xs:List α}{U:Gv}
  (r:∀ a∈xs,∃ c u i,tgF t (g a) (U++List.replicate k none)\c/\elt c=.ok (u,i)/\derS i u\(f a)/\i.take ↑U=U) :
  qR k t fYes elt (xs.map g) [] U=.ok (xs.map f,U):=by
 let(h,b,e,p,rfl):=je (k:=k) (cond:=fYes) (λpre h b=>h=(xs.take ↑pre).map f/\b=U) (ds:=xs.map g) (U:=U) #[rfl,rfl] (by
  rintro pre d post e h b ⟨rfl,rfl⟩;let hlen:↑pre<↑xs:=by
   have:=congrArg List.length e;simp at this;lia
  let hd:d=g xs[↑pre]:=by
   let l:(xs.map g)[↑pre]?\d:=by rw[e];simp
   rw[xg,xc hlen]at l;erw[(Option.some.inj l).symm]
  let(c,u,i,j,m,n,o):=r xs[↑pre] (xW hlen);rw[<- hd]at j;refine#[c,true,c,j,rfl,λ_=>#[u,i,f xs[↑pre],m,n,?_,o],λz=>nomatch z];rw[xB,uA,uh,xC,xc hlen];rfl)
 rw[e];rw[p];simp
def zjY{α:Type}{k:Nat}{t:IT}{ek ev:EM FV}(g:α->PyData)(c:α->Str)(f:α->PyData){U:Gv}:∀(xs:List α)(acc:Ad),
  (∀ a∈xs,∃ i l,tgF t (g a) (U++List.replicate k none)\i/\itD ek ev i=.ok ((c a,f a),l)/\l.take ↑U=U) ->
  loopG k t fYes (itD ek ev) (λo y=>zZ o y.1 y.2) (xs.map g) acc U=.ok (zO acc (xs.map λa=>(c a,f a)),U)
 |[],acc,_=>rfl
 |x::xs,acc,h=>by
  let(i,l,b,d,e):=h x (by simp);let m:=zjY g c f (U:=U) xs (zZ acc (c x) (f x)) λa j=>h a (by simp[j]);rw[xn,loopG,b];simp only[fYes,d,e];erw[m]
section
variable {β:Type}
def kq{v:β}(h:n∉c.map (·.1)):zZ c n v=c++ [(n,v)]:=by
 unfold zZ;grind
def valG_none{c:List (Str×β)}:zG c n=none↔n∉c.map (·.1):=by
 unfold zG;rw[Option.map_eq_none_iff,List.find?_eq_none];constructor
 ·intro h z;let(p,hp,e):=xv.mp z;exact h p hp (~~~e)
 ·intro h p hp z;exact h (xv.mpr #[p,hp,~~~z])
def jM(h:zG c n\v):(n,v)∈c:=by
 unfold zG at h;let(p,e,rfl):=uQ.mp h;grind
def zcT(c:List (Str×β))(n:Str)(v:β):(zZ c n v).map (·.1)=if n∈c.map (·.1) then c.map (·.1) else c.map (·.1)++ [n]:=by
 by_cases h:n∈c.map (·.1)
 ·rw[if_pos h];unfold zZ;rw[if_pos (by
   grind),xy]
  apply uv;intro p hp;show (if p.1=n then (p.1,v) else p).1=p.1
  split<;>rfl
 ·rw[if_neg h,kq h];simp
def vF(h:(c.map (·.1)).Nodup)(n:Str)(v:β):((zZ c n v).map (·.1)).Nodup:=by
 rw[zcT]
 split
 ·erw[h]
 next d=>
  rw[xO];exact⟨h,by simp,λa f b hb e=>d (by
   grind)⟩
def JB(h:p∈zZ c n v):p∈c∨p=(n,v):=by
 unfold zZ at h
 split at h
 ·let(q,b,e):=xv.mp h
  split at e
  next a=>
   exact .inr (by rw[<- e,a])
  ·exact .inl (by rw[<- e];exact b)
 ·rcases xJ.mp h with h | h
  ·erw[.inl h]
  ·exact .inr (~~~h)
def kP(v:β)(h:m≠n):zG (zZ c n v) m=zG c m:=by
 unfold zG zZ
 split
 ·congr 1;rw[List.find?_map];have:((λp:Str×β=>decide (p.1=m))∘λp:Str×β=>if p.1=n then (p.1,v) else p)=λp=>decide (p.1=m):=by
   funext p;show decide ((if p.1=n then (p.1,v) else p).1=m)=_
   split<;>rfl
  rw[this];cases q:c.find? λp=>decide (p.1=m) with
  |none=>rfl
  |some p=>
   grind
 grind
def zag(c L:List (Str×β))(n:Str)(v:β):zO c (L++ [(n,v)])=zZ (zO c L) n v:=by
 unfold zO;rw[List.foldl_append];rfl
def QU:∀(L c:List (Str×β)){m:Str},m∉L.map (·.1)->zG (zO c L) m=zG c m
 |[],c,m,_=>rfl
 |p::L,c,m,h=>by
  have:=QU L (zZ c p.1 p.2) (λz=>h (by simp only[xn,xA];exact .inr z));rw[kP _ (λe=>h (by simp[e]))]at this;erw[this]
def wd:∀(L c:List (Str×β)),(L.map (·.1)).Nodup->(∀ p∈L,p.1∉c.map (·.1))->zO c L=c++L
 |[],c,_,_=>by simp[zO]
 |p::L,c,h,hd=>by
  rw[xn,xG]at h;let e:=kq (v:=p.2) (hd p (by simp));let b:=wd L (c++ [p]) h.2 (λq a z=>by
   rw[xC,xJ]at z;rcases z with z | z
   ·exact hd q (by simp[a]) z
   ·have:q.1=p.1:= ~~~z;exact h.1 (xv.mpr #[q,a,this]))
  show zO (zZ c p.1 p.2) L=_;rw[e,show (c++ [(p.1,p.2)])=c++ [p] from rfl,b];simp
def QI:∀(L:List (Str×β)){c:List (Str×β)}{p:Str×β},p∈zO c L->p∈c∨p∈L
 |[],c,p,h=>.inl h
 |x::L,c,p,h=>by
  rcases QI L h with h | h
  ·rcases JB h with h | h
   ·erw[.inl h]
   ·exact .inr (by simp[h])
  ·exact .inr (by simp[h])
def wC:∀(L:List (Str×β)){c:List (Str×β)},(c.map (·.1)).Nodup->((zO c L).map (·.1)).Nodup|[],_,h=>h|x::L,c,h=>wC L (vF h x.1 x.2)
variable {γ:Type}(f:β->γ)
def zgw(c:List (Str×β))(n:Str):zG (c.map λp=>(p.1,f p.2)) n=(zG c n).map f:=by
 unfold zG;rw[List.find?_map];have:((λp:Str×γ=>decide (p.1=n))∘λp:Str×β=>(p.1,f p.2))=λp=>decide (p.1=n):=rfl;rw[this,Option.map_map,Option.map_map];rfl
def ko(c:List (Str×β))(n:Str)(v:β):zZ (c.map λp=>(p.1,f p.2)) n (f v)=(zZ c n v).map λp=>(p.1,f p.2):=by
 unfold zZ;rw[uP];have:((λp:Str×γ=>decide (p.1=n))∘λp:Str×β=>(p.1,f p.2))=λp=>decide (p.1=n):=rfl;rw[this]
 split
 ·rw[xy,xy];apply uv;intro p _;show (if p.1=n then (p.1,f v) else (p.1,f p.2))=_;show _=((if p.1=n then (p.1,v) else p).1,f (if p.1=n then (p.1,v) else p).2)
  split<;>rfl
 ·rw[xC];rfl
def vf:∀(L c:List (Str×β)),zO (c.map λp=>(p.1,f p.2)) (L.map λp=>(p.1,f p.2))=(zO c L).map λp=>(p.1,f p.2)
 |[],_=>rfl
 |p::L,c=>by
  have:=vf L (zZ c p.1 p.2);rw[<- ko]at this;erw[this]
def VG(c:List (Str×β))(n:Str):qy (c.map λp=>(p.1,f p.2)) n=(qy c n).map λp=>(p.1,f p.2):=by
 unfold qy;rw[List.filter_map];rfl
end
abbrev Cls:=List (Str×List Cl)
def frD(fr:List Bool):Aa:=fr.map .bool
def clD(c:Cls):Ad:=c.map λp=>(p.1,zB p.2)
def stA(fr:List Bool)(c:Cls):PyData:=stV (frD fr) (clD c)
def qe(c:Cls)(n:Str):List Cl:=(zG c n).getD []
def jv(p:Nat):Cl:=#[List.replicate p 0,false,List.replicate p 0]
def qk(c:Cl):Cl:=#[c.st,false,c.wi]
def zaH(p:Nat):(jv p).D=νc p:=by
 unfold jv Cl.D Qo zE νc zs;simp
def zbh(p k:Nat):PyData.list (List.replicate k (νc p))=zB (List.replicate k (jv p)):=by
 unfold zB;rw[uy,zaH]
def Deed.fr:Deed->List Bool->List Bool|.dip _ k,fr=>fr.set k.toNat false|.brew k,fr=>fr.set k.toNat true|_,fr=>fr
def Deed.cl(p:Nat):Deed->Cls->Cls|.hang n k,c=>zZ c n (List.replicate k.toNat (jv p))|.fold n,c=>qy c n|.twin n m,c=>zZ c m (qe c n)|.wish n k sh,c=>zZ c n (qE k.toNat sh (qe c n))|.wax n xs,c=>zZ c n (jN xs (qe c n))|.dip ns k,c=>zO c (ns.map λn=>(n,(qe c n).map (qp k.toNat)))|.boil ns,c=>zO c (ns.map λn=>(n,(qe c n).map qk))|.brew _,c=>c
def Qh(pool:Ab)(fr:List Bool)(c:Cls):Deed->Prop|.hang n k=>n∈pool/\zG c n=none/\0<=k/\k<=40|.fold n=>∃ cs,zG c n\cs|.twin n m=>(∃ cs,zG c n\cs)/\m∈pool/\zG c m=none|.wish n k sh=>∃ cs,zG c n\cs/\0<=k/\k<↑cs/\↑sh=↑fr/\In9 sh|.wax n xs=>∃ cs,zG c n\cs/\xs.all (Zk ↑cs)=true/\YQ xs=false/\↑xs<=60|.dip ns k=>0<=k/\k<↑fr/\fr[k.toNat]?\true/\ns.Nodup/\↑ns<=60/\∀ n∈ns,∃ cs,zG c n\cs/\cs.any (qf k.toNat)=false|.boil ns=>ns.Nodup/\↑ns<=60/\∀ n∈ns,∃ cs,zG c n\cs|.brew k=>0<=k/\k<↑fr/\fr[k.toNat]?\false
def Clo(p:Nat)(cs:List Cl):Prop:=↑cs<=40/\∀ c∈cs,zdo p c.st c.wi
structure StOk(pool:Ab)(p:Nat)(fr:List Bool)(c:Cls):Prop where
 hp:p<=12
 hl:↑fr=p
 hb:∀ q∈c,Clo p q.2
 nd:(c.map (·.1)).Nodup
 np:∀ q∈c,q.1∈pool
def vj:∀{l T:Ab},l.Nodup->(∀ x∈l,x∈T)->↑l<=↑T
 |[],_,_,_=>xY _
 |a::l,T,b,g=>by
  rw[xG]at b;let f:=g a (by simp);have:=vj b.2 (λx hx=>by
   let d:=g x (by simp[hx]);let c:x≠a:=λe=>b.1 (e ▸ hx);exact (List.mem_erase_of_ne c).mpr d)
  let h:=List.length_erase_of_mem f;let i:=List.length_pos_of_mem f;simp only[xz];lia
def StOk.len(h:StOk pool p fr c):↑c<=↑pool:=by
 have:=vj h.nd (λx hx=>by
  let(q,a,rfl):=xv.mp hx;exact h.np q a)
 rwa [xo]at this
def StOk.clo(h:StOk pool p fr c)(e:zG c n\cs):Clo p cs:=h.hb _ (jM e)
def StOk.bolt(h:StOk pool p fr c)(e:zG c n\cs):Bolt p cs:=#[xK (h.clo e).1 (by decide),(h.clo e).2]
def qL(e:zG c n\cs):qe c n=cs:=by unfold qe;rw[e];rfl
def zaS(p:Nat):In9 (List.replicate p 0):=λx hx=>by
 have:=uF hx;lia
def zbm(hk:k<=40):Clo p (List.replicate k (jv p)):=⟨~~~hk,λc hc=>by
 rw[uF hc];exact#[by simp[jv],by simp[jv],zaS p,zaS p]⟩
def zbn(h:Clo p cs):Clo p (cs.map qk):=⟨~~~h.1,λc hc=>by
 let(a,b,rfl):=xv.mp hc;have:=h.2 a b;exact#[this.sl,this.wl,this.sn,this.wn]⟩
def zdF(xs:List Int)(h:Clo p cs):Clo p (jN xs cs):=⟨xK (zgD xs cs _) h.1,λc hc=>by
 let(i,_,e):=uI.mp hc;cases q:cs[i]? with
 |none=>rw[q]at e;cases e
 |some a=>
  rw[q]at e;cases e;have:=h.2 a (uk q);exact#[this.sl,this.wl,this.sn,this.wn]⟩
def zbo(h:Clo p cs)(i:↑sh=p)(l:In9 sh):Clo p (qE a sh cs):=by
 unfold qE;cases q:cs[a]? with
 |none=>erw[h]
 |some c=>
  let b:=(xa.mp q).1;refine#[by have:=h.1;simp;lia,λx hx=>?_];rcases xJ.mp hx with hx | hx
  ·erw[h.2 x (List.mem_of_mem_take hx)]
  ·rcases xA.mp hx with rfl | hx
   ·have:=h.2 c (uk q);exact#[this.sl,i,this.sn,l]
   ·erw[h.2 x (List.mem_of_mem_drop hx)]
def zdE(h:Clo p cs)(hf:cs.any (qf d)=false):Clo p (cs.map (qp d)):=⟨~~~h.1,λc hc=>by
 let(a,m,rfl):=xv.mp hc;let k:=h.2 a m;let f:qf d a=false:=by grind
 unfold qp
 split
 ·erw[k]
 next hw=>
  refine#[by rw[YU];exact k.sl,k.wl,λx hx=>?_,k.wn];let(i,hi,rfl):=xv.mp hx;let j:i<a.st.length:= ~~~hi;let g:a.st.getD i 0=a.st[i]:=by rw[xP,xc j];rfl
  let b:=k.sn _ (xW j);rw[g]
  split
  next e=>
   subst e;unfold qf at f;let l:a.w=false:= ~~~hw;rw[l,g]at f;simp at f;lia
  ·lia⟩
def StOk.put(h:StOk pool p fr c)(i:n∈pool)(hb:Clo p cs):StOk pool p fr (zZ c n cs):=⟨h.hp,h.hl,λq a=>by
  rcases JB a with a | rfl
  ·erw[h.hb q a]
  ·exact hb,vF h.nd _ _,λq a=>by
  rcases JB a with a | rfl
  ·erw[h.np q a]
  ·exact i⟩
def StOk.merge(h:StOk pool p fr c)(i:∀ q∈L,q.1∈pool/\Clo p q.2):StOk pool p fr (zO c L):=⟨h.hp,h.hl,λq a=>by
  rcases QI L a with a | a
  ·erw[h.hb q a]
  ·exact (i q a).2,wC L h.nd,λq a=>by
  rcases QI L a with a | a
  ·erw[h.np q a]
  ·exact (i q a).1⟩
def StOk.step(h:StOk pool p fr c)(g:Qh pool fr c d):StOk pool p (d.fr fr) (d.cl p c):=by
 cases d with
 |hang n k=>exact h.put g.1 (zbm (by have:=g.2.2.2;lia))
 |fold n=>
  refine#[h.hp,h.hl,λq a=>h.hb q ((uZ.mp a).1),?_,λq a=>h.np q ((uZ.mp a).1)];erw[h.nd.sublist (List.Sublist.map _ List.filter_sublist)]
 |twin n m=>
  let((cs,e),hm,_):=g;show StOk pool p fr (zZ c m (qe c n));rw[qL e];erw[h.put hm (h.clo e)]
 |wish n k sh=>
  let(cs,e,_,_,i,j):=g;show StOk pool p fr (zZ c n (qE k.toNat sh (qe c n)));rw[qL e];exact h.put (h.np _ (jM e)) (zbo (h.clo e) (by rw[i,h.hl]) j)
 |wax n xs=>
  let(cs,e,_):=g;show StOk pool p fr (zZ c n (jN xs (qe c n)));rw[qL e];erw[h.put (h.np _ (jM e)) (zdF xs (h.clo e))]
 |dip ns k=>
  let(_,_,_,_,_,b):=g;have:=h.merge (L:=ns.map λn=>(n,(qe c n).map (qp k.toNat))) (λq a=>by
   let(n,f,rfl):=xv.mp a;let(cs,e,hf):=b n f;let hm:=h.np _ (jM e);refine#[hm,?_];show Clo p ((qe c n).map _);rw[qL e];exact zdE (h.clo e) hf)
  exact#[this.hp,by show ↑(fr.set _ _)=p;rw[xN];exact h.hl,this.hb,this.nd,this.np]
 |boil ns=>
  let(_,_,b):=g;exact h.merge (L:=ns.map λn=>(n,(qe c n).map qk)) (λq a=>by
   let(n,f,rfl):=xv.mp a;let(cs,e):=b n f;let hm:=h.np _ (jM e);refine#[hm,?_];show Clo p ((qe c n).map _);rw[qL e];exact zbn (h.clo e))
 |brew k=>exact#[h.hp,by show ↑(fr.set _ _)=p;rw[xN];exact h.hl,h.hb,h.nd,h.np]
def Qb(cs:List Cl):(OV.l (cs.map λc=>.d c.D)).view=zB cs:=by
 have:=qu (cs.map Cl.D);rw[xy]at this;erw[this]
def zX(c:Cls)(n:Str):zG (clD c) n=(zG c n).map zB:=zgw zB c n
def j4(c:Cls)(n:Str)(cs:List Cl):zZ (clD c) n (zB cs)=clD (zZ c n cs):=ko zB c n cs
def JL (cf:CF):=∀ cs:List Cl,↑cs<=1000->cf "boiled" [.d (zB cs)]=.ok (.l ((cs.map qk).map λc=>.d c.D)) [none]
def Ko(cf:CF):JL λ_=>runI 1 [false] [] vq cf:=λcs hl=>by
 let e:=zjK (k:=3) (t:=.tp (.cons (.nm 0 1) (.cons (.nm 1 2) (.cons (.nm 2 3) .nil)))) (elt:=(jbj.ev cf).1) Cl.D (λc=>(qk c).D) (xs:=cs) (U:= [@&(zB cs)]) (by
  intro c hc;refine#[[@&(zB cs),@&(zE c.st),@&(.bool c.w),@&(zE c.wi)],.dat (qk c).D,[@&(zB cs),@&(zE c.st),@&(.bool c.w),@&(zE c.wi)],rfl,?_,rfl,rfl];unfold qk Cl.D Qo;simp? [jbj,cs1])
 let b:↑(cs.map Cl.D)<=1000000:=by simp;lia
 let a:(cs.map λc=>(qk c).D).map OV.d=(cs.map qk).map λc=>OV.d c.D:=by rw[xy,xy];rfl
 rw[<- a];unfold zB at *;simp? [vq,e,b,cs1]
def Ys (cf:CF):=∀ (fr:List Bool) (cl:Ad) (d:Nat),d<↑fr->cf "check_dye" [.d (stV (frD fr) cl),.d (.int d)]=.ok (.d .none) [none,none]
def zj2(cf:CF):Ys λ_=>runI 2 [false,false] [] jy cf:=λfr cl d hd=>by
 let a:=qK (frD fr) cl;let e:↑(frD fr)=↑fr:=by simp[frD]
 let b:(0:Int)<=(d:Int):=by lia
 let c:(d:Int)<(↑fr:Int):=by lia
 simp? [jy,a,e,b,c,cs1]
def zdM{α:Type}[DecidableEq α]:∀{l acc:List α},l.Nodup->(∀ x∈l,x∉acc)->l.foldl PyProof.Rows.step_dedup acc=acc++l
 |[],acc,_,_=>by simp
 |x::l,acc,a,hd=>by
  rw[xG]at a;let e:PyProof.Rows.step_dedup acc x=acc++ [x]:=by
   unfold PyProof.Rows.step_dedup;rw[if_neg];intro z;let(y,b,q):=List.any_eq_true.mp z;exact hd x (by simp) (by rw[<- eq_of_beq q];exact b)
  rw[uG,e,zdM a.2 (λy b z=>by
   grind)]
  simp
def YK{α:Type}[DecidableEq α]{l:List α}(h:l.Nodup):Tab.dedup l=l:=by
 unfold Tab.dedup;rw[zdM h (by simp)];rfl
def ZH (cf:CF):=∀ (fr:Aa) (cl:Ad) (ns:Ab) (v:PyData),(v=zU ns∨v=.list (ns.map .str))->ns.Nodup->↑ns<=60->(∀ n∈ns,(zG cl n).isSome=true)->cf "check_names" [.d (stV fr cl),.d v]=.ok (.d .none) [none,none]
def zbA(cf:CF)(i:jX cf):ZH λ_=>runI 3 [false,false] [] qN cf:=λfr cl ns v hv f hl d=>by
 let(j,e,(a,rfl)):=qS (t:=.nm 2 2) (body:=jaf.ex cf []) (ds:=ns.map .str) (U:= [@&(stV fr cl),@&v,none])
  (λpre U=>∃ a:Option OV,U= [@&(stV fr cl),@&v,a]) #[_,rfl] (by
   rintro pre x post e U ⟨a,rfl⟩;let hx:x∈ns.map PyData.str:=by rw[e];simp
   let(n,hm,rfl):=xv.mp hx;let b:=i fr cl n;rw[if_pos (d n hm)]at b;refine#[_,[@&(stV fr cl),@&v,@&(.str n)],rfl,?_,_,rfl];simp? [jaf,b,cs1])
 let g:=ν9 ns;let hd:=YK f;let c:↑(ns.map PyData.str)=↑ns:=by simp
 unfold zU at hv;unfold qN;let h:↑ns<=1000000:=by lia
 rcases hv with rfl | rfl <;>
 simp? [qN,e,K4,Jd,g,hd,hl,c,h,zL,zT,zA,cs1]
def ν8(U:Gv)(F:Aa):zcY U (.dat (.list F))\F:=rfl
def zaE (cf:CF):=∀ (fr:List Bool) (cl:Ad) (d:Nat) (b:Bool),d<↑fr->cf "with_pot" [.d (stV (frD fr) cl),.d (.int d),.d (.bool b)]=.ok (.d (stV (frD (fr.set d b)) cl)) [none,none,none]
def zkG(cf:CF)(l:QB cf):zaE λ_=>runI 4 [false,false,false] [] Jk cf:=λfr cl d b hd=>by
 let i:=qK (frD fr) cl;let j:=qh (frD fr) cl;let g:↑((frD fr).map OV.d)=↑fr:=by simp[frD]
 let h:=l (.list (frD (fr.set d b))) (.dict (cl.map dK));let hw:=Wh (frD (fr.set d b)) cl;let a:((frD fr).map OV.d).set d (.d (.bool b))=(frD (fr.set d b)).map OV.d:=by
  unfold frD;rw[ui,ui]
 let hv:=qu (frD (fr.set d b));let hg:(frD fr)[d]?\(.bool fr[d]):=by unfold frD;rw[xg,xc hd];rfl
 let k:¬ ((d:Int)<0):=by lia
 let c:(d:Int)<(↑fr:Int):=by lia
 let e:(d:Int).toNat=d:=by lia
 let f:(0:Int)<=(d:Int):=by lia
 let hi:ixN ↑((frD fr).map OV.d) (d:Int)\d:=by
  unfold ixN;rw[g,if_pos f,if_pos c,e]
 dsimp! [Jk,ν8,i,j,h,hw,a,hv,hg,hi,g,k,c,e,f,zA,ixN]
def kU (cf:CF):=∀ (fr:List Bool) (cl:Ad) (d:Nat),fr[d]?\false->cf "behind_brew" [.d (stV (frD fr) cl),.d (.list [.int d])]=.ok (.d (stV (frD (fr.set d true)) cl)) [none,none]
def VL{d:Nat}(h:fr[d]?\b):atI (frD fr) (d:Int)\(.bool b):=jY (by unfold frD;rw[xg,h];rfl)
def zg2(cf:CF)(hd:Ys cf)(hp:zaE cf):kU λ_=>runI 3 [false,false] [] qY cf:=λfr cl d h=>by
 let a:=(xa.mp h).1;let b:=hd fr cl d a;let c:=hp fr cl d true a;let e:=qK (frD fr) cl;let f:=VL h;simp? [qY,b,c,e,f,h3,cs1]
def kY (cf:CF):=∀ (fr:Aa) (cl:Ad) (n:Str),(zG cl n).isSome=true->(cl.map (·.1)).Nodup->↑cl<=1000->(∀ p∈cl,PyData.strOk p.1=true)->PyData.strOk n=true->cf "behind_fold" [.d (stV fr cl),.d (.list [.str n])]=.ok (.d (stV fr (qy cl n))) [none,none]
def yR (cf:CF) (i:zeJ "Stand" "cloths" D\(.dict (cl.map dK))) (c:PyData.strOk n=true){o1:Option OV}:∀ (xs acc:Ad),(∀ p∈xs,zG cl p.1\p.2/\PyData.strOk p.1=true) ->
  loopG 1 (.nm 0 3) (jai.ev cf) (itD (jay.ev cf).1 (jaz.ev cf).1) (λo y=>zZ o y.1 y.2) (xs.map λp=>.str p.1) acc [@&D,o1,@&(.str n)]=.ok (zO acc (qy xs n),[@&D,o1,@&(.str n)])
 |[],acc,_=>rfl
 |p::xs,acc,h=>by
  let hv:=(h p (by simp)).1;let m:=zN cl;let g:lay 20 (.str p.1)=true:=(h p (by simp)).2;let j:lay 20 (.str n)=true:=c;let a:PyData.eqv (.str p.1) (.str n)=decide (p.1=n):=by
   show (p.1==n)=_;grind
  let f:PyData.eqv (.str n) (.str n)=true:=by
   show (n==n)=true;simp
  let l:tgF (.nm 0 3) (PyData.str p.1) ([@&D,o1,@&(.str n)]++List.replicate 1 none)\[@&D,o1,@&(.str n),@&(.str p.1)]:=rfl;rw[xn,loopG,l];by_cases e:p.1=n
  ·let b:jai.ev cf [@&D,o1,@&(.str n),@&(.str p.1)]=.ok (false,[@&D,o1,@&(.str n),@&(.str p.1)]):=by
    simp? [jai,g,j,a,f,e,cs1]
   let d:qy (p::xs) n=qy xs n:=by
    unfold qy;grind
   simp only[b];rw[d];exact yR cf i c xs acc λq a=>h q (by simp[a])
  ·let b:jai.ev cf [@&D,o1,@&(.str n),@&(.str p.1)]=.ok (true,[@&D,o1,@&(.str n),@&(.str p.1)]):=by
    simp? [jai,g,j,a,f,e,cs1]
   let k:itD (jay.ev cf).1 (jaz.ev cf).1 [@&D,o1,@&(.str n),@&(.str p.1)]=.ok ((p.1,p.2),[@&D,o1,@&(.str n),@&(.str p.1)]):=by
    simp? [jay,itD,jaz,i,m,hv,cs1]
   let d:qy (p::xs) n=p::qy xs n:=by
    unfold qy;rw[ur,if_pos (~~~e)]
   simp only[b,k];rw[d];exact yR cf i c xs (zZ acc p.1 p.2) λq a=>h q (by simp[a])
def QV{β:Type}:∀{c:List (Str×β)}{p:Str×β},(c.map (·.1)).Nodup->p∈c->zG c p.1\p.2
 |q::c,p,a,hp=>by
  rw[xn,xG]at a;unfold zG;rw[ue];by_cases e:q.1=p.1
  ·rcases xA.mp hp with rfl | hp
   ·simp
   ·erw[absurd (xv.mpr #[p,hp,e.symm]) a.1]
  ·rcases xA.mp hp with rfl | hp
   ·erw[absurd rfl e]
   ·have:=QV a.2 hp;unfold zG at this;simpa [e] using this
def zhj(cf:CF)(s:QB cf)(r:jX cf):kY λ_=>runI 3 [false,false] [] jn cf:=λfr cl n h e hl hk g=>by
 let d:=qh fr cl;let k:=zN cl;let l:=qK fr cl;let b:=r fr cl n;rw[if_pos h]at b;let i:=s (.list fr) (.dict ((qy cl n).map dK));let hw:=Wh fr (qy cl n);let hv:=jk (qy cl n);let c:=yR cf d (n:=n) g (o1:=some (.d (.list [.str n]))) cl [] (λp hp=>#[QV e hp,hk p hp]);let j:=wd (qy cl n) [] (e.sublist (List.Sublist.map _ List.filter_sublist)) (by simp);rw[j,uH]at c;let m:atI [PyData.str n] 0\(.str n):=rfl;let q:↑(cl.map λp=>PyData.str p.1)<=1000000:=by simp;lia
 rwa[stV fr cl=D,stV fr (qy cl n)=x];generalize o:qy cl n=y at *;generalize a:(cl.map λp=>PyData.str p.1)=z at *;rwa[cl.map dK=w];unfold jn;rwa[jai=t,jay=u,jaz=v];let f:↑cl<=1000000:=by lia
 dsimp! [b,i,c,d,k,l,m,hw,hv,q,f,a,zA]
def Kg (cf:CF):=∀ (fr:Aa) (cl:Ad) (n m:Str) (v:PyData),Nm m->zG cl n\v->zG cl m=none->↑cl<=1000->cf "behind_twin" [.d (stV fr cl),.d (.list [.str n,.str m])]=.ok (.d (stV fr (zZ cl m v))) [none,none]
def ziX(cf:CF)(hw:Qi cf)(i:jX cf)(hc:QA cf):Kg λ_=>runI 4 [false,false] [] qZ cf:=λfr cl n m v hm h f hl=>by
 let a:=i fr cl n;rw[if_pos (by rw[h];rfl)]at a;let b:=hc fr cl m hm f;let c:cf "with_cloths" [.d (stV fr cl),.d (.dict ([(m,v)].map dK))]=.ok (.d (stV fr (zZ cl m v))) [none,none]:=hw fr cl [(m,v)] (by simp;lia);let d:=qh fr cl;let e:=zN cl;let hv:=jk [(m,v)];rwa[stV fr cl=D,stV fr (zZ cl m v)=j,PyData.dict ([(m,v)].map dK)=k,cl.map dK=g]
 dsimp! [qZ,a,b,c,h,d,e,hv,zA]
def Kh (cf:CF):=∀ (fr:Aa) (cl:Ad) (n:Str) (cs:List Cl) (xs:List Int),zG cl n\(zB cs)->↑cs<=1000->↑xs<=60->xs.all (Zk ↑cs)=true->YQ xs=false->↑cl<=1000->cf "behind_wax" [.d (stV fr cl),.d (.list [.str n,zE xs])]=.ok (.d (stV fr (zZ cl n (zB (jN xs cs))))) [none,none]
def zi1(cf:CF)(hw:Qi cf)(i:jX cf)(hx:yn cf):Kh λ_=>runI 4 [false,false] [] ji cf:=λfr cl n cs xs h hc k b j hl=>by
 let d:=i fr cl n;rw[if_pos (by rw[h];rfl)]at d;let a:=hx cs xs hc k;unfold zi2 at a;rw[if_pos b,j,if_neg (by decide)]at a;let e:cf "with_cloths" [.d (stV fr cl),.d (.dict ([(n,zB (jN xs cs))].map dK))]=.ok (.d (stV fr (zZ cl n (zB (jN xs cs))))) [none,none]:=hw fr cl [(n,zB (jN xs cs))] (by simp;lia);let f:=qh fr cl;let g:=zN cl;let hv:=jk [(n,zB (jN xs cs))];let hb:=Qb (jN xs cs);rwa[stV fr cl=D,stV fr (zZ cl n (zB (jN xs cs)))=o,PyData.dict ([(n,zB (jN xs cs))].map dK)=p,cl.map dK=m,OV.l ((jN xs cs).map λc=>.d c.D)=r,zB (jN xs cs)=q,zB cs=l,zE xs=s]
 dsimp! [ji,d,a,e,h,f,g,hv,hb,zA]
def yo (cf:CF):=∀ (fr:Aa) (cl:Ad) (n:Str) (p:Nat) (cs:List Cl) (a:Nat) (xs:List Int),zG cl n\(zB cs)->Bolt p cs->p<=1000->a<↑cs->↑xs=p->In9 xs->↑cl<=1000->cf "behind_wish" [.d (stV fr cl),.d (.list [.str n,.int a,zE xs])]=.ok (.d (stV fr (zZ cl n (zB (qE a xs cs))))) [none,none]
def zgE(cf:CF)(hw:Qi cf)(l:jX cf)(hx:yp cf):yo λ_=>runI 5 [false,false] [] q8 cf:=λfr cl n p cs a xs h hc hp w k d hl=>by
 let e:=l fr cl n;rw[if_pos (by rw[h];rfl)]at e;let b:=hx p cs a xs hp hc (by lia);unfold zbb at b;let f:kj xs p=true:=by
  unfold kj;rw[xf,xH];exact#[~~~k,λx hm=>by have:=d x hm;simp[in9,this]]
 rw[if_pos (by lia),if_pos f,show ((a:Int)).toNat=a from by lia]at b;let g:cf "with_cloths" [.d (stV fr cl),.d (.dict ([(n,zB (qE a xs cs))].map dK))]=.ok (.d (stV fr (zZ cl n (zB (qE a xs cs))))) [none,none]:=hw fr cl [(n,zB (qE a xs cs))] (by simp;lia);let i:=qh fr cl;let j:=zN cl;let hv:=jk [(n,zB (qE a xs cs))];let hb:=Qb (qE a xs cs);rwa[stV fr cl=D,stV fr (zZ cl n (zB (qE a xs cs)))=r,PyData.dict ([(n,zB (qE a xs cs))].map dK)=s,cl.map dK=q,OV.l ((qE a xs cs).map λc=>.d c.D)=u,zB (qE a xs cs)=t,zB cs=o,zE xs=v,(a:Int)=m]
 dsimp! [q8,e,b,g,h,i,j,hv,hb,zA]
def Wz{α:Type}(x:α):atI [x] 0\x:=rfl
def V7 (cf:CF):=∀ (fr:Aa) (c:Cls) (ns:Ab),ns.Nodup->↑ns<=60->(∀ n∈ns,∃ cs,zG c n\cs/\↑cs<=1000)->↑c<=1000->cf "behind_boil" [.d (stV fr (clD c)),.d (.list [zU ns])]=.ok (.d (stV fr (clD (zO c (ns.map λn=>(n,(qe c n).map qk)))))) [none,none]
def Vx(c:Cls)(f:List Cl->List Cl){ns:Ab}(i:ns.Nodup):zO [] (ns.map λn=>(n,zB (f (qe c n))))=ns.map λn=>(n,zB (f (qe c n))):=by
 have:=wd (ns.map λn=>(n,zB (f (qe c n)))) [] (by rw[xy];simpa [Function.comp_def] using i) (by simp);simpa using this
def VS(c:Cls)(f:List Cl->List Cl)(ns:Ab):zO (clD c) (ns.map λn=>(n,zB (f (qe c n))))=clD (zO c (ns.map λn=>(n,f (qe c n)))):=by
 have:=vf zB (ns.map λn=>(n,f (qe c n))) c;rw[xy]at this;erw[this]
def zdD(cf:CF)(hw:Qi cf)(i:ZH cf)(hx:JL cf):V7 λ_=>runI 3 [false,false] [] jm cf:=λfr c ns g hl f hc=>by
 let j:=i fr (clD c) ns _ (.inl rfl) g hl (λn hm=>by
  let(cs,e,_):=f n hm;rw[zX,e];rfl)
 let d:=hw fr (clD c) (ns.map λn=>(n,zB ((qe c n).map qk))) (by simp[clD];lia);rw[VS c (·.map qk)]at d;let m:=qh fr (clD c);let o:=zN (clD c);let a:=zjY (k:=1) (t:=.nm 0 3) (ek:=(jba.ev cf).1) (ev:=(jbb.ev cf).1) PyData.str id (λn=>zB ((qe c n).map qk)) (U:= [@&(stV fr (clD c)),@&(.list [zU ns]),@&(zU ns)]) ns [] (by
  intro n hm;let(cs,e,b):=f n hm;let ev:=hx cs b;let q:=Qb (cs.map qk);let h:zG (clD c) n\(zB cs):=by rw[zX,e];rfl
  rw[qL e];refine#[_,[@&(stV fr (clD c)),@&(.list [zU ns]),@&(zU ns),@&(.str n)],rfl,?_,rfl];rwa[stV fr (clD c)=D,(clD c).map dK=v,OV.l ((cs.map qk).map λc=>.d c.D)=A,zB (cs.map qk)=z,zB cs=u];simp? [jba,itD,jbb,ev,q,h,m,o,zA,cs1])
 let l:=Vx c (·.map qk) g;dsimp only [id]at a;rw[l]at a;let hv:=jk (ns.map λn=>(n,zB ((qe c n).map qk)));let p:↑(ns.map PyData.str)<=1000000:=by simp;lia
 rwa[stV fr (clD c)=D,stV fr (clD (zO c (ns.map λn=>(n,(qe c n).map qk))))=w,(ns.map λn=>(n,zB ((qe c n).map qk)))=x];unfold jm;rwa[jba=r,jbb=s];unfold zU at *;rwa[ns.map PyData.str=y];simp? [zU,j,a,d,Wz,hv,p,zA,cs1]
def kX (cf:CF):=∀ (fr:List Bool) (c:Cls) (ns:Ab) (d:Nat),d<13->↑fr<=12->fr[d]?\true->ns.Nodup->↑ns<=60->(∀ n∈ns,∃ cs,zG c n\cs/\Bolt ↑fr cs/\cs.any (qf d)=false)->↑c<=1000->cf "behind_dip" [.d (stV (frD fr) (clD c)),.d (.list [zU ns,.int d])]=.ok (.d (stV (frD (fr.set d false)) (clD (zO c (ns.map λn=>(n,(qe c n).map (qp d))))))) [none,none]
def zg8(cf:CF)(hw:Qi cf)(o:ZH cf)(r:Ys cf)(l:zaE cf)(hx:Wm cf):kX λ_=>runI 5 [false,false] [] qH cf:=λfr c ns d h0 hf b i hl h hc=>by
 let a:=(xa.mp b).1;let p:=r fr (clD c) d a;let q:=o (frD fr) (clD c) ns _ (.inl rfl) i hl (λn hm=>by
  let(cs,e,_):=h n hm;rw[zX,e];rfl)
 let g:=hw (frD fr) (clD c) (ns.map λn=>(n,zB ((qe c n).map (qp d)))) (by simp[clD];lia);rw[VS c (·.map (qp d))]at g;let s:=l fr (clD (zO c (ns.map λn=>(n,(qe c n).map (qp d))))) d false a;let w:=qh (frD fr) (clD c);let x:=zN (clD c);let y:=qK (frD fr) (clD c);let z:=VL b;let f:=zjY (k:=1) (t:=.nm 0 5) (ek:=(jab.ev cf).1) (ev:=(jac.ev cf).1) PyData.str id (λn=>zB ((qe c n).map (qp d))) (U:= [@&(stV (frD fr) (clD c)),@&(.list [zU ns,.int d]),@&(zU ns),@&(.int d),none]) ns [] (by
  intro n hm;let(cs,e,v,j):=h n hm;let ev:=hx.1 ↑fr cs d (by lia) v a;rw[j,if_neg (by decide)]at ev;let B:=Qb (cs.map (qp d));let m:zG (clD c) n\(zB cs):=by rw[zX,e];rfl
  rw[qL e];refine#[_,[@&(stV (frD fr) (clD c)),@&(.list [zU ns,.int d]),@&(zU ns),@&(.int d),none,@&(.str n)],rfl,?_,rfl];rwa[stV (frD fr) (clD c)=D,(clD c).map dK=H,OV.l ((cs.map (qp d)).map λc=>.d c.D)=O,zB (cs.map (qp d))=N,zB cs=G];simp? [jab,itD,jac,ev,B,m,w,x,zA,cs1])
 let u:=Vx c (·.map (qp d)) i;dsimp only [id]at f;rw[u]at f;let hv:=jk (ns.map λn=>(n,zB ((qe c n).map (qp d))));let A:↑(ns.map PyData.str)<=1000000:=by simp;lia
 rwa[stV (frD fr) (clD c)=D,stV (frD (fr.set d false)) (clD (zO c (ns.map λn=>(n,(qe c n).map (qp d)))))=K,stV (frD fr) (clD (zO c (ns.map λn=>(n,(qe c n).map (qp d)))))=J,(ns.map λn=>(n,zB ((qe c n).map (qp d))))=L,frD fr=F];unfold qH;rwa[jab=C,jac=E];unfold zU at *;rwa[ns.map PyData.str=M,(d:Int)=I];simp? [zU,p,q,f,g,s,y,z,hv,A,zA,cs1]
structure zaA(cf:CF):Prop where
 hang:kZ cf
 fold:kY cf
 twin:Kg cf
 wish:yo cf
 wax:Kh cf
 dip:kX cf
 boil:V7 cf
 brew:kU cf
def Qg (cf:CF):=∀ (pool:Ab) (p:Nat) (fr:List Bool) (c:Cls) (d:Deed),↑pool<=60->(∀ n∈pool,Nm n)->StOk pool p fr c->Qh pool fr c d->cf "behind" [.d (stA fr c),.d d.D]=.ok (.d (stA (d.fr fr) (d.cl p c))) [none,none]
def zbl(cf:CF)(h:zaA cf):Qg λ_=>runI 5 [false,false] [] zP cf:=λpool p fr c d A o S G=>by
 let x:=S.len;let b:↑(clD c)<=1000:=by simp[clD];lia
 unfold stA;cases d with
 |hang n k=>
  let(l,hv,g,r):=G;let(j,rfl):=xw g;let a:=h.hang (frD fr) (clD c) n j (o n l) (by rw[zX,hv];rfl) (by simp[frD];have:=S.hl;have:=S.hp;lia) b (by lia);let I:↑(frD fr)=p:=by simp[frD];exact S.hl
  rw[I,zbh,show zO (clD c) [(n,zB (List.replicate j (jv p)))]=zZ (clD c) n (zB (List.replicate j (jv p))) from rfl,j4]at a;show _=RF.ok (.d (stV (frD fr) (clD (zZ c n (List.replicate (j:Int).toNat (jv p)))))) [none,none];rw[show (j:Int).toNat=j from by lia];show runI 5 [false,false] [] zP cf [.d (stV (frD fr) (clD c)),.d (.tuple [.str "hang",.str n,.int j])]=_;rwa[stV (frD fr) (clD c)=D,stV (frD fr) (clD (zZ c n (List.replicate j (jv p))))=f];simp? [zP,a,zA,qO,List.lookup,cs1]
 |fold n=>
  let(cs,hv):=G;let a:=h.fold (frD fr) (clD c) n (by rw[zX,hv];rfl) (by simpa [clD,Function.comp_def] using S.nd) b (λq B=>by
   let(z,C,rfl):=xv.mp B;exact (o _ (S.np z C)).ok) (o _ (S.np _ (jM hv))).ok
  rw[show qy (clD c) n=clD (qy c n) from VG zB c n]at a;show runI 5 [false,false] [] zP cf [.d (stV (frD fr) (clD c)),.d (.tuple [.str "fold",.str n])]=RF.ok (.d (stV (frD fr) (clD (qy c n)))) [none,none];rwa[stV (frD fr) (clD c)=D,stV (frD fr) (clD (qy c n))=f];simp? [zP,a,zA,qO,List.lookup,cs1]
 |twin n m=>
  let((cs,hv),hm,u):=G;let a:=h.twin (frD fr) (clD c) n m (zB cs) (o m hm) (by rw[zX,hv];rfl) (by rw[zX,u];rfl) b;rw[j4]at a;show runI 5 [false,false] [] zP cf [.d (stV (frD fr) (clD c)),.d (.tuple [.str "twin",.str n,.str m])]=RF.ok (.d (stV (frD fr) (clD (zZ c m (qe c n))))) [none,none];rw[qL hv];rwa[stV (frD fr) (clD c)=D,stV (frD fr) (clD (zZ c m cs))=f];simp? [zP,a,zA,qO,List.lookup,cs1]
 |wish n k sh=>
  let(cs,hv,g,r,E,w):=G;let(j,rfl):=xw g;let a:=h.wish (frD fr) (clD c) n p cs j sh (by rw[zX,hv];rfl) (S.bolt hv) (by have:=S.hp;lia) (by lia) (by rw[E,S.hl]) w b;rw[j4]at a;show runI 5 [false,false] [] zP cf [.d (stV (frD fr) (clD c)),.d (.tuple [.str "wish",.str n,.int j,zE sh])]=RF.ok (.d (stV (frD fr) (clD (zZ c n (qE (j:Int).toNat sh (qe c n)))))) [none,none];rw[qL hv,show (j:Int).toNat=j from by lia];rwa[stV (frD fr) (clD c)=D,stV (frD fr) (clD (zZ c n (qE j sh cs)))=f,zE sh=SD];simp? [zP,a,zA,qO,List.lookup,cs1]
 |wax n xs=>
  let(cs,hv,H,v,F):=G;let a:=h.wax (frD fr) (clD c) n cs xs (by rw[zX,hv];rfl) (S.bolt hv).1 F H v b;rw[j4]at a;show runI 5 [false,false] [] zP cf [.d (stV (frD fr) (clD c)),.d (.tuple [.str "wax",.str n,zE xs])]=RF.ok (.d (stV (frD fr) (clD (zZ c n (jN xs (qe c n)))))) [none,none];rw[qL hv];rwa[stV (frD fr) (clD c)=D,stV (frD fr) (clD (zZ c n (jN xs cs)))=f,zE xs=SD];simp? [zP,a,zA,qO,List.lookup,cs1]
 |dip ns k=>
  let(g,r,i,l,hl,s):=G;let(j,rfl):=xw g;rw[show (j:Int).toNat=j from by lia]at *;let t:=S.hl;let y:=S.hp;let a:=h.dip fr c ns j (by lia) (by lia) i l hl (λn hm=>by
   let(cs,e,hf):=s n hm;exact#[cs,e,by rw[t];exact S.bolt e,hf]) (by lia)
  show runI 5 [false,false] [] zP cf [.d (stV (frD fr) (clD c)),.d (.tuple [.str "dip",zU ns,.int j])]=RF.ok (.d (stV (frD (fr.set (j:Int).toNat false)) (clD (zO c (ns.map λn=>(n,(qe c n).map (qp (j:Int).toNat))))))) [none,none];rw[show (j:Int).toNat=j from by lia];rwa[stV (frD fr) (clD c)=D,stV (frD (fr.set j false)) (clD (zO c (ns.map λn=>(n,(qe c n).map (qp j)))))=f,zU ns=SD];simp? [zP,a,zA,qO,List.lookup,cs1]
 |boil ns=>
  let(l,hl,s):=G;let a:=h.boil (frD fr) c ns l hl (λn hm=>by
   let(cs,e):=s n hm;exact#[cs,e,(S.bolt e).1]) (by lia)
  show runI 5 [false,false] [] zP cf [.d (stV (frD fr) (clD c)),.d (.tuple [.str "boil",zU ns])]=RF.ok (.d (stV (frD fr) (clD (zO c (ns.map λn=>(n,(qe c n).map qk)))))) [none,none];rwa[stV (frD fr) (clD c)=D,stV (frD fr) (clD (zO c (ns.map λn=>(n,(qe c n).map qk))))=f,zU ns=SD];simp? [zP,a,zA,qO,List.lookup,cs1]
 |brew k=>
  let(g,r,i):=G;let(j,rfl):=xw g;rw[show (j:Int).toNat=j from by lia]at *;let a:=h.brew fr (clD c) j i;show runI 5 [false,false] [] zP cf [.d (stV (frD fr) (clD c)),.d (.tuple [.str "brew",.int j])]=RF.ok (.d (stV (frD (fr.set (j:Int).toNat true)) (clD c))) [none,none];rw[show (j:Int).toNat=j from by lia];rwa[stV (frD fr) (clD c)=D,stV (frD (fr.set j true)) (clD c)=f];simp? [zP,a,zA,qO,List.lookup,cs1]
def zI(p:Nat)(fr:List Bool)(c:Cls):Aa:= [.int p,.list (frD fr),.dict ((clD c).map dK)]
abbrev zJ(p:Nat)(fr:List Bool)(c:Cls):PyData:=.list (zI p fr c)
def kL2(p:Nat)(fr:List Bool)(c:Cls):atI (zI p fr c) 2\(.dict ((clD c).map dK)):=rfl
def Wo (cf:CF):=∀ cs:List Cl,↑cs<=1000->cf "_law_boil" [.d (zB cs)]=.ok (.l ((cs.map qk).map λc=>.d c.D)) [none]
def zcD(cf:CF):Wo λ_=>runI 1 [false] [] QZ cf:=λcs hl=>by
 let(d,o,e,f,rfl):=je (k:=1) (t:=.nm 0 1) (cond:=fYes) (elt:=(jbf.ev cf).1) (ds:=qi ↑cs) (U:= [@&(zB cs)])
  (λpre d U=>d=((cs.take ↑pre).map qk).map Cl.D/\U= [@&(zB cs)]) #[rfl,rfl] (by
   rintro pre x post e d U ⟨rfl,rfl⟩;let m:(qi ↑cs)[↑pre]?\x:=by rw[e];simp
   let(a,rfl):=ν7 m;let hc:=xc a;let a1:atI (cs.map Cl.D) (↑pre:Int)\(cs[↑pre]).D:=jY (by rw[xg,hc];rfl);let b:(cs.take (↑pre+1)).map qk=(cs.take ↑pre).map qk++ [qk cs[↑pre]]:=by
    rw[uh,hc,xC];rfl
   rwa[cs[↑pre]=c];refine#[[@&(zB cs),@&(.int (↑pre:Nat))],true,_,rfl,rfl,λ_=>#[.dat (qk c).D,[@&(zB cs),@&(.int (↑pre:Nat))],(qk c).D,?_,rfl,?_,rfl],λh=>nomatch h]
   ·unfold qk;let g:zB cs=.list (cs.map Cl.D):=rfl;rw[g];unfold Cl.D Qo at *;rwa[zE c.st=A,zE c.wi=B,(cs.map λc=>PyData.tuple [zE c.st,PyData.bool c.w,zE c.wi])=Y];simp? [jbf,a1,Zg,Zb,cs1]
   ·simp only[xB,xz,uo,uT];rw[b,xC];rfl)
 rw[zF,uE]at f;subst f;let n: -1000000<=(↑cs:Int)/\(↑cs:Int)<=1000000:=by lia
 let j:↑cs<=1000000:=by lia
 let i:↑(cs.map Cl.D)=↑cs:=by simp
 let l:((cs.map qk).map Cl.D).map OV.d=(cs.map qk).map λc=>OV.d c.D:=by rw[xy];rfl
 rw[<- l];unfold zB at *;rwa[(cs.map qk).map Cl.D=p,cs.map Cl.D=Y];simp? [QZ,i,n,j,zF,e,cs1]
def WD(n:Nat)(h:∀ i:Nat,∃ l u c,tgF t (.int i) (U++List.replicate k none)\l/\B l=.ok (u,c)/\derS c u\y/\c.take ↑U=U):qR k t fYes B (qi n) [] U=.ok (List.replicate n y,U):=by
 let e:=zjK (λi:Nat=>.int i) (λ_=>y) (xs:=List.range n) (U:=U) (λi _=>h i);have:(List.range n).map (λi:Nat=>PyData.int i)=qi n:=rfl;rw[this]at e;rw[e,List.map_const',List.length_range]
def k6 (cf:CF):=∀ p:Nat,p<=12->cf "_law_kept" [.d (.int p)]=.ok (.l ((zI p (List.replicate p true) []).map .d)) [none]
def zhu(cf:CF):k6 λ_=>runI 1 [false] [] Q4 cf:=λp hp=>by
 let e:=WD (k:=1) (t:=.nm 0 1) (B:=(jbh.ev cf).1) (U:= [@&(.int p)]) (y:=.bool true) p (λi=>#[[@&(.int p),@&(.int i)],.dat (.bool true),[@&(.int p),@&(.int i)],rfl,by simp? [jbh,cs1],rfl,rfl]);let b: -1000000<=(p:Int)/\(p:Int)<=1000000:=by lia
 let a:p<=1000000:=by lia
 let c:(p:Int).toNat=p:=by lia
 let v1:=qu (List.replicate p (.bool true));let v2:(OV.m []).view=.dict []:=rfl;let hk:zI p (List.replicate p true) []= [.int p,.list (List.replicate p (.bool true)),.dict []]:=by
  unfold zI frD clD;rw[uy];rfl
 rw[hk];rwa[List.replicate p (PyData.bool true)=d];generalize f:(p:Int)=I at *;simp? [Q4,e,b,a,c,v1,v2,zF,zA,cs1]
def V6 (cf:CF):=∀ p s:Nat,p<=12->s<=40->cf "_law_blank" [.d (.int p),.d (.int s)]=.ok (.l ((List.replicate s (jv p)).map λc=>.d c.D)) [none,none]
def zdC(cf:CF):V6 λ_=>runI 3 [false,false] [] Qk cf:=λp s hp v=>by
 let h:=WD (k:=1) (t:=.nm 0 3) (B:=(jbd.ev cf).1) (U:= [@&(.int p),@&(.int s),none]) (y:=.int 0) p (λi=>#[[@&(.int p),@&(.int s),none,@&(.int i)],.dat (.int 0),[@&(.int p),@&(.int s),none,@&(.int i)],rfl,by simp? [jbd,cs1],rfl,rfl]);let b:=WD (k:=1) (t:=.nm 0 3) (B:=(jbe.ev cf).1) (U:= [@&(.int p),@&(.int s),@&(zs p)]) (y:=νc p) s (λi=>#[[@&(.int p),@&(.int s),@&(zs p),@&(.int i)],.dat (νc p),[@&(.int p),@&(.int s),@&(zs p),@&(.int i)],rfl,by unfold νc;generalize zs p=w;simp? [jbe,cs1],rfl,rfl]);let m: -1000000<=(p:Int)/\(p:Int)<=1000000:=by lia
 let g:p<=1000000:=by lia
 let n:(p:Int).toNat=p:=by lia
 let l: -1000000<=(s:Int)/\(s:Int)<=1000000:=by lia
 let e:s<=1000000:=by lia
 let f:(s:Int).toNat=s:=by lia
 let d:zs p=.tuple (List.replicate p (.int 0)):=rfl;let j:(List.replicate s (jv p)).map (λc=>OV.d c.D)=(List.replicate s (νc p)).map OV.d:=by
  rw[uy,uy,zaH]
 let a:↑(List.replicate p (PyData.int 0))<=1000000:=by simp;lia
 rw[j];rw[d]at b;rwa[List.replicate p (PyData.int 0)=o,List.replicate s (νc p)=q];generalize r:(p:Int)=I at *;generalize u:(s:Int)=J at *;simp? [Qk,h,b,m,g,n,l,e,f,a,zF,zA,cs1]
def zdv{α:Type}(a b:α):atI [a,b] 0\a:=rfl
def zdw{α:Type}(a b:α):atI [a,b] 1\b:=rfl
def zlQ{α:Type}(a b c d:α):atI [a,b,c,d] 0\a:=rfl
def zlR{α:Type}(a b c d:α):atI [a,b,c,d] 1\b:=rfl
def zlS{α:Type}(a b c d:α):atI [a,b,c,d] 2\c:=rfl
def zlT{α:Type}(a b c d:α):atI [a,b,c,d] 3\d:=rfl
def zde(sh:List Int)(h:cs[a]?\c):qE a sh cs=cs.set a #[c.st,c.w,sh]:=by
 unfold qE;rw[h];let b:=(xa.mp h).1;rw[List.set_eq_take_append_cons_drop,if_pos b]
def QQ (cf:CF):=∀ (pool:Ab) (p:Nat) (fr:List Bool) (c:Cls) (d:Deed),↑pool<=60->StOk pool p fr c->Qh pool fr c d->cf "_law_did" [.d (zJ p fr c),.d d.D]=.ok (.l ((zI p (d.fr fr) (d.cl p c)).map .d)) [none,none]
structure zjw(cf:CF):Prop where
 blank:V6 cf
 wax:k9 cf
 dip:zdr cf
 boil:Wo cf
def zcv{f:List Cl->List Cl}(i:n∉pre):zO c ((pre++ [n]).map λm=>(m,f (qe c m)))=zZ (zO c (pre.map λm=>(m,f (qe c m)))) n (f (qe c n))/\zG (zO c (pre.map λm=>(m,f (qe c m)))) n=zG c n:=by
 constructor
 ·rw[xC];erw[zag c _ n _]
 ·refine QU _ _ ?_;rw[xy];simpa [Function.comp_def] using i
def VT{β:Type}:∀(L c:List (Str×β)),↑(zO c L)<=↑c+↑L
 |[],c=>by simp[zO]
 |p::L,c=>by
  let a:=VT L (zZ c p.1 p.2);let b:=wy c p.1 p.2;show ↑(zO (zZ c p.1 p.2) L)<=_;simp only[xz];lia
def zdO(cf:CF)(body:IB){F:List Cl->List Cl}{c:Cls}{K D S:OV}{o4:Option OV}(hc:↑c<=1000) :
  ∀(ns:Ab),ns.Nodup->↑ns<=60 ->
  (∀ n∈ns,∀(l:Cls)(i:Option OV),↑l<=2000->zG l n=zG c n->body.ex cf [] [some K,some D,some S,some (.m (clD l)),o4,@&(.str n)]=.ok (.next,[some K,some D,some S,some (.m (clD (zZ l n (F (qe c n))))),o4,@&(.str n)])) ->
  ∃ i,qU (.nm 5 5) (body.ex cf []) (ns.map .str) [some K,some D,some S,some (.m (clD c)),o4,none]=.ok (.next,[some K,some D,some S,some (.m (clD (zO c (ns.map λn=>(n,F (qe c n)))))),o4,i]):=by
 intro ns m hl hb;let(o,e,(i,rfl)):=qS (t:=.nm 5 5) (ds:=ns.map .str) (U:= [some K,some D,some S,some (.m (clD c)),o4,none])
  (λpre U=>∃ i:Option OV,U= [some K,some D,some S,some (.m (clD (zO c ((ns.take ↑pre).map λn=>(n,F (qe c n)))))),o4,i]) #[none,rfl] (by
   rintro pre x post e U ⟨i,rfl⟩;let a:↑pre<↑ns:=by have:=congrArg List.length e;simp at this;lia
   let hx:x=.str ns[↑pre]:=by
    have:(ns.map PyData.str)[↑pre]?\x:=by rw[e];simp
    rw[xg,xc a]at this;simpa using this.symm
   subst hx;let b:ns.take (↑pre+1)=ns.take ↑pre++ [ns[↑pre]]:=by rw[uh,xc a];rfl
   let j:ns[↑pre]∉ns.take ↑pre:=λz=>by
    let g:(ns.take ↑pre++ [ns[↑pre]]).Nodup:=by rw[<- b];exact m.sublist (List.take_sublist _ _)
    rw[xO]at g;exact g.2.2 _ z _ (by simp) rfl
   let(k,h):=zcv (c:=c) j;let f:=VT ((ns.take ↑pre).map λn=>(n,F (qe c n))) c;let d:=hb ns[↑pre] (xW a) (zO c ((ns.take ↑pre).map λn=>(n,F (qe c n)))) i (by
    rw[xo,xM]at f;lia) h
   refine#[[some K,some D,some S,some (.m (clD (zO c ((ns.take ↑pre).map λn=>(n,F (qe c n)))))),o4,@&(.str ns[↑pre])],_,rfl,d,@&(.str ns[↑pre]),?_];rw[xB,uA,b,k])
 refine#[i,?_];rw[e,xo,uE]
def zjV(cf:CF)(h:zjw cf):QQ λ_=>runI 6 [false,false] [] qP cf:=λpool p fr c d hpl S G=>by
 let hcl:=S.len;let hlf:=S.hl;let U:=S.hp;let s:↑(clD c)<1000000:=by simp[clD];lia
 let t:atI (zI p fr c) 0\(.int p):=rfl;let u:atI (zI p fr c) 1\(.list (frD fr)):=rfl;let v:atI (zI p fr c) 2\(.dict ((clD c).map dK)):=rfl;let r:=zN (clD c);let hK:zJ p fr c=.list (zI p fr c):=rfl;rw[hK];cases d with
 |hang n k=>
  let(H,hv,y,O):=G;let(j,rfl):=xw y;let z:=h.blank p j U (by lia);let C:=Qb (List.replicate j (jv p));let b:=j4 c n (List.replicate j (jv p));let v1:=qu (frD fr);let v2:=jk (clD (zZ c n (List.replicate j (jv p))));let hf:zI p ((Deed.hang n j).fr fr) ((Deed.hang n j).cl p c)= [.int p,.list (frD fr),.dict ((clD (zZ c n (List.replicate j (jv p)))).map dK)]:=rfl;let a:(Deed.hang n j).D=.tuple [.str "hang",.str n,.int j]:=rfl;rw[hf,a];rwa[zI p fr c=x,OV.l ((List.replicate j (jv p)).map λc=>.d c.D)=N,zB (List.replicate j (jv p))=M,clD (zZ c n (List.replicate j (jv p)))=q,(clD c).map dK=w,clD c=o,frD fr=F,(j:Int)=J];simp? [qP,t,u,v,r,z,C,b,v1,v2,s,Zg,Zs,Zb,ν8,wq,zW,JE,zA,cs1]
 |fold n=>
  let(cs,hv):=G;let f:zG (clD c) n\(zB cs):=by rw[zX,hv];rfl
  let b:qy (clD c) n=clD (qy c n):=VG zB c n;let v1:=qu (frD fr);let v2:=jk (clD (qy c n));let hf:zI p ((Deed.fold n).fr fr) ((Deed.fold n).cl p c)= [.int p,.list (frD fr),.dict ((clD (qy c n)).map dK)]:=rfl;let a:(Deed.fold n).D=.tuple [.str "fold",.str n]:=rfl;rw[hf,a];rwa[zI p fr c=x,clD (qy c n)=q,(clD c).map dK=w,clD c=o,frD fr=F];simp? [qP,t,u,v,r,f,b,v1,v2,s,zdv,zdw,ν8,wq,zW,ku,zA,cs1]
 |twin n m=>
  let((cs,hv),hm,hvm):=G;let f:zG (clD c) n\(zB cs):=by rw[zX,hv];rfl
  let b:=j4 c m cs;let v1:=qu (frD fr);let v2:=jk (clD (zZ c m cs));let hf:zI p ((Deed.twin n m).fr fr) ((Deed.twin n m).cl p c)= [.int p,.list (frD fr),.dict ((clD (zZ c m cs)).map dK)]:=by
   show zI p fr (zZ c m (qe c n))=_;rw[qL hv];rfl
  let a:(Deed.twin n m).D=.tuple [.str "twin",.str n,.str m]:=rfl;rw[hf,a];rwa[zI p fr c=x,clD (zZ c m cs)=q,(clD c).map dK=w,clD c=o,frD fr=F];simp? [qP,t,u,v,r,f,b,v1,v2,s,Zg,Zs,Zb,ν8,wq,zW,JE,zA,cs1]
 |wax n xs=>
  let(cs,hv,oz,hx2,oy):=G;let f:zG (clD c) n\(zB cs):=by rw[zX,hv];rfl
  let z:=h.wax cs xs (S.bolt hv).1;let C:=Qb (jN xs cs);let b:=j4 c n (jN xs cs);let v1:=qu (frD fr);let v2:=jk (clD (zZ c n (jN xs cs)));let hf:zI p ((Deed.wax n xs).fr fr) ((Deed.wax n xs).cl p c)= [.int p,.list (frD fr),.dict ((clD (zZ c n (jN xs cs))).map dK)]:=by
   show zI p fr (zZ c n (jN xs (qe c n)))=_;rw[qL hv];rfl
  let a:(Deed.wax n xs).D=.tuple [.str "wax",.str n,zE xs]:=rfl;rw[hf,a];rwa[zI p fr c=x,OV.l ((jN xs cs).map λc=>.d c.D)=N,zB (jN xs cs)=M,clD (zZ c n (jN xs cs))=q,(clD c).map dK=w,clD c=o,frD fr=F,zE xs=XX,zB cs=BB];simp? [qP,t,u,v,r,f,z,C,b,v1,v2,s,Zg,Zs,Zb,ν8,wq,zW,JE,zA,cs1]
 |wish n k sh=>
  let(cs,hv,y,O,mx,df):=G;let(j,rfl):=xw y;let E:j<↑cs:=by lia
  let f:zG (clD c) n\(zB cs):=by rw[zX,hv];rfl
  let qx:cs[j]?\cs[j]:=xc E;let V:=zde sh qx;let b:=j4 c n (qE j sh cs);let v1:=qu (frD fr);let v2:=jk (clD (zZ c n (qE j sh cs)));let v3:=qu (cs.map Cl.D);let a1:atI (cs.map Cl.D) (j:Int)\(cs[j]).D:=jY (by rw[xg,qx];rfl);let hcd:(cs[j]).D=.tuple [zE (cs[j]).st,.bool (cs[j]).w,zE (cs[j]).wi]:=rfl;let Q:((cs.map Cl.D).map OV.d)[j]?\(.d (cs[j]).D):=by rw[xg,xg,qx];rfl
  let dm:((cs.map Cl.D).map OV.d).set j (.d (.tuple [zE (cs[j]).st,.bool (cs[j]).w,zE sh]))=((qE j sh cs).map Cl.D).map OV.d:=by
   rw[V,ui,ui];rfl
  let v4:=qu ((qE j sh cs).map Cl.D);let hi:ixN ↑((cs.map Cl.D).map OV.d) (j:Int)\j:=by
   unfold ixN;rw[if_pos (by lia),if_pos (by simp;lia)];simp
  let hf:zI p ((Deed.wish n j sh).fr fr) ((Deed.wish n j sh).cl p c)= [.int p,.list (frD fr),.dict ((clD (zZ c n (qE j sh cs))).map dK)]:=by
   show zI p fr (zZ c n (qE (j:Int).toNat sh (qe c n)))=_;rw[qL hv,show (j:Int).toNat=j from by lia];rfl
  let a:(Deed.wish n j sh).D=.tuple [.str "wish",.str n,.int j,zE sh]:=rfl;let Aw:zB cs=.list (cs.map Cl.D):=rfl;let CA:zB (qE j sh cs)=.list ((qE j sh cs).map Cl.D):=rfl;rw[hf,a];rw[Aw]at f;rw[CA]at b;let a2:atI ((cs.map Cl.D).map OV.d) (j:Int)\(.d (cs[j]).D):=jY Q;rw[hcd]at a1 a2 Q;rwa[zI p fr c=x,clD (zZ c n (qE j sh cs))=q,(qE j sh cs).map Cl.D=W2,(clD c).map dK=w,clD c=o,frD fr=F,zE sh=XX,zE (cs[j]).st=A1,zE (cs[j]).wi=A2,(cs[j]).w=A3];generalize hY:(cs.map Cl.D).map OV.d=Y at *;rwa[cs.map Cl.D=Y1,(j:Int)=J];unfold qP;rwa[js=B1,jt=B2];simp? [qP,t,u,v,r,f,a1,a2,Q,hY,dm,hi,b,v1,v2,v3,v4,s,zlQ,zlR,zlS,zlT,Zg,Zs,Zb,ν8,wq,zW,JE,zA,cs1]
 |dip ns k=>
  let(y,O,T,H,hl,R):=G;let(j,rfl):=xw y;rw[show (j:Int).toNat=j from by lia]at *;let E:j<↑fr:=by lia
  let B:((frD fr).map OV.d).set j (.d (.bool false))=(frD (fr.set j false)).map OV.d:=by
   unfold frD;rw[ui,ui]
  let hg:((frD fr).map OV.d)[j]?\(.d (.bool fr[j])):=by unfold frD;rw[xg,xg,xc E];rfl
  let hi:ixN ↑((frD fr).map OV.d) (j:Int)\j:=by
   unfold ixN;rw[if_pos (by lia),if_pos (by simp[frD];lia)];simp
  let(X,z):=zdO cf js (F:=λl=>l.map (qp j)) (c:=c) (K:=.d (.list (zI p fr c))) (D:=.d (.tuple [.str "dip",zU ns,.int j])) (S:=.l ((frD (fr.set j false)).map OV.d)) (o4:=none) (by lia) ns H hl (by
   intro n hm i X f9 W;let(cs,e,hf):=R n hm;let Z:=h.dip.1 p cs j (by lia) (S.bolt e);let C:=Qb (cs.map (qp j));let b:=j4 i n (cs.map (qp j));let f:zG (clD i) n\(zB cs):=by rw[zX,W,e];rfl
   let P:↑(clD i)<1000000:=by simp[clD];lia
   rw[qL e];rwa[clD (zZ i n (cs.map (qp j)))=q,clD i=o,OV.l ((cs.map (qp j)).map λc=>.d c.D)=N,zB (cs.map (qp j))=M,zB cs=BB,zU ns=L,(j:Int)=J,PyData.list (zI p fr c)=KP,OV.l ((frD (fr.set j false)).map OV.d)=SS];simp? [js,Z,C,b,f,P,Zb,JE,zA,cs1])
  let v1:=qu (frD (fr.set j false));let v2:=jk (clD (zO c (ns.map λn=>(n,(qe c n).map (qp j)))));let hf:zI p ((Deed.dip ns j).fr fr) ((Deed.dip ns j).cl p c)= [.int p,.list (frD (fr.set j false)),.dict ((clD (zO c (ns.map λn=>(n,(qe c n).map (qp j))))).map dK)]:=by
   show zI p (fr.set (j:Int).toNat false) (zO c (ns.map λn=>(n,(qe c n).map (qp (j:Int).toNat))))=_;rw[show (j:Int).toNat=j from by lia];rfl
  let a:(Deed.dip ns j).D=.tuple [.str "dip",zU ns,.int j]:=rfl;let I:↑(ns.map PyData.str)<=1000000:=by simp;lia
  rw[hf,a];rwa[zI p fr c=x,clD (zO c (ns.map λn=>(n,(qe c n).map (qp j))))=q,(clD c).map dK=w,clD c=o,frD (fr.set j false)=F2];generalize A:(frD fr).map OV.d=FO at *;rwa[frD fr=F,fr[j]=g];unfold qP;rwa[js=B1,jt=B2];unfold zU at *;rwa[ns.map PyData.str=L,(j:Int)=J];simp? [zU,t,u,v,r,z,B,hg,hi,A,v1,v2,s,I,Zg,Zs,Zb,ν8,wq,zW,zA,cs1]
 |boil ns=>
  let(H,hl,R):=G;let(X,z):=zdO cf jt (F:=λl=>l.map qk) (c:=c) (K:=.d (.list (zI p fr c))) (D:=.d (.tuple [.str "boil",zU ns])) (S:=.l ((frD fr).map OV.d)) (o4:=none) (by lia) ns H hl (by
   intro n hm i X f9 W;let(cs,e):=R n hm;let Z:=h.boil cs (S.bolt e).1;let C:=Qb (cs.map qk);let b:=j4 i n (cs.map qk);let f:zG (clD i) n\(zB cs):=by rw[zX,W,e];rfl
   let P:↑(clD i)<1000000:=by simp[clD];lia
   rw[qL e];rwa[clD (zZ i n (cs.map qk))=q,clD i=o,OV.l ((cs.map qk).map λc=>.d c.D)=N,zB (cs.map qk)=M,zB cs=BB,zU ns=L,PyData.list (zI p fr c)=KP,OV.l ((frD fr).map OV.d)=SS];simp? [jt,Z,C,b,f,P,JE,zA,cs1])
  let v1:=qu (frD fr);let v2:=jk (clD (zO c (ns.map λn=>(n,(qe c n).map qk))));let hf:zI p ((Deed.boil ns).fr fr) ((Deed.boil ns).cl p c)= [.int p,.list (frD fr),.dict ((clD (zO c (ns.map λn=>(n,(qe c n).map qk)))).map dK)]:=rfl;let a:(Deed.boil ns).D=.tuple [.str "boil",zU ns]:=rfl;let I:↑(ns.map PyData.str)<=1000000:=by simp;lia
  rw[hf,a];rwa[zI p fr c=x,clD (zO c (ns.map λn=>(n,(qe c n).map qk)))=q,(clD c).map dK=w,clD c=o,frD fr=F];unfold qP;rwa[js=B1,jt=B2];unfold zU at *;rwa[ns.map PyData.str=L];simp? [zU,t,u,v,r,z,v1,v2,s,I,zdv,zdw,ν8,wq,zW,zA,cs1]
 |brew k=>
  let(y,O,T):=G;let(j,rfl):=xw y;rw[show (j:Int).toNat=j from by lia]at *;let E:j<↑fr:=by lia
  let B:((frD fr).map OV.d).set j (.d (.bool true))=(frD (fr.set j true)).map OV.d:=by
   unfold frD;rw[ui,ui]
  let hg:((frD fr).map OV.d)[j]?\(.d (.bool fr[j])):=by unfold frD;rw[xg,xg,xc E];rfl
  let hi:ixN ↑((frD fr).map OV.d) (j:Int)\j:=by
   unfold ixN;rw[if_pos (by lia),if_pos (by simp[frD];lia)];simp
  let v1:=qu (frD (fr.set j true));let v2:=jk (clD c);let hf:zI p ((Deed.brew j).fr fr) ((Deed.brew j).cl p c)= [.int p,.list (frD (fr.set j true)),.dict ((clD c).map dK)]:=by
   show zI p (fr.set (j:Int).toNat true) c=_;rw[show (j:Int).toNat=j from by lia];rfl
  let a:(Deed.brew j).D=.tuple [.str "brew",.int j]:=rfl;rw[hf,a];rwa[zI p fr c=x];generalize Be:(clD c).map dK=w at *;rwa[clD c=o,frD (fr.set j true)=F2];generalize A:(frD fr).map OV.d=FO at *;rwa[frD fr=F,fr[j]=g,(j:Int)=J];simp? [qP,t,u,v,r,B,hg,hi,A,v1,v2,s,zdv,zdw,ν8,wq,zW,zA,cs1]
def zmb(cl:Ad):Ab:=qc (cl.map (·.1))
def zfa(h:n∈zmb (clD c)):∃ cs,zG c n\cs:=by
 let a:=(qD _).mem_iff.mp h;cases q:zG c n with
 |some cs=>exact#[cs,rfl]
 |none=>
  have:=valG_none.mp q;erw[absurd ?_ this];let e:(clD c).map (·.1)=c.map (·.1):=by unfold clD;rw[xy];rfl
  rw[<- e];exact a
def VY(f:PyData)(c:Ao)(D S:PyData):QP f (c++ [(D,S)])=S:=by
 unfold QP;rw[List.getLast?_append];rfl
def yb(cf:CF):=∀(pool:Ab)(p:Nat)(fr:List Bool)(c:Cls)(d:Deed)(P:Int)(f:PyData)(a un:Ao),↑pool<=60->(∀ n∈pool,Nm n)->StOk pool p fr c->Qh pool fr c d->↑a<1000000->QP f a=stA fr c ->
 cf "House.do" [hV P f a un [],.d d.D]=.ok (.d .none) [some (hV P f (a++ [(d.D,stA (d.fr fr) (d.cl p c))]) [] []),none]
def zlX(cf:CF)(i:Vl cf)(hb:Qg cf):yb λ_=>runI 4 [true,false] [0] ν6 cf:=λpool p fr c d P f a un b e S G hl g=>
 zjZ cf i P f a un d.D _ hl (by unfold Yr;rw[g];exact hb pool p fr c d b e S G)
def Zd(pool:Ab)(p:Nat):List Deed->List Bool->Cls->Prop|[],_,_=>True|d::r,fr,c=>Qh pool fr c d/\Zd pool p r (d.fr fr) (d.cl p c)
def qJ:List Deed->List Bool->List Bool|[],fr=>fr|d::r,fr=>qJ r (d.fr fr)
def qm(p:Nat):List Deed->Cls->Cls|[],c=>c|d::r,c=>qm p r (d.cl p c)
def jas:IE:=.sin (.x 0 1) (.call (.call "_law_letters" 0 .nil))
section
local macro_rules|`(#[$a])=>`(.cons $a .nil)|`(#[$a,$b,*])=>`(.cons $a #[$b,*])|`(.($n:num))=>`(.x $n $n)|`(($n:num :))=>`(.k $n)
def qV:IB:=#[.ret (.dat (.and (.h .Lt .Lt (0:) (.slen .(0)) (9:)) (.all (.new (.comp 1 1 [] ["_law_sign"] (.nm 0 1) (.chars .(0)) .yes jas)))))]
def jc:IB:=#[.f (.not (.call (.call "_law_is_name" 1 #[.(1)]))) #[.ret (.dat (.q "NoName"))] .nil,.f (.d .(1) (.ix .(0) (2:))) #[.ret (.dat (.q "Taken"))] .nil,.ret (.dat (.q ""))]
def jar:IE:=.d (.x 0 2) (.ix (.x 1 0) (2:))
def qA:IB:=#[.f (.not (.all (.new (.comp 2 1 [0] ["_law_name","_law_kept_here"] (.nm 0 2) (.tup .(1)) .yes jar)))) #[.ret (.dat (.q "NoCloth"))] .nil,.f (.p .Lt (.lsetS .(1)) (.len .(1))) #[.ret (.dat (.q "Twice"))] .nil,.ret (.dat (.q ""))]
def jaq:IE:=.call (.call "_law_full" 2 #[.g (.ix (.x 1 0) (2:)) (.x 0 4),.(2)])
def qB:IB:=#[.f (.or (.p .Lt .(2) (0:)) (.p .GtE .(2) (.ix .(0) (0:)))) #[.ret (.dat (.q "NoDye"))] .nil,.f (.not (.ix (.ix .(0) (1:)) .(2))) #[.ret (.dat (.q "Spent"))] .nil,.a 3 3 (.dat (.call (.call "_law_group_word" 2 #[.(0),.(1)]))),.f (.and (.p .Eq .(3) (.q "")) (.any (.new (.comp 4 1 [0,2] ["_law_name","_law_kept_here","_law_dye_here"] (.nm 0 4) (.tup .(1)) .yes jaq)))) #[.ret (.dat (.q "TooDeep"))] .nil,.ret (.dat .(3))]
def jaj:IE:=.or (.p .Lt (.x 0 3) (0:)) (.p .Gt (.x 0 3) (9:))
def qq:IB:=#[.a 2 2 (.dat (.g (.ix .(0) (2:)) (.ix .(1) (1:)))),.f (.p .Eq (.ix .(1) (0:)) (.q "wax")) #[.ret (.call "_law_picks_word" 2 #[.ix .(1) (2:),.len .(2)])] .nil,.f (.or (.p .Lt (.ix .(1) (2:)) (0:)) (.p .GtE (.ix .(1) (2:)) (.len .(2)))) #[.ret (.dat (.q "NoCell"))] .nil,.f (.or (.p .NotEq (.len (.ix .(1) (3:))) (.ix .(0) (0:))) (.any (.new (.comp 3 1 [] ["_law_shade"] (.nm 0 3) (.tup (.ix .(1) (3:))) .yes jaj)))) #[.ret (.dat (.q "BadWish"))] .nil,.ret (.dat (.q ""))]
def qd:IB:=#[.f (.p .Eq (.ix .(1) (0:)) (.q "hang")) #[.a 2 2 (.dat (.call (.call "_law_new_word" 2 #[.(0),.ix .(1) (1:)]))),.f (.and (.p .Eq .(2) (.q "")) (.not (.h .LtE .LtE (0:) (.ix .(1) (2:)) (40:)))) #[.ret (.dat (.q "BadSize"))] .nil,.ret (.dat .(2))] .nil,.f (.p .Eq (.ix .(1) (0:)) (.q "dip")) #[.ret (.call "_law_dip_word" 3 #[.(0),.ix .(1) (1:),.ix .(1) (2:)])] .nil,.f (.p .Eq (.ix .(1) (0:)) (.q "boil")) #[.ret (.call "_law_group_word" 2 #[.(0),.ix .(1) (1:)])] .nil,.f (.p .Eq (.ix .(1) (0:)) (.q "brew")) #[.f (.or (.p .Lt (.ix .(1) (1:)) (0:)) (.p .GtE (.ix .(1) (1:)) (.ix .(0) (0:)))) #[.ret (.dat (.q "NoDye"))] .nil,.ret (.dat (.ix (.new (.lst #[.q "",.q "StillFresh"])) (.int (.ix (.ix .(0) (1:)) (.ix .(1) (1:))))))] .nil,.f (.dnin (.ix .(1) (1:)) (.ix .(0) (2:))) #[.ret (.dat (.q "NoCloth"))] .nil,.f (.p .Eq (.ix .(1) (0:)) (.q "twin")) #[.ret (.call "_law_new_word" 2 #[.(0),.ix .(1) (2:)])] .nil,.f (.p .Eq (.ix .(1) (0:)) (.q "fold")) #[.ret (.dat (.q ""))] .nil,.ret (.call "_law_cell_word" 2 #[.(0),.(1)])]
def jI:IB:=#[.f (.p .Eq (.call (.call "_law_take" 2 (.io 0 0 #[(14:)]))) (0:)) #[.ret (.dat (.ix (.new (.lst #[.q "",.q "A",.q "ab cd",.q "abcdefghi",.q "a1",.q "zzzzzzzz"])) (.call (.call "_law_take" 2 (.io 0 0 #[(6:)])))))] .nil,.ret (.dat (.ix .(1) (.call (.call "_law_take" 2 (.io 0 0 #[.len .(1)])))))]
def ju:IB:=#[.a 3 3 (.call "_law_deal" 3 (.io 0 0 #[.new (.sortD (.ix .(1) (2:))),.p .Eq (.call (.call "_law_take" 2 (.io 0 0 #[(3:)]))) (0:)])),.a 4 4 (.dat (.call (.call "_law_take" 2 (.io 0 0 #[(12:)])))),.f (.and (.or (.p .Eq .(4) (1:)) (.p .Eq .(4) (2:))) (.p .Gt (.len .(3)) (0:))) #[.app 3 3 (.ix .(3) (0:))] .nil,.f (.p .Eq .(4) (0:)) #[.app 3 3 (.call (.call "_law_any_name" 2 (.io 0 0 #[.(2)])))] .nil,.f (.p .Eq .(4) (2:)) #[.ins 3 3 (.call (.call "_law_take" 2 (.io 0 0 #[.n .Add (.len .(3)) (1:)]))) (.call (.call "_law_any_name" 2 (.io 0 0 #[.(2)])))] .nil,.ret (.dat (.tuple .(3)))]
def ZJ:IB:=#[.f (.and (.p .Gt .(1) (0:)) (.p .Gt (.call (.call "_law_take" 2 (.io 0 0 #[(9:)]))) (0:))) #[.ret (.call "_law_take" 2 (.io 0 0 #[.(1)]))] .nil,.ret (.dat (.ix (.new (.lst #[.neg (1:),.(1),.n .Add .(1) (3:)])) (.call (.call "_law_take" 2 (.io 0 0 #[(3:)])))))]
def ja8:IE:=.min (9:) (.n .Add (.x 0 6) (.call (.call "_law_take" 2 (.io 1 0 #[(2:)]))))
def jam:IE:=.n .Sub (.call (.call "_law_take" 2 (.io 1 0 #[(11:)]))) (.int (.p .Eq (.call (.call "_law_take" 2 (.io 1 0 #[(9:)]))) (0:)))
def jg:IB:=#[.a 4 4 (.dat (.dgd (.ix .(1) (2:)) .(2) (.new (.lst .nil)))),.f (.and (.h .LtE .Lt (0:) .(3) (.len .(4))) (.p .Gt (.call (.call "_law_take" 2 (.io 0 0 #[(7:)]))) (0:))) #[.ret (.dat (.tuple (.new (.comp 6 1 [0] ["_law_shade","_law_box_here"] (.nm 0 6) (.tup (.ix (.ix .(4) .(3)) (0:))) .yes ja8))))] .nil,.a 5 5 (.dat (.max (0:) (.n .Add (.ix .(1) (0:)) (.ix (.new (.lst #[(0:),(0:),(1:),.neg (1:)])) (.call (.call "_law_take" 2 (.io 0 0 #[(4:)]))))))),.ret (.dat (.tuple (.new (.comp 6 1 [0] ["_law_k","_law_box_here"] (.nm 0 6) (.range .(5)) .yes jam))))]
def jo:IB:=#[.f (.p .Eq (.call (.call "_law_take" 2 (.io 0 0 #[(9:)]))) (0:)) #[.ret (.dat (.ix (.new (.lst #[(40:),(41:),.neg (1:),(23:)])) (.call (.call "_law_take" 2 (.io 0 0 #[(4:)])))))] .nil,.ret (.call "_law_take" 2 (.io 0 0 #[(6:)]))]
def qI:IB:=#[.a 3 3 (.dat (.new (.lst #[.q "hang",.q "wish",.q "wax",.q "dip",.q "boil",.q "brew",.q "dip",.q "twin",.q "wax",.q "dip",.q "wish",.q "fold"]))),.a 4 4 (.dat (.ix .(3) (.call (.call "_law_take" 2 (.io 0 0 #[(12:)]))))),.a 5 5 (.dat (.call (.call "_law_any_name" 2 (.io 0 0 #[.(2)])))),.a 6 6 (.dat (.len (.dgd (.ix .(1) (2:)) .(5) (.new (.lst .nil))))),.f (.p .Eq .(4) (.q "hang")) #[.ret (.dat (.tup #[.(4),.(5),.call (.call "_law_hang_size" 1 (.io 0 0 .nil))]))] .nil,.f (.p .Eq .(4) (.q "fold")) #[.ret (.dat (.tup #[.(4),.(5)]))] .nil,.f (.p .Eq .(4) (.q "twin")) #[.ret (.dat (.tup #[.(4),.(5),.call (.call "_law_any_name" 2 (.io 0 0 #[.(2)]))]))] .nil,.f (.p .Eq .(4) (.q "wish")) #[.a 7 7 (.dat (.call (.call "_law_place" 2 (.io 0 0 #[.(6)])))),.ret (.dat (.tup #[.(4),.(5),.(7),.call (.call "_law_wanted" 4 (.io 0 0 #[.(1),.(5),.(7)]))]))] .nil,.f (.p .Eq .(4) (.q "wax")) #[.ret (.dat (.tup #[.(4),.(5),.call (.call "_law_picks" 2 (.io 0 0 #[.(6)]))]))] .nil,.f (.p .Eq .(4) (.q "dip")) #[.ret (.dat (.tup #[.(4),.call (.call "_law_group" 3 (.io 0 0 #[.(1),.(2)])),.call (.call "_law_dye" 2 (.io 0 0 #[.ix .(1) (0:)]))]))] .nil,.f (.p .Eq .(4) (.q "boil")) #[.ret (.dat (.tup #[.(4),.call (.call "_law_group" 3 (.io 0 0 #[.(1),.(2)]))]))] .nil,.ret (.dat (.tup #[.(4),.call (.call "_law_dye" 2 (.io 0 0 #[.ix .(1) (0:)]))]))]
def jau:IB:=#[.a 6 6 (.dat (.call (.call "_law_deed" 3 (.io 0 0 #[.(2),.(3)])))),.f (.p .Eq (.call (.call "_law_word" 2 #[.(2),.(6)])) (.q "")) #[.e (.call (.m 1 1 "House" "do" "House.do" 2 #[.(6)])),.a 2 2 (.dat (.call (.call "_law_did" 2 #[.(2),.(6)])))] .nil]
def ZW:IB:=#[.loop (.nm 5 5) (.range .(4)) jau,.ret (.dat .(2))]
end
def qw(ns:Ab):PyData:=.list (ns.map .str)
def odds:Ab:= ["","A","ab cd","abcdefghi","a1","zzzzzzzz"]
def zdy{α:Type}{xs:List α}{r:Int}(h0:0<=r)(c:r<(↑xs:Int)):∃ x,x∈xs/\atI xs r\x:=by
 let(j,rfl):=xw h0;let a:j<↑xs:=by lia
 exact#[xs[j],xW a,jY (xc a)]
def Qy (cf:CF):=∀ b,zQ b->∀ pool:Ab,1<=↑pool->↑pool<=60->∃ (n:Str) (a:OV),(n∈pool∨n∈odds)/\zQ a/\cf "_law_any_name" [b,.d (qw pool)]=.ok (.d (.str n)) [some a,none]
def Yt(cf:CF)(i:qF cf):Qy λ_=>runI 2 [true,false] [0] jI cf:=λb hb pool q r=>by
 let(l,j,g1,p,d,k):=i b hb 14 (by decide) (by decide);by_cases z:l=0
 ·subst z;let(o,e,g2,f,c,g):=i j d 6 (by decide) (by decide);let(x,hx,a):=zdy (xs:=odds.map PyData.str) g2 f;let(n,h,rfl):=xv.mp hx;refine#[n,e,.inr h,c,?_];simp only[odds,List.map]at a;simp? [jI,k,g,a,zT,zL,cs1]
 ·let m:(l==0)=false:=Xb.mpr z;let(o,e,g2,f,c,g):=i j d ↑pool (by lia) (by lia);let(x,hx,a):=zdy (xs:=pool.map PyData.str) g2 (~~~f);let(n,h,rfl):=xv.mp hx;refine#[n,e,.inl h,c,?_];let hl:↑(pool.map PyData.str)=↑pool:=by simp
  unfold qw;simp? [jI,k,g,a,m,hl,zT,zL,zA,cs1]
def k8 (cf:CF):=∀ b,zQ b->∀ p:Nat,p<=12->∃ (d:Int) (a:OV),zQ a/\cf "_law_dye" [b,.d (.int p)]=.ok (.d (.int d)) [some a,none]
def zhx(cf:CF)(i:qF cf):k8 λ_=>runI 2 [true,false] [0] ZJ cf:=λb hb p hp=>by
 let k:∀ h,zQ h->∃ (r d:Int) (e:OV),zQ e/\cf "_law_take" [h,.d (.int 3)]=.ok (.d (.int r)) [some e,none]/\atI [PyData.int (-1),.int p,.int (p+3)] r\(.int d):=λh g=>by
  let(r,e,g2,t,c,f):=i h g 3 (by decide) (by decide);have:r=0∨r=1∨r=2:=by lia
  rcases this with rfl | rfl | rfl
  ·exact#[0,_,e,c,f,rfl]
  ·exact#[1,_,e,c,f,rfl]
  ·exact#[2,_,e,c,f,rfl]
 by_cases h0:p=0
 ·subst h0;let(r,d,e,c,f,a):=k b hb;exact#[d,e,c,by dsimp! [ZJ,f,a,zT,zL,zA];exact a ▸ rfl]
 ·let m:(0:Int)<(p:Int):=by lia
  let(r,h,o,n,g,j):=i b hb 9 (by decide) (by decide);by_cases l:0<r
  ·let(q,e,s,u,c,f):=i h g (p:Int) (by lia) (by lia);exact#[q,e,c,by simp? [ZJ,m,ig,j,l,f,zT,zL,cs1]]
  ·let(v,d,e,c,f,a):=k h g;exact#[d,e,c,by simp? [ZJ,m,ig,j,l,f,gNeg,a,zT,zL,cs1]]
def QY (cf:CF):=∀ b,zQ b->∃ (d:Int) (a:OV),zQ a/\cf "_law_hang_size" [b]=.ok (.d (.int d)) [some a]
def yU(cf:CF)(i:qF cf):QY λ_=>runI 1 [true] [0] jo cf:=λb hb=>by
 let(r,j,o,n,e,k):=i b hb 9 (by decide) (by decide);by_cases z:r=0
 ·subst z;let(q,f,g,l,c,h):=i j e 4 (by decide) (by decide);have:∃ d,atI [PyData.int 40,.int 41,.int (-1),.int 23] q\(.int d):=by
   have:q=0∨q=1∨q=2∨q=3:=by lia
   rcases this with rfl | rfl | rfl | rfl<;>exact⟨_,rfl⟩
  let(d,a):=this;exact#[d,f,c,by simp? [jo,k,h,gNeg,a,zT,zL,cs1]]
 ·let m:(r==0)=false:=Xb.mpr z;let(q,f,g,l,c,h):=i j e 6 (by decide) (by decide);exact#[q,f,c,by simp? [jo,k,m,h,zT,zL,cs1]]
def nmB (n:Str):Bool:=decide (0<↑n)&&decide (↑n<9)&&n.cps.toList.all λc=>Txt.contains (Str.ofString "abcdefghijklmnopqrstuvwxyz") (ch c)
def JQ{α:Type}(f:α->Bool)(xs:List α):(qt (xs.map λa=>PyData.bool (f a))).map (λbs=>PyData.bool (bs.all id))\(.bool (xs.all f)):=by
 have:qt (xs.map λa=>PyData.bool (f a))\(xs.map f):=by
  induction xs with|nil=>rfl|cons a r b=>simp[qt,b]
 rw[this];simp[pj]
def zld(cf:CF)(hl:Qz cf)(cs:Ac){D:OV} :
  qR 1 (.nm 0 1) fYes (jas.ev cf).1 (cs.map λc=>PyData.str (ch c)) [] [some D]=.ok (cs.map λc=>PyData.bool (Txt.contains (Str.ofString "abcdefghijklmnopqrstuvwxyz") (ch c)),[some D]):=by
 let b:cf "_law_letters" []=.ok (.d (.str (Str.ofString "abcdefghijklmnopqrstuvwxyz"))) []:=hl;rwa[Str.ofString "abcdefghijklmnopqrstuvwxyz" =a];let e:=qW (k:=1) (t:=.nm 0 1) (cond:=fYes) (elt:=(jas.ev cf).1) (ds:=cs.map λc=>PyData.str (ch c)) (U:= [some D]) (λ_=>true) (λd=>match d with | .str s=>.bool (Txt.contains a s) | _=>.none) (by
  intro y f;let(c,hc,rfl):=xv.mp f;refine#[[some D,@&(.str (ch c))],_,rfl,rfl,rfl,λ_=>#[.dat (.bool (Txt.contains a (ch c))),[some D,@&(.str (ch c))],?_,rfl,rfl]];simp? [jas,yT,b,cs1])
 rw[qX,xy]at e;erw[e]
def JN (cf:CF):=∀ n:Str,↑n<=1000->(∀ c∈n.cps.toList,c<=127)->cf "_law_is_name" [.d (.str n)]=.ok (.d (.bool (nmB n))) [none]
def YZ(cf:CF)(hl:Qz cf):JN λ_=>runI 1 [false] [] qV cf:=λn o j=>by
 let g:=Wv (x:=n) j;let e:=zld cf hl n.cps.toList (D:=.d (.str n));let i:=JQ (λc=>Txt.contains (Str.ofString "abcdefghijklmnopqrstuvwxyz") (ch c)) n.cps.toList;let h:Zy n=n.cps.toList.map λc=>PyData.str (ch c):=rfl;let d:↑n<=1000000:=by lia
 let a:↑(n.cps.toList.map λc=>PyData.str (ch c))<=1000000:=by simp;exact d
 unfold nmB;rwa[(n.cps.toList.all λc=>Txt.contains (Str.ofString "abcdefghijklmnopqrstuvwxyz") (ch c))=k];unfold qV;rwa[jas=B,(n.cps.toList.map λc=>PyData.bool (Txt.contains (Str.ofString "abcdefghijklmnopqrstuvwxyz") (ch c)))=l,(n.cps.toList.map λc=>PyData.str (ch c))=m];by_cases g1:0<↑n
 ·let b:(0:Int)<(↑n:Int):=by lia
  by_cases g2:↑n<9
  ·let f:(↑n:Int)<9:=by lia
   simp? [qV,Qp,ZC,g,h,d,a,g1,b,g2,f,e,i,cs1]
  ·let f:¬ (↑n:Int)<9:=by lia
   simp? [qV,Qp,ZC,g,h,d,a,g1,b,g2,f,cs1]
 ·let b:¬ (0:Int)<(↑n:Int):=by lia
  simp? [qV,Qp,ZC,g,h,d,a,g1,b,cs1]
def Asc(n:Str):Prop:=↑n<=1000/\∀ c∈n.cps.toList,c<=127
def jw(c:Cls)(n:Str):(zG (clD c) n).isSome=(zG c n).isSome:=by rw[zX];cases zG c n<;>rfl
def Ze (c:Cls) (n:Str):Str:=if nmB n then (if (zG c n).isSome then "Taken" else "") else "NoName"
def JO (cf:CF):=∀ (p:Nat) (fr:List Bool) (c:Cls) (n:Str),Asc n->cf "_law_new_word" [.d (zJ p fr c),.d (.str n)]=.ok (.d (.str (Ze c n))) [none,none]
def Y7(cf:CF)(i:JN cf):JO λ_=>runI 2 [false,false] [] jc cf:=λp fr c n h=>by
 let e:=i n h.1 h.2;let hv:=jw c n;unfold Ze;rwa[(zG c n).isSome=V,nmB n=B];cases B
 ·simp? [jc,e,cs1]
 ·cases V<;>(first | (simp? [jc,e,kL2,zN,hv,cs1];done) | dsimp! [jc,e,kL2,zN,hv,zA])
def jq (c:Cls) (ns:Ab):Str:=if ns.all (λn=>(zG c n).isSome) then (if ↑(Tab.dedup ns)<↑ns then "Twice" else "") else "NoCloth"
def zj5(cf:CF)(p:Nat)(fr:List Bool)(c:Cls)(ns:Ab){o1:Option OV} :
  qR 1 (.nm 0 2) fYes (jar.ev cf).1 (ns.map .str) [] [@&(zJ p fr c),o1]=.ok (ns.map λn=>PyData.bool (zG c n).isSome,[@&(zJ p fr c),o1]):=by
 let e:=qW (k:=1) (t:=.nm 0 2) (cond:=fYes) (elt:=(jar.ev cf).1) (ds:=ns.map .str) (U:= [@&(zJ p fr c),o1]) (λ_=>true) (λd=>match d with | .str n=>.bool (zG c n).isSome | _=>.none) (by
  intro y a;let(n,hc,rfl):=xv.mp a;refine#[[@&(zJ p fr c),o1,@&(.str n)],_,rfl,rfl,rfl,λ_=>#[.dat (.bool (zG c n).isSome),[@&(zJ p fr c),o1,@&(.str n)],?_,rfl,rfl]];let hv:=jw c n;rwa[(zG c n).isSome=V];simp? [jar,kL2,zN,hv,cs1])
 rw[qX,xy]at e;erw[e]
def Zr (cf:CF):=∀ (p:Nat) (fr:List Bool) (c:Cls) (ns:Ab),↑ns<=60->cf "_law_group_word" [.d (zJ p fr c),.d (zU ns)]=.ok (.d (.str (jq c ns))) [none,none]
def Vf(cf:CF):Zr λ_=>runI 2 [false,false] [] qA cf:=λp fr c ns hl=>by
 let e:=zj5 cf p fr c ns (o1:=some (.d (zU ns)));let a:=JQ (λn=>(zG c n).isSome) ns;let i:=ν9 ns;let d:↑(ns.map PyData.str)<=1000000:=by simp;lia
 let f:↑(ns.map PyData.str)=↑ns:=by simp
 let h:↑ns<=1000000:=by lia
 unfold jq zU at *;rwa[(ns.all λn=>(zG c n).isSome)=j,zJ p fr c=K];unfold qA;rwa[jar=B,(ns.map λn=>PyData.bool (zG c n).isSome)=k,ns.map PyData.str=l];cases j
 ·simp? [qA,e,a,d,zA,cs1]
 ·by_cases g:↑(Tab.dedup ns)<↑ns
  ·let b:(↑(Tab.dedup ns):Int)<(↑ns:Int):=by lia
   simp? [qA,e,a,d,h,Jd,i,hl,f,g,b,zL,zA,cs1]
  ·let b:¬ (↑(Tab.dedup ns):Int)<(↑ns:Int):=by lia
   simp? [qA,e,a,d,h,Jd,i,hl,f,g,b,zL,zA,cs1]
def zjW(cf:CF)(hf:yi cf){pool:Ab}{p:Nat}{fr:List Bool}{c:Cls}(S:StOk pool p fr c){q:Nat}(l:q<p)(ns:Ab)(i:∀ n∈ns,(zG c n).isSome=true){o1 o3:Option OV} :
  qR 1 (.nm 0 4) fYes (jaq.ev cf).1 (ns.map .str) [] [@&(zJ p fr c),o1,@&(.int q),o3]=.ok (ns.map λn=>PyData.bool ((qe c n).any (qf q)),[@&(zJ p fr c),o1,@&(.int q),o3]):=by
 let e:=qW (k:=1) (t:=.nm 0 4) (cond:=fYes) (elt:=(jaq.ev cf).1) (ds:=ns.map .str) (U:= [@&(zJ p fr c),o1,@&(.int q),o3]) (λ_=>true) (λd=>match d with | .str n=>.bool ((qe c n).any (qf q)) | _=>.none) (by
  intro y b;let(n,hc,rfl):=xv.mp b;let(cs,hv):=ub.mp (i n hc);refine#[[@&(zJ p fr c),o1,@&(.int q),o3,@&(.str n)],_,rfl,rfl,rfl,λ_=>#[.dat (.bool ((qe c n).any (qf q))),[@&(zJ p fr c),o1,@&(.int q),o3,@&(.str n)],?_,rfl,rfl]];let hw:zG (clD c) n\(zB cs):=by rw[zX,hv];rfl
  let a:=hf.1 p cs q (S.bolt hv) l;rw[qL hv];rwa[cs.any (qf q)=V,zB cs=f,(q:Int)=Q];simp? [jaq,kL2,zN,hw,a,cs1])
 rw[qX,xy]at e;erw[e]
def Vy{α:Type}(f:α->Bool)(xs:List α):(qt (xs.map λa=>PyData.bool (f a))).map (λbs=>PyData.bool (bs.any id))\(.bool (xs.any f)):=by
 have:qt (xs.map λa=>PyData.bool (f a))\(xs.map f):=by
  induction xs with|nil=>rfl|cons a r b=>simp[qt,b]
 rw[this];simp[uP]
def J2(p:Nat)(fr:List Bool)(c:Cls)(ns:Ab)(d:Int):Str :=
 if d<0∨(p:Int)<=d then "NoDye" else if fr[d.toNat]?\true then (if jq c ns= "" then (if ns.any (λn=>(qe c n).any (qf d.toNat)) then "TooDeep" else "") else jq c ns) else "Spent"
def JM (cf:CF):=∀ (pool:Ab) (p:Nat) (fr:List Bool) (c:Cls) (ns:Ab) (d:Int),StOk pool p fr c->↑ns<=60->cf "_law_dip_word" [.d (zJ p fr c),.d (zU ns),.d (.int d)]=.ok (.d (.str (J2 p fr c ns d))) [none,none,none]
def W3 {c:Cls}{ns:Ab}(h:jq c ns= ""):∀ n∈ns,(zG c n).isSome=true:=by
 unfold jq at h
 split at h
 ·rename_i g;exact xH.mp g
 ·cases h
def YN(cf:CF)(hg:Zr cf)(hf:yi cf):JM λ_=>runI 4 [false,false,false] [] qB cf:=λpool p fr c ns d S hl=>by
 let h:atI (zI p fr c) 0\(.int p):=rfl;let m:atI (zI p fr c) 1\(.list (frD fr)):=rfl;let k:=hg p fr c ns hl;let v:=S.hl;unfold J2;by_cases h0:d<0
 ·generalize zU ns=a at *;simp? [qB,h0,zA,cs1]
 let(q,rfl):=xw (by lia:0<=d);by_cases b:(p:Int)<=(q:Int)
 ·generalize zU ns=a at *;rwa[(q:Int)=Q,(p:Int)=P]
  dsimp! [qB,h0,b,h,zA]
 let w:q<p:=by lia
 let f:fr[q]?\fr[q]:=xc (by lia);let a1:=VL f;let y:¬ ((q:Int)<0∨(p:Int)<=(q:Int)):=by lia
 rw[if_neg y,Int.toNat_natCast,f];cases hv:fr[q] with
 |false=>
  rw[hv]at a1;clear f hv;rwa[zU ns=a,frD fr=o,(q:Int)=Q,(p:Int)=P]
  dsimp! [qB,h0,b,h,m,a1,zA]
 |true=>
  rw[hv]at a1;clear f hv;by_cases g:jq c ns= ""
  ·let e:=zjW cf hf S w ns (W3 g) (o1:=some (.d (zU ns))) (o3:=some (.d (.str "")));let u:=Vy (λn=>(qe c n).any (qf q)) ns;let x:↑(ns.map PyData.str)<=1000000:=by simp;lia
   let t:↑ns<=1000000:=by lia
   let s:↑(ns.map PyData.str)=↑ns:=by simp
   rw[g]at k |-
   unfold zU at *;rwa[(ns.any λn=>(qe c n).any (qf q))=r];unfold qB;rwa[jaq=B,(ns.map λn=>PyData.bool ((qe c n).any (qf q)))=z,ns.map PyData.str=a,frD fr=o,(q:Int)=Q,(p:Int)=P];let j:PyData.eqv (.str "") (.str "")=true:=by decide
   let i:lay 20 (.str "")=true:=by kernel_rfl
   cases r<;>dsimp! [h0,b,h,m,a1,k,e,u,x,t,s,j,i,zL,zA]
  ·let j:PyData.eqv (.str (jq c ns)) (.str "")=false:=by
    show (jq c ns== "")=false;erw[Xb.mpr g]
   let l:lay 20 (.str (jq c ns))=true:=by
    unfold jq
    split
    ·split<;>kernel_rfl
    ·kernel_rfl
   let i:lay 20 (.str "")=true:=by kernel_rfl
   rwa[jq c ns=A,zU ns=a,frD fr=o,(q:Int)=Q,(p:Int)=P]
   dsimp! [qB,h0,b,h,m,a1,k,g,j,l,i,zA]
def QW(p:Nat)(cs:List Cl)(a:Int)(sh:List Int):Str :=
 if a<0∨(↑cs:Int)<=a then "NoCell" else if ↑sh=p then (if sh.any (λx=>decide (x<0)||decide (9<x)) then "BadWish" else "") else "BadWish"
def zg3(cf:CF)(sh:List Int){o0 o1 o2:Option OV} :
  qR 1 (.nm 0 3) fYes (jaj.ev cf).1 (sh.map .int) [] [o0,o1,o2]=.ok (sh.map λx=>PyData.bool (decide (x<0)||decide (9<x)),[o0,o1,o2]):=by
 let e:=qW (k:=1) (t:=.nm 0 3) (cond:=fYes) (elt:=(jaj.ev cf).1) (ds:=sh.map .int) (U:= [o0,o1,o2]) (λ_=>true) (λd=>match d with | .int x=>.bool (decide (x<0)||decide (9<x)) | _=>.none) (by
  intro y a;let(x,hc,rfl):=xv.mp a;refine#[[o0,o1,o2,@&(.int x)],_,rfl,rfl,rfl,λ_=>#[.dat (.bool (decide (x<0)||decide (9<x))),[o0,o1,o2,@&(.int x)],?_,rfl,rfl]];by_cases g:x<0
  ·dsimp! [jaj,g,zA]
  ·by_cases g2:9<x<;>dsimp! [jaj,g,g2,zA])
 rw[qX,xy]at e;erw[e]
structure QX(cf:CF):Prop where
 wax:∀ (pool:Ab) (p:Nat) (fr:List Bool) (c:Cls) (n:Str) (cs:List Cl) (xs:List Int),StOk pool p fr c->zG c n\cs->↑xs<=60->cf "_law_cell_word" [.d (zJ p fr c),.d (.tuple [.str "wax",.str n,zE xs])]=.ok (.d (.str (Qe xs ↑cs))) [none,none]
 wish:∀ (pool:Ab) (p:Nat) (fr:List Bool) (c:Cls) (n:Str) (cs:List Cl) (a:Int) (sh:List Int),StOk pool p fr c->zG c n\cs->↑sh<=60->cf "_law_cell_word" [.d (zJ p fr c),.d (.tuple [.str "wish",.str n,.int a,zE sh])]=.ok (.d (.str (QW p cs a sh))) [none,none]
def Vp(a b c d:PyData):atI [a,b,c,d] 0\a:=rfl
def Vq(a b c d:PyData):atI [a,b,c,d] 1\b:=rfl
def Vr(a b c d:PyData):atI [a,b,c,d] 2\c:=rfl
def zje(a b c d:PyData):atI [a,b,c,d] 3\d:=rfl
def Jr(cf:CF)(hw:zaC cf):QX λ_=>runI 3 [false,false] [] qq cf where
 wax:=λpool p fr c n cs xs S hv hl=>by
  let d:zG (clD c) n\(.list (cs.map Cl.D)):=by rw[zX,hv];rfl
  let e:=hw xs ↑cs hl;let b:↑(cs.map Cl.D)=↑cs:=by simp
  rwa[cs.map Cl.D=m,zE xs=t];simp? [qq,kL2,zN,d,e,b,Zg,Zs,Zb,wq,zW,zA,cs1]
 wish:=λpool p fr c n cs a sh S hv hl=>by
  let k:atI (zI p fr c) 0\(.int p):=rfl;let d:zG (clD c) n\(.list (cs.map Cl.D)):=by rw[zX,hv];rfl
  let b:↑(cs.map Cl.D)=↑cs:=by simp
  let e:=zg3 cf sh (o0:=some (.d (zJ p fr c))) (o1:=some (.d (.tuple [.str "wish",.str n,.int a,zE sh]))) (o2:=some (.d (.list (cs.map Cl.D))));let q:=Vy (λx:Int=>decide (x<0)||decide (9<x)) sh;let f:↑(sh.map PyData.int)=↑sh:=by simp
  let j:↑sh<=1000000:=by lia
  let o:p<=1000000:=by have:=S.hp;lia
  unfold QW;unfold zE at *;rwa[(sh.any λx=>decide (x<0)||decide (9<x))=l,cs.map Cl.D=m];unfold qq;rwa[jaj=B,(sh.map λx=>PyData.bool (decide (x<0)||decide (9<x)))=r,sh.map PyData.int=s];by_cases h0:a<0
  ·simp? [qq,kL2,zN,d,b,h0,Vp,Vq,Vr,wq,zW,zA,cs1]
  by_cases h:(↑cs:Int)<=a
  ·simp? [qq,kL2,zN,d,b,h0,h,Vp,Vq,Vr,wq,zW,zA,cs1]
  by_cases i:↑sh=p
  ·let g:((↑sh:Int)==(p:Int))=true:=by rw[beq_iff_eq];lia
   cases l<;>simp? [qq,k,kL2,zN,d,b,f,j,o,h0,h,i,g,e,q,Vp,Vq,Vr,zje,wq,zW,zL,zT,zA,cs1]
  ·let g:((↑sh:Int)==(p:Int))=false:=by rw[Xb];lia
   simp? [qq,k,kL2,zN,d,b,f,j,h0,h,i,g,Vp,Vq,Vr,zje,wq,zW,zL,zT,zA,cs1]
def Deed.Fit:Deed->Prop|.hang n _=>Asc n|.fold _=>True|.twin _ m=>Asc m|.wish _ _ sh=>↑sh<=60|.wax _ xs=>↑xs<=60|.dip ns _=>↑ns<=60|.boil ns=>↑ns<=60|.brew _=>True
def Deed.w(p:Nat)(fr:List Bool)(c:Cls):Deed->Str
 |.hang n k=>if Ze c n= "" then (if 0<=k/\k<=40 then "" else "BadSize") else Ze c n
 |.fold n=>if (zG c n).isSome then "" else "NoCloth"
 |.twin n m=>if (zG c n).isSome then Ze c m else "NoCloth"
 |.wish n a sh=>match zG c n with | some cs=>QW p cs a sh | none=> "NoCloth"
 |.wax n xs=>match zG c n with | some cs=>Qe xs ↑cs | none=> "NoCloth"
 |.dip ns d=>J2 p fr c ns d
 |.boil ns=>jq c ns
 |.brew d=>if d<0∨(p:Int)<=d then "NoDye" else if fr[d.toNat]?\true then "StillFresh" else ""
structure zgQ(cf:CF):Prop where
 new:JO cf
 grp:Zr cf
 dip:JM cf
 cell:QX cf
def ZS (cf:CF):=∀ (pool:Ab) (p:Nat) (fr:List Bool) (c:Cls) (d:Deed),StOk pool p fr c->d.Fit->cf "_law_word" [.d (zJ p fr c),.d d.D]=.ok (.d (.str (d.w p fr c))) [none,none]
def y1(c:Cls)(n:Str):lay 20 (.str (Ze c n))=true:=by
 unfold Ze
 split
 ·split<;>kernel_rfl
 ·kernel_rfl
def Ww(a b:PyData):atI [a,b] 0\a:=rfl
def Wy(a b:PyData):atI [a,b] 1\b:=rfl
def ze8(cf:CF)(h:zgQ cf):ZS λ_=>runI 3 [false,false] [] qd cf:=λpool p fr c d S b=>by
 let u:atI (zI p fr c) 0\(.int p):=rfl;let v:atI (zI p fr c) 1\(.list (frD fr)):=rfl;let r:lay 20 (.str "")=true:=by kernel_rfl
 cases d with
 |hang n k=>
  let e:=h.new p fr c n b;let t:=y1 c n;simp only[Deed.D,Deed.w];by_cases g:Ze c n= ""
  ·let f:PyData.eqv (.str "") (.str "")=true:=by decide
   rw[g]at e;rw[if_pos g];by_cases g1:0<=k
   ·by_cases g2:k<=40<;>simp? [qd,e,f,r,g1,g2,Zg,Zs,Zb,wq,zW,zA,cs1]
   ·simp? [qd,e,f,r,g1,Zg,Zs,Zb,wq,zW,zA,cs1]
  ·let f:PyData.eqv (.str (Ze c n)) (.str "")=false:=by
    show (Ze c n== "")=false;erw[Xb.mpr g]
   rw[if_neg g];rwa[Ze c n=y];simp? [qd,e,f,t,r,Zg,Zs,Zb,wq,zW,cs1]
 |fold n=>
  let hv:=zX c n;simp only[Deed.D,Deed.w];cases g:zG c n with
  |none=>
   rw[g]at hv;change _=none at hv;simp? [qd,kL2,zN,hv,Ww,Wy,wq,zW,cs1]
  |some cs=>
   rw[g]at hv;change _\(zB cs) at hv;rwa[zB cs=j];simp? [qd,kL2,zN,hv,Ww,Wy,wq,zW,cs1]
 |twin n m=>
  let e:=h.new p fr c m b;let hv:=zX c n;simp only[Deed.D,Deed.w];rwa[Ze c m=y];cases g:zG c n with
  |none=>
   rw[g]at hv;change _=none at hv;simp? [qd,kL2,zN,hv,Zg,Zs,Zb,wq,zW,cs1]
  |some cs=>
   rw[g]at hv;change _\(zB cs) at hv;rwa[zB cs=j];simp? [qd,kL2,zN,hv,e,Zg,Zs,Zb,wq,zW,cs1]
 |wish n a sh=>
  let hv:=zX c n;simp only[Deed.D,Deed.w];cases g:zG c n with
  |none=>
   rw[g]at hv;change _=none at hv;rwa[zE sh=o];simp? [qd,kL2,zN,hv,Vp,Vq,Vr,wq,zW,cs1]
  |some cs=>
   rw[g]at hv;change _\(zB cs) at hv;let e:=h.cell.wish pool p fr c n cs a sh S g b;dsimp only;rwa[zB cs=j,QW p cs a sh=l,zE sh=o];simp? [qd,kL2,zN,hv,e,Vp,Vq,Vr,wq,zW,cs1]
 |wax n xs=>
  let hv:=zX c n;simp only[Deed.D,Deed.w];cases g:zG c n with
  |none=>
   rw[g]at hv;change _=none at hv;rwa[zE xs=o];simp? [qd,kL2,zN,hv,Zg,Zs,Zb,wq,zW,cs1]
  |some cs=>
   rw[g]at hv;change _\(zB cs) at hv;let e:=h.cell.wax pool p fr c n cs xs S g b;dsimp only;rwa[zB cs=j,Qe xs ↑cs=l,zE xs=o];simp? [qd,kL2,zN,hv,e,Zg,Zs,Zb,wq,zW,cs1]
 |dip ns d=>
  let e:=h.dip pool p fr c ns d S b;simp only[Deed.D,Deed.w];rwa[J2 p fr c ns d=l,zU ns=x];simp? [qd,e,Zg,Zs,Zb,wq,zW,cs1]
 |boil ns=>
  let e:=h.grp p fr c ns b;simp only[Deed.D,Deed.w];rwa[jq c ns=l,zU ns=x];simp? [qd,e,Ww,Wy,wq,zW,cs1]
 |brew d=>
  let z:=S.hl;simp only[Deed.D,Deed.w];by_cases h0:d<0
  ·simp? [qd,h0,Ww,Wy,wq,zW,zA,cs1]
  let(q,rfl):=xw (by lia:0<=d);by_cases s:(p:Int)<=(q:Int)
  ·generalize (q:Int)=Q at *;rwa[(p:Int)=P]
   dsimp! [qd,h0,s,u,Ww,Wy,wq,zW,zA]
  let i:fr[q]?\fr[q]:=xc (by lia);let a1:=VL i;let A:¬ ((q:Int)<0∨(p:Int)<=(q:Int)):=by lia
  rw[if_neg A,Int.toNat_natCast,i];let t0:atI [PyData.str "",.str "StillFresh"] 0=some (.str ""):=rfl;let t1:atI [PyData.str "",.str "StillFresh"] 1=some (.str "StillFresh"):=rfl;cases hv:fr[q] with
  |false=>
   rw[hv]at a1;clear i hv;rwa[frD fr=w,(q:Int)=Q,(p:Int)=P]
   dsimp! [qd,h0,s,u,v,a1,t0,Ww,Wy,wq,zW,zA]
  |true=>
   rw[hv]at a1;clear i hv;rwa[frD fr=w,(q:Int)=Q,(p:Int)=P]
   dsimp! [qd,h0,s,u,v,a1,t1,Ww,Wy,wq,zW,zA]
def vg {c:Cls}{n:Str}(h:Ze c n= ""):nmB n=true/\zG c n=none:=by
 unfold Ze at h
 split at h
 next g=>
  split at h
  ·exact absurd h (by decide)
  next g2=>
   exact⟨g,by cases q:zG c n with|none=>rfl|some _=>rw[q]at g2;exact absurd rfl g2⟩
 ·exact absurd h (by decide)
def zaQ:∀(l acc:Ab),↑(l.foldl PyProof.Rows.step_dedup acc)<=↑acc+↑l
 |[],acc=>by simp
 |x::l,acc=>by
  rw[uG,xz];erw[xK (zaQ l _) ?_];unfold PyProof.Rows.step_dedup
  split<;>simp<;>lia
def VX:∀(l acc:Ab),↑acc+↑l<=↑(l.foldl PyProof.Rows.step_dedup acc)->l.Nodup/\∀ x∈l,x∉acc
 |[],acc,_=>#[.nil,by simp]
 |x::l,acc,h=>by
  rw[uG]at h;by_cases hx:acc.any (·==x)=true
  ·let e:PyProof.Rows.step_dedup acc x=acc:=if_pos hx;rw[e]at h;have:=zaQ l acc;simp at h;lia
  ·let e:PyProof.Rows.step_dedup acc x=acc++ [x]:=if_neg hx;rw[e]at h;let(c,b):=VX l (acc++ [x]) (by simp at h |-;lia);refine#[xG.mpr #[λhm=>b x hm (by simp),c],λy a hm=>?_];rcases xA.mp a with rfl | a
   ·exact hx (List.any_eq_true.mpr #[_,hm,by simp])
   ·exact b y a (by simp[hm])
def W4 {c:Cls}{ns:Ab}(h:jq c ns= ""):ns.Nodup/\∀ n∈ns,∃ cs,zG c n\cs:=by
 refine#[?_,λn a=>ub.mp (W3 h n a)];unfold jq at h
 split at h
 ·split at h
  ·exact absurd h (by decide)
  next g=>
   exact (VX ns [] (by simpa [Tab.dedup] using g)).1
 ·exact absurd h (by decide)
def Deed.nms:Deed->Ab|.hang n _=> [n]|.fold n=> [n]|.twin n m=> [n,m]|.wish n _ _=> [n]|.wax n _=> [n]|.dip ns _=>ns|.boil ns=>ns|.brew _=> []
def Kk{n:Str}(h:Nm n):Asc n:=#[by have:=h.2.1;lia,λc hc=>by have:=(h.2.2 c hc).2;lia]
def Deed.mk:Deed->Ab|.hang n _=> [n]|.twin _ m=> [m]|_=> []
def Deed.good {pool:Ab}{p:Nat}{fr:List Bool}{c:Cls}(S:StOk pool p fr c){d:Deed}(i:d.Fit) (hN:∀ n∈d.mk,nmB n=true->n∈pool) (h:d.w p fr c= ""):Qh pool fr c d:=by
 let l:=S.hl;cases d with
 |hang n k=>
  simp only[Deed.w]at h
  split at h
  next g=>
   let(g1,g2):=vg g
   split at h
   ·rename_i g3;exact⟨hN n (by simp[Deed.mk]) g1,g2,g3.1,g3.2⟩
   ·exact absurd h (by decide)
  ·rename_i g;exact absurd h g
 |fold n=>
  simp only[Deed.w]at h
  split at h
  ·rename_i g;exact ub.mp g
  ·exact absurd h (by decide)
 |twin n m=>
  simp only[Deed.w]at h
  split at h
  next g=>
   let(g1,g2):=vg h;exact#[ub.mp g,hN m (by simp[Deed.mk]) g1,g2]
  ·exact absurd h (by decide)
 |wish n a sh=>
  simp only[Deed.w]at h;cases g:zG c n with
  |none=>rw[g]at h;dsimp only at h;exact absurd h (by decide)
  |some cs=>
   rw[g]at h;dsimp only at h;unfold QW at h
   split at h
   ·exact absurd h (by decide)
   next g1=>
    split at h
    next g2=>
     split at h
     ·exact absurd h (by decide)
     next g3=>
      refine#[cs,g,by lia,by lia,by lia,λx hx=>?_];have:=g3;rw[Bool.not_eq_true,ut]at this;have:=this x hx;simp at this;lia
    ·exact absurd h (by decide)
 |wax n xs=>
  simp only[Deed.w]at h;cases g:zG c n with
  |none=>rw[g]at h;dsimp only at h;exact absurd h (by decide)
  |some cs=>
   rw[g]at h;dsimp only at h;unfold Qe at h
   split at h
   next g1=>
    split at h
    ·exact absurd h (by decide)
    ·rename_i g2;exact⟨cs,g,g1,~~~g2,i⟩
   ·exact absurd h (by decide)
 |dip ns d=>
  simp only[Deed.w]at h;unfold J2 at h
  split at h
  ·exact absurd h (by decide)
  next g1=>
   split at h
   next g2=>
    split at h
    next g3=>
     let(b,e):=W4 g3
     split at h
     ·exact absurd h (by decide)
     next j=>
      refine#[by lia,by lia,g2,b,i,λn f=>?_];let(cs,hv):=e n f;have:=j;rw[Bool.not_eq_true,ut]at this;have:=this n f;rw[qL hv]at this;exact#[cs,hv,~~~this]
    ·rename_i g3;exact absurd h g3
   ·exact absurd h (by decide)
 |boil ns=>
  let(b,e):=W4 h;exact#[b,i,e]
 |brew d=>
  simp only[Deed.w]at h
  split at h
  ·exact absurd h (by decide)
  next g1=>
   split at h
   ·exact absurd h (by decide)
   next g2=>
    let o:d.toNat<↑fr:=by lia
    let he:fr[d.toNat]?\fr[d.toNat]:=xc o;refine#[by lia,by lia,?_];rw[he]at g2 |-
    cases q:fr[d.toNat] with
    |false=>rfl
    |true=>rw[q]at g2;exact absurd rfl g2
def ZR(cf:CF):=∀ b,zQ b->∀(pool:Ab)(p:Nat)(fr:List Bool)(c:Cls)(q:Ab),StOk pool p fr c->1<=↑q->↑q<=10->(∀ n∈q,Nm n)->↑pool<=50->(∀ n∈pool,Nm n) ->
 ∃ (d:Deed) (a:OV),d.Fit/\(∀ n∈d.mk,n∈q∨n∈odds)/\(∀ n∈d.nms,Asc n)/\zQ a/\cf "_law_deed" [b,.d (zJ p fr c),.d (qw q)]=.ok (.d d.D) [some a,none,none]
def zjo {n:Str}(h:n∈odds) (g:nmB n=true):n= "zzzzzzzz" :=by
 simp only[odds,xA,uw,or_false]at h;rcases h with rfl | rfl | rfl | rfl | rfl | rfl
 ·exact absurd g (by decide +kernel)
 ·exact absurd g (by decide +kernel)
 ·exact absurd g (by decide +kernel)
 ·exact absurd g (by decide +kernel)
 ·exact absurd g (by decide +kernel)
 ·rfl
def zaV(p:Nat)(fr:List Bool)(c:Cls)(d:Deed):lay 20 (.str (d.w p fr c))=true:=by
 let hg:∀ ns,lay 20 (.str (jq c ns))=true:=λns=>by
  unfold jq
  split
  ·split<;>kernel_rfl
  ·kernel_rfl
 cases d with
 |hang n k=>
  simp only[Deed.w]
  split
  ·split<;>kernel_rfl
  ·erw[y1 c n]
 |fold n=>simp only[Deed.w];split<;>kernel_rfl
 |twin n m=>
  simp only[Deed.w]
  split
  ·erw[y1 c m]
  ·kernel_rfl
 |wish n a sh=>
  simp only[Deed.w];cases zG c n with
  |none=>kernel_rfl
  |some cs=>
   show lay 20 (.str (QW p cs a sh))=true;unfold QW
   split
   ·kernel_rfl
   ·split
    ·split<;>kernel_rfl
    ·kernel_rfl
 |wax n xs=>
  simp only[Deed.w];cases zG c n with
  |none=>kernel_rfl
  |some cs=>
   show lay 20 (.str (Qe xs ↑cs))=true;unfold Qe
   split
   ·split<;>kernel_rfl
   ·kernel_rfl
 |dip ns d=>
  simp only[Deed.w];unfold J2
  split
  ·kernel_rfl
  ·split
   ·split
    ·split<;>kernel_rfl
    ·erw[hg ns]
   ·kernel_rfl
 |boil ns=>erw[hg ns]
 |brew d=>
  simp only[Deed.w]
  split
  ·kernel_rfl
  ·split<;>kernel_rfl
def zjC{n:Str}(h:Asc n):PyData.strOk n=true:=by
 unfold PyData.strOk;rw[uS];intro i hi;have:=h.2 n.cps[i] (by simp);simp;lia
def DnL(c:Ao):=∀ x∈c,lay 19 x.1=true
def Zh{d:Deed}(h:∀ n∈d.nms,Asc n):lay 19 d.D=true:=by
 let a:∀ n∈d.nms,∀ m,lay m (.str n)=true:=λn b m=>by
  have:=zjC (h n b);cases m<;>exact this
 let hi:∀ xs:List Int,lay 18 (zE xs)=true:=λxs=>QH λx hx=>by
  let(i,_,rfl):=xv.mp hx;erw[zL _ _]
 let b:∀ ns:Ab,(∀ n∈ns,n∈d.nms)->lay 18 (zU ns)=true:=λns hm=>QH λx hx=>by
  let(n,b,rfl):=xv.mp hx;erw[a n (hm n b) _]
 cases d<;>refine QH λx hx=>?_<;>simp only[xA,uw,or_false]at hx
 ·rcases hx with rfl | rfl | rfl
  ·erw[zW _ _]
  ·exact a _ (by simp[Deed.nms]) _
  ·erw[zL _ _]
 ·rcases hx with rfl | rfl
  ·erw[zW _ _]
  ·exact a _ (by simp[Deed.nms]) _
 ·rcases hx with rfl | rfl | rfl
  ·erw[zW _ _]
  ·exact a _ (by simp[Deed.nms]) _
  ·exact a _ (by simp[Deed.nms]) _
 ·rcases hx with rfl | rfl | rfl | rfl
  ·erw[zW _ _]
  ·exact a _ (by simp[Deed.nms]) _
  ·erw[zL _ _]
  ·erw[hi _]
 ·rcases hx with rfl | rfl | rfl
  ·erw[zW _ _]
  ·exact a _ (by simp[Deed.nms]) _
  ·erw[hi _]
 ·rcases hx with rfl | rfl | rfl
  ·erw[zW _ _]
  ·erw[b _ λn h=>h]
  ·erw[zL _ _]
 ·rcases hx with rfl | rfl
  ·erw[zW _ _]
  ·erw[b _ λn h=>h]
 ·rcases hx with rfl | rfl
  ·erw[zW _ _]
  ·erw[zL _ _]
def DnL.snoc(h:DnL o)(hl:lay 19 D=true):DnL (o++ [(D,S)]):=λx hx=>(xJ.mp hx).elim (h x) λz=>uj.mp z ▸ hl
def Ki(pool:Ab)(p:Nat)(P:Int)(f:PyData)(L:Nat)(o3 i:PyData)(U:Gv):=∃(b:OV)(fr:List Bool)(c:Cls)(a:Ao)(d e:Option OV),zQ b/\StOk pool p fr c/\QP f a=stA fr c/\↑a<=L/\DnL a /\
 U= [some b,some (hV P f a [] []),@&(zJ p fr c),@&o3,@&i,d,e]
def zdf (cf:CF) (hd:ZR cf) (hw:ZS cf) (ho:yb cf) (hi:QQ cf){pool q:Ab}{p:Nat}{P:Int}{f:PyData}{L:Nat}{m:PyData}(J:↑pool<=50) (s:∀ n∈pool,Nm n) (E:1<=↑q) (H:↑q<=10) (B:∀ n∈q,n∈pool) (M:("zzzzzzzz" :Str)∈pool) (T:L<1000000){x:PyData}{U:Gv}(h:Ki pool p P f L (qw q) m U) :
  ∃ v y,tgF (.nm 5 5) x U\v/\jau.ex cf [0,1] v=.ok (.next,y)/\Ki pool p P f (L+1) (qw q) m y:=by
 let(b,fr,c,a,Q,N,hb,S,e,hl,j,rfl):=h;let(d,k,A,hN,K,i,w):=hd b hb pool p fr c q S E H (λn e=>s n (B n e)) J s;let r:=hw pool p fr c d S A;let t:=zaV p fr c d;let u:lay 20 (.str "")=true:=by kernel_rfl
 let hK:zJ p fr c=.list (zI p fr c):=rfl;refine#[[some b,some (hV P f a [] []),@&(zJ p fr c),@&(qw q),@&m,@&x,N],?_];by_cases g:d.w p fr c= ""
 ·let G:Qh pool fr c d:=d.good S A (λn e g=>(hN n e).elim (B n) λh=>zjo h g ▸ M) g;let z:=ho pool p fr c d P f a [] (by lia) s S G (by lia) e;let F:=hi pool p fr c d (by lia) S G;let C:=S.step G;let O:=qu (zI p (d.fr fr) (d.cl p c));let o:PyData.eqv (.str "") (.str "")=true:=by decide
  refine#[[some k,some (hV P f (a++ [(d.D,stA (d.fr fr) (d.cl p c))]) [] []),@&(zJ p (d.fr fr) (d.cl p c)),@&(qw q),@&m,@&x,some (.d d.D)],rfl,?_,k,d.fr fr,d.cl p c,_,_,_,i,C,VY _ _ _ _,by simp;lia,j.snoc (Zh K),rfl];rw[g]at r;let I:zJ p (d.fr fr) (d.cl p c)=.list (zI p (d.fr fr) (d.cl p c)):=rfl;rw[I];obtain⟨D,g1⟩:∃ l,hV P f a [] []=.o "House" ["pots","first","done","undone","places"] l:=#[_,rfl];rw[g1]at z |-
  dsimp! [jau,w,r,z,F,O,o,u,zA,ja]
 ·let o:PyData.eqv (.str (d.w p fr c)) (.str "")=false:=by
   erw[Xb.mpr g]
  refine#[[some k,some (hV P f a [] []),@&(zJ p fr c),@&(qw q),@&m,@&x,some (.d d.D)],rfl,?_,k,fr,c,a,_,_,i,S,e,by lia,j,rfl];obtain⟨D,g1⟩:∃ l,hV P f a [] []=.o "House" ["pots","first","done","undone","places"] l:=#[_,rfl];simp? [jau,w,r,o,t,u,ja,cs1]
def Wt (cf:CF):=∀ b,zQ b->∀ (pool q:Ab) (p:Nat) (fr:List Bool) (c:Cls) (P:Int) (f:PyData) (a:Ao) (m:Nat),↑pool<=50->(∀ n∈pool,Nm n)->1<=↑q->↑q<=10->(∀ n∈q,n∈pool)->("zzzzzzzz" :Str)∈pool->StOk pool p fr c->QP f a=stA fr c->m<=60->↑a<=1000->DnL a ->
 ∃ (h:OV) (g:List Bool) (e:Cls) (d:Ao),zQ h/\StOk pool p g e/\QP f d=stA g e/\↑d<=↑a+m/\DnL d/\cf "_law_worked" [b,hV P f a [] [],.d (zJ p fr c),.d (qw q),.d (.int m)]=.ok (.d (zJ p g e)) [some h,some (hV P f d [] []),none,none,none]
def zdg(cf:CF)(hd:ZR cf)(hw:ZS cf)(ho:yb cf)(hi:QQ cf):Wt λ_=>runI 7 [true,true,false,false,false] [0,1] ZW cf:=λb hb pool q p fr c P f a m A B w z F G S E hm D i=>by
 let(H,e,s,y,u,v,J,K,d,k,g,h,j,rfl):=qS (t:=.nm 5 5) (body:=jau.ex cf [0,1]) (ds:=qi m) (U:= [some b,some (hV P f a [] []),@&(zJ p fr c),@&(qw q),@&(.int m),none,none])
  (λpre U=>Ki pool p P f (↑a+↑pre) (qw q) (.int m) U) #[b,fr,c,a,none,none,hb,S,E,xh _,i,rfl] (by
   intro pre x post ex U C;let hlen:↑pre<m:=by
    have:=congrArg List.length ex;rw[zF]at this;simp at this;lia
   let(l,n,a1,a2,r):=zdf cf hd hw ho hi A B w z F G (by lia) C (x:=x);exact#[l,n,a1,a2,by rw[xB];exact r])
 rw[zF]at h;refine#[s,y,u,v,d,k,g,h,j,?_];obtain⟨I,g1⟩:∃ o,hV P f a [] []=.o "House" ["pots","first","done","undone","places"] o:=#[_,rfl];simp? [ZW,e,de,ao,hrl,zA,ja,cs1]
def zgB(cf:CF)(l:qF cf){b:OV}(hb:zQ b)(st:List Int){o1 o2 o3 o4 o5:Option OV} :
  ∃(xs:List Int)(c:OV),zQ c/\↑xs=↑st/\qR 1 (.nm 0 6) fYes (ja8.ev cf).1 (st.map .int) [] [some b,o1,o2,o3,o4,o5]=.ok (xs.map .int,[some c,o1,o2,o3,o4,o5]):=by
 let(g,o,e,c,xs,a,hl,m,rfl):=je (k:=1) (t:=.nm 0 6) (cond:=fYes) (elt:=(ja8.ev cf).1) (ds:=st.map .int) (U:= [some b,o1,o2,o3,o4,o5])
  (λpre g U=>∃(c:OV)(xs:List Int),zQ c/\↑xs=↑pre/\g=xs.map .int/\U= [some c,o1,o2,o3,o4,o5]) #[b,[],hb,rfl,rfl,rfl] (by
   rintro pre d post e g U ⟨h,xs,n,hl,rfl,rfl⟩;let hd:d∈st.map PyData.int:=by rw[e];simp
   let(z,_,rfl):=xv.mp hd;let(r,i,g1,g2,f,j):=l h n 2 (by decide) (by decide);refine#[[some h,o1,o2,o3,o4,o5,@&(.int z)],true,_,rfl,rfl,λ_=>#[.dat (.int (if z+r<9 then z+r else 9)),[some i,o1,o2,o3,o4,o5,@&(.int z)],.int (if z+r<9 then z+r else 9),?_,rfl,i,xs++ [if z+r<9 then z+r else 9],f,by simp[hl],by simp,rfl],λz=>nomatch z];simp? [ja8,j,cs1])
 exact#[xs,c,a,~~~hl,by rw[e,m]]
def zgC(cf:CF)(o:qF cf){b:OV}(hb:zQ b)(m:Nat){o1 o2 o3 o4 o5:Option OV} :
  ∃(xs:List Int)(c:OV),zQ c/\↑xs=m/\qR 1 (.nm 0 6) fYes (jam.ev cf).1 (qi m) [] [some b,o1,o2,o3,o4,o5]=.ok (xs.map .int,[some c,o1,o2,o3,o4,o5]):=by
 let(j,w,e,c,xs,h,hl,s,rfl):=je (k:=1) (t:=.nm 0 6) (cond:=fYes) (elt:=(jam.ev cf).1) (ds:=qi m) (U:= [some b,o1,o2,o3,o4,o5])
  (λpre j U=>∃(c:OV)(xs:List Int),zQ c/\↑xs=↑pre/\j=xs.map .int/\U= [some c,o1,o2,o3,o4,o5]) #[b,[],hb,rfl,rfl,rfl] (by
   rintro pre d post e j U ⟨g,xs,v,hl,rfl,rfl⟩;let(r,q,g1,g2,i,l):=o g v 11 (by decide) (by decide);let(p,f,g3,x,a,n):=o q i 9 (by decide) (by decide);by_cases z:p=0
   ·subst z;refine#[[some g,o1,o2,o3,o4,o5,@&d],true,_,rfl,rfl,λ_=>#[.dat (.int (r-1)),[some f,o1,o2,o3,o4,o5,@&d],.int (r-1),?_,rfl,f,xs++ [r-1],a,by simp[hl],by simp,rfl],λz=>nomatch z];simp? [jam,l,n,gInt,zT,zL,cs1]
   ·let u:(p==0)=false:=Xb.mpr z;refine#[[some g,o1,o2,o3,o4,o5,@&d],true,_,rfl,rfl,λ_=>#[.dat (.int (r-0)),[some f,o1,o2,o3,o4,o5,@&d],.int (r-0),?_,rfl,f,xs++ [r-0],a,by simp[hl],by simp,rfl],λz=>nomatch z]
    dsimp! [jam,l,n,u,zT,zL,zA])
 exact#[xs,c,h,by rw[zF]at hl;exact hl,by rw[e,s]]
def Ws (cf:CF):=∀ b,zQ b->∀ (pool:Ab) (p:Nat) (fr:List Bool) (c:Cls) (n:Str) (a:Int),StOk pool p fr c->∃ (sh:List Int) (d:OV),zQ d/\↑sh<=60/\cf "_law_wanted" [b,.d (zJ p fr c),.d (.str n),.d (.int a)]=.ok (.d (zE sh)) [some d,none,none,none]
def zdd(cf:CF)(z:qF cf):Ws λ_=>runI 6 [true,false,false,false] [0] jg cf:=λb hb pool p fr c n a S=>by
 let F:atI (zI p fr c) 0\(.int p):=rfl;let B:atI (zI p fr c) 2\(.dict ((clD c).map dK)):=rfl;let A:=zN (clD c);let hK:zJ p fr c=.list (zI p fr c):=rfl;let hp:=S.hp;obtain⟨cs,O,x⟩:∃ cs:List Cl,(∀ q∈cs,q.st.length=p)/\(zG (clD c) n).getD (.list [])=.list (cs.map Cl.D):=by
  cases g:zG c n with|none=>exact#[[],by simp,by rw[zX,g];rfl]|some cs=>exact#[cs,λq Q=>((S.bolt g).2 q Q).sl,by rw[zX,g];rfl]
 let w:↑(cs.map Cl.D)=↑cs:=by simp
 rw[hK];generalize U:zI p fr c=K at *;have G:∀ o,zQ o->∃ (r k:Int) (f e:OV) (m:Nat) (xs:List Int),zQ e/\↑xs<=60/\m<=60/\cf "_law_take" [o,.d (.int 4)]=.ok (.d (.int r)) [some f,none] /\
   atI [PyData.int 0,.int 0,.int 1,.int (-1)] r\(.int k)/\(if (0:Int)<p+k then (p:Int)+k else 0)=(m:Int) /\
   qR 1 (.nm 0 6) fYes (jam.ev cf).1 (qi m) [] [some f,@&(.list K),@&(.str n),@&(.int a),@&(.list (cs.map Cl.D)),@&(.int m)]=.ok (xs.map .int,[some e,@&(.list K),@&(.str n),@&(.int a),@&(.list (cs.map Cl.D)),@&(.int m)]):=λo h=>by
  let(r,f,g2,W,l,C):=z o h 4 (by decide) (by decide);obtain⟨k,hk,X,V⟩:∃ k:Int,atI [PyData.int 0,.int 0,.int 1,.int (-1)] r\(.int k)/\ -1<=k/\k<=1:=by
   have:r=0∨r=1∨r=2∨r=3:=by lia
   rcases this with rfl | rfl | rfl | rfl
   ·exact#[0,rfl,by lia,by lia]
   ·exact#[0,rfl,by lia,by lia]
   ·exact#[1,rfl,by lia,by lia]
   ·exact#[-1,rfl,by lia,by lia]
  obtain⟨m,hm,E⟩:∃ m:Nat,(if (0:Int)<p+k then (p:Int)+k else 0)=(m:Int)/\m<=60:=by
   split
   ·exact#[((p:Int)+k).toNat,by lia,by lia]
   ·exact#[0,rfl,by lia]
  let(xs,e,i,hl,N):=zgC cf z l m (o1:=some (.d (.list K))) (o2:=some (.d (.str n))) (o3:=some (.d (.int a))) (o4:=some (.d (.list (cs.map Cl.D)))) (o5:=some (.d (.int m)));exact#[r,k,f,e,m,xs,i,by lia,E,C,hk,hm,N]
 by_cases h0:0<=a
 ·by_cases D:a<(↑cs:Int)
  ·let(j,rfl):=xw h0;let y:j<↑cs:=by lia
   let(r,o,g1,Y,h,I):=z b hb 7 (by decide) (by decide);by_cases J:0<r
   ·let(xs,f,l,hl,C):=zgB cf z h cs[j].st (o1:=some (.d (.list K))) (o2:=some (.d (.str n))) (o3:=some (.d (.int j))) (o4:=some (.d (.list (cs.map Cl.D)))) (o5:=none);let R:=O cs[j] (xW y);refine#[xs,f,l,by lia,?_];let H:atI (cs.map Cl.D) (j:Int)\cs[j].D:=jY (by rw[xg,xc y];rfl);let a0:atI [zE cs[j].st,.bool cs[j].w,zE cs[j].wi] 0\(zE cs[j].st):=rfl;let P:cs[j].D=.tuple [zE cs[j].st,.bool cs[j].w,zE cs[j].wi]:=rfl;let T:↑(cs[j].st.map PyData.int)<=1000000:=by simp;lia
    rw[P]at H;simp? [jg,B,A,x,w,h0,D,y,I,J,H,a0,T,C,zA,cs1]
   ·let(L,k,f,e,m,xs,i,hl,M,u,hk,hm,v):=G o h;refine#[xs,e,i,hl,?_];let t: -1000000<=(m:Int)/\(m:Int)<=1000000:=by lia
    let s:m<=1000000:=by lia
    let d:=zF m;simp? [jg,F,B,A,x,w,h0,D,y,I,J,u,hk,hm,v,t,s,d,zA,cs1]
  ·let(L,k,f,e,m,xs,i,hl,M,u,hk,hm,v):=G b hb;refine#[xs,e,i,hl,?_];let t: -1000000<=(m:Int)/\(m:Int)<=1000000:=by lia
   let s:m<=1000000:=by lia
   let d:=zF m;simp? [jg,F,B,A,x,w,h0,D,u,hk,hm,v,t,s,d,zA,cs1]
 ·let(L,k,f,e,m,xs,i,hl,M,u,hk,hm,v):=G b hb;refine#[xs,e,i,hl,?_];let t: -1000000<=(m:Int)/\(m:Int)<=1000000:=by lia
  let s:m<=1000000:=by lia
  let d:=zF m;simp? [jg,F,B,A,x,w,h0,u,hk,hm,v,t,s,d,zA,cs1]
def dvw(x:PyData):(OV.d x).view=x:=rfl
def zj0(xs:Aa):(OV.l (xs.map .d)).view=.list xs:=by rw[OV.view,OV.views_d]
def W6{n k:Nat}(h:k<=n):Vg n (k:Int)=k:=by
 unfold Vg;rw[if_neg (by lia)];simp;lia
def zdp(ds:Aa)(al:Bool)(x:RF):=∃(sub ps:Aa)(a:OV),sub.Sublist ds/\ps.Perm sub/\(al=true->sub=ds)/\zQ a/\x=.ok (.l (ps.map .d)) [some a,none,none]
def zg6(cf:CF)(A:qF cf){b:OV}(hb:zQ b){ds:Aa}(hl:↑ds<=1000){al:Bool}:zdp ds al (runI 5 [true,false,false] [0] Q0 cf [b,.d (.list ds),.d (.bool al)]):=by
 let(G,e,(sub,ps,p,v,f,m,s,u,rfl)):=qS (t:=.nm 4 4) (body:=jao.ex cf [0]) (ds:=ds) (U:= [some b,@&(.list ds),@&(.bool al),some (.l []),none])
  (λpre U=>∃(sub ps:Aa)(p:OV)(v:Option OV),sub.Sublist pre/\ps.Perm sub/\(al=true->sub=pre)/\zQ p/\U= [some p,@&(.list ds),@&(.bool al),some (.l (ps.map .d)),v]) #[[],[],b,none,.slnil,.refl _,λ_=>rfl,hb,rfl] (by
   rintro pre x post e U ⟨sub,ps,i,v,f,m,s,n,rfl⟩;let D:=zc4 e;let F:=f.length_le;let E:=m.length_eq;let ins:∀ d,zQ d->∃ (j:Nat) (a:OV),j<=↑ps/\zQ a/\cf "_law_take" [d,.d (.int ((↑ps:Int)+1))]=.ok (.d (.int (j:Int))) [some a,none]:=λd c=>by
    let(r,a,g1,g2,g,l):=A d c ((↑ps:Int)+1) (by lia) (by lia);obtain⟨j,rfl⟩:∃ k:Nat,r=k:=#[r.toNat,by lia];exact#[j,a,by lia,g,l]
   let put:∀ j,j<=↑ps->(ps.take j++x::ps.drop j).Perm (sub++ [x]):=λj _=>by
    let C:(ps.take j++x::ps.drop j).Perm (x::(ps.take j++ps.drop j)):=List.perm_middle;rw[List.take_append_drop]at C;erw[C.trans ((m.cons x).trans (List.perm_append_singleton x sub).symm)]
   let B:↑ps<1000000:=by lia
   let w:∀ j,(ps.take j++x::ps.drop j).map OV.d=(ps.map OV.d).take j++.d x::(ps.map OV.d).drop j:=λj=>by rw[xC,xn,List.map_take,uX]
   cases al with
   |true=>
    let(j,a,o,g,l):=ins i n;let hi:=W6 o;let q: -1000000<=(j:Int)/\(j:Int)<=1000000:=by lia
    refine#[[some i,@&(.list ds),@&(.bool true),some (.l (ps.map .d)),@&x],[some a,@&(.list ds),@&(.bool true),some (.l ((ps.take j++x::ps.drop j).map .d)),@&x],rfl,?_,sub++ [x],ps.take j++x::ps.drop j,a,@&x,f.append (List.Sublist.refl _),put j o,λ_=>by rw[s rfl],g,rfl];rw[w]
    simp![jao,l,dvw,zj0,zam,B,hi,q]
   |false=>
    let(r,d,g1,g2,c,y):=A i n 4 (by decide) (by decide);by_cases z:0<r
    ·let(j,a,o,g,l):=ins d c;let hi:=W6 o;let q: -1000000<=(j:Int)/\(j:Int)<=1000000:=by lia
     refine#[[some i,@&(.list ds),@&(.bool false),some (.l (ps.map .d)),@&x],[some a,@&(.list ds),@&(.bool false),some (.l ((ps.take j++x::ps.drop j).map .d)),@&x],rfl,?_,sub++ [x],ps.take j++x::ps.drop j,a,@&x,f.append (List.Sublist.refl _),put j o,(λh=>nomatch h),g,rfl];rw[w]
     simp![jao,y,z,l,dvw,zj0,zam,B,hi,q]
    ·refine#[[some i,@&(.list ds),@&(.bool false),some (.l (ps.map .d)),@&x],[some d,@&(.list ds),@&(.bool false),some (.l (ps.map .d)),@&x],rfl,?_,sub,ps,d,@&x,List.Sublist.trans f (List.sublist_append_left _ _),m,(λh=>nomatch h),c,rfl];simp? [jao,y,z,dvw])
 refine#[sub,ps,p,f,m,s,u,?_];simp? [Q0,e]
def zdq (cf:CF):=∀ b,zQ b->∀ (ds:Aa) (al:Bool),↑ds<=1000->zdp ds al (cf "_law_deal" [b,.d (.list ds),.d (.bool al)])
def zcM{ps sub:Aa}{xs:Ab}(c:sub.Sublist (xs.map .str))(i:ps.Perm sub):∃ ns:Ab,ps=ns.map .str/\↑ns<=↑xs:=by
 let hm:∀ x∈ps,∃ n:Str,x=.str n:=λx hx=>by
  let(n,_,e):=xv.mp (c.subset (i.mem_iff.mp hx));exact#[n,e.symm]
 let hl:↑ps<=↑xs:=by
  have:=c.length_le;rw[i.length_eq];simpa using this
 clear c i;suffices H:∃ ns:Ab,ps=ns.map .str by
  let(ns,rfl):=H;exact#[ns,rfl,~~~hl]
 clear hl
 induction ps with
 |nil=>exact#[[],rfl]
 |cons x ps b=>
  let(n,rfl):=hm x (by simp);let(ns,rfl):=b λy a=>hm y (by simp[a]);exact#[n::ns,rfl]
def vd(ns:Ab):leaves (ns.map λn=>OV.d (.str n))\(ns.map .str):=by
 have:=Qq (ns.map PyData.str);rw[xy]at this;exact this
def vX(ns:Ab):(OV.l (ns.map λn=>.d (.str n))).view=.list (ns.map .str):=by
 have:=zj0 (ns.map PyData.str);rw[xy]at this;exact this
def Wu{q:Ab}(i:∀ n∈q,Nm n){n:Str}(h:n∈q∨n∈odds):Asc n:=by
 rcases h with h | h
 ·let(b,d,a):=i n h;exact#[by lia,λc hc=>by have:=a c hc;lia]
 ·simp only[odds,xA,uw,or_false]at h;rcases h with rfl | rfl | rfl | rfl | rfl | rfl<;>exact⟨by decide,by decide⟩
def yd (cf:CF):=∀ b,zQ b->∀ (pool:Ab) (p:Nat) (fr:List Bool) (c:Cls) (q:Ab),StOk pool p fr c->↑pool<=50->1<=↑q->↑q<=60->(∀ n∈pool,Nm n)->(∀ n∈q,Nm n)->∃ (ns:Ab) (a:OV),↑ns<=60/\(∀ n∈ns,Asc n)/\zQ a/\cf "_law_group" [b,.d (zJ p fr c),.d (qw q)]=.ok (.d (zU ns)) [some a,none,none]
def zeP(cf:CF)(I:qF cf)(hd:zdq cf)(v:Qy cf):yd λ_=>runI 5 [true,false,false] [0] ju cf:=λb hb pool p fr c q S hp Q R i4 O=>by
 let(r0,b0,g0,Hh,n9,D):=I b hb 3 (by decide) (by decide);let hS:=S.len;let hcl:↑(clD c)=↑c:=by simp[clD]
 let FJ:↑(qc ((clD c).map (·.1)))=↑c:=by rw[(qD _).length_eq];simp[clD]
 let(sub,ps,b1,s1,s2,_,H,s):=hd b0 n9 ((qc ((clD c).map (·.1))).map .str) (r0==0) (by simp[FJ];lia);let(ns,rfl,hl):=zcM s1 s2;replace hl:↑ns<=50:=by lia
 let r:∀ n∈ns,Asc n:=λn l=>by
  let h1:PyData.str n∈(qc ((clD c).map (·.1))).map PyData.str:=s1.subset (s2.mem_iff.mp (xv.mpr #[n,l,rfl]));let(m,hm,e):=xv.mp h1;cases e;let G:=(qD _).mem_iff.mp hm;unfold clD at G;rw[xy]at G;let(x,hx,rfl):=xv.mp G;erw[Kk (i4 _ (S.np x hx))]
 let(w,g,g2,c8,a,E):=I b1 H 12 (by decide) (by decide);let M:atI (zI p fr c) 2\(.dict ((clD c).map dK)):=rfl;let J:=zN (clD c);let hK:zJ p fr c=.list (zI p fr c):=rfl;let C:↑(clD c)<64:=by lia
 let P:↑ns<1000000:=by lia
 let V:(ns.map PyData.str).map OV.d=ns.map λn=>OV.d (.str n):=by simp
 rw[V]at s;rw[hK];unfold zU;generalize A:(qc ((clD c).map (·.1))).map PyData.str=KS at *;rwa[zI p fr c=K];let ap:∀ xs:Ab,∀ n,(xs.map λn=>OV.d (.str n))++ [OV.d (.str n)]=(xs++ [n]).map λn=>OV.d (.str n):=by simp
 by_cases T:w=0
 ·subst T;let(n,y,l,u,F):=v g a q Q R;refine#[ns++ [n],y,by simp;lia,λm hm=>(xJ.mp hm).elim (r m) λh=>uj.mp h ▸ Wu O l,u,?_];let lv:=vd (ns++ [n]);rw[<- ap]at lv;let z:↑(ns.map λn=>OV.d (.str n))=↑ns:=by simp
  simp? [ju,M,J,C,A,D,s,E,F,lv,z,P,zT,zL,zA,cs1]
 let W:(w==0)=false:=Xb.mpr T;obtain⟨ms,hm,L,em⟩:∃ ms:Ab,↑ms<=51/\(∀ n∈ms,Asc n)/\(IS.f (.and (.or (.p .Eq (.x 4 4) (.k 1)) (.p .Eq (.x 4 4) (.k 2))) (.p .Gt (.len (.x 3 3)) (.k 0))) (.cons (.app 3 3 (.ix (.x 3 3) (.k 0))) .nil) .nil).ex cf [0] [some g,@&(.list K),@&(qw q),some (.l (ns.map λn=>OV.d (.str n))),@&(.int w)]=.ok (.next,[some g,@&(.list K),@&(qw q),some (.l (ms.map λn=>OV.d (.str n))),@&(.int w)]):=by
  by_cases d:w=1∨w=2
  ·let f:=vX ns;cases ns with
   |nil=>exact#[[],by simp,by simp,by rcases d with rfl | rfl<;>simp? [show (OV.l []).view=.list [] from rfl,zT,zL,zA,cs1]]
   |cons n ns=>
    refine#[(n::ns)++ [n],by simp at hl |-;lia,λm hm=>(xJ.mp hm).elim (r m) λh=>uj.mp h ▸ r n (by simp),?_];let o:↑(ns.map PyData.str)=↑ns:=by simp
    let U:↑(ns.map λn=>OV.d (.str n))=↑ns:=by simp
    let Fd:↑ns+1<1000000:=P;rw[<- ap];simp only[xn]at f |-
    rwa[(ns.map λn=>OV.d (.str n))=X];let v:atI (OV.d (.str n)::X) 0\(.d (.str n)):=jY (j:=0) rfl;rcases d with rfl | rfl<;>simp? [f,v,o,U,Fd,hp,zT,zL,zA,cs1]
  ·let w1:(w==1)=false:=Xb.mpr λh=>d (.inl h);exact#[ns,by lia,r,by simp? [w1,N,zT,zL,zA,cs1]]
 generalize t:(ms.map λn=>OV.d (.str n))=X at *;let z:↑X=↑ms:=by rw[<- t];simp
 let Z:↑ms<1000000:=by lia
 let f:=vX ms;rw[t]at f;let o:↑(ms.map PyData.str)=↑ms:=by simp
 by_cases N:w=2
 ·subst N;let(j,y,g3,GK,u,F):=I g a ((↑ms:Int)+1) (by lia) (by lia);let(i,rfl):=xw g3;let(n,b4,l,gx,e4):=v y u q Q R;let hi:=W6 (n:=↑ms) (k:=i) (by lia);let cv: -1000000<=(i:Int)/\(i:Int)<=1000000:=by lia
  refine#[ms.take i++n::ms.drop i,b4,by simp;lia,λm hm=>(xJ.mp hm).elim (λh=>L m (List.mem_of_mem_take h)) λh=>(xA.mp h).elim (λh=>h ▸ Wu O l) λh=>L m (List.mem_of_mem_drop h),gx,?_];let lv:=vd (ms.take i++n::ms.drop i);rw[xC,xn,List.map_take,uX,t]at lv;unfold ju
  dsimp! [em,f,o,M,J,C,A,D,s,E,F,e4,lv,z,Z,zam,hi,cv,zT,zL,zA]
 ·let Y:(w==2)=false:=Xb.mpr N;refine#[ms,g,by lia,L,a,?_];let lv:=vd ms;rw[t]at lv;unfold ju;rwa[(IS.f (.and _ _) _ _)=B];simp? [ju,em,f,o,M,J,C,A,D,s,E,lv,W,Y,zT,zL,zA,cs1]
section
local macro_rules|`(#[$a])=>`(.cons $a .nil)|`(#[$a,$b,*])=>`(.cons $a #[$b,*])|`(.($n:num))=>`(.x $n $n)|`(($n:num :))=>`(.k $n)
def jag:IB:=#[.f (.and (.dnin .(5) (.ix .(2) (2:))) (.p .Gt (.call (.call "_law_take" 2 (.io 0 0 #[(5:)]))) (0:))) #[.a 6 6 (.dat (.call (.call "_law_take" 2 (.io 0 0 #[(5:)])))),.f (.p .Eq .(4) (0:)) #[.a 6 6 (.dat (.ix (.new (.lst #[(40:),(23:),(12:)])) (.call (.call "_law_take" 2 (.io 0 0 #[(3:)]))))),.a 4 4 (.dat (1:))] .nil,.e (.call (.m 1 1 "House" "do" "House.do" 2 #[.tup #[.q "hang",.(5),.(6)]])),.a 2 2 (.dat (.call (.call "_law_did" 2 #[.(2),.tup #[.q "hang",.(5),.(6)]])))] .nil]
def Qj:IB:=#[.a 4 4 (.dat (.call (.call "_law_take" 2 (.io 0 0 #[(9:)])))),.loop (.nm 5 5) (.list .(3)) jag,.ret (.dat .(2))]
def jbg:IB:=#[.a 2 2 (.dat (.new (.cat .(2) (.g (.ix .(0) (2:)) .(3)))))]
def ZA:IB:=#[.a 2 2 (.dat (.new (.lst .nil))),.loop (.nm 3 3) (.list .(1)) jbg,.ret (.dat .(2))]
end
def Ke (cf:CF):=∀ b,zQ b->∃ (p:Nat) (a:OV),p<=12/\zQ a/\cf "_law_pots" [b]=.ok (.d (.int p)) [some a]
def zhX(cf:CF)(i:qF cf):Ke λ_=>runI 1 [true] [0] ZV cf:=λb hb=>by
 let(r,f,g,m,c,j):=i b hb 8 (by decide) (by decide);by_cases h:r=0
 ·subst h;let(q,d,g2,k,a,e):=i f c 13 (by decide) (by decide);let(p,rfl):=xw g2;exact#[p,d,by lia,a,by simp? [ZV,j,e]]
 ·let(q,d,g2,k,a,e):=i f c 6 (by decide) (by decide);let(p,rfl):=xw g2;let l:(r==0)=false:=Xb.mpr h;exact#[p,d,by lia,a,by dsimp! [ZV,j,l,e,zT,zL,zA]]
def zaa(c:Cls):Aa:=(qc ((clD c).map (·.1))).map .str
def zeZ(c:Cls):↑(zaa c)=↑c:=by
 unfold zaa;rw[xo,(qD _).length_eq];simp[clD]
def va(S:StOk pool p fr c):(qc ((clD c).map (·.1))).Nodup:=by
 rw[(qD _).nodup_iff];have:(clD c).map (·.1)=c.map (·.1):=by unfold clD;rw[xy];rfl
 rw[this];exact S.nd
def zaU(h:n∈qc ((clD c).map (·.1))):∃ cs,zG c n\cs:=zfa h
structure zaF(c:Cls)(ns:Ab):Prop where
 nd:ns.Nodup
 len:↑ns<=50
 lc:↑ns<=↑c
 at':∀ n∈ns,∃ cs,zG c n\cs
structure zgM(cf:CF):Prop where
 take:qF cf
 any:Qy cf
 size:QY cf
 place:w6 cf
 want:Ws cf
 picks:zaD cf
 group:yd cf
 dye:k8 cf
def wds:List String:= ["hang","wish","wax","dip","boil","brew","dip","twin","wax","dip","wish","fold"]
def ze5(cf:CF)(h:zgM cf):ZR λ_=>runI 8 [true,false,false] [0] qI cf:=λb hb pool p fr c q S D W v hp R=>by
 let(r,J,g1,K,C,o):=h.take b hb 12 (by decide) (by decide);let(n,t,G,e,s):=h.any J C q D (by lia);let u:=Wu v G;let H:atI (zI p fr c) 0\(.int p):=rfl;obtain⟨cs,V,l⟩:∃ cs:Aa,↑cs<=40/\(zG (clD c) n).getD (.list [])=.list cs:=by
  cases g:zG c n with|none=>exact#[[],by simp,by rw[zX,g];rfl]|some cs=>exact#[cs.map Cl.D,by simpa using (S.clo g).1,by rw[zX,g];rfl]
 obtain⟨w,hw,k⟩:∃ w,w∈wds/\atI (wds.map λx=>PyData.str (Str.ofString x)) r\(.str (Str.ofString w)):=by
  let(x,hx,a):=zdy (xs:=wds.map λx=>PyData.str (Str.ofString x)) g1 K;let(w,hw,rfl):=xv.mp hx;exact#[w,hw,a]
 simp only[wds,xn,List.map_nil]at k;let O:=h.size t e;let L:=h.any t e q D (by lia);let N:=h.place t e ↑cs (by lia);let M:=h.picks t e ↑cs (by lia);let F:=h.group t e pool p fr c q S hp D (by lia) R v;let P:w= "hang" ∨w= "fold" ∨w= "twin" ∨w= "wish" ∨w= "wax" ∨w= "dip" ∨w= "boil" ∨w= "brew" :=by
  simp only[wds,xA,uw,or_false]at hw;rcases hw with rfl | rfl | rfl | rfl | rfl | rfl | rfl | rfl | rfl | rfl | rfl | rfl<;>simp
 let hN:=λb hb a=>h.want b hb pool p fr c n a S;let E:=λb hb=>h.dye b hb p S.hp;rwa[qw q=Q];rcases P with rfl | rfl | rfl | rfl | rfl | rfl | rfl | rfl
 ·let(d,i,f,j):=O;refine#[.hang n d,i,u,by simpa [Deed.mk] using G,by simpa [Deed.nms] using u,f,?_];simp? [qI,o,s,j,k,kL2,zN,l,wq,zW,cs1]
 ·refine#[.fold n,t,trivial,by simp[Deed.mk],by simpa [Deed.nms] using u,e,?_];simp? [qI,o,s,k,kL2,zN,l,wq,zW,cs1]
 ·let(m,i,hm,f,j):=L;refine#[.twin n m,i,Wu v hm,by simpa [Deed.mk] using hm,by simpa [Deed.nms] using #[u,Wu v hm],f,?_];simp? [qI,o,s,j,k,kL2,zN,l,wq,zW,cs1]
 ·let(a,i,f,j):=N;let(sh,z,B,hl,A):=hN i f a;refine#[.wish n a sh,z,hl,by simp[Deed.mk],by simpa [Deed.nms] using u,B,?_];simp only[Deed.D];rwa[zE sh=T];simp? [qI,o,s,j,A,k,kL2,zN,l,wq,zW,cs1]
 ·let(xs,i,f,hl,j):=M;refine#[.wax n xs,i,hl,by simp[Deed.mk],by simpa [Deed.nms] using u,f,?_];simp only[Deed.D];rwa[zE xs=U];simp? [qI,o,s,j,k,kL2,zN,l,wq,zW,cs1]
 ·let(ns,i,hl,y,f,j):=F;let(d,z,B,A):=E i f;refine#[.dip ns d,z,hl,by simp[Deed.mk],y,B,?_];simp only[Deed.D];rwa[zU ns=I];simp? [qI,o,s,j,A,k,H,kL2,zN,l,wq,zW,cs1]
 ·let(ns,i,hl,y,f,j):=F;refine#[.boil ns,i,hl,by simp[Deed.mk],y,f,?_];simp only[Deed.D];rwa[zU ns=I];simp? [qI,o,s,j,k,kL2,zN,l,wq,zW,cs1]
 ·let(d,i,f,j):=E t e;refine#[.brew d,i,trivial,by simp[Deed.mk],by simp[Deed.nms],f,?_];simp? [qI,o,s,j,k,H,kL2,zN,l,wq,zW,cs1]
def zho(xs:Ab)(n:Str):inD (.str n) (xs.map .str)=xs.contains n:=by
 unfold inD
 induction xs with
 |nil=>rfl
 |cons x xs b=>
  rw[xn,xX,List.contains_cons,b,Bool.beq_comm (a:=n)];rfl
def Kb(L:Nat)(U:Gv):=∃(b:OV)(ns:Ab)(a o3:Option OV),zQ b/\(∀ n∈ns,Nm n)/\↑ns<=L/\(1<=L->1<=↑ns)/\U= [some b,some (.l (ns.map λn=>.d (.str n))),a,o3]
def zcR(cf:CF)(r:w5 cf){L:Nat}(v:L<60){U:Gv}{x:PyData}(h:Kb L U) :
  ∃ i l,tgF (.nm 2 2) x U\i/\jat.ex cf [0] i=.ok (.next,l)/\Kb (L+1) l:=by
 let(b,ns,t,o3,hb,hN,hl,o,rfl):=h;let(n,f,s,d,j):=r b hb;let e:lay 20 (.str n)=true:=s.ok;let c:(ns.map PyData.str).all (lay 20)=true:=by
  rw[pj,xH];erw[λy p=>(hN y p).ok]
 let a:=zho ns n;let k:=vX ns;let q:↑ns<1000000:=by lia
 let m:↑(ns.map λn=>OV.d (.str n))=↑ns:=by simp
 refine#[[some b,some (.l (ns.map λn=>.d (.str n))),@&x,o3],?_];by_cases g:n∈ns
 ·let hc:ns.contains n=true:= ~~~g;refine#[[some f,some (.l (ns.map λn=>.d (.str n))),@&x,@&(.str n)],rfl,?_,f,ns,_,_,d,hN,by lia,λ_=>List.length_pos_of_mem g,rfl];rw[hc]at a;rwa[(ns.map λn=>OV.d (.str n))=X,ns.map PyData.str=Y];simp? [jat,j,e,c,a,k,ja,cs1]
 ·let hc:ns.contains n=false:= ~~~g;refine⟨[some f,some (.l ((ns++ [n]).map λn=>.d (.str n))),@&x,@&(.str n)],rfl,?_,f,ns++ [n],_,_,d,by
   grind,by simp;lia,by simp,rfl⟩
  rw[hc]at a;rw[xC];rwa[(ns.map λn=>OV.d (.str n))=X,ns.map PyData.str=Y];simp? [jat,j,e,c,a,k,m,q,zA,ja,cs1]
def Kc (cf:CF):=∀ b,zQ b->∃ (ns:Ab) (a:OV),1<=↑ns/\↑ns<=4/\(∀ n∈ns,Nm n)/\zQ a/\cf "_law_pool" [b]=.ok (.l (ns.map λn=>.d (.str n))) [some a]
def zhW(cf:CF)(y:qF cf)(v:w5 cf):Kc λ_=>runI 4 [true] [0] Q5 cf:=λb hb=>by
 let(r,g,g1,z,d,q):=y b hb 3 (by decide) (by decide);let(m,rfl):=xw g1;let(w,e,o,ns,A,o3,c,hN,hl,a,rfl):=qS (t:=.nm 2 2) (body:=jat.ex cf [0]) (ds:=qi (2+m)) (U:= [some g,some (.l []),none,none])
  (λpre U=>Kb ↑pre U) #[g,[],none,none,d,(λ_ h=>nomatch h),xh _,id,rfl] (by
   intro pre x post ex U s;let hlen:↑pre<2+m:=by
    have:=congrArg List.length ex;rw[zF]at this;simp at this;lia
   let(i,j,a1,a2,k):=zcR cf v (by lia) s (x:=x);exact#[i,j,a1,a2,by rw[xB];exact k])
 rw[zF]at hl a;refine#[ns,o,a (by lia),by lia,hN,c,?_];let p: -1000000<=(2:Int)+(m:Int)/\(2:Int)+(m:Int)<=1000000:=by lia
 let l:((2:Int)+(m:Int)).toNat=2+m:=by lia
 let u:2+m<=1000000:=by lia
 let f:=zF (2+m);rwa[(ns.map λn=>OV.d (.str n))=X];simp? [Q5,e,q,p,l,u,f,zA,ja,cs1]
structure Hs(pool:Ab)(p:Nat)(f:PyData)(L:Nat)(fr:List Bool)(c:Cls)(dn:Ao):Prop where
 S:StOk pool p fr c
 q:QP f dn=stA fr c
 l:↑dn<=L
def Hs.step{d:Deed}(h:Hs pool p f L fr c I)(G:Qh pool fr c d):Hs pool p f (L+1) (d.fr fr) (d.cl p c) (I++ [(d.D,stA (d.fr fr) (d.cl p c))]):=#[h.S.step G,VY _ _ _ _,by have:=h.l;simp;lia]
def Hs.mono(h:Hs pool p f L fr c I)(g:L<=o):Hs pool p f o fr c I:=#[h.S,h.q,xK h.l g]
def jJ (P:Int) (f:PyData) (i:Ao):∃ c,hV P f i [] []=.o "House" ["pots","first","done","undone","places"] c:=#[_,rfl]
def JH{cf:CF}(ho:yb cf)(hi:QQ cf){pool:Ab}{p:Nat}{f:PyData}{L:Nat}{fr:List Bool}{c:Cls}{i:Ao}(hp:↑pool<=50)(hN:∀ n∈pool,Nm n)(h:Hs pool p f L fr c i)(l:L<1000000){d:Deed}(G:Qh pool fr c d)(P:Int) :
  cf "House.do" [hV P f i [] [],.d d.D]=.ok (.d .none) [some (hV P f (i++ [(d.D,stA (d.fr fr) (d.cl p c))]) [] []),none]/\cf "_law_did" [.d (.list (zI p fr c)),.d d.D]=.ok (.l ((zI p (d.fr fr) (d.cl p c)).map .d)) [none,none] :=
 #[ho pool p fr c d P f i [] (by lia) hN h.S G (by have:=h.l;lia) h.q,hi pool p fr c d (by lia) h.S G]
def zcA{ns:Ab}(h:∀ n∈ns,∃ cs,zG c n\cs):∀ n∈ns,(zG (clD c) n).isSome=true:=λn a=>by
 let(cs,g):=h n a;rw[zX,g];rfl
def zfI{xs:Ab}(e:xs.map PyData.str=pre++d::post):∃(a:Ab)(n:Str),pre=a.map .str/\d=.str n/\n∈xs/\(∀ m∈a,m∈xs)/\a++ [n] <+: xs:=by
 let(a,b,rfl,rfl,h):=List.map_eq_append_iff.mp e;let(n,r,rfl,rfl,_):=List.map_eq_cons_iff.mp h;exact#[a,n,rfl,rfl,by simp,λm hm=>by simp[hm],r,by simp]
def QG(l:Ab):(l.map PyData.str).filterMap (λd=>match d with | .str n=>some n | _=>none)=l:=by
 rw[uK];exact List.filterMap_some
def ql(c:Cls)(ns:Ab):List Cl:=ns.flatMap (qe c)
def QR(c:Cls)(ns:Ab)(n:Str):ql c (ns++ [n])=ql c ns++qe c n:=by simp[ql]
def ZT{pool:Ab}{p:Nat}{fr:List Bool}{c:Cls}(S:StOk pool p fr c):∀{ns:Ab},(∀ n∈ns,∃ cs,zG c n\cs)->↑(ql c ns)<=↑ns*40
 |[],_=>xY _
 |n::ns,h=>by
  let(cs,g):=h n (by simp);let a:=(S.clo g).1;let b:=ZT S (ns:=ns) λm hm=>h m (by simp[hm]);unfold ql at *;rw[List.flatMap_cons,xB,xz,qL g];lia
def Wi (cf:CF):=∀ (pool:Ab) (p:Nat) (fr:List Bool) (c:Cls) (ns:Ab),StOk pool p fr c->zaF c ns->cf "bolt_of" [.d (stA fr c),.d (qw ns)]=.ok (.l (((ql c ns).map Cl.D).map .d)) [none,none]
def Kp(cf:CF)(hc:ZH cf):Wi λ_=>runI 4 [false,false] [] we cf:=λpool p fr c ns S b=>by
 let r:=b.len;let i:=hc (frD fr) (clD c) ns (qw ns) (.inr rfl) b.nd (by have:=b.len;lia) (zcA b.at');let(y,e,(o3,rfl)):=qS (t:=.nm 3 3) (body:=jbk.ex cf []) (ds:=ns.map .str) (U:= [@&(stA fr c),@&(qw ns),some (.l []),none])
  (λpre U=>∃ o3:Option OV,U= [@&(stA fr c),@&(qw ns),some (.l (((ql c (pre.filterMap λd=>match d with | .str n=>some n | _=>none)).map Cl.D).map .d)),o3]) #[none,rfl] (by
   rintro pre x post e U ⟨o3,rfl⟩;let(a,n,rfl,rfl,q,k,h):=zfI e;let(cs,g):=b.at' n q;let o:=ZT S (ns:=a) λm hm=>b.at' m (k m hm);let v:↑a<=50:=by have:=h.length_le;simp at this;lia
   let l:=(S.clo g).1;let f:=QG (a++ [n]);rw[xC]at f;rw[QG a,show (a.map PyData.str++ [PyData.str n])=a.map PyData.str++ [n].map PyData.str from rfl,f,QR,qL g,xC,xC];refine#[_,[@&(stA fr c),@&(qw ns),some (.l (((ql c a).map Cl.D).map .d++(cs.map Cl.D).map .d)),@&(.str n)],rfl,?_,@&(.str n),rfl];let hv:zG (clD c) n\(.list (cs.map Cl.D)):=by rw[zX,g];rfl
   let j:=qh (frD fr) (clD c);let s:=zN (clD c);let u:↑(((ql c a).map Cl.D).map OV.d)+↑(cs.map Cl.D)<=1000000:=by simp;lia
   unfold stA;rwa[((ql c a).map Cl.D).map OV.d=TA,cs.map Cl.D=w];simp? [jbk,j,s,hv,u,zfR,zA,ja,cs1])
 rw[QG]at e;unfold qw stA at *;simp? [we,i,e,zA,ja,cs1]
def ye (cf:CF):=∀ (pool:Ab) (p:Nat) (fr:List Bool) (c:Cls) (P:Int) (f:PyData) (a:Ao) (ns:Ab),StOk pool p fr c->QP f a=stA fr c->zaF c ns->cf "House.bolt" [hV P f a [] [],.d (qw ns)]=.ok (.l (((ql c ns).map Cl.D).map .d)) [some (hV P f a [] []),none]
def zeR(cf:CF)(i:Vl cf)(hb:Wi cf):ye λ_=>runI 2 [true,false] [0] ν4 cf:=λpool p fr c P f b ns S g e=>by
 let a:=i P f b [] [];let d:=hb pool p fr c ns S e;rw[g]at a;let(h,g1):=jJ P f b;rw[g1]at a |-
 simp? [ν4,a,d,zA,ja,cs1]
def yh (cf:CF):=∀ (pool:Ab) (p:Nat) (fr:List Bool) (c:Cls) (ns:Ab),StOk pool p fr c->zaF c ns->cf "_law_bolt_of" [.d (zJ p fr c),.d (qw ns)]=.ok (.d (zB (ql c ns))) [none,none]
def ze4(cf:CF):yh λ_=>runI 4 [false,false] [] ZA cf:=λpool p fr c ns S b=>by
 let o:=b.len;let(w,e,(o3,rfl)):=qS (t:=.nm 3 3) (body:=jbg.ex cf []) (ds:=ns.map .str) (U:= [@&(zJ p fr c),@&(qw ns),@&(.list []),none])
  (λpre U=>∃ o3:Option OV,U= [@&(zJ p fr c),@&(qw ns),@&(.list ((ql c (pre.filterMap λd=>match d with | .str n=>some n | _=>none)).map Cl.D)),o3]) #[none,rfl] (by
   rintro pre x post e U ⟨o3,rfl⟩;let(a,n,rfl,rfl,l,i,h):=zfI e;let(cs,g):=b.at' n l;let k:=ZT S (ns:=a) λm hm=>b.at' m (i m hm);let u:↑a<=50:=by have:=h.length_le;simp at this;lia
   let j:=(S.clo g).1;let f:=QG (a++ [n]);rw[xC]at f;rw[QG a,show (a.map PyData.str++ [PyData.str n])=a.map PyData.str++ [n].map PyData.str from rfl,f,QR,qL g,xC];refine#[_,[@&(zJ p fr c),@&(qw ns),@&(.list ((ql c a).map Cl.D++cs.map Cl.D)),@&(.str n)],rfl,?_,@&(.str n),rfl];let hv:zG (clD c) n\(.list (cs.map Cl.D)):=by rw[zX,g];rfl
   let s:atI (zI p fr c) 2\(.dict ((clD c).map dK)):=rfl;let q:=zN (clD c);let hK:zJ p fr c=.list (zI p fr c):=rfl;let r:↑((ql c a).map Cl.D)+↑(cs.map Cl.D)<=1000000:=by simp;lia
   rw[hK];rwa[(ql c a).map Cl.D=TA,cs.map Cl.D=v];simp? [jbg,s,q,hv,r,K5,zA,ja,cs1])
 rw[QG]at e;unfold qw zB at *;simp? [ZA,e,show (OV.l []).view=.list [] from rfl,zA,ja,cs1]
def zkF(cf:CF)(cs:Ac){D:OV} :
  qR 1 (.nm 0 1) fYes (ja2.ev cf).1 (cs.map λc=>PyData.str (ch c)) [] [some D]=.ok (cs.map λc=>PyData.bool (Txt.contains (Str.ofString "abcdefghijklmnopqrstuvwxyz") (ch c)),[some D]):=by
 let e:=qW (k:=1) (t:=.nm 0 1) (cond:=fYes) (elt:=(ja2.ev cf).1) (ds:=cs.map λc=>PyData.str (ch c)) (U:= [some D]) (λ_=>true) (λd=>match d with | .str s=>.bool (Txt.contains (Str.ofString "abcdefghijklmnopqrstuvwxyz") s) | _=>.none) (by
  intro y a;let(c,hc,rfl):=xv.mp a;refine#[[some D,@&(.str (ch c))],_,rfl,rfl,rfl,λ_=>#[.dat (.bool (Txt.contains (Str.ofString "abcdefghijklmnopqrstuvwxyz") (ch c))),[some D,@&(.str (ch c))],?_,rfl,rfl]];simp? [yT,cs1])
 rw[qX,xy]at e;erw[e]
def Wp (cf:CF):=∀ n,Asc n->cf "is_name" [.d (.str n)]=.ok (.d (.bool (nmB n))) [none]
def zhA(cf:CF):Wp λ_=>runI 1 [false] [] jT cf:=λn ⟨l,j⟩=>by
 let g:=Wv (x:=n) j;let e:=zkF cf n.cps.toList (D:=.d (.str n));let i:=JQ (λc=>Txt.contains (Str.ofString "abcdefghijklmnopqrstuvwxyz") (ch c)) n.cps.toList;let h:Zy n=n.cps.toList.map λc=>PyData.str (ch c):=rfl;let d:↑n<=1000000:=by lia
 let a:↑(n.cps.toList.map λc=>PyData.str (ch c))<=1000000:=by simp;exact d
 unfold nmB;rwa[(n.cps.toList.map λc=>PyData.str (ch c))=k];by_cases g1:0<↑n
 ·let b:(1:Int)<=(↑n:Int):=by lia
  by_cases g2:↑n<9
  ·let f:(↑n:Int)<=8:=by lia
   simp? [jT,Qp,ZC,g,h,d,a,g1,b,g2,f,e,i,cs1]
  ·let f:¬ (↑n:Int)<=8:=by lia
   simp? [jT,Qp,ZC,g,h,d,a,g1,b,g2,f,cs1]
 ·let b:¬ (1:Int)<=(↑n:Int):=by lia
  simp? [jT,Qp,ZC,g,h,d,a,g1,b,cs1]
def Wq (cf:CF):=∀ (fr:Aa) (cl:Ad) (n:Str),Asc n->cf "check_new" [.d (stV fr cl),.d (.str n)]=if nmB n then (if (zG cl n).isSome then .exc "Taken" [none,none] else .ok (.d .none) [none,none]) else .exc "NoName" [none,none]
def zhB(cf:CF)(hi:Wp cf):Wq λ_=>runI 2 [false,false] [] jz cf:=λfr cl n d=>by
 let a:=hi n d;let b:=qh fr cl;let c:=zN cl;cases g:nmB n with
 |false=>rw[g]at a;simp? [jz,a,b,c,zA,cs1]
 |true=>
  cases q:zG cl n<;>simp? [jz,a,b,c,q,zA,cs1]
def yc (cf:CF):=∀ (fr:List Bool) (cl:Ad) (d:Int),¬ (0<=d/\d<↑fr)->cf "check_dye" [.d (stV (frD fr) cl),.d (.int d)]=.exc "NoDye" [none,none]
def zj1(cf:CF):yc λ_=>runI 2 [false,false] [] jy cf:=λfr cl d hd=>by
 let b:=qK (frD fr) cl;let c:↑(frD fr)=↑fr:=by simp[frD]
 by_cases a:0<=d
 ·let e:¬ d<(↑fr:Int):=λz=>hd #[a,z];simp? [jy,b,c,a,e,zA,cs1]
 ·simp? [jy,b,c,a,zA,cs1]
def zjg(cf:CF)(i:jX cf)(fr:Aa)(cl:Ad){V:Option OV}:∀(ns:Ab)(o:Option OV),(∃ n∈ns,zG cl n=none) ->
  ∃ c,qU (.nm 2 2) (jaf.ex cf []) (ns.map .str) [@&(stV fr cl),V,o]=.exc QJ [@&(stV fr cl),V,c]
 |[],_,h=>by simp at h
 |n::r,o,h=>by
  let a:=i fr cl n;let d:tgF (.nm 2 2) (.str n) [@&(stV fr cl),V,o]\[@&(stV fr cl),V,@&(.str n)]:=rfl;rw[xn,qU,d];cases q:zG cl n with
  |none=>
   rw[q]at a;refine#[some (.d (.str n)),?_];simp? [jaf,a,zA,cs1]
  |some v=>
   rw[q]at a;let(c,b):=zjg cf i fr cl r (@&(.str n)) (by
    let(m,hm,hv):=h;rcases xA.mp hm with rfl | hm
    ·rw[q]at hv;cases hv
    ·exact#[m,hm,hv])
   refine#[c,?_];rw[<- b];simp? [jaf,a,zA,cs1]
def Wj (cf:CF):=∀ (fr:Aa) (c:Cls) (ns:Ab),↑ns<=60->jq c ns≠ "" ->cf "check_names" [.d (stV fr (clD c)),.d (zU ns)]=.exc (jq c ns) [none,none]
def zbz(cf:CF)(l:jX cf):Wj λ_=>runI 3 [false,false] [] qN cf:=λfr c ns hl g=>by
 let j:↑ns<=1000000:=by lia
 let m:=ν9 ns;let h:↑(ns.map PyData.str)=↑ns:=by simp
 unfold jq at g |-
 by_cases b:ns.all (λn=>(zG c n).isSome)=true
 ·rw[if_pos b]at g |-
  by_cases a:↑(Tab.dedup ns)<↑ns
  ·rw[if_pos a];let(o,e,(f,rfl)):=qS (t:=.nm 2 2) (body:=jaf.ex cf []) (ds:=ns.map .str) (U:= [@&(stV fr (clD c)),@&(zU ns),none])
    (λpre U=>∃ f:Option OV,U= [@&(stV fr (clD c)),@&(zU ns),f]) #[_,rfl] (by
     rintro pre x post e U ⟨f,rfl⟩;let hx:x∈ns.map PyData.str:=by rw[e];simp
     let(n,hm,rfl):=xv.mp hx;let i:=l fr (clD c) n;rw[if_pos (by rw[jw];exact xH.mp b n hm)]at i;refine#[_,[@&(stV fr (clD c)),@&(zU ns),@&(.str n)],rfl,?_,_,rfl];simp? [jaf,i,cs1])
   let d:((↑(Tab.dedup ns):Int)==(↑ns:Int))=false:=by rw[Xb];lia
   unfold zU at *;simp? [qN,e,K4,Jd,m,hl,h,j,zL,zT,d,zA,cs1]
  ·erw[absurd (if_neg a) g]
 ·rw[if_neg b];let(p,e):=zjg cf l fr (clD c) (V:=some (.d (zU ns))) ns none (by
   apply Classical.byContradiction;intro z;erw[b (xH.mpr λn k=>?_)];cases q:zG c n with|none=>exact absurd #[n,k,by rw[zX,q];rfl] z|some v=>rfl)
  unfold zU at *;simp? [qN,e,K4,h,j,zA,cs1]
structure zdl(cf:CF):Prop where
 new:Wq cf
 hangs:jX cf
 dye:Ys cf
 dno:yc cf
 cn:ZH cf
 cno:Wj cf
 wish:yp cf
 wax:yn cf
 dip:Wm cf
section
variable {cf:CF}(h:zdl cf)
include h
def zfe (fr:Aa){c:Cls}{n:Str}(i:Asc n) (l:Ze c n≠ ""):cf "check_new" [.d (stV fr (clD c)),.d (.str n)]=.exc (Ze c n) [none,none]:=by
 rw[h.new fr (clD c) n i,jw];unfold Ze at *;cases g:nmB n with
 |false=>rfl
 |true=>
  cases q:(zG c n).isSome with
  |true=>rfl
  |false=>exact absurd (by simp[g,q]) l
def zhC (fr:Aa){c:Cls}{n:Str}(i:Asc n) (l:Ze c n= ""):cf "check_new" [.d (stV fr (clD c)),.d (.str n)]=.ok (.d .none) [none,none]:=by
 let(hb,hv):=vg l;rw[h.new fr (clD c) n i,jw,if_pos hb,hv];rfl
def Jt (fr:Aa){c:Cls}{n:Str}(i:zG c n=none):cf "check_hangs" [.d (stV fr (clD c)),.d (.str n)]=.exc QJ [none,none]:=by
 rw[h.hangs fr (clD c) n,jw,i];rfl
def J7 (fr:Aa){c:Cls}{n:Str}{v:List Cl}(i:zG c n\v):cf "check_hangs" [.d (stV fr (clD c)),.d (.str n)]=.ok (.d .none) [none,none]:=by
 rw[h.hangs fr (clD c) n,jw,i];rfl
def zhm (p:Nat) (fr:List Bool) (c:Cls) (n:Str) (k:Int) (l:Asc n) (i:(Deed.hang n k).w p fr c≠ "") :
  runI 4 [false,false] [] qM cf [.d (stV (frD fr) (clD c)),.d (.list [.str n,.int k])]=.exc ((Deed.hang n k).w p fr c) [none,none]:=by
 simp only[Deed.w]at i |-
 rwa[frD fr=fr];by_cases g:Ze c n= ""
 ·let a:=zhC h fr l g;rw[if_pos g]at i |-
  by_cases d:0<=k/\k<=40
  ·erw[absurd (if_pos d) i]
  rw[if_neg d];by_cases b:0<=k
  ·let e:¬ k<=40:=λz=>d #[b,z];simp? [qM,a,b,e,zA,cs1]
  ·simp? [qM,a,b,zA,cs1]
 ·let a:=zfe h fr l g;rw[if_neg g];simp? [qM,a,zA,cs1]
def zhi(fr:Aa)(c:Cls)(n:Str)(i:zG c n=none):runI 3 [false,false] [] jn cf [.d (stV fr (clD c)),.d (.list [.str n])]=.exc QJ [none,none]:=by
 let a:=Jt h fr i;simp? [jn,a,Wz,zA,cs1]
def ziW (p:Nat) (fr:List Bool) (c:Cls) (n m:Str) (l:Asc m) (i:(Deed.twin n m).w p fr c≠ ""):runI 4 [false,false] [] qZ cf [.d (stV (frD fr) (clD c)),.d (.list [.str n,.str m])]=.exc ((Deed.twin n m).w p fr c) [none,none]:=by
 simp only[Deed.w]at i |-
 rwa[frD fr=fr];cases q:zG c n with
 |none=>
  let a:=Jt h fr q;simp? [qZ,a,zA,cs1]
 |some v=>
  rw[q]at i;let a:=J7 h fr q;let b:=zfe h fr l (show Ze c m≠ "" from i);simp? [qZ,a,b,zA,cs1]
omit h in
def zmo(p:Nat)(xs:List Int):kj xs p=true↔↑xs=p/\xs.any (λx=>decide (x<0)||decide (9<x))=false:=by
 unfold kj;rw[xf,x0,xH,ut];erw[and_congr Iff.rfl #[λg x hx=>?_,λg x hx=>?_]]
 ·have:=g x hx;unfold in9 at this;simp at this |-
  lia
 ·have:=g x hx;unfold in9;simp at this |-
  lia
def zi5 (p:Nat) (fr:List Bool) (c:Cls) (n:Str) (a:Int) (xs:List Int) (hp:p<=12) (hx:↑xs<=60) (hb:∀ cs,zG c n\cs->Bolt p cs) (i:(Deed.wish n a xs).w p fr c≠ "") :
  runI 5 [false,false] [] q8 cf [.d (stV (frD fr) (clD c)),.d (.list [.str n,.int a,zE xs])]=.exc ((Deed.wish n a xs).w p fr c) [none,none]:=by
 simp only[Deed.w]at i |-
 rwa[frD fr=fr];let f:=qh fr (clD c);let j:=zN (clD c);let hv:=zX c n;cases q:zG c n with
 |none=>
  let b:=Jt h fr q;simp? [q8,b,zA,cs1]
 |some cs=>
  rw[q]at hv i;replace hv:zG (clD c) n\(zB cs):=hv;let b:=J7 h fr q;let d:=h.wish p cs a xs (by lia) (hb cs q) (by lia);let e:cf "with_wish" [.d (zB cs),.d (.int a),.d (zE xs)]=.exc (QW p cs a xs) [none,none,none]:=by
   let hw:=zmo p xs;rw[d];unfold zbb;dsimp only at i;unfold QW at i |-
   by_cases g:a<0∨(↑cs:Int)<=a
   ·rw[if_neg (by lia),if_pos g]
   ·rw[if_neg g]at i |-
    rw[if_pos (by lia)];by_cases g2:↑xs=p
    ·rw[if_pos g2]at i |-
     cases g3:xs.any (λx=>decide (x<0)||decide (9<x)) with
     |false=>rw[g3]at i;exact absurd rfl i
     |true=>rw[if_neg (λz=>by rw[(hw.mp z).2]at g3;cases g3),if_pos rfl]
    ·rw[if_neg (λz=>g2 (hw.mp z).1),if_neg g2]
  dsimp! [q8,b,e,f,j,hv,zA]
def zlD (p:Nat) (fr:List Bool) (c:Cls) (n:Str) (xs:List Int) (hx:↑xs<=60) (hb:∀ cs,zG c n\cs->↑cs<=1000) (i:(Deed.wax n xs).w p fr c≠ "") :
  runI 4 [false,false] [] ji cf [.d (stV (frD fr) (clD c)),.d (.list [.str n,zE xs])]=.exc ((Deed.wax n xs).w p fr c) [none,none]:=by
 simp only[Deed.w]at i |-
 rwa[frD fr=fr];let f:=qh fr (clD c);let j:=zN (clD c);let hv:=zX c n;cases q:zG c n with
 |none=>
  let a:=Jt h fr q;simp? [ji,a,zA,cs1]
 |some cs=>
  rw[q]at hv i;replace hv:zG (clD c) n\(zB cs):=hv;let a:=J7 h fr q;let b:=h.wax cs xs (hb cs q) hx;let e:cf "with_wax" [.d (zB cs),.d (zE xs)]=.exc (Qe xs ↑cs) [none,none]:=by
   rw[b];unfold zi2;dsimp only at i;unfold Qe at i |-
   by_cases g:xs.all (Zk ↑cs)=true
   ·rw[if_pos g]at i |-
    cases d:YQ xs with
    |false=>rw[d]at i;simp[g]at i
    |true=>simp[g,zgt]
   ·simp[g,vh]
  dsimp only
  dsimp! [ji,a,e,f,j,hv,zA]
def zg0 (fr:Aa) (c:Cls) (ns:Ab) (hl:↑ns<=60) (i:jq c ns≠ ""):runI 3 [false,false] [] jm cf [.d (stV fr (clD c)),.d (.list [zU ns])]=.exc (jq c ns) [none,none]:=by
 let a:=h.cno fr c ns hl i;simp? [jm,a,Wz,zA,cs1]
end
section
variable {cf:CF}(h:zdl cf)
include h
def zg1 (p:Nat) (fr:List Bool) (c:Cls) (d:Int) (hp:↑fr=p) (i:(Deed.brew d).w p fr c≠ ""):runI 3 [false,false] [] qY cf [.d (stV (frD fr) (clD c)),.d (.list [.int d])]=.exc ((Deed.brew d).w p fr c) [none,none]:=by
 let b:=qK (frD fr) (clD c);simp only[Deed.w]at i |-
 by_cases g:d<0∨(p:Int)<=d
 ·let a:=h.dno fr (clD c) d (by lia);rw[if_pos g];simp? [qY,a,Wz,zA,cs1]
 ·rw[if_neg g]at i |-
  let(j,rfl):=xw (by lia:0<=d);let a:=h.dye fr (clD c) j (by lia);by_cases hf:fr[(j:Int).toNat]?\true
  ·rw[if_pos hf];let e:=VL (show fr[j]?\true from hf);simp? [qY,a,b,e,Wz,zA,cs1]
  ·erw[absurd (if_neg hf) i]
def zji{p:Nat}(hp:p<=12)(c:Cls){d:Nat}(hd:d<p){fr:Aa}{V W:Option OV}:∀(ns:Ab)(acc:Ad),(∀ n∈ns,∃ cs,zG c n\cs/\Bolt p cs)->(ns.any λn=>(qe c n).any (qf d))=true ->
  loopG 1 (.nm 0 5) fYes (itD (jab.ev cf).1 (jac.ev cf).1) (λl y=>zZ l y.1 y.2) (ns.map .str) acc [@&(stV fr (clD c)),V,W,@&(.int d),none]=.exc JK [@&(stV fr (clD c)),V,W,@&(.int d),none]
 |[],acc,_,hf=>by simp at hf
 |n::r,acc,hb,hf=>by
  let(cs,q,j):=hb n (by simp);let ev:=h.dip.1 p cs d (by lia) j hd;let b:zG (clD c) n\(zB cs):=by rw[zX,q];rfl
  let e:=qh fr (clD c);let f:=zN (clD c);let i:tgF (.nm 0 5) (PyData.str n) ([@&(stV fr (clD c)),V,W,@&(.int d),none]++List.replicate 1 none)\[@&(stV fr (clD c)),V,W,@&(.int d),none,@&(.str n)]:=rfl;rw[xn,loopG,i];cases g:cs.any (qf d) with
  |true=>
   rw[g,if_pos rfl]at ev;let a:itD (jab.ev cf).1 (jac.ev cf).1 [@&(stV fr (clD c)),V,W,@&(.int d),none,@&(.str n)]=.exc JK [@&(stV fr (clD c)),V,W,@&(.int d),none,@&(.str n)]:=by
    simp? [jab,itD,jac,ev,b,e,f,zA,cs1]
   simp only[fYes,a];rfl
  |false=>
   rw[g,if_neg (by decide)]at ev;let k:=Qb (cs.map (qp d));let a:itD (jab.ev cf).1 (jac.ev cf).1 [@&(stV fr (clD c)),V,W,@&(.int d),none,@&(.str n)]=.ok ((n,zB (cs.map (qp d))),[@&(stV fr (clD c)),V,W,@&(.int d),none,@&(.str n)]):=by
    rwa[OV.l ((cs.map (qp d)).map λc=>.d c.D)=o];simp? [jab,itD,jac,ev,k,b,e,f,zA,cs1]
   simp only[fYes,a];exact zji hp c hd r _ (λm hm=>hb m (by simp[hm])) (by simpa [qL q,g] using hf)
def zjX(p:Nat)(fr:List Bool)(c:Cls)(ns:Ab)(k:Int)(hl:↑fr=p)(hp:p<=12)(s:↑ns<=60)(hb:∀ n cs,zG c n\cs->Bolt p cs)
  (i:J2 p fr c ns k≠ ""):runI 5 [false,false] [] qH cf [.d (stV (frD fr) (clD c)),.d (.list [zU ns,.int k])]=.exc (J2 p fr c ns k) [none,none]:=by
 let m:=qK (frD fr) (clD c);unfold J2 at *;by_cases g:k<0∨(p:Int)<=k
 ·let b:=h.dno fr (clD c) k (by lia);rw[if_pos g];simp? [qH,b,zA,cs1]
 rw[if_neg g]at i |-
 let(j,rfl):=xw (by lia:0<=k);let r:j<↑fr:=by lia
 let t:j<p:=by lia
 let b:=h.dye fr (clD c) j r;rw[Int.toNat_natCast]at i |-
 let a:=xc r;let f:=VL a;cases q:fr[j] with
 |false=>
  rw[q]at f a;rw[a];simp? [qH,b,m,f,zA,cs1]
 |true=>
  rw[q]at f a;rw[if_pos a]at i |-
  by_cases d:jq c ns= ""
  ·rw[if_pos d]at i |-
   let(o,u):=W4 d;let l:=h.cn (frD fr) (clD c) ns _ (.inl rfl) o s (λn hm=>by rw[jw];exact W3 d n hm);cases hf:ns.any λn=>(qe c n).any (qf j) with
   |false=>rw[hf]at i;exact absurd rfl i
   |true=>
    let v:=zji h hp c t (fr:=frD fr) (V:=some (.d (.list [zU ns,.int j]))) (W:=some (.d (zU ns))) ns [] (λn hm=>by
     let(cs,e):=u n hm;exact#[cs,e,hb n cs e]) hf
    let w:↑(ns.map PyData.str)<=1000000:=by simp;lia
    unfold qH;unfold zU at *;rwa[ns.map PyData.str=x];simp? [zU,b,l,v,m,f,w,zA,cs1]
  ·let l:=h.cno (frD fr) c ns s d;rw[if_neg d];simp? [qH,b,l,m,f,zA,cs1]
end
structure zjc(cf:CF):Prop where
 hang:∀ (p:Nat) (fr:List Bool) (c:Cls) (n:Str) (k:Int),Asc n->(Deed.hang n k).w p fr c≠ "" ->cf "behind_hang" [.d (stV (frD fr) (clD c)),.d (.list [.str n,.int k])]=.exc ((Deed.hang n k).w p fr c) [none,none]
 fold:∀ (fr:Aa) (c:Cls) (n:Str),zG c n=none->cf "behind_fold" [.d (stV fr (clD c)),.d (.list [.str n])]=.exc QJ [none,none]
 twin:∀ (p:Nat) (fr:List Bool) (c:Cls) (n m:Str),Asc m->(Deed.twin n m).w p fr c≠ "" ->cf "behind_twin" [.d (stV (frD fr) (clD c)),.d (.list [.str n,.str m])]=.exc ((Deed.twin n m).w p fr c) [none,none]
 wish:∀ (p:Nat) (fr:List Bool) (c:Cls) (n:Str) (a:Int) (xs:List Int),p<=12->↑xs<=60->(∀ cs,zG c n\cs->Bolt p cs)->(Deed.wish n a xs).w p fr c≠ "" ->cf "behind_wish" [.d (stV (frD fr) (clD c)),.d (.list [.str n,.int a,zE xs])]=.exc ((Deed.wish n a xs).w p fr c) [none,none]
 wax:∀ (p:Nat) (fr:List Bool) (c:Cls) (n:Str) (xs:List Int),↑xs<=60->(∀ cs,zG c n\cs->↑cs<=1000)->(Deed.wax n xs).w p fr c≠ "" ->cf "behind_wax" [.d (stV (frD fr) (clD c)),.d (.list [.str n,zE xs])]=.exc ((Deed.wax n xs).w p fr c) [none,none]
 dip:∀ (p:Nat) (fr:List Bool) (c:Cls) (ns:Ab) (k:Int),↑fr=p->p<=12->↑ns<=60->(∀ n cs,zG c n\cs->Bolt p cs)->J2 p fr c ns k≠ "" ->cf "behind_dip" [.d (stV (frD fr) (clD c)),.d (.list [zU ns,.int k])]=.exc (J2 p fr c ns k) [none,none]
 boil:∀ (fr:Aa) (c:Cls) (ns:Ab),↑ns<=60->jq c ns≠ "" ->cf "behind_boil" [.d (stV fr (clD c)),.d (.list [zU ns])]=.exc (jq c ns) [none,none]
 brew:∀ (p:Nat) (fr:List Bool) (c:Cls) (d:Int),↑fr=p->(Deed.brew d).w p fr c≠ "" ->cf "behind_brew" [.d (stV (frD fr) (clD c)),.d (.list [.int d])]=.exc ((Deed.brew d).w p fr c) [none,none]
def Jn (cf:CF):=∀ (pool:Ab) (p:Nat) (fr:List Bool) (c:Cls) (d:Deed),StOk pool p fr c->d.Fit->d.w p fr c≠ "" ->cf "behind" [.d (stA fr c),.d d.D]=.exc (d.w p fr c) [none,none]
def zbk(cf:CF)(h:zjc cf):Jn λ_=>runI 5 [false,false] [] zP cf:=λpool p fr c d S g f=>by
 let hb:∀ n cs,zG c n\cs->Bolt p cs:=λn cs=>S.bolt;let hl:=S.hl;let hp:=S.hp;cases d with
 |hang n k=>
  let b:=h.hang p fr c n k g f;show runI 5 [false,false] [] zP cf [.d (stV (frD fr) (clD c)),.d (.tuple [.str "hang",.str n,.int k])]=_;simp? [zP,b,zA,qO,List.lookup,cs1]
 |fold n=>
  let hv:zG c n=none:=by
   simp only[Deed.w]at f;cases q:zG c n with
   |none=>rfl
   |some v=>rw[q]at f;exact absurd rfl f
  let b:=h.fold (frD fr) c n hv;let hw:(Deed.fold n).w p fr c=QJ:=by simp only[Deed.w,hv];rfl
  rw[hw];show runI 5 [false,false] [] zP cf [.d (stV (frD fr) (clD c)),.d (.tuple [.str "fold",.str n])]=_;simp? [zP,b,zA,qO,List.lookup,cs1]
 |twin n m=>
  let b:=h.twin p fr c n m g f;show runI 5 [false,false] [] zP cf [.d (stV (frD fr) (clD c)),.d (.tuple [.str "twin",.str n,.str m])]=_;simp? [zP,b,zA,qO,List.lookup,cs1]
 |wish n a xs=>
  let b:=h.wish p fr c n a xs hp g (hb n) f;show runI 5 [false,false] [] zP cf [.d (stV (frD fr) (clD c)),.d (.tuple [.str "wish",.str n,.int a,zE xs])]=_;simp? [zP,b,zA,qO,List.lookup,cs1]
 |wax n xs=>
  let b:=h.wax p fr c n xs g (λcs e=>(hb n cs e).1) f;show runI 5 [false,false] [] zP cf [.d (stV (frD fr) (clD c)),.d (.tuple [.str "wax",.str n,zE xs])]=_;simp? [zP,b,zA,qO,List.lookup,cs1]
 |dip ns k=>
  let b:=h.dip p fr c ns k hl hp g hb f;show runI 5 [false,false] [] zP cf [.d (stV (frD fr) (clD c)),.d (.tuple [.str "dip",zU ns,.int k])]=.exc (J2 p fr c ns k) [none,none];simp? [zP,b,zA,qO,List.lookup,cs1]
 |boil ns=>
  let b:=h.boil (frD fr) c ns g f;show runI 5 [false,false] [] zP cf [.d (stV (frD fr) (clD c)),.d (.tuple [.str "boil",zU ns])]=.exc (jq c ns) [none,none];simp? [zP,b,zA,qO,List.lookup,cs1]
 |brew d=>
  let b:=h.brew p fr c d hl f;show runI 5 [false,false] [] zP cf [.d (stV (frD fr) (clD c)),.d (.tuple [.str "brew",.int d])]=_;simp? [zP,b,zA,qO,List.lookup,cs1]
section
local macro_rules|`(#[$a])=>`(.cons $a .nil)|`(#[$a,$b,*])=>`(.cons $a #[$b,*])|`(.($n:num))=>`(.x $n $n)|`(($n:num :))=>`(.k $n)
def jaw:IB:=#[.a 3 3 (.dat (.call (.call "behind" 2 #[.(3),.(4)])))]
def ZE:IB:=#[.a 3 3 (.dat (.call (.m 0 0 "House" "now" "House.now" 1 .nil))),.loop (.nm 4 4) (.list .(1)) jaw,.ret (.call "boilings_of" 2 #[.(3),.(2)])]
def jh:IB:=#[.a 3 3 (.dat (.q "")),.tryq #[.e (.call (.m 0 0 "House" "would" "House.would" 3 #[.(1),.(2)]))] [("NoName",3,3,.s "NoName"),("Taken",3,3,.s "Taken"),("BadSize",3,3,.s "BadSize"),("NoCloth",3,3,.s "NoCloth"),("NoCell",3,3,.s "NoCell"),("BadWish",3,3,.s "BadWish"),("Twice",3,3,.s "Twice"),("NoDye",3,3,.s "NoDye"),("Spent",3,3,.s "Spent"),("StillFresh",3,3,.s "StillFresh"),("TooDeep",3,3,.s "TooDeep")],.ret (.dat .(3))]
def jad:IB:=#[.a 4 4 (.dat (.call (.call "_law_deed" 3 (.io 0 0 #[.(1),.(2)])))),.f (.p .NotEq (.call (.call "_law_word" 2 #[.(1),.(4)])) (.q "")) #[.ret (.dat .(4))] .nil]
def QC:IB:=#[.loop (.nm 3 3) (.range (12:)) jad,.ret (.dat (.tup #[.q "brew",.ix .(1) (0:)]))]
def jak:IB:=#[.a 3 3 (.dat (.ix (.new (.lst #[.tup #[.q "dip",.tuple (.new (.sortD (.ix .(1) (2:)))),(0:)],.tup #[.q "brew",(0:)]])) (.n .Mod .(2) (2:)))),.e (.call (.m 0 0 "House" "do" "House.do" 2 #[.(3)])),.a 1 1 (.dat (.call (.call "_law_did" 2 #[.(1),.(3)])))]
def Q3:IB:=#[.loop (.nm 2 2) (.range (18:)) jak,.ret (.dat .(1))]
end
def Kf(j:Int)(c:Cls):=∀ q∈c,∀ x∈q.2,x.st.getD 0 0<=j
structure Hb(pool:Ab)(p:Nat)(f:PyData)(L:Nat)(fr:List Bool)(c:Cls)(dn:Ao):Prop extends Hs pool p f L fr c dn where
 dl:DnL dn
 sh:Kf 0 c
 fa:∀ j,j<p->fr[j]?\true
def Hb.mono(h:Hb pool p f L fr c I)(g:L<=o):Hb pool p f o fr c I:=#[h.toHs.mono g,h.dl,h.sh,h.fa]
def Hb.hang(h:Hb pool p f L fr c o)(i:n∈pool)(hN:Nm n)(G:Qh pool fr c (.hang n k)):Hb pool p f (L+1) ((Deed.hang n k).fr fr) ((Deed.hang n k).cl p c) (o++ [((Deed.hang n k).D,stA ((Deed.hang n k).fr fr) ((Deed.hang n k).cl p c))]) :=
 ⟨h.toHs.step G,h.dl.snoc (Zh (by simpa [Deed.nms] using Kk hN)),λq a x hx=>by
  rcases JB a with a | rfl
  ·erw[h.sh q a x hx]
  ·rw[uF hx];show (List.replicate p (0:Int)).getD 0 0<=0;cases p<;>simp[xS],h.fa⟩
def zdn(pool:Ab)(p:Nat)(P:Int)(f:PyData)(o3:Option OV)(L:Nat)(U:Gv):=∃(b:OV)(fr:List Bool)(c:Cls)(a:Ao)(g:Int)(d e:Option OV),zQ b/\Hb pool p f L fr c a /\
 U= [some b,some (hV P f a [] []),@&(zJ p fr c),o3,@&(.int g),d,e]
def zbi{cf:CF}(z:qF cf)(ho:yb cf)(hi:QQ cf){pool:Ab}{p:Nat}{P:Int}{f:PyData}{o3:Option OV}{L:Nat}{U:Gv}{n:Str}(hp:↑pool<=50)(hN:∀ n∈pool,Nm n)(I:L<1000000)(i:n∈pool)(h:zdn pool p P f o3 L U) :
  ∃ E F,tgF (.nm 5 5) (.str n) U\E/\jag.ex cf [0,1] E=.ok (.next,F)/\zdn pool p P f o3 (L+1) F:=by
 let(b,fr,c,a,g,X,A,hb,H,rfl):=h;let o:atI (zI p fr c) 2\(.dict ((clD c).map dK)):=rfl;let m:=zN (clD c);let hv:=zX c n;let hK:zJ p fr c=.list (zI p fr c):=rfl;let(T,g1):=jJ P f a;refine#[[some b,some (hV P f a [] []),@&(zJ p fr c),o3,@&(.int g),@&(.str n),A],?_];cases hc:zG c n with
 |some cs=>
  refine#[_,rfl,?_,b,fr,c,a,g,@&(.str n),A,hb,H.mono (by lia),rfl];rw[hc]at hv;rw[hK,g1];rwa[zI p fr c=K];simp? [jag,o,m,hv,cs1]
 |none=>
  let(r,q,g2,V,j,v):=z b hb 5 (by decide) (by decide);by_cases y:0<r
  ·let(s,u,g3,R,l,D):=z q j 5 (by decide) (by decide);by_cases hg:g=0
   ·subst hg;let(t,C,W,S,M,Q):=z u l 3 (by decide) (by decide);obtain⟨k,hk,O,N⟩:∃ k:Int,atI [PyData.int 40,.int 23,.int 12] t\(.int k)/\0<=k/\k<=40:=by
     have:t=0∨t=1∨t=2:=by lia
     rcases this with rfl | rfl | rfl
     ·exact#[40,rfl,by lia,by lia]
     ·exact#[23,rfl,by lia,by lia]
     ·exact#[12,rfl,by lia,by lia]
    let G:Qh pool fr c (.hang n k):=#[i,hc,O,N];let(d,e):=JH ho hi hp hN H.toHs I G P;refine#[[some C,some (hV P f (a++ [((Deed.hang n k).D,stA ((Deed.hang n k).fr fr) ((Deed.hang n k).cl p c))]) [] []),@&(zJ p ((Deed.hang n k).fr fr) ((Deed.hang n k).cl p c)),o3,@&(.int 1),@&(.str n),@&(.int k)],rfl,?_,C,_,_,_,1,_,_,M,H.hang i (hN n i) G,rfl];let B:=qu (zI p ((Deed.hang n k).fr fr) ((Deed.hang n k).cl p c));let w:zJ p ((Deed.hang n k).fr fr) ((Deed.hang n k).cl p c)=.list (zI p ((Deed.hang n k).fr fr) ((Deed.hang n k).cl p c)):=rfl;let x:(Deed.hang n k).D=.tuple [.str "hang",.str n,.int k]:=rfl;rw[hK,w];rw[x]at d e;rwa[zI p fr c=K];simp? [jag,o,m,hv,y,v,D,Q,hk,d,e,B,zL,zT,zA,ja,cs1]
   ·let J:(g==0)=false:=Xb.mpr hg;let G:Qh pool fr c (.hang n s):=#[i,hc,g3,by lia];let(d,e):=JH ho hi hp hN H.toHs I G P;refine#[[some u,some (hV P f (a++ [((Deed.hang n s).D,stA ((Deed.hang n s).fr fr) ((Deed.hang n s).cl p c))]) [] []),@&(zJ p ((Deed.hang n s).fr fr) ((Deed.hang n s).cl p c)),o3,@&(.int g),@&(.str n),@&(.int s)],rfl,?_,u,_,_,_,g,_,_,l,H.hang i (hN n i) G,rfl];let B:=qu (zI p ((Deed.hang n s).fr fr) ((Deed.hang n s).cl p c));let w:zJ p ((Deed.hang n s).fr fr) ((Deed.hang n s).cl p c)=.list (zI p ((Deed.hang n s).fr fr) ((Deed.hang n s).cl p c)):=rfl;let x:(Deed.hang n s).D=.tuple [.str "hang",.str n,.int s]:=rfl;rw[hK,w];rw[x]at d e;rwa[zI p fr c=K];simp? [jag,o,m,hv,y,v,D,J,d,e,B,zL,zT,zA,ja,cs1]
  ·refine#[[some q,some (hV P f a [] []),@&(zJ p fr c),o3,@&(.int g),@&(.str n),A],rfl,?_,q,fr,c,a,g,_,_,j,H.mono (by lia),rfl];rw[hK,g1];rwa[zI p fr c=K];simp? [jag,o,m,hv,v,y,cs1]
def kT(cf:CF):=∀ b,zQ b->∀(pool a:Ab)(p:Nat)(fr:List Bool)(c:Cls)(P:Int)(f:PyData)(i:Ao)(L:Nat),↑pool<=50->(∀ n∈pool,Nm n)->(∀ n∈a,n∈pool)->↑a<=50->Hb pool p f L fr c i->L<=1000 ->
 ∃ (d:OV) (h:List Bool) (e:Cls) (g:Ao),zQ d/\Hb pool p f (L+↑a) h e g/\cf "_law_begun" [b,hV P f i [] [],.d (zJ p fr c),.d (qw a)]=.ok (.d (zJ p h e)) [some d,some (hV P f g [] []),none,none]
def zbj(cf:CF)(l:qF cf)(ho:yb cf)(hi:QQ cf):kT λ_=>runI 7 [true,true,false,false] [0,1] Qj cf:=λb hb pool a p fr c P f d L y z C D H J=>by
 let(g,k,g1,G,i,w):=l b hb 9 (by decide) (by decide);let(E,e,r,v,s,u,I,K,M,h,j,rfl):=qS (t:=.nm 5 5) (body:=jag.ex cf [0,1]) (ds:=a.map .str) (U:= [some k,some (hV P f d [] []),@&(zJ p fr c),@&(qw a),@&(.int g),none,none])
  (λpre U=>zdn pool p P f (@&(qw a)) (L+↑pre) U) #[k,fr,c,d,g,none,none,i,H,rfl] (by
   intro pre x post ex U A;let hx:x∈a.map PyData.str:=by rw[ex];simp
   let hlen:↑pre<↑a:=by
    have:=congrArg List.length ex;simp at this;lia
   let(n,B,rfl):=xv.mp hx;let(m,o,a1,a2,q):=zbi l ho hi y z (by lia) (C n B) A;exact#[m,o,a1,a2,by rw[xB];exact q])
 rw[xo]at j;refine#[r,v,s,u,h,j,?_];let(F,N):=jJ P f d;simp? [Qj,e,w,zA,ja,cs1]
def yf (cf:CF):=∀ (P:Int) (f:PyData) (a:Ao),↑a<=1000000->cf "House.book" [hV P f a [] []]=.ok (.l ((a.map (·.1)).map .d)) [some (hV P f a [] [])]
def zeS(cf:CF):yf λ_=>runI 1 [true] [0] ν5 cf:=λP f a hl=>by
 let e:=zjK (k:=2) (t:=.tp (.cons (.nm 0 1) (.cons (.nm 1 2) .nil))) (elt:=(jbm.ev cf).1) (λx:PyData×PyData=>PyData.tuple [x.1,x.2]) (λx=>x.1) (xs:=a) (U:= [none]) (by
  intro x _;exact#[[none,some (.d x.1),some (.d x.2)],.dat x.1,[none,some (.d x.1),some (.d x.2)],rfl,rfl,rfl,rfl])
 unfold qR at e;let c:↑(tps a)<=1000000:=by unfold tps;simpa using hl
 let hp:=vE a;let b:(a.map λx:PyData×PyData=>PyData.tuple [x.1,x.2])=tps a:=rfl;rw[b]at e;unfold hV;simp? [ν5,hp,e,c,zA,ja,cs1]
def zgF {cf:CF}(hb:Qg cf) (r:Jn cf){pool:Ab}(hp:↑pool<=60) (hN:∀ n∈pool,Nm n){p:Nat}{H V N:Option OV}{d:Deed}{ν:Aa}:∀ (ds:List Deed) (fr:List Bool) (c:Cls) (o:Option OV),StOk pool p fr c->Zd pool p ds fr c->d.Fit->d.w p (qJ ds fr) (qm p ds c)≠ "" ->
  ∃ a1 a2 i l,qU (.nm 4 4) (jaw.ex cf [0]) (ds.map Deed.D++d.D::ν) [H,V,N,@&(stA fr c),o]=.exc (d.w p (qJ ds fr) (qm p ds c)) [H,a1,a2,i,l]:=by
 intro ds
 induction ds with
 |nil=>
  intro fr c o S G e hw;let a:=r pool p fr c d S e hw;let b:∀ x,tgF (.nm 4 4) x [H,V,N,@&(stA fr c),o]\[H,V,N,@&(stA fr c),@&x]:=λ_=>rfl;refine#[V,N,@&(stA fr c),some (.d d.D),?_];rw[List.map_nil,uH,qU,b];simp? [jaw,a,zA,cs1]
 |cons g ds k=>
  intro fr c o S G e hw;let a:=hb pool p fr c g hp hN S G.1;let b:∀ x,tgF (.nm 4 4) x [H,V,N,@&(stA fr c),o]\[H,V,N,@&(stA fr c),@&x]:=λ_=>rfl;let(a1,a2,i,l,j):=k (g.fr fr) (g.cl p c) (some (.d g.D)) (S.step G.1) G.2 e hw;refine#[a1,a2,i,l,?_];rw[xn,List.cons_append,qU,b];show _=R.exc (d.w p (qJ ds (g.fr fr)) (qm p ds (g.cl p c))) _;rw[<- j];rwa[stA (g.fr fr) (g.cl p c)=h,stA fr c=D,g.D=f];let ex:jaw.ex cf [0] [H,V,N,@&D,@&f]=.ok (.next,[H,V,N,@&h,@&f]):=by
   simp? [jaw,a,cs1]
  dsimp only;rw[ex]
def yq (cf:CF):=∀ (pool:Ab) (p:Nat) (fr:List Bool) (c:Cls) (P:Int) (f:PyData) (a:Ao) (ds:List Deed) (d:Deed) (b:Aa) (N:PyData),↑pool<=60->(∀ n∈pool,Nm n)->StOk pool p fr c->QP f a=stA fr c->Zd pool p ds fr c->d.Fit->d.w p (qJ ds fr) (qm p ds c)≠ "" ->
 ↑(ds.map Deed.D++d.D::b)<=1000000->cf "House.would" [hV P f a [] [],.d (.list (ds.map Deed.D++d.D::b)),.d N]=.exc (d.w p (qJ ds fr) (qm p ds c)) [some (hV P f a [] []),none,none]
def zgG(cf:CF)(hw:Vl cf)(hb:Qg cf)(l:Jn cf):yq λ_=>runI 5 [true,false,false] [0] ZE cf:=λpool p fr c P f b ds d g N hp hN S j G i a hl=>by
 let e:=hw P f b [] [];rw[j]at e;let(a1,a2,k,m,h):=zgF hb l hp hN (H:=some (hV P f b [] [])) (V:=some (.d (.list (ds.map Deed.D++d.D::g)))) (N:=some (.d N)) (d:=d) (ν:=g) ds fr c none S G i a;simp? [ZE,e,h,hl,zA,ja,cs1]
def refs:List String:= ["NoName","Taken","BadSize","NoCloth","NoCell","BadWish","Twice","NoDye","Spent","StillFresh","TooDeep"]
def zlC (p:Nat) (fr:List Bool) (c:Cls) (d:Deed) (h:d.w p fr c≠ ""):∃ x,refs.contains x=true/\d.w p fr c=Str.ofString x:=by
 let hg:∀ ns,jq c ns≠ "" ->∃ x,refs.contains x=true/\jq c ns=Str.ofString x:=λns h=>by
  unfold jq at *;by_cases f:ns.all (λn=>(zG c n).isSome)=true
  ·rw[if_pos f]at h |-
   by_cases i:↑(Tab.dedup ns)<↑ns
   ·rw[if_pos i];exact#["Twice",by kernel_rfl,rfl]
   ·erw[absurd (if_neg i) h]
  ·rw[if_neg f];exact#["NoCloth",by kernel_rfl,rfl]
 let hm:∀ n,Ze c n≠ "" ->∃ x,refs.contains x=true/\Ze c n=Str.ofString x:=λn h=>by
  unfold Ze at *;by_cases f:nmB n=true
  ·rw[if_pos f]at h |-
   by_cases i:(zG c n).isSome=true
   ·rw[if_pos i];exact#["Taken",by kernel_rfl,rfl]
   ·erw[absurd (if_neg i) h]
  ·rw[if_neg f];exact#["NoName",by kernel_rfl,rfl]
 cases d with
 |hang n k=>
  simp only[Deed.w]at h |-
  by_cases g:Ze c n= ""
  ·rw[if_pos g]at h |-
   by_cases b:0<=k/\k<=40
   ·erw[absurd (if_pos b) h]
   ·rw[if_neg b];exact#["BadSize",by kernel_rfl,rfl]
  ·rw[if_neg g];exact hm n g
 |fold n=>
  simp only[Deed.w]at h |-
  cases g:(zG c n).isSome with
  |true=>rw[g]at h;exact absurd rfl h
  |false=>exact#["NoCloth",by kernel_rfl,rfl]
 |twin n m=>
  simp only[Deed.w]at h |-
  cases g:(zG c n).isSome with
  |true=>rw[g]at h;exact hm m h
  |false=>exact#["NoCloth",by kernel_rfl,rfl]
 |wish n a xs=>
  simp only[Deed.w]at h |-
  cases g:zG c n with
  |none=>exact#["NoCloth",by kernel_rfl,rfl]
  |some cs=>
   rw[g]at h;dsimp only [QW]at h |-
   by_cases b:a<0∨(↑cs:Int)<=a
   ·rw[if_pos b];exact#["NoCell",by kernel_rfl,rfl]
   ·rw[if_neg b]at h |-
    by_cases e:↑xs=p
    ·rw[if_pos e]at h |-
     cases j:xs.any λx=>decide (x<0)||decide (9<x) with
     |true=>exact#["BadWish",by kernel_rfl,rfl]
     |false=>rw[j]at h;exact absurd rfl h
    ·rw[if_neg e];exact#["BadWish",by kernel_rfl,rfl]
 |wax n xs=>
  simp only[Deed.w]at h |-
  cases g:zG c n with
  |none=>exact#["NoCloth",by kernel_rfl,rfl]
  |some cs=>
   rw[g]at h;dsimp only [Qe]at h |-
   cases b:xs.all (Zk ↑cs) with
   |false=>exact#["NoCell",by kernel_rfl,rfl]
   |true=>
    rw[b]at h;cases e:YQ xs with
    |true=>exact#["Twice",by kernel_rfl,rfl]
    |false=>rw[e]at h;exact absurd rfl h
 |dip ns k=>
  simp only[Deed.w,J2]at h |-
  by_cases b:k<0∨(p:Int)<=k
  ·rw[if_pos b];exact#["NoDye",by kernel_rfl,rfl]
  ·rw[if_neg b]at h |-
   by_cases e:fr[k.toNat]?\true
   ·rw[if_pos e]at h |-
    by_cases j:jq c ns= ""
    ·rw[if_pos j]at h |-
     cases l:ns.any λn=>(qe c n).any (qf k.toNat) with
     |true=>exact#["TooDeep",by kernel_rfl,rfl]
     |false=>rw[l]at h;exact absurd rfl h
    ·rw[if_neg j];exact hg ns j
   ·rw[if_neg e];exact#["Spent",by kernel_rfl,rfl]
 |boil ns=>erw[hg ns h]
 |brew k=>
  simp only[Deed.w]at h |-
  by_cases b:k<0∨(p:Int)<=k
  ·rw[if_pos b];exact#["NoDye",by kernel_rfl,rfl]
  ·rw[if_neg b]at h |-
   by_cases e:fr[k.toNat]?\true
   ·rw[if_pos e];exact#["StillFresh",by kernel_rfl,rfl]
   ·erw[absurd (if_neg e) h]
def zfE{x:String}(i:Nat):∀{L:List String},x∈L->QT (Str.ofString x) (L.map λy=>(Str.ofString y,i,i,HC.s (Str.ofString y)))\(i,i,.s (Str.ofString x)):=λ{L} h=>by
 induction L with
 |nil=>cases h
 |cons y r a=>
  show (if Str.ofString x=Str.ofString y then some (i,i,HC.s (Str.ofString y)) else QT _ _)=_;by_cases e:Str.ofString x=Str.ofString y
  ·rw[if_pos e,e]
  ·rw[if_neg e];erw[a ((xA.mp h).resolve_left λz=>e (z ▸ rfl))]
def zh6 (cf:CF):∀ (x:String) (P:Int) (f:PyData) (c:Ao) (D N:PyData),refs.contains x=true->cf "House.would" [hV P f c [] [],.d D,.d N]=.exc x [some (hV P f c [] []),none,none]->runI 4 [true,false,false] [0] jh cf [hV P f c [] [],.d D,.d N]=.ok (.d (.str x)) [some (hV P f c [] []),none,none]:=λx P f c D N hx a=>by
 let(b,g1):=jJ P f c;rw[g1]at a |-
 let hp:=zfE 3 (ud.mp hx);simp only[refs,xn,List.map_nil]at hp;rwa[Str.ofString x=x];simp? [jh,a,zfS,hp,HC.D,zA,ja,cs1]
def ym (cf:CF):=∀ (pool:Ab) (p:Nat) (fr:List Bool) (c:Cls) (P:Int) (f:PyData) (a:Ao) (ds:List Deed) (d:Deed) (b:Aa) (N:PyData),↑pool<=60->(∀ n∈pool,Nm n)->StOk pool p fr c->QP f a=stA fr c->Zd pool p ds fr c->d.Fit->d.w p (qJ ds fr) (qm p ds c)≠ "" ->
 ↑(ds.map Deed.D++d.D::b)<=1000000->cf "_law_would_said" [hV P f a [] [],.d (.list (ds.map Deed.D++d.D::b)),.d N]=.ok (.d (.str (d.w p (qJ ds fr) (qm p ds c)))) [some (hV P f a [] []),none,none]
def zgL(cf:CF)(h:yq cf):ym λ_=>runI 4 [true,false,false] [0] jh cf:=λpool p fr c P f a ds d j N b g S q G i hw hl=>by
 let e:=h pool p fr c P f a ds d j N b g S q G i hw hl;let(x,hx,ex):=zlC p (qJ ds fr) (qm p ds c) d hw;rw[ex]at e |-
 erw[zh6 cf x P f a _ N hx e]
def J4:∀(ds:List Deed)(fr:List Bool),qJ (ds++ [d]) fr=d.fr (qJ ds fr)|[],_=>rfl|_::ds,_=>J4 ds _
def J3:∀(ds:List Deed)(c:Cls),qm p (ds++ [d]) c=d.cl p (qm p ds c)|[],_=>rfl|_::ds,_=>J3 ds _
def VO:∀(ds:List Deed)(fr:List Bool)(c:Cls),Zd pool p ds fr c->Qh pool (qJ ds fr) (qm p ds c) d->Zd pool p (ds++ [d]) fr c|[],_,_,_,g=>#[g,trivial]|_::ds,_,_,h,g=>#[h.1,VO ds _ _ h.2 g]
def zdz{cf:CF}(hd:ZR cf)(hw:ZS cf){pool q:Ab}{p:Nat}{fr:List Bool}{c:Cls}(S:StOk pool p fr c)(s:↑pool<=50)(v:∀ n∈pool,Nm n)(z:1<=↑q)(A:↑q<=10)(y:∀ n∈q,Nm n):∀(xs:Aa)(b:OV)(o3 i:Option OV),zQ b ->
  ∃ l,zQ l/\((∃ (d:Deed) (o:Option OV),d.Fit/\(∀ n∈d.nms,Asc n)/\d.w p fr c≠ "" /\qU (.nm 3 3) (jad.ex cf [0]) xs [some b,@&(zJ p fr c),@&(qw q),o3,i]=.ok (.ret (.d d.D),[some l,@&(zJ p fr c),@&(qw q),o,some (.d d.D)])) ∨
   ∃ o B:Option OV,qU (.nm 3 3) (jad.ex cf [0]) xs [some b,@&(zJ p fr c),@&(qw q),o3,i]=.ok (.next,[some l,@&(zJ p fr c),@&(qw q),o,B]))
 |[],b,o3,i,hb=>#[b,hb,.inr #[o3,i,rfl]]
 |x::xs,b,o3,i,hb=>by
  let(d,e,t,_,D,a,r):=hd b hb pool p fr c q S z A y s v;let h:=hw pool p fr c d S t;let k:=zaV p fr c d;let m:lay 20 (.str "")=true:=by kernel_rfl
  let C:tgF (.nm 3 3) x [some b,@&(zJ p fr c),@&(qw q),o3,i]\[some b,@&(zJ p fr c),@&(qw q),@&x,i]:=rfl;rw[qU,C];by_cases g:d.w p fr c= ""
  ·let(l,j,w):=zdz hd hw S s v z A y xs e (@&x) (some (.d d.D)) a;let ex:jad.ex cf [0] [some b,@&(zJ p fr c),@&(qw q),@&x,i]=.ok (.next,[some e,@&(zJ p fr c),@&(qw q),@&x,some (.d d.D)]):=by
    let f:PyData.eqv (.str "") (.str "")=true:=by decide
    rw[g]at h;rwa[zJ p fr c=K,d.D=u,qw q=Q]
    dsimp! [jad,r,h,f,m,zA,ja]
   refine#[l,j,?_];dsimp only;rw[ex];erw[w]
  ·let f:PyData.eqv (.str (d.w p fr c)) (.str "")=false:=by
    show (d.w p fr c== "")=false;erw[Xb.mpr g]
   refine#[e,a,.inl #[d,@&x,t,D,g,?_]];rwa[d.w p fr c=W,zJ p fr c=K,d.D=u,qw q=Q]
   dsimp! [jad,r,h,f,k,m,zA,ja]
def zdm(cf:CF):=∀ b,zQ b->∀(pool q:Ab)(p:Nat)(fr:List Bool)(c:Cls),StOk pool p fr c->↑pool<=50->(∀ n∈pool,Nm n)->1<=↑q->↑q<=10->(∀ n∈q,Nm n) ->
 ∃ (d:Deed) (a:OV),d.Fit/\(∀ n∈d.nms,Asc n)/\d.w p fr c≠ "" /\zQ a/\cf "_law_bad" [b,.d (zJ p fr c),.d (qw q)]=.ok (.d d.D) [some a,none,none]
def zjE(cf:CF)(hd:ZR cf)(hw:ZS cf):zdm λ_=>runI 5 [true,false,false] [0] QC cf:=λb hb pool q p fr c S i j o r m=>by
 let hl:=zF 12;obtain⟨f,a,h | h⟩:=zdz hd hw S i j o r m (qi 12) b none none hb
 ·let(d,o3,l,k,g,e):=h;refine#[d,f,l,k,g,a,?_];rwa[zJ p fr c=K,d.D=t,qw q=Q];unfold QC;rwa[jad=B];let s:((12:Int)).toNat=12:=rfl
  dsimp! [e,hl,zA,ja]
 ·let(o3,u,e):=h;refine#[.brew p,f,trivial,(λ_ h=>nomatch h),?_,a,?_]
  ·simp only[Deed.w];rw[if_pos (.inr (Int.le_refl _))];exact Xh (by kernel_rfl)
  ·let n:atI (zI p fr c) 0\(.int p):=rfl;let hK:zJ p fr c=.list (zI p fr c):=rfl;show _=RF.ok (.d (.tuple [.str "brew",.int p])) _;rw[hK]at e |-
   rwa[zI p fr c=K,qw q=Q];unfold QC;rwa[jad=B]
   dsimp! [e,hl,n,zA,ja]
def zf4{c:Cls}{j:Int}(h:Kf j c){ns:Ab}(i:0<=j):Kf (j+1) (zO c (ns.map λn=>(n,(qe c n).map (qp 0)))):=λq d x hx=>by
 rcases QI _ d with d | d
 ·have:=h q d x hx;lia
 ·let(n,_,rfl):=xv.mp d;let(a,b,rfl):=xv.mp hx;let hb:a.st.getD 0 0<=j:=by
   unfold qe at b;cases g:zG c n with|none=>rw[g]at b;simp at b|some cs=>rw[g]at b;exact h _ (jM g) a b
  unfold qp
  split
  ·lia
  ·show (J8 0 a.st).getD 0 0<=_;unfold J8;cases hl:a.st with
   |nil=>simp;lia
   |cons y r=>
    rw[hl]at hb;simp[uR]at hb |-
    lia
def zc0{c:Cls}{j:Int}(h:Kf j c)(i:j<=8){n:Str}{cs:List Cl}(g:zG c n\cs):cs.any (qf 0)=false:=by
 rw[ut];intro x hx;have:=h _ (jM g) x hx;unfold qf;simp;intro _;let a:x.st.getD 0 0<=j:=this;rw[xP]at a;lia
def kW(pool:Ab)(p:Nat)(P:Int)(f:PyData)(L m:Nat)(U:Gv):=∃(fr:List Bool)(c:Cls)(a:Ao)(b o3:Option OV),Hs pool p f (L+m) fr c a/\DnL a/\Kf ((m:Int) / 2+m % 2) c/\fr[0]?\(decide (m % 2=0))/\U= [some (hV P f a [] []),@&(zJ p fr c),b,o3]
def zbI{cf:CF}(ho:yb cf)(hi:QQ cf){pool:Ab}{p:Nat}{P:Int}{f:PyData}{L m:Nat}{U:Gv}(hp:↑pool<=50)(hN:∀ n∈pool,Nm n)(A:L+m<1000000)(hm:m<18)(h:kW pool p P f L m U) :
  ∃ v z,tgF (.nm 2 2) (.int m) U\v/\jak.ex cf [0] v=.ok (.next,z)/\kW pool p P f L (m+1) z:=by
 let(fr,c,b,T,o3,H,w,l,hf,rfl):=h;let S:=H.S;let R:=S.len;let h0:0<↑fr:=(xa.mp hf).1;let D:atI (zI p fr c) 2\(.dict ((clD c).map dK)):=rfl;let B:=zN (clD c);let u:↑(clD c)<64:=by simp[clD];lia
 let Q:=zeZ c;let C:↑(zaa c)<=1000000:=by lia
 let hK:zJ p fr c=.list (zI p fr c):=rfl;refine#[[some (hV P f b [] []),@&(zJ p fr c),@&(.int m),o3],?_];by_cases e:m % 2=0
 ·let r:(m:Int) % 2=0:=by lia
  let t:∀ n∈qc ((clD c).map (·.1)),∃ cs,zG c n\cs:=λn h=>zaU h;let E:↑(qc ((clD c).map (·.1)))<=60:=by rw[(qD _).length_eq];simp[clD];lia
  rw[e]at hf;let G:Qh pool fr c (.dip (qc ((clD c).map (·.1))) 0):=⟨by decide,by lia,hf,va S,E,λn q=>by
   let(cs,g):=t n q;exact#[cs,g,zc0 l (by lia) g]⟩
  let O:∀ n∈(Deed.dip (qc ((clD c).map (·.1))) 0).nms,Asc n:=λn q=>by
   let(cs,g):=t n q;erw[Kk (hN n (S.np _ (jM g)))]
  let(a,d):=JH ho hi hp hN H A G P;let s:=qu (zI p ((Deed.dip (qc ((clD c).map (·.1))) 0).fr fr) ((Deed.dip (qc ((clD c).map (·.1))) 0).cl p c));refine#[_,rfl,?_,_,_,_,@&(.int m),some (.d (.tuple [.str "dip",.tuple (zaa c),.int 0])),H.step G,w.snoc (Zh O),?_,?_,rfl]
  ·let i:(Deed.dip (qc ((clD c).map (·.1))) 0).D=.tuple [.str "dip",.tuple (zaa c),.int 0]:=rfl;let k:zJ p ((Deed.dip (qc ((clD c).map (·.1))) 0).fr fr) ((Deed.dip (qc ((clD c).map (·.1))) 0).cl p c)=.list (zI p ((Deed.dip (qc ((clD c).map (·.1))) 0).fr fr) ((Deed.dip (qc ((clD c).map (·.1))) 0).cl p c)):=rfl;let a0:∀ x y:PyData,atI [x,y] 0\x:=λ_ _=>rfl;rw[k,hK];let(N,g1):=jJ P f b;rw[g1]at a |-
   rwa[hV P f (b++ [((Deed.dip (qc ((clD c).map (·.1))) 0).D,stA ((Deed.dip (qc ((clD c).map (·.1))) 0).fr fr) ((Deed.dip (qc ((clD c).map (·.1))) 0).cl p c))]) [] []=I,zI p ((Deed.dip (qc ((clD c).map (·.1))) 0).fr fr) ((Deed.dip (qc ((clD c).map (·.1))) 0).cl p c)=J];rw[i]at a d;unfold zaa at *;generalize j:(qc ((clD c).map (·.1))).map PyData.str=M at *;rwa[zI p fr c=K,(clD c).map dK=F]
   dsimp! [jak,j,D,B,u,C,r,a0,a,d,s,zA,ja]
  ·have:=zf4 (ns:=qc ((clD c).map (·.1))) l (by lia);show Kf _ (zO c _);let o:(m:Int) / 2+(m:Int) % 2+1=((m+1:Nat):Int) / 2+((m+1:Nat):Int) % 2:=by lia
   rw[<- o];erw[this]
  ·show (fr.set 0 false)[0]?=_;rw[xk h0];have:(m+1) % 2≠0:=by lia
   simp[this]
 ·let r:(m:Int) % 2=1:=by lia
  rw[Xc e]at hf;let G:Qh pool fr c (.brew 0):=#[by decide,by lia,hf];let(a,d):=JH ho hi hp hN H A G P;let s:=qu (zI p ((Deed.brew 0).fr fr) ((Deed.brew 0).cl p c));refine#[_,rfl,?_,_,_,_,@&(.int m),some (.d (.tuple [.str "brew",.int 0])),H.step G,w.snoc (Zh (λ_ h=>nomatch h)),?_,?_,rfl]
  ·let i:(Deed.brew 0).D=.tuple [.str "brew",.int 0]:=rfl;let k:zJ p ((Deed.brew 0).fr fr) ((Deed.brew 0).cl p c)=.list (zI p ((Deed.brew 0).fr fr) ((Deed.brew 0).cl p c)):=rfl;let a0:∀ x y:PyData,atI [x,y] 1\y:=λ_ _=>rfl;rw[k,hK];let(N,g1):=jJ P f b;rw[g1]at a |-
   rwa[hV P f (b++ [((Deed.brew 0).D,stA ((Deed.brew 0).fr fr) ((Deed.brew 0).cl p c))]) [] []=I,zI p ((Deed.brew 0).fr fr) ((Deed.brew 0).cl p c)=J];rw[i]at a d;unfold zaa at *;generalize j:(qc ((clD c).map (·.1))).map PyData.str=M at *;rwa[zI p fr c=K,(clD c).map dK=F]
   dsimp! [jak,j,D,B,u,C,r,a0,a,d,s,zA,ja]
  ·show Kf _ c;let o:((m+1:Nat):Int) / 2+((m+1:Nat):Int) % 2=(m:Int) / 2+(m:Int) % 2:=by lia
   rw[o];erw[l]
  ·show (fr.set 0 true)[0]?=_;rw[xk h0];have:(m+1) % 2=0:=by lia
   simp[this]
def V9(cf:CF):=∀(pool:Ab)(p:Nat)(fr:List Bool)(c:Cls)(P:Int)(f:PyData)(e:Ao)(L:Nat),↑pool<=50->(∀ n∈pool,Nm n)->0<p->Hb pool p f L fr c e->L<=1000 ->
 ∃ (d:List Bool) (b:Cls) (a:Ao),Hs pool p f (L+18) d b a/\DnL a/\cf "_law_deep" [hV P f e [] [],.d (zJ p fr c)]=.ok (.d (zJ p d b)) [some (hV P f a [] []),none]
def zdN(cf:CF)(ho:yb cf)(hi:QQ cf):V9 λ_=>runI 4 [true,false] [0] Q3 cf:=λpool p fr c P f a L n o hp H w=>by
 let(u,e,i,g,h,y,o3,d,j,_,_,rfl):=qS (t:=.nm 2 2) (body:=jak.ex cf [0]) (ds:=qi 18) (U:= [some (hV P f a [] []),@&(zJ p fr c),none,none])
  (λpre U=>kW pool p P f L ↑pre U) #[fr,c,a,none,none,H.toHs,H.dl,H.sh,H.fa 0 hp,rfl] (by
   intro pre x post ex U q;let hx:(qi 18)[↑pre]?\x:=by rw[ex];simp
   let(b,rfl):=ν7 hx;let(k,l,a1,a2,m):=zbI ho hi n o (by lia) b q;exact#[k,l,a1,a2,by rw[xB];exact m])
 rw[zF]at d;refine#[i,g,h,d,j,?_];let hl:=zF 18;let(v,g1):=jJ P f a;rw[g1]at e |-
 rwa[hV P f h [] []=r,zJ p i g=s,zJ p fr c=K];unfold Q3;rwa[jak=B]
 dsimp! [e,hl,zA,ja]
end Lake.Wx
namespace Lake.L3
open PySem L2
section
variable [Cs]{K:Ah}{mg:Aq}{h:Heap}{d:DefI}
def el0{α:Type}{P:List α->Prop}(h:P []):∀ us:List α,↑us=0->P us:=λus e=>by
 rw[List.length_eq_zero_iff.mp e];exact h
def el1{α:Type}{P:List α->Prop}(h:∀ a0,P [a0]):∀ us:List α,↑us=1->P us:=λus e=>by
 match us,e with|[a0],_=>erw[h a0]
def el2{α:Type}{P:List α->Prop}(h:∀ a0 a1,P [a0,a1]):∀ us:List α,↑us=2->P us:=λus e=>by
 match us,e with|[a0,a1],_=>erw[h a0 a1]
def el3{α:Type}{P:List α->Prop}(h:∀ a0 a1 a2,P [a0,a1,a2]):∀ us:List α,↑us=3->P us:=λus e=>by
 match us,e with|[a0,a1,a2],_=>erw[h a0 a1 a2]
def el4{α:Type}{P:List α->Prop}(h:∀ a0 a1 a2 c,P [a0,a1,a2,c]):∀ us:List α,↑us=4->P us:=λus e=>by
 match us,e with|[a0,a1,a2,c],_=>erw[h a0 a1 a2 c]
def el5{α:Type}{P:List α->Prop}(h:∀ a0 a1 a2 c i,P [a0,a1,a2,c,i]):∀ us:List α,↑us=5->P us:=λus e=>by
 match us,e with|[a0,a1,a2,c,i],_=>erw[h a0 a1 a2 c i]
def biOk(K:Ah)(L:Ab):Bool:=L.all λx=>match W.nsIn K mainGlobals x with|some none=>true|_=>false
def bi_all{L:Ab}(X:K.In h)(G:h.Ns mainGlobals mg)(hk:biOk K L=true)(x:Str)(hx:L.contains x=true):mg x=none:=by
 have:=xH.mp hk x (ud.mp hx)
 split at this
 ·exact W.mg_none_of X G (by assumption)
 ·cases this
def giOk(K:Ah)(L:List (Str×Int)):Bool:=L.all λp=>match W.nsIn K mainGlobals p.1 with|some (some (.int i _))=>decide (i=p.2)|_=>false
def gi_of{L:List (Str×Int)}(X:K.In h)(G:h.Ns mainGlobals mg)(hk:giOk K L=true)(x:Str)(i:Int)(hx:L.contains (x,i)=true):∃ t,mg x\(.int i t):=by
 have:=xH.mp hk _ (ud.mp hx)
 split at this
 next e=>
  exact#[_,(W.mg_of X G e).trans (by rw[Xh this])]
 ·cases this
def gsOk(K:Ah)(L:List (Str×Str)):Bool:=L.all λp=>match W.nsIn K mainGlobals p.1 with|some (some (.str i _))=>decide (i=p.2)|_=>false
def gs_of{L:List (Str×Str)}(X:K.In h)(G:h.Ns mainGlobals mg)(hk:gsOk K L=true)(x:Str)(i:Str)(hx:L.contains (x,i)=true):∃ t,mg x\(.str i t):=by
 have:=xH.mp hk _ (ud.mp hx)
 split at this
 next e=>
  exact#[_,(W.mg_of X G e).trans (by rw[Xh this])]
 ·cases this
def exOk(K:Ah)(L:Ab):Bool:=L.all λx=>match W.nsIn K mainGlobals x with
 |some (some (.ref a))=>W.excIn K a bmV "ValueError.__new__" &&L.all λy=>match W.nsIn K mainGlobals y with
  |some (some (.ref b))=>decide ((Y5 K a).contains (.ref b)=decide (x=y))
  |_=>false
 |_=>false
def ex_of{L:Ab}(X:K.In h)(G:h.Ns mainGlobals mg)(hk:exOk K L=true):ExL K mg L:=by
 let hk:=xH.mp hk;refine#[λx hx=>?_,λx C y g hx b f c=>?_]
 ·have:=hk x (ud.mp hx)
  split at this
  next e=>
   simp only[xf]at this;exact#[_,W.mg_of X G e,this.1]
  ·cases this
 ·have:=hk x (ud.mp hx)
  split at this
  next e=>
   simp only[xf]at this;let a:=xH.mp this.2 y (ud.mp f)
   split at a
   next d=>
    rw[W.mg_of X G e]at b;rw[W.mg_of X G d]at c;cases b;cases c;erw[Xh a]
   ·cases a
  ·cases this
def fkOk(K:Ah)(L:List (Str×Str)):Bool:=L.all λp=>match W.nsIn K mainGlobals p.1 with
 |some (some (.ref C))=>W.plainGet K C Str.empty&&(W.hasDictIn K C&&(W.plainOver K C&&((match W.findIn K (.ref C) "__setattr__" with
   |some (some (.builtin b))=>decide (b= "object.__setattr__")
   |_=>false)&&match W.findIn K (.ref C) p.2 with
   |some none=>true
   |_=>false)))
 |_=>false
def fk_all{L:List (Str×Str)}(X:K.In h)(G:h.Ns mainGlobals mg)(hk:fkOk K L=true)(c f:Str)(hx:L.contains (c,f)=true):Cls K ((csOf mg).adr c)/\NoAttr K ((csOf mg).adr c) f:=by
 have:=xH.mp hk _ (ud.mp hx)
 split at this
 next e=>
  simp only[xf]at this;let(a1,a2,d,a,b):=this;erw[zlZ X G #[e,a1,a2,d,?_] ?_]
  ·split at a
   ·grind
   ·cases a
  ·split at b
   ·assumption
   ·cases b
 ·cases this
def AllX(K:Ah)(mg:Aq):List DefI->Prop|[]=>True|d::r=> @Dx (csOf mg) K mg d/\AllX K mg r
def dx_all{W:Wd}:{L:List DefI}->AllX K mg L->(∀ cf k,(L.all λd=>d.ok W cf k)=true)->∀ d∈L,@Dx (csOf mg) K mg d/\d.Ok W
 |[],_,_=>λd hd=>nomatch hd
 |e::r,a,ok=>λd hd=>by
  simp only[uf,xf]at ok;rcases xA.mp hd with rfl | hd
  ·exact#[a.1,λcf k=>(ok cf k).1]
  ·erw[dx_all a.2 (λcf k=>(ok cf k).2) d hd]
end
end Lake.L3
namespace Lake.Wx
open PySem L2 L3
abbrev mkD(a:Str)(s:Stmt)(N:Ab)(m:List Bool)(io:Ac)(b:IB)(k:Kd):DefI:=#[a,s,N.take ↑m,N,m,io,b,k]
abbrev mkF(a:Str)(s:Nat)(N:Ab)(n:Nat)(b:IB):DefI:=mkD a (top s) N (.replicate n false) [] b .fn
abbrev zjU:=mkF "_wall" 0 ["k"] 1 qT
abbrev zdK:=mkF "bare" 18 ["pots","size","clear"] 2 jbi
abbrev Ve:=mkF "with_wish" 19 ["bolt","at","wish","stain","waxed","gone"] 3 j9
abbrev yK:=mkF "with_wax" 20 ["bolt","cells"] 2 Zm
abbrev KE:=mkF "dipped" 21 ["bolt","dye"] 2 ZO
abbrev KD:=mkF "boiled" 22 ["bolt"] 1 vq
abbrev yH:=mkF "has_cell" 23 ["bolt","at"] 2 Zl
abbrev WQ:=mkF "is_picture" 24 ["shades","pots"] 2 Zf
abbrev yG:=mkF "deepened" 25 ["stain","dye"] 2 Jj
abbrev YI:=mkF "is_name" 29 ["text"] 1 jT
abbrev Jc:=mkD "Stand.__init__" (ZM 32 0) ["self","fresh","cloths"] [true,false,false] [0] ZN (.ini "Stand")
abbrev Vd:=mkF "new_stand" 33 ["pots"] 1 Qr
abbrev wS:=mkF "behind_hang" 34 ["stand","parts","name","size"] 2 qM
abbrev wR:=mkF "behind_fold" 35 ["stand","parts","name"] 2 jn
abbrev wT:=mkF "behind_twin" 36 ["stand","parts","name","new"] 2 qZ
abbrev wU:=mkF "behind_wish" 37 ["stand","parts","name","at","wish"] 2 q8
abbrev WP:=mkF "behind_wax" 38 ["stand","parts","name","cells"] 2 ji
abbrev WO:=mkF "behind_dip" 39 ["stand","parts","names","dye","changed"] 2 qH
abbrev wP:=mkF "behind_boil" 40 ["stand","parts","names"] 2 jm
abbrev wQ:=mkF "behind_brew" 41 ["stand","parts","dye"] 2 qY
abbrev KC:=mkF "behind" 43 ["stand","deed","word","parts","change"] 2 zP
abbrev wY:=mkF "with_cloths" 44 ["stand","changed","cloths"] 2 ZF
abbrev yJ:=mkF "with_pot" 45 ["stand","dye","is_fresh","fresh"] 3 Jk
abbrev Vb:=mkF "check_new" 46 ["stand","name"] 2 jz
abbrev wW:=mkF "check_hangs" 47 ["stand","name"] 2 jZ
abbrev wX:=mkF "check_names" 48 ["stand","names","name"] 2 qN
abbrev Va:=mkF "check_dye" 49 ["stand","dye"] 2 jy
abbrev YJ:=mkF "lacking" 51 ["bolt","dye"] 2 qT
abbrev KF:=mkF "needed" 52 ["bolt","pots"] 1 QK
abbrev WR:=mkF "with_cells" 54 ["bolt","dyes"] 2 qT
abbrev yI:=mkF "is_lower" 55 ["one","other","dye","cells","other_dye","other_cells"] 2 QL
abbrev Qf:=mkF "lacking_under_wax" 56 ["bolt","dye"] 2 qT
abbrev yF:=mkF "boilings" 58 ["bolt"] 1 qT
abbrev J0:=mkF "boilings_for" 59 ["bolt","dyes","follower"] 2 wf
abbrev J1:=mkF "places_above" 60 ["bolt","dyes","pairs","told","one","places"] 2 QL
abbrev Vc:=mkF "followers" 61 ["above","follower","at"] 1 QK
abbrev KG:=mkD "settle" (top 62) ["at","above","follower","tried","place"] [false,false,true,true] [2,3] wf .fn
abbrev YH:=mkF "bolt_of" 64 ["stand","names","bolt","name"] 2 we
abbrev wV:=mkF "boilings_of" 65 ["stand","names"] 2 qT
abbrev Ja:=mkD "House.__init__" (ZM 67 0) ["self","pots"] [true,false] [0] jS (.ini "House")
abbrev yD:=mkD "House.do" (ZM 67 1) ["self","deed","stand","many"] [true,false] [0] ν6 (.me "House" "do")
abbrev WN:=mkD "House.undo" (ZM 67 2) ["self","pair"] [true] [0] QL (.me "House" "undo")
abbrev WM:=mkD "House.redo" (ZM 67 3) ["self","pair"] [true] [0] QL (.me "House" "redo")
abbrev WI:=mkD "House.book" (ZM 67 4) ["self"] [true] [0] ν5 (.me "House" "book")
abbrev wK:=mkD "House.ahead" (ZM 67 5) ["self"] [true] [0] qT (.me "House" "ahead")
abbrev WJ:=mkD "House.mark" (ZM 67 6) ["self","word"] [true,false] [0] wf (.me "House" "mark")
abbrev yE:=mkD "House.go" (ZM 67 7) ["self","word"] [true,false] [0] QK (.me "House" "go")
abbrev wM:=mkD "House.names" (ZM 67 9) ["self"] [true] [0] qT (.me "House" "names")
abbrev JZ:=mkD "House.wishes" (ZM 67 12) ["self","name"] [true,false] [0] qT (.me "House" "wishes")
abbrev wN:=mkD "House.waxed" (ZM 67 13) ["self","name"] [true,false] [0] qT (.me "House" "waxed")
abbrev WH:=mkD "House.bolt" (ZM 67 14) ["self","names"] [true,false] [0] ν4 (.me "House" "bolt")
abbrev Jb:=mkD "House.boilings" (ZM 67 17) ["self","names"] [true,false] [0] qT (.me "House" "boilings")
abbrev wO:=mkD "House.would" (ZM 67 19) ["self","deeds","names","stand","deed"] [true,false,false] [0] ZE (.me "House" "would")
abbrev v9:=mkD "House.now" (ZM 67 21) ["self"] [true] [0] Zu (.me "House" "now")
abbrev wL:=mkD "House.cloth" (ZM 67 22) ["self","name","stand"] [true,false] [0] QK (.me "House" "cloth")
abbrev YD:=mkF "_law_mixed" 70 ["_law_number","_law_turn","_law_one","_law_two"] 2 Ql
abbrev KA:=mkD "_law_take" (top 71) ["_law_box_here","_law_many","_law_left","_law_cell"] [true,false] [0] jO .fn
abbrev YG:=mkD "_law_place" (top 72) ["_law_box_here","_law_size"] [true,false] [0] jd .fn
abbrev YF:=mkD "_law_picks" (top 73) ["_law_box_here","_law_size","_law_spread","_law_many","_law_found","_law_k","_law_at"] [true,false] [0] j7 .fn
abbrev JX:=mkF "_law_picks_word" 74 ["_law_cells","_law_size","_law_at"] 2 qQ
abbrev zbG:=mkF "_law_wax" 75 ["_law_rows","_law_cells"] 2 JP
abbrev zbE:=mkF "_law_dip" 76 ["_law_rows","_law_dye_here","_law_found","_law_stain","_law_waxed","_law_want"] 2 ZI
abbrev Ks:=mkF "_law_boil" 77 ["_law_rows"] 1 QZ
abbrev Kw:=mkF "_law_full" 78 ["_law_rows","_law_dye_here"] 2 Yu
abbrev Kt:=mkD "_law_deal" (top 79) ["_law_box_here","_law_some","_law_all_of","_law_found","_law_one"] [true,false,false] [0] Q0 .fn
abbrev v8:=mkF "_law_letters" 80 [] 0 ZB
abbrev YE:=mkD "_law_named" (top 81) ["_law_box_here","_law_many"] [true] [0] Qm .fn
abbrev v7:=mkF "_law_is_name" 82 ["_law_word_here"] 1 qV
abbrev Kx:=mkF "_law_kept" 83 ["_law_pots_here"] 1 Q4
abbrev YB:=mkF "_law_blank" 84 ["_law_pots_here","_law_size","_law_empty"] 2 Qk
abbrev WG:=mkF "_law_new_word" 85 ["_law_kept_here","_law_name"] 2 jc
abbrev JW:=mkF "_law_group_word" 86 ["_law_kept_here","_law_names"] 2 qA
abbrev WF:=mkF "_law_dip_word" 87 ["_law_kept_here","_law_names","_law_dye_here","_law_word_here"] 3 qB
abbrev wI:=mkF "_law_cell_word" 88 ["_law_kept_here","_law_deed_here","_law_rows"] 2 qq
abbrev KB:=mkF "_law_word" 89 ["_law_kept_here","_law_deed_here","_law_word_here"] 2 qd
abbrev zbD:=mkF "_law_did" 90 ["_law_kept_here","_law_deed_here","_law_fresh","_law_cloths","_law_rows","_law_name"] 2 qP
abbrev Ky:=mkD "_law_pool" (top 91) ["_law_box_here","_law_found","_law_k","_law_name"] [true] [0] Q5 .fn
abbrev WE:=mkD "_law_any_name" (top 92) ["_law_box_here","_law_pool_here"] [true,false] [0] jI .fn
abbrev YC:=mkD "_law_group" (top 93) ["_law_box_here","_law_kept_here","_law_pool_here","_law_found","_law_way"] [true,false,false] [0] ju .fn
abbrev zbF:=mkD "_law_dye" (top 94) ["_law_box_here","_law_pots_here"] [true,false] [0] ZJ .fn
abbrev yB:=mkD "_law_wanted" (top 95) ["_law_box_here","_law_kept_here","_law_name","_law_at","_law_rows","_law_many"] [true,false,false,false] [0] jg .fn
abbrev wJ:=mkD "_law_hang_size" (top 96) ["_law_box_here"] [true] [0] jo .fn
abbrev Ku:=mkD "_law_deed" (top 97) ["_law_box_here","_law_kept_here","_law_pool_here","_law_some","_law_word_here","_law_name","_law_size","_law_at"] [true,false,false] [0] qI .fn
abbrev YA:=mkD "_law_begun" (top 98) ["_law_box_here","_law_house","_law_kept_here","_law_pool_here","_law_great","_law_name","_law_size"] [true,true,false,false] [0,1] Qj .fn
abbrev yC:=mkD "_law_worked" (top 99) ["_law_box_here","_law_house","_law_kept_here","_law_pool_here","_law_many","_law_k","_law_deed_here"] [true,true,false,false,false] [0,1] ZW .fn
abbrev v6:=mkF "_law_bolt_of" 100 ["_law_kept_here","_law_names","_law_found","_law_name"] 2 ZA
abbrev Kz:=mkD "_law_pots" (top 101) ["_law_box_here"] [true] [0] ZV .fn
abbrev JY:=mkD "_law_would_said" (top 102) ["_law_house","_law_deeds","_law_names","_law_word_here"] [true,false,false] [0] jh .fn
abbrev zbC:=mkD "_law_bad" (top 103) ["_law_box_here","_law_kept_here","_law_pool_here","_law_k","_law_deed_here"] [true,false,false] [0] QC .fn
abbrev Kv:=mkD "_law_deep" (top 104) ["_law_house","_law_kept_here","_law_k","_law_deed_here"] [true,false] [0] Q3 .fn
section
local macro_rules|`(#[$a])=>`(.cons $a .nil)|`(#[$a,$b,*])=>`(.cons $a #[$b,*])|`(.($n:num))=>`(.x $n $n)|`(($n:num :))=>`(.k $n)
def jav:IB:=#[.a 11 11 (.dat (.call (.call "_law_deed" 3 (.io 1 1 #[.(8),.(4)])))),.f (.p .Eq (.call (.call "_law_word" 2 #[.(8),.(11)])) (.q "")) #[.app 9 9 .(11),.a 8 8 (.dat (.call (.call "_law_did" 2 #[.(8),.(11)])))] .nil]
def jah:IB:=#[.a 14 14 (.dat (.new (.list .(9)))),.f (.or (.p .NotEq (.call (.call "_law_would_said" 3 (.io 3 3 #[.(14),.frz 13 13]))) (.call (.call "_law_word" 2 #[.(8),.(12)]))) (.p .NotEq .(14) .(9))) #[.ret (.dat (.b false))] .nil,.ret (.dat (.and (.p .Eq (.call (.m 3 3 "House" "book" "House.book" 1 .nil)) .(7)) (.p .Eq (.call (.m 3 3 "House" "bolt" "House.bolt" 2 #[.new (.sortD (.ix .(5) (2:)))])) (.call (.call "_law_bolt_of" 2 #[.(5),.new (.sortD (.ix .(5) (2:)))])))))]
def jaa:IB:=.cons (.a 12 12 (.dat (.call (.call "_law_bad" 3 (.io 1 1 #[.(8),.(4)]))))) (.cons (.a 9 9 (.own (.cat .(9) (.new (.lst #[.(12),.call (.call "_law_deed" 3 (.io 1 1 #[.(8),.(4)]))]))))) (.cons (.a 13 13 (.own (.sortD (.ix .(8) (2:))))) (.cons (.f (.p .Eq (.call (.call "_law_take" 2 (.io 1 1 #[(4:)]))) (0:)) #[.app 13 13 (.q "qqqqqqqqq")] .nil) jah)))
def jan:IB:=.cons (.a 7 7 (.dat (.call (.m 3 3 "House" "book" "House.book" 1 .nil)))) (.cons (.a 8 8 (.dat .(5))) (.cons (.a 9 9 (.own (.lst .nil))) (.cons (.loop (.nm 10 10) (.range (.call (.call "_law_take" 2 (.io 1 1 #[(6:)])))) jav) jaa)))
end
def defs:List DefI:=(zjU::zdK::Ve::yK::KE::KD::yH::WQ::yG::YI::Jc::Vd::wS::wR::wT::wU::WP::WO::wP::wQ::KC::wY::yJ::Vb::wW::wX::Va::YJ::KF::WR::yI::Qf::yF::J0::J1::Vc::KG::YH::wV::Ja::yD::WN::WM::WI::wK::WJ::yE::wM::JZ::wN::WH::Jb::wO::v9::wL::YD::KA::YG::YF::JX::zbG::zbE::Ks::Kw::Kt::v8::YE::v7::Kx::YB::WG::JW::WF::wI::KB::zbD::Ky::WE::YC::zbF::yB::wJ::Ku::YA::yC::v6::Kz::JY::zbC::Kv:: [])
section
local macro_rules|`(#[$a])=>`(.cons $a .nil)|`(#[$a,$b,*])=>`(.cons $a #[$b,*])|`(.($n:num))=>`(.x $n $n)|`(($n:num :))=>`(.k $n)
def lawB:IB:=.cons (.a 2 2 (.dat (.call (.call "_law_pots" 1 (.io 1 1 .nil))))) (.cons (.a 3 3 (.make "House" "House.__init__" 2 #[.(2)])) (.cons (.a 4 4 (.dat (.call (.call "_law_pool" 1 (.io 1 1 .nil))))) (.cons (.a 5 5 (.dat (.call (.call "_law_begun" 4 (.io 1 1 (.io 3 3 #[.call (.call "_law_kept" 1 #[.(2)]),.(4)])))))) (.cons (.a 6 6 (.dat (.call (.call "_law_take" 2 (.io 1 1 #[(7:)]))))) (.cons (.f (.and (.p .Eq .(6) (6:)) (.p .Gt .(2) (0:))) #[.a 5 5 (.dat (.call (.call "_law_deep" 2 (.io 3 3 #[.(5)]))))] .nil) (.cons (.a 5 5 (.dat (.call (.call "_law_worked" 5 (.io 1 1 (.io 3 3 #[.(5),.(4),.(6)])))))) jan))))))
end
def W:Wd:=#[["all","any","dict","enumerate","int","len","list","max","min","range","set","sorted","tuple"],[("DEEPEST",9),("MOST_CELLS",40),("MOST_LETTERS",8)],[("LETTERS","abcdefghijklmnopqrstuvwxyz")],defs.filterMap (λd=>match d.kd with | .fn=>some (d.name,d.ps.length) | _=>none),[("DEEDS",[("hang","behind_hang"),("fold","behind_fold"),("twin","behind_twin"),("wish","behind_wish"),("wax","behind_wax"),("dip","behind_dip"),("boil","behind_boil"),("brew","behind_brew")])],[("House","done"),("House","first"),("House","places"),("House","pots"),("House","undone"),("Stand","cloths"),("Stand","fresh")],[("House","House.__init__",2),("Stand","Stand.__init__",3)],[("House","bolt","House.bolt",2),("House","book","House.book",1),("House","do","House.do",2),("House","now","House.now",1),("House","would","House.would",3)],["BadSize","BadWish","NoCell","NoCloth","NoDye","NoName","Spent","StillFresh","Taken","TooDeep","Twice"]]
abbrev sBox:Stmt:=top 69
abbrev sLaw:Stmt:=top 105
def LN:Ab:= ["_law_script","_law_box_here","_law_pots_here","_law_house","_law_pool_here","_law_kept_here","_law_many","_law_book","_law_then","_law_deeds","_law_k","_law_deed_here","_law_bad_here","_law_names","_law_handed"]
def okLaw [Cs]:∀ cf k,lawB.chk cf k W (defScope sLaw) LN [] 0 (defBody sLaw).tail=true:=λcf k=>by kernel_rfl
structure zjx(cf:CF):Prop where
 take:qF cf
 pots41:Ke cf
 house:yg cf
 pool:Kc cf
 kept:k6 cf
 begunJ:kT cf
 deepA:V9 cf
 worked:Wt cf
 hbook:yf cf
 ldeed:ZR cf
 lword:ZS cf
 did:QQ cf
 bad:zdm cf
 wsaid:ym cf
 hbolt:ye cf
 lboltof:yh cf
abbrev cN:=Vz defs
def ok60(n:Nat):zjx (cN (n+20)):=by
 have z0 k:yj (cN (k+1)):=zfb _;have e k:qF (cN (k+2)):=ziV _ (z0 k);have z2 k:Ke (cN (k+3)):=zhX _ (e k);have s k:QB (cN (k+1)):=zgl _;have z4 k:zds (cN (k+2)):=zkk _ (s k);have z5 k:yg (cN (k+3)):=zeU _ (z4 k);have F k:Qz (cN (k+1)):=zac _;have z7 k:w5 (cN (k+3)):=zfd _ (e k) (F (k+1));have z8 k:Kc (cN (k+4)):=zhW _ (e (k+1)) (z7 k);have z9 k:k6 (cN (k+1)):=zhu _;have z k:Vl (cN (k+1)):=zkl _;have o k:Qi (cN (k+2)):=zi7 _ (s k);have zc k:Wn (cN (k+1)):=K9 _;have G k:QA (cN (k+2)):=Y6 _ (zc k);have ze k:kS (cN (k+1)):=zgZ _;have zf k:kZ (cN (k+3)):=zhn _ (o k) (G k) (ze (k+1));have l k:jX (cN (k+1)):=zeQ _;have zh k:kY (cN (k+2)):=zhj _ (s k) (l k);have zi k:Kg (cN (k+3)):=ziX _ (o k) (l (k+1)) (G k);have H k:zaB (cN (k+1)):=zj6 _;have zk k:zdt (cN (k+1)):=zkE _;have I k:yp (cN (k+2)):=zi6 _ (H k) (zk k);have zm k:yo (cN (k+3)):=zgE _ (o k) (l (k+1)) (I k);have zn k:yn (cN (k+2)):=zi4 _ (H k);have zo k:Kh (cN (k+3)):=zi1 _ (o k) (l (k+1)) (zn k);have t k:ZH (cN (k+2)):=zbA _ (l k);have A k:Ys (cN (k+1)):=zj2 _;have J k:zaE (cN (k+2)):=zkG _ (s k);have zs k:ya (cN (k+1)):=YL _;have K k:Wm (cN (k+2)):=#[λi cs d hp hb hd=>zbJ (cN (k+1)) (zs k) hp hb hd,λd=>KH (cN (k+1)) d];have zu k:kX (cN (k+3)):=zg8 _ (o k) (t k) (A (k+1)) (J k) (K k);have zv k:JL (cN (k+1)):=Ko _;have zw k:V7 (cN (k+3)):=zdD _ (o k) (t k) (zv (k+1));have zx k:kU (cN (k+3)):=zg2 _ (A (k+1)) (J k);have zy k:zaA (cN (k+3)):=#[zf k,zh (k+1),zi k,zm k,zo k,zu k,zw k,zx k];have L k:Qg (cN (k+4)):=zbl _ (zy k);have w k:yb (cN (k+5)):=zlX _ (z (k+3)) (L k);have EY k:V6 (cN (k+1)):=zdC _;have EW k:k9 (cN (k+1)):=zhy _;have EV k:zdr (cN (k+1)):=#[λi cs d hp hb=>zhw (cN k) hp hb d,λd=>ze6 (cN k) d];have EU k:Wo (cN (k+1)):=zcD _;have r k:QQ (cN (k+2)):=zjV _ #[EY k,EW k,EV k,EU k];have ET k:kT (cN (k+6)):=zbj _ (e (k+3)) (w k) (r (k+3));have ES k:V9 (cN (k+6)):=zdN _ (w k) (r (k+3));have E k:Qy (cN (k+3)):=Yt _ (e k);have Z k:QY (cN (k+3)):=yU _ (e k);have D k:w6 (cN (k+3)):=λb hb size y=>zfH (cN (k+2)) (e k) hb y;have Y k:Ws (cN (k+3)):=zdd _ (e k);have X k:zaD (cN (k+4)):=λb hb size y=>zfF (cN (k+3)) (e (k+1)) (D k) hb y;have W k:zdq (cN (k+3)):=λb hb ds al hl=>zg6 (cN (k+2)) (e k) hb hl;have V k:yd (cN (k+4)):=zeP _ (e (k+1)) (W k) (E k);have U k:k8 (cN (k+3)):=zhx _ (e k);have v k:ZR (cN (k+5)):=ze5 _ #[e (k+2),E (k+1),Z (k+1),D (k+1),Y (k+1),X k,V k,U (k+1)];have T k:JN (cN (k+2)):=YZ _ (F k);have S k:JO (cN (k+3)):=Y7 _ (T k);have C k:Zr (cN (k+1)):=Vf _;have R k:yi (cN (k+1)):=#[λi cs d hb hd=>ze7 (cN k) hb hd,λd=>zcF (cN k) d];have Q k:JM (cN (k+2)):=YN _ (C k) (R k);have B k:zaC (cN (k+1)):=λxs size hx=>zfN (cN k) hx size;have P k:QX (cN (k+2)):=#[(Jr (cN (k+1)) (B k)).wax,(Jr (cN (k+1)) (B k)).wish];have u k:ZS (cN (k+4)):=ze8 _ #[S k,C (k+2),Q (k+1),P (k+1)];have O k:Wt (cN (k+6)):=zdg _ (v k) (u (k+1)) (w k) (r (k+3));have N k:yf (cN (k+1)):=zeS _;have M k:zdm (cN (k+6)):=zjE _ (v k) (u (k+1));have Ey k:Wp (cN (k+1)):=zhA _;have Ex k:Wq (cN (k+2)):=zhB _ (Ey k);have Ew k:yc (cN (k+1)):=zj1 _;have Eu k:Wj (cN (k+2)):=zbz _ (l k);have h k:zdl (cN (k+3)):=#[Ex (k+1),l (k+2),A (k+2),Ew (k+2),t (k+1),Eu (k+1),I (k+1),zn (k+1),K (k+1)];have Et k:zjc (cN (k+4)):=#[λp fr c n j a b=>zhm (h k) p fr c n j a b,λfr c n a=>zhi (h k) fr c n a,λp fr c n m a b=>ziW (h k) p fr c n m a b,λp fr c n a xs f g q x=>zi5 (h k) p fr c n a xs f g q x,λp fr c n xs f g q=>zlD (h k) p fr c n xs f g q,λp fr c ns j f g q x h5=>zjX (h k) p fr c ns j f g q x h5,λfr c ns f g=>zg0 (h k) fr c ns f g,λp fr c d f g=>zg1 (h k) p fr c d f g];have Er k:Jn (cN (k+5)):=zbk _ (Et k);have Ep k:yq (cN (k+6)):=zgG _ (z (k+4)) (L (k+1)) (Er k);have Eo k:ym (cN (k+7)):=zgL _ (Ep k);have Em k:Wi (cN (k+3)):=Kp _ (t k);have El k:ye (cN (k+4)):=zeR _ (z (k+2)) (Em k);have Ek k:yh (cN (k+1)):=ze4 _;exact#[e (n+18),z2 (n+17),z5 (n+17),z8 (n+16),z9 (n+19),ET (n+14),ES (n+14),O (n+14),N (n+19),v (n+15),u (n+16),r (n+18),M (n+14),Eo (n+13),El (n+16),Ek (n+19)]
section
variable (p:Nat)(F:PyData)(q:Ab)(m:Int)
def GG(b:OV)(o:Ao)(K:PyData)(r s v o10 o11 c i l:Option OV):Gv:= [none,some b,@&(.int p),some (hV p F o [] []),@&(qw q),@&K,@&(.int m),r,s,v,o10,o11,c,i,l]
end
def zc2{pool:Ab}{p:Nat}{fr:List Bool}{c:Cls}(S:StOk pool p fr c)(hp:↑pool<=50):zaF c (qc ((clD c).map (·.1))):=#[va S,by have:=S.len;rw[(qD _).length_eq];simp[clD];lia,by rw[(qD _).length_eq];simp[clD],λn h=>zaU h]
section
variable {cf:CF}(h:zjx cf){pool q:Ab}(hp:↑pool<=50)(hN:∀ n∈pool,Nm n){p:Nat}{F:PyData}{m:Int}{fr:List Bool}{c:Cls}{dn:Ao}(S:StOk pool p fr c)(hq:QP F dn=stA fr c)(Ba:↑dn<=1000)(hD:DnL dn)
include h hp hN S hq Ba hD
def zjd {b:OV}{ds:List Deed}{d e:Deed}(G:Zd pool p ds fr c) (l:d.Fit) (hw:d.w p (qJ ds fr) (qm p ds c)≠ "") (B:StOk pool p (qJ ds fr) (qm p ds c)) (hl:↑ds<=100) (A:∀ x∈ds,∀ n∈x.nms,Asc n) (L:∀ n∈d.nms,Asc n) (z:∀ n∈e.nms,Asc n) (xs:Ab){o10 o11:Option OV} :
  ∃ v,jah.ex cf [] (GG p F q m b dn (zJ p fr c) (@&(.list (dn.map (·.1)))) (@&(zJ p (qJ ds fr) (qm p ds c))) (some (.l ((ds.map Deed.D++ [d.D,e.D]).map .d))) o10 o11 (some (.d d.D)) (some (.l (xs.map λn=>.d (.str n)))) none)=.ok (.ret (.d (.bool true)),v):=by
 let a:↑(ds.map Deed.D++ [d.D,e.D])<=1000000:=by simp;lia
 let f:=h.wsaid pool p fr c p F dn ds d [e.D] (.list (xs.map .str)) (by lia) hN S hq G l hw a;let w:=h.lword pool p (qJ ds fr) (qm p ds c) d B l;let l1:=zaV p (qJ ds fr) (qm p ds c) d;let E:=Wc l1;let l2:lay 20 (.list (ds.map Deed.D++ [d.D,e.D]))=true:=vc λx hx=>by
  rcases xJ.mp hx with hx | hx
  ·let(y,g,rfl):=xv.mp hx;erw[Zh (A y g)]
  ·simp only[xA,uw,or_false]at hx;rcases hx with rfl | rfl
   ·erw[Zh L]
   ·erw[Zh z]
 let H:=Wc l2;let i:=h.hbook p F dn (by lia);let l3:lay 20 (.list (dn.map (·.1)))=true:=vc λx hx=>by
  let(y,g,rfl):=xv.mp hx;erw[hD y g]
 let I:=Wc l3;let hK:=zc2 S hp;let j:=h.hbolt pool p fr c p F dn _ S hq hK;let k:=h.lboltof pool p fr c _ S hK;let o:lay 20 (zB (ql c (qc ((clD c).map (·.1)))))=true:=ze1 17 _;let J:=Wc o;let D:atI (zI p fr c) 2\(.dict ((clD c).map dK)):=rfl;let C:=zN (clD c);let u:↑(clD c)<64:=by have:=S.len;simp[clD];lia
 let v1:=qu (ds.map Deed.D++ [d.D,e.D]);let v2:=vX xs;let v3:=qu (dn.map (·.1));let v4:=qu ((ql c (qc ((clD c).map (·.1)))).map Cl.D);let s:↑((ds.map Deed.D++ [d.D,e.D]).map OV.d)<=1000000:= ~~~a;let lv:=Qq (ds.map Deed.D++ [d.D,e.D]);let r:zJ p fr c=.list (zI p fr c):=rfl;let(Z,g1):=jJ p F dn;unfold GG;unfold qw zB at *;rw[g1]at f i j |-
 rw[r]at k |-
 rwa[d.w p (qJ ds fr) (qm p ds c)=W,zJ p (qJ ds fr) (qm p ds c)=U,(ds.map Deed.D++ [d.D,e.D]).map OV.d=Y,ds.map Deed.D++ [d.D,e.D]=X,(dn.map (·.1)).map OV.d=N,dn.map (·.1)=M,((ql c (qc ((clD c).map (·.1)))).map Cl.D).map OV.d=R,(ql c (qc ((clD c).map (·.1)))).map Cl.D=P];generalize t:(qc ((clD c).map (·.1))).map PyData.str=V at *;rwa[(xs.map λn=>OV.d (.str n))=XO,xs.map PyData.str=XX,zI p fr c=K,(clD c).map dK=Q,clD c=O,d.D=T];rw[<- v2]at f;exact#[_,by simp? [jah,f,w,i,j,k,zcY,l1,E,l2,H,l3,I,o,J,D,C,u,t,v1,v2,v3,v4,a,s,lv,zA,ja,cs1]]
def zdA{b:OV}(hb:zQ b){ds:List Deed}(B:1<=↑q)(H:↑q<=10)(E:∀ n∈q,Nm n)(G:Zd pool p ds fr c)(l:StOk pool p (qJ ds fr) (qm p ds c))(hl:↑ds<=100)(J:∀ x∈ds,∀ n∈x.nms,Asc n){o10 o11:Option OV} :
  ∃ i,jaa.ex cf [] (GG p F q m b dn (zJ p fr c) (@&(.list (dn.map (·.1)))) (@&(zJ p (qJ ds fr) (qm p ds c))) (some (.l ((ds.map Deed.D).map .d))) o10 o11 none none none)=.ok (.ret (.d (.bool true)),i):=by
 let(d,b1,L,T,hw,o,g):=h.bad b hb pool q p _ _ l hp hN B H E;let(e,b2,_,_,I,r,j):=h.ldeed b1 o pool p _ _ q l B H E hp hN;let(t,A,_,_,ak,D):=h.take b2 r 4 (by decide) (by decide);let R:atI (zI p (qJ ds fr) (qm p ds c)) 2\(.dict ((clD (qm p ds c)).map dK)):=rfl;let O:=zN (clD (qm p ds c));let hcl:=l.len;let C:↑(clD (qm p ds c))<64:=by simp[clD];lia
 let u:↑(qc ((clD (qm p ds c)).map (·.1)))<1000000:=by rw[(qD _).length_eq];simp[clD];lia
 let M:∀ s,(IB.cons s jah).ex cf []=sSeq (s.ex cf []) (jah.ex cf []):=λs=>rfl;let lv:=Qq (ds.map Deed.D);let P:↑((ds.map Deed.D).map OV.d)+2<=1000000:=by simp;lia
 let z:↑(ds.map Deed.D)+2<=1000000:=by simp;lia
 let v1:=qu (ds.map Deed.D);let v:∀ xs:Ab,(xs.map PyData.str).map OV.d=xs.map λn=>OV.d (.str n):=λxs=>by simp
 let y:(ds.map Deed.D++ [d.D,e.D]).map OV.d=(ds.map Deed.D).map OV.d++ [.d d.D,.d e.D]:=by simp
 let w:zJ p (qJ ds fr) (qm p ds c)=.list (zI p (qJ ds fr) (qm p ds c)):=rfl;by_cases N:t=0
 ·subst N;let(i,a):=zjd h hp hN S hq Ba hD (b:=A) (q:=q) (m:=m) (e:=e) G L hw l hl J T I (qc ((clD (qm p ds c)).map (·.1))++ [("qqqqqqqqq" :Str)]) (o10:=o10) (o11:=o11);refine#[i,?_];let X:((qc ((clD (qm p ds c)).map (·.1))++ [("qqqqqqqqq" :Str)]).map λn=>OV.d (.str n))=(qc ((clD (qm p ds c)).map (·.1))).map (λn=>OV.d (.str n))++ [.d (.str "qqqqqqqqq")]:=by simp
  rw[y,X]at a;let bq:↑((qc ((clD (qm p ds c)).map (·.1))).map λn=>OV.d (.str n))<1000000:= ~~~u;let f:=v (qc ((clD (qm p ds c)).map (·.1)));unfold GG at a |-
  rw[w]at g j a |-
  let(X1,g1):=jJ p F dn;rw[g1]at a |-
  rwa[zJ p fr c=K,zI p (qJ ds fr) (qm p ds c)=K2,qw q=Q,ds.map Deed.D=LL,d.D=Y,e.D=Z,((qc ((clD (qm p ds c)).map (·.1))).map λn=>OV.d (.str n))=XO];generalize k:(qc ((clD (qm p ds c)).map (·.1))).map PyData.str=KS at *;rwa[(clD (qm p ds c)).map dK=W,clD (qm p ds c)=V];unfold jaa;rwa[jah=U];simp? [jaa,M,g,j,D,a,R,O,C,k,f,bq,lv,P,z,v1,K5,zL,zT,zA,ja,cs1]
 ·let mv:(t==0)=false:=Xb.mpr N;let(i,a):=zjd h hp hN S hq Ba hD (b:=A) (q:=q) (m:=m) (e:=e) G L hw l hl J T I (qc ((clD (qm p ds c)).map (·.1))) (o10:=o10) (o11:=o11);refine#[i,?_];rw[y]at a;let f:=v (qc ((clD (qm p ds c)).map (·.1)));unfold GG at a |-
  rw[w]at g j a |-
  let(X1,g1):=jJ p F dn;rw[g1]at a |-
  rwa[zJ p fr c=K,zI p (qJ ds fr) (qm p ds c)=K2,qw q=Q,ds.map Deed.D=LL,d.D=Y,e.D=Z,((qc ((clD (qm p ds c)).map (·.1))).map λn=>OV.d (.str n))=XO];generalize k:(qc ((clD (qm p ds c)).map (·.1))).map PyData.str=KS at *;rwa[(clD (qm p ds c)).map dK=W,clD (qm p ds c)=V];unfold jaa;rwa[jah=U];simp? [jaa,M,g,j,D,a,mv,R,O,C,k,f,lv,P,z,v1,K5,zL,zT,zA,ja,cs1]
def VN {b:OV}(hb:zQ b) (M:1<=↑q) (T:↑q<=10) (X:∀ n∈q,n∈pool) (hz:("zzzzzzzz" :Str)∈pool):∃ l,jan.ex cf [] (GG p F q m b dn (zJ p fr c) none none none none none none none none)=.ok (.ret (.d (.bool true)),l):=by
 let N:=h.hbook p F dn (by lia);let(r,J,g1,dh,z,e1):=h.take b hb 6 (by decide) (by decide);let(n,rfl):=xw g1;let P:∀ n∈q,Nm n:=λn C=>hN n (X n C);let(l,w,b2,ds,o10,a,A,G,o,hl,e,rfl):=qS (t:=.nm 10 10) (body:=jav.ex cf []) (ds:=qi n) (U:=GG p F q m J dn (zJ p fr c) (@&(.list (dn.map (·.1)))) (@&(zJ p fr c)) (some (.l [])) none none none none none)
  (λpre U=>∃(b:OV)(ds:List Deed)(o10 a:Option OV),zQ b/\Zd pool p ds fr c/\(∀ x∈ds,∀ n∈x.nms,Asc n)/\↑ds<=↑pre/\StOk pool p (qJ ds fr) (qm p ds c) /\
   U=GG p F q m b dn (zJ p fr c) (@&(.list (dn.map (·.1)))) (@&(zJ p (qJ ds fr) (qm p ds c))) (some (.l ((ds.map Deed.D).map .d))) o10 a none none none)
  #[J,[],none,none,z,trivial,(λ_ h=>nomatch h),xh _,S,rfl] (by
   rintro pre x post ex U ⟨b,ds,o10,a,hb,G,o,hl,e,rfl⟩;let hlen:↑pre<n:=by
    have:=congrArg List.length ex;rw[zF]at this;simp at this;lia
   let(d,I,R,hM,rg,i,f):=h.ldeed b hb pool p _ _ q e M T P hp hN;let k:=h.lword pool p _ _ d e R;let B:=zaV p (qJ ds fr) (qm p ds c) d;let L:lay 20 (.str "")=true:=by kernel_rfl
   let hK:zJ p (qJ ds fr) (qm p ds c)=.list (zI p (qJ ds fr) (qm p ds c)):=rfl;by_cases g:d.w p (qJ ds fr) (qm p ds c)= ""
   ·let u:Qh pool (qJ ds fr) (qm p ds c) d:=d.good e R (λn C g=>(hM n C).elim (X n) λh=>zjo h g ▸ hz) g;let O:=h.did pool p _ _ d (by lia) e u;let v:PyData.eqv (.str "") (.str "")=true:=by decide
    refine#[_,_,rfl,?_,I,ds++ [d],@&x,some (.d d.D),i,VO ds fr c G u,λy j=>?_,by simp;lia,by rw[J4,J3];exact e.step u,rfl]
    ·rw[J4,J3];let vv:=qu (zI p (d.fr (qJ ds fr)) (d.cl p (qm p ds c)));let gf:zJ p (d.fr (qJ ds fr)) (d.cl p (qm p ds c))=.list (zI p (d.fr (qJ ds fr)) (d.cl p (qm p ds c))):=rfl;let mi:↑((ds.map Deed.D).map OV.d)<1000000:=by simp;lia
     let V:((ds++ [d]).map Deed.D).map OV.d=(ds.map Deed.D).map OV.d++ [.d d.D]:=by simp
     unfold GG;rw[g]at k;rw[gf,V];rw[hK]at f k O |-
     let(H,g1):=jJ p F dn;rw[g1];rwa[zJ p fr c=Z,zI p (d.fr (qJ ds fr)) (d.cl p (qm p ds c))=K2,zI p (qJ ds fr) (qm p ds c)=K,(ds.map Deed.D).map OV.d=E,d.D=Y,qw q=Q];simp? [jav,f,k,O,vv,v,L,mi,zA,ja,cs1]
    ·rcases xJ.mp j with j | j
     ·erw[o y j]
     ·cases uj.mp j;exact rg
   ·let v:PyData.eqv (.str (d.w p (qJ ds fr) (qm p ds c))) (.str "")=false:=by
     show (d.w p (qJ ds fr) (qm p ds c)== "")=false;erw[Xb.mpr g]
    refine#[_,_,rfl,?_,I,ds,@&x,some (.d d.D),i,G,o,by simp;lia,e,rfl];unfold GG;let(H,g1):=jJ p F dn;rw[g1];rwa[zJ p fr c=Z,d.w p (qJ ds fr) (qm p ds c)=W,zJ p (qJ ds fr) (qm p ds c)=K,(ds.map Deed.D).map OV.d=E,d.D=Y,qw q=Q];simp? [jav,f,k,v,B,L,zA,ja,cs1])
 rw[zF]at hl;let(l,f):=zdA h hp hN S hq Ba hD (m:=m) A M T P G e (by lia) o (o10:=o10) (o11:=a);refine#[l,?_];let hs:∀ s,(IB.cons s jaa).ex cf []=sSeq (s.ex cf []) (jaa.ex cf []):=λs=>rfl;let D:=zF n;let de: -1000000<=(n:Int)/\(n:Int)<=1000000:=by lia
 let ao:n<=1000000:=by lia
 let v1:=qu (dn.map (·.1));unfold GG at w f |-
 let(H,q1):=jJ p F dn;rw[q1]at N w f |-
 rwa[zJ p (qJ ds fr) (qm p ds c)=K2,zJ p fr c=K,qw q=Q,(ds.map Deed.D).map OV.d=E,(dn.map (·.1)).map OV.d=BO,dn.map (·.1)=BB];unfold jan;rwa[jav=B1,jaa=B3];simp? [jan,hs,N,e1,w,f,v1,de,ao,D,zA,ja,cs1]
end
def law_run(cf:CF)(h:zjx cf)(cells:List Int)(i l t s:Int)(hi:0<=i):∃ o,lawB.ex cf [] (none::some (QO cells i l t s)::List.replicate (↑LN-2) none)=.ok (.ret (.d (.bool true)),o):=by
 let hB:zQ (QO cells i l t s):=#[_,_,_,_,_,hi,rfl];generalize QO cells i l t s=b at hB;let(p,b1,U,Q,L):=h.pots41 b hB;let k:=h.house p U;let hF:stV (List.replicate p (.bool true)) []=stA (List.replicate p true) []:=by
  unfold stA frD clD;rw[uy];rfl
 rw[hF]at k;let(ns,b2,C,Ha,FA,R,N):=h.pool b1 Q;let q:=h.kept p U;let S0:StOk (ns++ [("zzzzzzzz" :Str)]) p (List.replicate p true) []:=#[U,by simp,(λ_ h=>nomatch h),.nil,(λ_ h=>nomatch h)];let hN:∀ n∈ns++ [("zzzzzzzz" :Str)],Nm n:=λn r=>(xJ.mp r).elim (FA n) λh=>uj.mp h ▸ #[by decide,by decide,by decide];let e:(ns++ [("zzzzzzzz" :Str)]).length<=50:=by simp;lia
 let H0:Hb (ns++ [("zzzzzzzz" :Str)]) p (stA (List.replicate p true) []) 0 (List.replicate p true) [] []:=#[#[S0,rfl,xh _],(λ_ h=>nomatch h),(λ_ h=>nomatch h),λj hj=>by simp[xQ,hj]];let(b3,fr,c,v,ak,H,f):=h.begunJ b2 R _ ns p _ _ p _ _ 0 e hN (λn r=>xU _ r) (by lia) H0 (by lia);let(m,Z,m0,m1,gx,w):=h.take b3 ak 7 (by decide) (by decide);let(M,rfl):=xw m0;let A:("zzzzzzzz" :Str)∈ns++ [("zzzzzzzz" :Str)]:=by simp
 let B:∀ n∈ns,n∈ns++ [("zzzzzzzz" :Str)]:=λn r=>xU _ r;let S:∀ s,(IB.cons s jan).ex cf []=sSeq (s.ex cf []) (jan.ex cf []):=λs=>rfl;let v2:=vX ns;let u:qw ns=.list (ns.map .str):=rfl;let vk:=qu (zI p (List.replicate p true) []);let(X0,q0):=jJ p (stA (List.replicate p true) []) [];let hl0:=H.l;by_cases hd:M=6/\0<p
 ·let(rfl,BU):=hd;let(X,c2,Y,I,Gx,x):=h.deepA _ p fr c p _ v _ e hN BU H (by lia);let hl2:=I.l;let(b5,T,K,E,F,J,D,t6,G,a):=h.worked Z gx _ ns p X c2 p _ Y 6 e hN C (by lia) B A I.S I.q (by decide) (by lia) Gx;let(o,d):=VN h e hN J D (by lia) G (m:=(6:Nat)) F C (by lia) B A;refine#[o,?_];let BS:(0:Int)<(p:Int):=by lia
  unfold GG at d;let(X1,V):=jJ p (stA (List.replicate p true) []) v;let(X2,q2):=jJ p (stA (List.replicate p true) []) Y;let(X3,W):=jJ p (stA (List.replicate p true) []) E;rw[q0]at k f;rw[V]at f x;rw[q2]at x a;rw[W]at a d;let h6:((6:Nat):Int)=6:=rfl;rw[h6]at w a d;simp only[zJ]at q f x a d;rwa[zI p T K=K3,zI p X c2=K2,zI p fr c=K1,zI p (List.replicate p true) []=K0];rw[u]at *;rwa[ns.map PyData.str=NS,(ns.map λn=>OV.d (.str n))=NO,(p:Int)=P];let O:List.replicate (↑LN-2) (none:Option OV)= [none,none,none,none,none,none,none,none,none,none,none,none,none]:=rfl;rw[O];rw[<- vk,<- v2]at f;rw[<- v2]at a d;simp? [lawB,S,k,L,N,q,f,w,x,a,d,zL,BS,zA,ja,cs1]
 ·let(b5,T,K,E,F,J,D,t6,G,a):=h.worked Z gx _ ns p fr c p _ v M e hN C (by lia) B A H.S H.q (by lia) (by lia) H.dl;let(o,d):=VN h e hN J D (by lia) G (m:=(M:Nat)) F C (by lia) B A;refine#[o,?_];unfold GG at d;let(X1,V):=jJ p (stA (List.replicate p true) []) v;let(X3,W):=jJ p (stA (List.replicate p true) []) E;rw[q0]at k f;rw[V]at f a;rw[W]at a d;simp only[zJ]at q f a d;rwa[zI p T K=K3,zI p fr c=K1,zI p (List.replicate p true) []=K0];rw[u]at *;rwa[ns.map PyData.str=NS,(ns.map λn=>OV.d (.str n))=NO];let As:((M:Int)==6)=true->¬ (0:Int)<(p:Int):=λz=>by
   have:=eq_of_beq z;lia
  rwa[(p:Int)=P];generalize hMM:(M:Int)=MM at *;let O:List.replicate (↑LN-2) (none:Option OV)= [none,none,none,none,none,none,none,none,none,none,none,none,none]:=rfl;rw[O];rw[<- vk,<- v2]at f;rw[<- v2]at a d;let y:PyData.eqv (.int MM) (.int 6)=(MM==6):=zT ..
  cases g:MM==6 with
  |true=>
   rw[g]at y;have:=As g;simp? [lawB,S,k,L,N,q,f,w,a,d,zL,y,this,zA,ja,cs1]
  |false=>
   rw[g]at y;simp? [lawB,S,k,L,N,q,f,w,a,d,zL,y,zA,ja,cs1]
section
variable [L2.Cs]{P:Ar}{w:World}{K:Ah}{mg:Aq}{base:Heap}
def zdI(ns:List Int)(lo hi:Option Int):∃ ms:List Int,JV (ns.map V.int) lo hi=ms.map V.int/\↑ms<=↑ns:=by
 refine#[(ns.drop (HT.sIx ↑(ns.map V.int) 0 lo)).take (HT.sIx ↑(ns.map V.int) ↑(ns.map V.int) hi-HT.sIx ↑(ns.map V.int) 0 lo),?_,?_]
 ·unfold JV;rw[List.map_take,uX]
 ·rw[xM,uD];lia
def scBox:Zq ["_law_script","_law_seed","_law_cell"] ["_law_script"] (defScope sBox):=#[rfl,rfl,rfl,by decide +kernel,rfl,by decide +kernel,by decide +kernel]
def kn_box (D:Df K mg "_law_box" sBox ["_law_script"]) (B:mg "list" =none):Kn P w K mg base CX0 "_law_box" 1 (zgf K) :=
 D.kn (k:=0) scBox (λr H Q E ⟨a,ns,e,_⟩=>by rw[e];rfl) λf t A outer s H r Q E u ⟨a,ns,e,h,hlen,m⟩=>by
  subst e;refine PSs.wp (Qt (wg (i:=1) scBox.nd rfl (Or.inl rfl) pe_int)
   (Qt (zfJ PassesOwn.never rfl (y9 (Jy Yh (pv 0) Yc (Yd pe_int))) (zaZ (i:=2) scBox.nd rfl (Or.inl rfl))
    (JA (wg (i:=1) scBox.nd rfl (Or.inl rfl) (vt zfl (vt zai (vt zai (vt zfm (pv 1) pe_int) (pv 2)) pe_int) pe_int))))
   (JA (zal (zfv (zY (jU Jp rfl B Q7 (zY (Jy Yh (pv 0) Yc (Yd pe_int)) pa_nil)) (zY pe_int (zY pe_int (zY pe_int (zY (pv 1) pa_nil)))))))))) ?_
  let(ms,d,y):=zdI ns none (some 63);refine⟨_,rfl,_,rfl,a,_,rfl,h,λq n=>⟨q,rfl,⟨_,SqL.of zK⟩,zeK (K:=K) (a:=q) (xs:=JV (ns.map V.int) none (some 63)) (λi O c=>c=upd H q (.lst (JV (ns.map V.int) none (some 63)))/\∃ sd v,O= [some (.ref a),some (.int sd),v])
   #[rfl,0,none,rfl] (λi O c _ ⟨e,_⟩=>by rw[e];exact SqL.of zK) ?_ ?_⟩⟩
  ·rintro i x O c hx ⟨rfl,sd,v,rfl⟩;obtain⟨z,rfl⟩:∃ z,x=V.int z:=by
    rw[d]at hx;have:=uk hx;let(z,_,rfl):=xv.mp this;exact#[z,rfl]
   refine#[_,rfl,_,_,rfl,rfl,.inr (by decide),_,rfl,_,_,rfl,rfl,_,_,rfl,rfl,_,_,rfl,rfl,(by show (0:Int)<2147483647;decide),?_];exact#[rfl,_,_,rfl]
  ·rintro O c ⟨rfl,sd,v,rfl⟩;let s1:Same H (upd H q (.lst (JV (ns.map V.int) none (some 63)))):=qg n;refine#[_,rfl,_,rfl,a,_,rfl,s1.seq h,λp j=>#[p,_,rfl,.inl (SqL.of zK),λl nl=>#[_,rfl,(by show 5<=sizeLine;decide),λb nb=>?_]]];let s2:=s1.trans (qg (o:=.lst (JV (ns.map V.int) none (some 63))) j);let s3:=s2.trans (qg (o:=.lst (JV (ns.map V.int) none (some 63))) nl);let g:l≠b:=λe=>by rw[<- e,zK]at nb;cases nb
   refine m b _ (s3.trans (qg nb)) (s3.free nb) (by rw[zK];exact λz=>nomatch z) #[l,ms,0,0,0,sd,rfl,zK,?_,Int.le_refl 0];refine .list (vs:=ms.map V.int) (by rw[zH g,zK,d]) g (RepL.ints ms)
def hw:wOk defs W=true:=by kernel_rfl
def hgd (i:GD w K mg "DEEDS" [("hang","behind_hang"),("fold","behind_fold"),("twin","behind_twin"),("wish","behind_wish"),("wax","behind_wax"),("dip","behind_dip"),("boil","behind_boil"),("brew","behind_brew")]):∀ x c,W.gd.contains (x,c)=true->GD w K mg x c:=by
 intro x c h;let a:=ud.mp h;simp only[W,xA,uw,or_false,Prod.mk.injEq]at a;let(rfl,rfl):=a
 ·erw[i]
def okS:vI LN ["_law_script"] (defScope sLaw)=true:=by kernel_rfl
def oks [Cs]:∀ cf k,(defs.all λd=>d.ok W cf k)=true:=λcf k=>by kernel_rfl
end
end Lake.Wx
end
namespace Lake.Wx
end Lake.Wx
open PySem PySem.W PyProof.Rows
theorem PySem.Challenge.cw_waxcloth_k60_would_refused_holds : PySem.Challenge.rw_waxcloth_k60_would_refused.Holds := by
 w_on;refine PySem.W.holds_law Wh.saidL λE3=>?_
 refine PySem.W.holds_open (q:=Wh.Q) (loose:= ["DEEDS"]) (XP:=PySem.W.XL Wh.Q []) (YP:=PySem.W.Hook.says (PySem.W.kHook Wh.kz.heap_1 Wh.kz.asL Wh.asE)) (N:=13292) Wh.left (PySem.W.Hook.of (PySem.W.kHook Wh.kz.heap_1 Wh.kz.asL Wh.asE)) (PySem.W.Hook.keeps (PySem.W.kHook Wh.kz.heap_1 Wh.kz.asL Wh.asE)) (λs e=>PySem.W.xl_of s (xL.mp e).1) PySem.W.XL.keeps (by rfl) (by rfl) (by rfl) (λs e=>PySem.W.recFacts_of (xL.mp e).2) (by rfl) (by first | assumption | decide +kernel) (by decide +kernel) ⟨rfl,rfl,rfl,rfl,rfl,by decide +kernel⟩ ?hw ?hc
 (case hw=>w_witness2)
 k_fill
 haveI:L2.Cs:=⟨λ_=>0⟩;refine L2.walkL (l:=PySem.Challenge.rw_waxcloth_k60_would_refused) (k:=43) (st:=Wx.sLaw) rfl rfl ⟨rfl,by decide,by decide⟩ (λw h Y=>PySem.W.kIn_of Y) ?F
 case F=>
  intro w mg fa h KX G tu;letI:L2.Cs:=L3.csOf mg;have HD:L3.AllX (L2.KOf KX) mg Wx.defs:=by
   repeat' first | exact trivial | refine And.intro ?_ ?_ | (refine L3.dx_fn rfl ?_;first | (dsimp only [L2.KOf];refine' L2.Df.of KX G ?a ?l ?c ?k (λ_ _ _ _ _ _=>L3.el0 rfl);(case a=>k_is);(case l=>k_is);(case c=>k_is);(case k=>k_is)) | (dsimp only [L2.KOf];refine' L2.Df.of KX G ?a ?l ?c ?k (λ_ _ _ _ _ _=>L3.el1 λ_=>rfl);(case a=>k_is);(case l=>k_is);(case c=>k_is);(case k=>k_is)) | (dsimp only [L2.KOf];refine' L2.Df.of KX G ?a ?l ?c ?k (λ_ _ _ _ _ _=>L3.el2 λ_ _=>rfl);(case a=>k_is);(case l=>k_is);(case c=>k_is);(case k=>k_is)) | (dsimp only [L2.KOf];refine' L2.Df.of KX G ?a ?l ?c ?k (λ_ _ _ _ _ _=>L3.el3 λ_ _ _=>rfl);(case a=>k_is);(case l=>k_is);(case c=>k_is);(case k=>k_is)) | (dsimp only [L2.KOf];refine' L2.Df.of KX G ?a ?l ?c ?k (λ_ _ _ _ _ _=>L3.el4 λ_ _ _ _=>rfl);(case a=>k_is);(case l=>k_is);(case c=>k_is);(case k=>k_is)) | (dsimp only [L2.KOf];refine' L2.Df.of KX G ?a ?l ?c ?k (λ_ _ _ _ _ _=>L3.el5 λ_ _ _ _ _=>rfl);(case a=>k_is);(case l=>k_is);(case c=>k_is);(case k=>k_is))) | (refine L3.dx_me KX G rfl ?_;first | (dsimp only [L2.KOf];refine' L3.Dm.of (L3.ClsOf.mk ?n (L2.Cls.mk ?c1 ?c2 ?c3 ?c4)) ?a ?f ?l ?c ?k (λ_ _ _ _ _ _=>L3.el1 λ_=>rfl);(case n=>k_is);(case c1=>k_is);(case c2=>k_is);(case c3=>k_is);(case c4=>k_is);(case a=>k_is);(case f=>k_is);(case l=>k_is);(case c=>k_is);(case k=>k_is)) | (dsimp only [L2.KOf];refine' L3.Dm.of (L3.ClsOf.mk ?n (L2.Cls.mk ?c1 ?c2 ?c3 ?c4)) ?a ?f ?l ?c ?k (λ_ _ _ _ _ _=>L3.el2 λ_ _=>rfl);(case n=>k_is);(case c1=>k_is);(case c2=>k_is);(case c3=>k_is);(case c4=>k_is);(case a=>k_is);(case f=>k_is);(case l=>k_is);(case c=>k_is);(case k=>k_is)) | (dsimp only [L2.KOf];refine' L3.Dm.of (L3.ClsOf.mk ?n (L2.Cls.mk ?c1 ?c2 ?c3 ?c4)) ?a ?f ?l ?c ?k (λ_ _ _ _ _ _=>L3.el3 λ_ _ _=>rfl);(case n=>k_is);(case c1=>k_is);(case c2=>k_is);(case c3=>k_is);(case c4=>k_is);(case a=>k_is);(case f=>k_is);(case l=>k_is);(case c=>k_is);(case k=>k_is))) | (refine L3.dx_ini KX G rfl ?_;first | (dsimp only [L2.KOf];refine' L3.Di.of (L3.ClsOf.mk ?n (L2.Cls.mk ?c1 ?c2 ?c3 ?c4)) ?m ?a ?f ?kc ?l ?c ?k (λ_ _ _ _ _ _=>L3.el2 λ_ _=>rfl);(case n=>k_is);(case c1=>k_is);(case c2=>k_is);(case c3=>k_is);(case c4=>k_is);(case m=>k_is);(case a=>k_is);(case f=>k_is);(case kc=>k_is);(case l=>k_is);(case c=>k_is);(case k=>k_is)) | (dsimp only [L2.KOf];refine' L3.Di.of (L3.ClsOf.mk ?n (L2.Cls.mk ?c1 ?c2 ?c3 ?c4)) ?m ?a ?f ?kc ?l ?c ?k (λ_ _ _ _ _ _=>L3.el3 λ_ _ _=>rfl);(case n=>k_is);(case c1=>k_is);(case c2=>k_is);(case c3=>k_is);(case c4=>k_is);(case m=>k_is);(case a=>k_is);(case f=>k_is);(case kc=>k_is);(case l=>k_is);(case c=>k_is);(case k=>k_is)))
  have DB:L2.Df (L2.KOf KX) mg "_law_box" Wx.sBox ["_law_script"]:=by
   (dsimp only [L2.KOf];refine' L2.Df.of KX G ?a ?l ?c ?k (λ_ _ _ _ _ _=>L3.el1 λ_=>rfl);(case a=>k_is);(case l=>k_is);(case c=>k_is);(case k=>k_is))
  have Dg:L2.GD w (L2.KOf KX) mg "DEEDS" [("hang","behind_hang"),("fold","behind_fold"),("twin","behind_twin"),("wish","behind_wish"),("wax","behind_wax"),("dip","behind_dip"),("boil","behind_boil"),("brew","behind_brew")]:=by
   dsimp only [L2.KOf];refine' L2.GD.of KX G (D:=320) (ep:=8) (l:= [("hang",606,276),("fold",607,281),("twin",608,288),("wish",609,295),("wax",610,302),("dip",611,307),("boil",612,312),("brew",613,319)]) ?hd ?hs ?ho ?hr ?hn
   (case hd=>k_is)
   (case hs=>decide)
   (case ho=>kernel_rfl)
   (case hr=>kernel_rfl)
   (case hn=>decide +kernel)
  have HB:∀ x,Wx.W.bi.contains x=true->mg x=none:=L3.bi_all (K:=L2.KOf KX) KX G (by kernel_rfl);have L:L2.Dl (L2.KOf KX) "law" Wx.sLaw fa "_law_script" :=by
   dsimp only [L2.KOf];refine' L2.Dl.of KX G tu ?a ?l ?c ?k ?b
   (case a=>k_is);(case l=>k_is);(case c=>k_is);(case k=>k_is)
   (case b=>exact λs u=>.of_eq rfl)
  refine⟨L,λfd Ff base=>?_⟩;exact L3.law_ok Ff Wx.okS (Wx.kn_box DB (HB "list" (by kernel_rfl))) (by decide) (L3.wk_all (L3.dx_all HD Wx.oks) Wx.hw HB (L3.gi_of (K:=L2.KOf KX) KX G (by kernel_rfl)) (L3.gs_of (K:=L2.KOf KX) KX G (by kernel_rfl)) (Wx.hgd Dg) (L3.fk_all (K:=L2.KOf KX) KX G (by kernel_rfl)) (L3.ex_of (K:=L2.KOf KX) KX G (by kernel_rfl)) 20) (by decide) rfl rfl rfl rfl (by first | exact Or.inl rfl | exact Or.inr rfl) rfl Wx.okLaw (λcells i l t s hi=>Wx.law_run _ (Wx.ok60 0) cells i l t s hi)
