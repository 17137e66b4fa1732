import PyProof.Rows.All
import Wide.All
import OpenK.AllK
import PySem.Challenge.RW_waxcloth_k41_what_hinders
set_option maxHeartbeats 0
set_option maxRecDepth 100000
set_option bootstrap.genMatcherCode false
set_option compiler.extract_closed false
abbrev xa:=@List.getElem?_eq_some_iff
abbrev xb:=@List.getElem?_eq_getElem
abbrev xc:=@List.getElem?_append_left
abbrev xf:=@List.getElem?_map
abbrev xg:=@List.getElem?_set_ne
abbrev xh:=@Nat.le_refl
abbrev xi:=@Bool.and_eq_true
abbrev xj:=@Nat.ne_of_lt
abbrev xk:=@List.size_toArray
abbrev xl:=@List.length_map
abbrev xm:=@List.length_append
abbrev xn:=@List.getElem?_set_self
abbrev xo:=@List.length_cons
abbrev xp:=@List.getElem?_append_right
abbrev xq:=@Nat.lt_of_lt_of_le
abbrev xr:=@List.map_cons
abbrev xt:=@List.mem_cons_of_mem
abbrev xu:=@List.mem_map
abbrev xv:=@List.map_append
abbrev xw:=@List.map_map
abbrev xx:=@Int.eq_ofNat_of_zero_le
abbrev xy:=@List.lookup_cons
abbrev xz:=@List.mem_append_right
abbrev xA:=@List.mem_cons_self
abbrev xB:=@List.nodup_cons
abbrev xC:=@List.mem_cons
abbrev xD:=@Nat.le_trans
abbrev xE:=@List.getElem?_eq_none
abbrev xF:=@List.getD_eq_getElem?_getD
abbrev xG:=@List.all_eq_true
abbrev xH:=@List.nodup_append
abbrev xI:=@List.getElem_mem
abbrev xJ:=@List.length_take
abbrev xK:=@List.length_set
abbrev xL:=@Bool.and_eq_true_iff
abbrev xM:=@List.mem_append
abbrev xN:=@List.getElem?_replicate
abbrev xO:=@List.mem_of_getElem?
abbrev xP:=@List.length_nil
abbrev xQ:=@Bool.or_eq_true
abbrev xR:=@List.replicate_succ
abbrev xS:=@Nat.zero_le
abbrev xT:=@List.any_cons
abbrev xU:=@List.ext_getElem?
abbrev xV:=@List.length_singleton
abbrev xW:=@List.getElem?_take_of_lt
abbrev xX:=@List.append_nil
abbrev xY:=@List.find?_cons
abbrev xZ:=@List.take_add_one
abbrev ua:=@List.map_set
abbrev ub:=@Nat.lt_irrefl
abbrev uc:=@List.all_cons
abbrev ud:=@List.mem_append_left
abbrev ue:=@List.flatten_cons
abbrev uf:=@List.getElem?_cons_succ
abbrev ug:=@List.filterMap_cons
abbrev uh:=@Nat.le_of_lt
abbrev ui:=@Nat.zero_add
abbrev uj:=@List.filter_cons
abbrev uk:=@List.length_filter_le
abbrev ul:=@List.elem_iff
abbrev um:=@List.getElem?_range
abbrev uo:=@List.take_of_length_le
abbrev uq:=@List.map_replicate
abbrev ur:=@List.mem_filter
abbrev ut:=@List.range_succ
abbrev uu:=@List.length_replicate
abbrev uv:=@List.set_append_right
abbrev uw:=@List.append_assoc
abbrev ux:=@List.length_range
abbrev uy:=@List.length_drop
abbrev uz:=@List.take_length
abbrev uA:=@List.map_congr_left
abbrev uB:=@Option.map_some
abbrev uC:=@List.mem_filterMap
abbrev uD:=@Bool.false_ne_true
abbrev uE:=@List.filterMap_map
abbrev uF:=@Bool.false_eq_true
abbrev uG:=@Int.emod_lt_of_pos
abbrev uH:=@List.filter_append
abbrev uI:=@List.any_map
abbrev uJ:=@Option.map_eq_some_iff
abbrev uK:=@Nat.lt_succ_self
abbrev uL:=@List.drop_length
abbrev uM:=@List.prefix_refl
abbrev uN:=@Nat.le_succ
abbrev uO:=@List.nil_append
abbrev uP:=@Int.emod_nonneg
abbrev uQ:=@Nat.ne_of_gt
set_option Elab.async false
set_option linter.all false
set_option bootstrap.genMatcherCode false
set_option compiler.extract_closed false
abbrev x0:=@decide_eq_true_eq
abbrev x3:=@PySem.wpAny_bind
abbrev x4:=@PySem.Heap.get?_push_of_some
abbrev x5:=@PySem.Heap.lt_size
abbrev x6:=@PySem.wpAny_pure
abbrev x8:=@PySem.Heap.get?_push_size
abbrev x9:=@beq_eq_false_iff_ne
abbrev Xa:=@decide_eq_false
abbrev Xb:=@PySem.wpAny_holding
abbrev Xc:=@PySem.wpAny_mono
abbrev Xd:=@PySem.Heap.get?_update_other
abbrev Xe:=@PySem.sizeLine_eq
abbrev Xf:=@of_decide_eq_true
abbrev Xg:=@PySem.wpAny_loadPart'
abbrev Xh:=@PySem.wpAny_truthy_bool
abbrev Xi:=@PySem.wpAny_Call_Name_kw
abbrev Xj:=@PySem.codeAny_mono
set_option hygiene false in
local macro_rules
  | `(∅) => `((PySem.wpAny (PySem.model X.prog X.w) X.A))
  | `(⋯) => `((X.comp N' scope cl C s2 H2 fp))
  | `($x⁻¹) => `(PySem.starEach [$x] X.env = [(false, PySem.eval $x X.env)])
  | `(↥$x) => `(($x == ("__debug__" : PySem.Str)) = false)
  | `(tactic| cbv) => `(tactic| intro pins s O H Q I h)
  | `(by? $t:tacticSeq) => `(fun M0 F U Z O H Q rs hs hp => by $t:tacticSeq)
local macro_rules|`(tactic|delta $xs:ident*)=>do let h:=xs[0]!;let t←`(tactic|((try dsimp only at $h:ident);split at $h:ident;rotate_left;exact ($h).elim));if xs.size<2 then return t else let y:=xs.extract 1 xs.size;`(tactic|($t;rename_i $[$y:ident]*))
local macro_rules
|`(command|def $i:declId $s:optDeclSig $v:declVal)=>if (" Vj keyH qC RelV RelO KV kV upd ObjOk HOk Rd Mut trk yn frs Vis Loc Look EP TP AP SP PE PT PW PA PS PSs zl0 tC Gl tAnd tOr tNot zlS tOrV tIf SqL SqT absV zlX tSeq zlW tRet tIfS PG PGs ziW PIp WH gNil zlf gTup zlg yL tAug JK PIE PI Itl Itt Itr zlk iTup zll tFor W0 OpR UnR jT TruR tOp tUn rI rI0 rU CDiv zkW CMul ziO KO zgg jy NoAttr tFld sFld zkN zfX tTup tLst CE CR zlT Binds VR start Js tCB sIx PO zii zlY SlR tSl JQ rSlT ixN atI wU IxR MtR rIxL rIxT rIxS zlB rSlL tyV tBM0 tBM MtM zhw rCat ziV jc defBody defScope Same vp JB WD YW zkX zge zlU zlG zkK Jd IsD zkL zdj cS PF zlZ VX YI YJ vm PEv ExO kK dK zkZ TupM wpE wpT wpW wpA wpS wpB wpG wpF wpI Al zkY zlA zj8 tyD zV zkT gU fU eU zaz ziJ zlh fset MM WF R.bind R.get leaves derL Sees EPost FOk SE SN ST SW OpS w9 truD derSs SL Jr SOp lenD J9 gLen gInt qt gAll gAny q8 isiB gMin gMax gNeg binD lay isN inD cmpD zlz ITs.len SG SGs JI SI SF mpC SNt APost OPost SA SO spX Ran toArg toArgs ios putBack cM cF SPost SS SB SOt jp isOwn vH rIns derfs rClr Ite zli qS BoxAt zfN Ja dedup wD WOk Kf Yg ZF WG Itc zjp ye Vw QK zN zW qz zO unD zlV qX Fz zeg Itk zlj Iti zjq Eqv Ju hid Wk JIw SIw loopG itL qM SD SDt itD eD zkM ixF objF setO updF zD ZOk zeo gDin gDnin zQ jO Zr zf6 zbS nmB okO zl2 yz attF KE wX ju zjB ck0 ckB ck1 ck2 ck3 ck4 tt cx vw nmk bik flk glk isT Ct.inn cfk up lok tgk AsC IE.x IE.frz IE.k IE.q IE.b IE.cnone IE.j IE.gstr IE.tup IE.new IE.n IE.p IE.h IE.not IE.neg IE.and IE.or IE.f IE.ix IE.len IE.int IE.all IE.any IE.tuple IE.i IE.min IE.max IE.cutT IE.call IE.callw IE.lset IE.lsetS IE.sin IE.slen IE.join IE.six IE.g IE.d IE.dnin IE.t IE.newD IE.fdat IE.flen IE.ftru IE.flast IE.ffrz IL.nil IL.cons IA.nil IA.cons IA.io IN.lst IN.cut IN.cat IN.list IN.comp IN.mul IN.sortD IP.non IP.one II.list II.tup II.alt II.range II.enum II.chars IC.yes IC.one IO.dat IO.own IO.call IO.move IO.ownD IO.make IO.m IM.nil IM.one IM.copy IM.comp IG.std IG.items IG.keys wk zk asgk IS.bad IS.a IS.t IS.e IS.f IS.loop IS.ret IS.app IS.set IS.ins IS.clr IS.raise IS.aug IS.star IS.fset IS.fapp IS.dupd IS.u IS.dpop IB.nil IB.cons IB.disp outs fin DefI.run v6 va IB.chk DefI.ok Lk wOk QN csOf Qr jb3 ν2 Qp js ja8 jad jbw Qo jaw jb9 KB jx jae jbq QW jbr jS jao QY jbs QX jce ja1 j7 j6 jby ZZ jbu jq Ql jbf JM jaz ja0 ZN Je jap ja4 ZH ja5 ZW jP jbp jZ jcb WX Zm jbb Qq Qx J4 J5 jav jb8 Vt zcj zci ZM Qy Zz qp ZD Qw jK jv yv yw yx Qb Zt jbi jbj Zu jb4 j4 jb7 j5 jb5 jb6 Zv Zf jJ jbx j1 jag jax jay Zy ZA ZB Qd jbn jbo Qc jbl jbm Zw Zx Jf jcd ZC Qv vq yS ja7 QZ ja2 ja3 Qn qu qv qQ jbc jbd jbz jb0 jb1 jb2 jbe Zn jcc J3 Qa jak Q1 ZY runI Nz kSq VQ zU ziX qK qH zab zB ji In9 VP Cl.D qE zA Bolt Jl Wl qJ Deed.D Nm vM wT Wf tps prs hV stV QG zcX VM ZL Jj νc Jh zs jU YT Qk QF YZ yP Jk zcS zcT K6 WJ qq qh VF yQ K9 in9 zcn zcY qy zga kg Qi kW yN yO jl zkR ke Y2 zmd VO zcU frD clD stA qd jh ql Deed.fr Deed.cl QM Clo JJ K8 ZG zad YV YY Y8 Y9 VT VD YX w5 zH Wg Y0 VC Qf rdP jn JL QQ Wc j0 VL wxP wS We QV Wi wy qP nmB zjG zjn dipW zma Deed.w zcQ VE jca jbk J2 jw jaf Qm jba jar jas jaj ZX jbt Zl qR jah jai jaq jaa qU jal jbg jbh jat jam jan jau jab ν3 ja9 Q0 ja6 jbv jr Y7 Za zcR VG zcZ VS zae qI Y5 Y6 zcO VB zcV Y3 bw bwD qw zR ziR ki qB YU zaa QE qY qA w4 VJ Like zcW zcP Wh Wb VH qe w6 VI VN ziQ YS biOk giOk gsOk fkOk AllX top Zq jac defs lawB W LN dP v3 rL kz.asL Q zlp mix ev bt lfe zg7 zcx zef bH cH zjJ tr0 tr1 zlP tr2 zlQ tr3 zlR hE ".splitOn s!" {i.raw[0].getId} ").length<2 then`(command|theorem $i $(⟨Lean.mkNode `Lean.Parser.Command.declSig #[s.raw[0],s.raw[1][0]]⟩) $v:declVal) else`(command|noncomputable def $i $s $v:declVal)
|`(command|abbrev $i:declId $s:optDeclSig $v:declVal)=>`(command|noncomputable abbrev $i $s $v:declVal)
|`(command|private def $i:declId $s:optDeclSig $v:declVal)=>`(command|@[reducible] noncomputable def $i $s $v:declVal)
|`(command|protected def $i:declId $s:optDeclSig $v:declVal)=>`(command|@[elab_as_elim] noncomputable def $i $s $v:declVal)
local macro_rules|`(~~~$x)=>`(by simpa using $x)
section
open PySem
abbrev Ad:=List (Str × PyData)
abbrev Ao:=List (PyData × PyData)
abbrev Ak:=List (Addr × Obj)
abbrev Aa:=List PyData
abbrev Ab:=List Str
abbrev Ac:=List Nat
abbrev Ag:=List Expr
abbrev An:=List Value
abbrev Af:=Value → Shared → Prop
abbrev Aq:=Str → Option Value
abbrev Ae:=Addr → Prop
abbrev Ah:=W.Frag
abbrev Aj:=Value
abbrev Am:=Shared
abbrev Ap:=Addr
abbrev Ar:=Program
end
namespace L2
open PySem PySem.Spec PyProof.Rows
def defBody(s:Stmt):List Stmt:=match s with
 |.FunctionDef _ _ b _ _ _ _ _ _ _=>b
 |_=> []
def defScope(s:Stmt):Scope:=match s with
 |.FunctionDef _ _ _ _ _ _ sc _ _ _=>sc
 |_=>{ kind:=.function,names:= [],isGenerator:=false,isCoroutine:=false }
end L2
namespace Wx
open PySem L2
def top(i:Nat):Stmt:=PySem.Challenge.pw_waxcloth_k41_what_hinders.main.body.getD i (.Pass ⟨0,0,0,0⟩)
def Zq(i j:Nat):Stmt:=match top i with
 |.ClassDef _ _ _ b _ _ _ _ _ _ _=>b.getD j (.Pass ⟨0,0,0,0⟩)
 |s=>s
end Wx
namespace Wh
open PySem L2 Wx
theorem saidL:PySem.W.OpenLaw.wellSaid PySem.Challenge.rw_waxcloth_k41_what_hinders=true:=by kernel_rfl
def dP(s:Stmt):Arguments:=match s with
|.FunctionDef _ a _ _ _ _ _ _ _ _=>a
|_=>⟨[],[],none,[],[],none,[]⟩
abbrev dB:=L2.defBody
abbrev dS:=L2.defScope
abbrev dE(P:PySem.Params)(n:Str)(t:Nat)(v:Aj):DictEntry:=.mk (PySem.PyData.keyHash P n) (.str n t) v
abbrev dR(P:PySem.Params)(n:Str)(t a:Nat):DictEntry:=.mk (PySem.PyData.keyHash P n) (.str n t) (.ref a)
def v3(c:Nat):List (Nat×Nat)->An
|[]=> []
| (l,a)::r=>.int l 0::.int c 0::.ref a::v3 c r
abbrev o3(c:Nat)(l:List (Nat×Nat)):Obj:=.mk .none none (.fields (v3 c l).toArray) #[]
def rL:Ac->An
|[]=> []
|a::r=>.ref a::rL r
abbrev rN(l:Ac):Array Aj:=(rL l).toArray
abbrev oA:Obj:=PySem.Obj.mk (.type "tuple") none (.seq #[] 0) #[]
abbrev oD (s0 s2:Str) (n1 n3 n4:Nat):Obj:=PySem.Obj.mk (.type "function") none (.func (PySem.FuncData.mk s0 s0 (dP (top n1)) (.stmts (dB (top n1))) (dS (top n1)) 3 [] .none .none .none (.str s2 n3) none (.ref n4) .none 0)) #[]
abbrev oR (s0:Str) (n1 n2 n3:Nat):Obj:=PySem.Obj.mk (.type "code") none (.fields #[(.str s0 n1),(.str s0 (n1+1)),(.str "/claim/cut.py" (n1+2)),(.int ((n2:Nat):Int) 0),(.int 0 0),(.int 0 0),(.int 0 0),(.int 0 0),(.ref n3),(.bool false),(.int 181 0),(.ref (n3+1)),.none,.none,.none,.none,(.int ((n1+3:Nat):Int) 0),(.int ((n2:Nat):Int) 0),(.str "/claim/cut.py" (n1+4))]) #[]
abbrev oS (s2:Str) (n0 n1 n3:Nat):Obj:=PySem.Obj.mk (.type "frame") none .plain #[(some (.ref n0)),(some (.ref 3)),(some (.ref n1)),none,(some (.str s2 n3)),none,(some (.ref 0))]
abbrev oT:Obj:=PySem.Obj.mk .none none (.fields #[]) #[]
abbrev oU(s0:Str)(n1:Nat):Obj:=PySem.Obj.mk .none none (.func (PySem.FuncData.mk s0 s0 (dP (top n1)) (.stmts (dB (top n1))) (dS (top n1)) 0 [] .none .none .none .none none .none .none 0)) #[]
abbrev oV:Obj:=PySem.Obj.mk (.type "builtin_function_or_method") none (.fields #[(.builtin "type.__prepare__"),(.type "type")]) #[]
abbrev oW (P:PySem.Params) (s1:Str) (n0 n2 n3:Nat):Obj:=PySem.Obj.mk (.type "dict") none (.dict #[(dE P "__module__" n0 (.str "waxcloth.errors" 194)),(dE P "__qualname__" (n0+2) (.str s1 (n0+1))),(dE P "__firstlineno__" (n0+4) (.int ((n2:Nat):Int) (n0+3))),dR P "__static_attributes__" (n0+5) n3] 4) #[]
abbrev oX (n0:Nat):Obj:=PySem.Obj.mk (.type "super") none (.fields (rN [n0,n0,n0])) #[]
abbrev oY (n0:Nat):Obj:=PySem.Obj.mk (.type "builtin_function_or_method") none (.fields #[(.builtin "object.__init_subclass__"),(.ref n0)]) #[]
abbrev oZ(s0 s1:Str)(n2 n3:Nat):Obj:=PySem.Obj.mk .none none (.func (PySem.FuncData.mk s0 s1 (dP (Zq n2 n3)) (.stmts (dB (Zq n2 n3))) (dS (Zq n2 n3)) 0 [] .none .none .none .none none .none .none 0)) #[]
open PySem L2
set_option hygiene false in
local macro_rules
  | `(tactic| o_head $_)=>`(tactic| exact hz)
def kz(hz:PySem.W.OpenRow.Holds (PySem.W.OpenLaw.row PySem.Challenge.rw_waxcloth_k41_what_hinders)):PySem.W.OpenRow.Holds (PySem.W.OpenLaw.row PySem.Challenge.rw_waxcloth_k41_what_hinders):=by
 k_head
def kz.asL:List Nat:=[2,3,15,17,18,20,21,22,29,30,31,32,35,42,43,44,47,54,55,56,59,66,67,68,71,78,79,80,83,90,91,92,95,102,103,104,107,114,115,116,119,126,127,128,131,138,139,140,143,150,151,152,155,162,163,164,167,174,175,176,179,186,187,188,191,194,195,196,198,199,201,202,203,206,207,208,211,212,213,216,217,218,220,221,223,224,225,228,229,230,232,233,235,236,237,240,241,249,251,252,254,255,256,257,258,259,260,263,265,266,268,269,270,272,273,275,276,277,280,281,282,284,285,287,288,289,291,292,294,295,296,298,299,301,302,303,306,307,308,311,312,313,315,316,318,319,320,321,323,324,326,327,328,330,331,333,334,335,337,338,340,341,342,344,345,347,348,349,351,352,354,355,356,358,359,361,362,363,365,366,368,369,370,372,373,375,376,377,379,380,382,383,384,386,387,389,390,391,394,395,403,405,406,408,409,410,413,414,415,417,418,420,421,422,424,425,427,428,429,432,433,434,437,438,439,441,442,444,445,446,448,449,451,452,453,455,456,458,459,460,462,463,465,466,467,470,471,472,475,476,477,480,481,482,485,486,487,489,490,492,493,494,496,497,499,500,501,503,504,506,507,508,510,511,513,514,515,517,518,520,521,522,524,525,527,528,529,531,532,534,535,536,538,539,541,542,543,545,546,548,549,550,551,552,553,554,557,559,560,562,563,564,567,568,569,572,573,574,576,577,579,580,581,583,584,586,587,588,590,591,593,594,595,597,598,600,601,602,604,605,607,608,609,612,613,614,617,618,619,622,623,624,627,628,629,632,633,634,636,637,639,640,641,643,644,646,647,648,650,651,653,654,655,657,658,660,661,662,665,666,667,670,671,672,675,676,677,679,680,682,683,684,687,688,689,692,693,694,696,697,699,700,701,703,704,706,707,708,711,712,713,715,716,718,719,720,722,723,725,726,727,729,730,732,733,734,737,738,739,742,743,744,746,747,749,750,751,753,754,756,757,758,760,761,763,764]
abbrev RR:PySem.W.RowW:=PySem.W.OpenRow.toRowW (PySem.W.OpenLaw.row PySem.Challenge.rw_waxcloth_k41_what_hinders)
def Q:Ar:={ RR.prog with main:={ RR.prog.main with body:= [top 0,top 2,top 3,top 4,top 5,top 6,top 7,top 8,top 9,top 10,top 11,top 12,top 13,top 14,top 15,top 17,top 18,top 19,top 20,top 21,top 22,top 23,top 24,top 25,top 27,top 28,top 29,top 31,top 32,top 33,top 34,top 35,top 36,top 37,top 38,top 39,top 40,top 41,top 42,top 43,top 44,top 45,top 46,top 47,top 48,top 49,top 51,top 52,top 54,top 55,top 57,top 59,top 60,top 61,top 62,top 63,top 64,top 65,top 66,top 67,top 68,top 69,top 70,top 71,top 72,top 73,top 74,top 75,top 76,top 77,top 78,top 79,top 80,top 81,top 82,top 83,top 84,top 85,top 86,top 87,top 88,top 89,top 90,top 91,top 92] } }
def asE:∀ P,kz.asL=(kz.heap_1 P).map (·.1):=λ_=>by kernel_rfl
abbrev hK(n:Nat)(o:Obj)(r:List (Nat×Obj)):List (Nat×Obj):=(n,o)::r
abbrev jA(n0 n1:Nat)(s0:Str)(r:List (Nat×Obj)):List (Nat×Obj):=hK n0 (oU s0 n1) <| hK (n0+4) oT r
abbrev jB (n0:Nat) (r:List (Nat×Obj)):List (Nat×Obj):=hK (n0+4) (oS "waxcloth.errors" (n0+3) n0 194) <| hK (n0+8) (oX (n0+7)) r
abbrev jC(n0 n1:Nat)(s0 s1:Str)(r:List (Nat×Obj)):List (Nat×Obj):=hK n0 (oZ s0 s1 57 n1) <| hK (n0+4) oT r
abbrev jD(n0 n1 n2:Nat)(s0:Str)(r:List (Nat×Obj)):List (Nat×Obj):=hK (n0+1) oT <| hK (n0+2) (oR s0 n1 n2 n0) r
abbrev jE(P:PySem.Params)(n0 n1 n2:Nat)(s0:Str)(r:List (Nat×Obj)):List (Nat×Obj):=hK n0 oV <| hK (n0+1) (oW P s0 n1 n2 (n0+6)) r
abbrev jF(n0:Nat)(r:List (Nat×Obj)):List (Nat×Obj):=jB n0 <| hK (n0+9) (oY (n0+7)) r
abbrev jG(n0 n1 n2:Nat)(s0 s1:Str)(r:List (Nat×Obj)):List (Nat×Obj):=jA n0 n1 s0 <| jA (n0+7) n2 s1 r
abbrev jH(n0 n1 n2:Nat)(s0:Str)(r:List (Nat×Obj)):List (Nat×Obj):=hK n0 oA <| jD n0 n1 n2 s0 r
abbrev jI(P:PySem.Params)(n0 n1 n2:Nat)(s0:Str)(r:List (Nat×Obj)):List (Nat×Obj):=jE P n0 (n1+5) n2 s0 <| jH (n0+2) n1 n2 s0 r
def zlp(P:PySem.Params):List (Nat×Obj) :=
 hK 0 (PySem.W.boot_o_0 P) <|
 hK 1 (PySem.W.boot_o_1 P) <|
 hK 4 (PySem.W.boot_o_4 P) <|
 hK 5 (PySem.W.boot_o_5 P) <|
 hK 6 (PySem.W.boot_o_6 P) <|
 hK 7 (PySem.W.boot_o_7 P) <|
 hK 8 (PySem.W.boot_o_8 P) <|
 hK 9 (PySem.W.boot_o_9 P) <|
 hK 10 (PySem.W.boot_o_10 P) <|
 hK 11 oA <|
 hK 12 (o3 0 [(1,20),(5,27),(7,40),(9,52),(11,64),(13,76),(15,88),(17,100),(19,112),(21,124),(23,136),(25,148),(27,160),(29,172),(31,184),(35,194),(38,201),(45,206),(51,211),(55,216),(57,223),(59,228),(61,235),(66,240),(70,247),(75,268),(77,275),(83,280),(87,287),(92,294),(96,301),(100,306),(108,311),(112,318),(119,326),(123,333),(127,340),(131,347),(136,354),(139,361),(144,368),(148,375),(156,382),(165,389),(171,394),(178,401),(276,562),(278,567),(280,572),(282,579),(291,586),(293,593),(298,600),(302,607),(316,612),(333,617),(335,622),(342,627),(344,632),(346,639),(358,646),(367,653),(373,660),(375,665),(378,670),(380,675),(383,682),(408,687),(412,692),(428,699),(435,706),(446,711),(459,718),(464,725),(468,732),(470,737),(488,742),(505,749),(513,756),(519,763)]) <|
 hK 13 (oR "<module>" 182 1 11) <|
 hK 14 (oS "__main__" 13 3 164) <|
 hK 16 oT <|
 hK 19 (oU "_wall" 0) <|
 jI P 23 198 5 "WaxError" <|
 hK 28 (oS "waxcloth.errors" 27 24 194) <|
 hK 33 (oX 31) <|
 hK 34 (oY 31) <|
 jI P 36 216 7 "NoName" <|
 jF 37 <|
 jI P 48 232 9 "Taken" <|
 jF 49 <|
 jI P 60 248 11 "BadSize" <|
 jF 61 <|
 jI P 72 264 13 "NoCloth" <|
 jF 73 <|
 jI P 84 280 15 "NoCell" <|
 jF 85 <|
 jI P 96 296 17 "BadWish" <|
 jF 97 <|
 jI P 108 312 19 "Twice" <|
 jF 109 <|
 jI P 120 328 21 "NoDye" <|
 jF 121 <|
 jI P 132 344 23 "Spent" <|
 jF 133 <|
 jI P 144 360 25 "StillFresh" <|
 jF 145 <|
 jI P 156 376 27 "TooDeep" <|
 jF 157 <|
 jI P 168 392 29 "NothingLeft" <|
 jF 169 <|
 jI P 180 408 31 "NoMark" <|
 jF 181 <|
 hK 192 oT <|
 jG 193 18 19 "bare" "with_wish" <|
 jA 205 20 "with_wax" <|
 jA 210 21 "dipped" <|
 jG 215 22 23 "boiled" "has_cell" <|
 jG 227 24 25 "is_picture" "deepened" <|
 hK 239 (oU "is_name" 29) <|
 hK 242 oA <|
 hK 243 oV <|
 hK 244 (PySem.Obj.mk (.type "dict") none (.dict #[(dE P "__module__" 507 (.str "waxcloth.stand" 496)),(dE P "__qualname__" 509 (.str "Stand" 508)),(dE P "__firstlineno__" 511 (.int 70 510)),dR P "__init__" 520 255,dR P "__static_attributes__" 523 256] 5) #[]) <|
 hK 245 oA <|
 hK 246 (o3 4 [(72,254)]) <|
 hK 247 (oR "Stand" 502 70 245) <|
 hK 248 (oS "waxcloth.stand" 247 244 496) <|
 hK 250 oT <|
 hK 253 (oZ "__init__" "Stand.__init__" 32 0) <|
 hK 261 (oX 258) <|
 hK 262 (oY 258) <|
 hK 264 oT <|
 jG 267 33 34 "new_stand" "behind_hang" <|
 jG 279 35 36 "behind_fold" "behind_twin" <|
 jG 293 37 38 "behind_wish" "behind_wax" <|
 jA 305 39 "behind_dip" <|
 jA 310 40 "behind_boil" <|
 hK 317 (oU "behind_brew" 41) <|
 hK 322 oT <|
 jG 325 43 44 "behind" "with_cloths" <|
 jG 339 45 46 "with_pot" "check_new" <|
 jG 353 47 48 "check_hangs" "check_names" <|
 jG 367 49 51 "check_dye" "bars" <|
 jG 381 52 54 "bar_word" "bolt_of" <|
 hK 393 (oU "bars_of" 55) <|
 hK 396 oA <|
 hK 397 oV <|
 hK 398 (PySem.Obj.mk (.type "dict") none (.dict #[(dE P "__module__" 738 (.str "waxcloth.house" 729)),(dE P "__qualname__" 740 (.str "House" 739)),(dE P "__firstlineno__" 742 (.int 178 741)),dR P "__init__" 750 409,dR P "do" 756 414,dR P "undo" 764 421,dR P "redo" 772 428,dR P "book" 778 433,dR P "ahead" 784 438,dR P "mark" 792 445,dR P "go" 800 452,dR P "marks" 807 459,dR P "names" 814 466,dR P "ready" 820 471,dR P "stains" 826 476,dR P "wishes" 832 481,dR P "waxed" 838 486,dR P "bolt" 846 493,dR P "hindered" 854 500,dR P "plan" 862 507,dR P "boilings" 870 514,dR P "held" 878 521,dR P "would" 887 528,dR P "sources" 897 535,dR P "now" 904 542,dR P "cloth" 913 549,dR P "__static_attributes__" 919 550] 27) #[]) <|
 hK 399 oA <|
 hK 400 (o3 4 [(180,408),(187,413),(194,420),(201,427),(208,432),(211,437),(214,444),(219,451),(227,458),(230,465),(233,470),(236,475),(239,480),(242,485),(245,492),(248,499),(251,506),(254,513),(257,520),(260,527),(263,534),(266,541),(271,548)]) <|
 hK 401 (oR "House" 733 178 399) <|
 hK 402 (oS "waxcloth.house" 401 398 729) <|
 hK 404 oT <|
 jC 407 0 "__init__" "House.__init__" <|
 jC 412 1 "do" "House.do" <|
 jC 419 2 "undo" "House.undo" <|
 jC 426 3 "redo" "House.redo" <|
 jC 431 4 "book" "House.book" <|
 jC 436 5 "ahead" "House.ahead" <|
 jC 443 6 "mark" "House.mark" <|
 jC 450 7 "go" "House.go" <|
 jC 457 8 "marks" "House.marks" <|
 jC 464 9 "names" "House.names" <|
 jC 469 10 "ready" "House.ready" <|
 jC 474 11 "stains" "House.stains" <|
 jC 479 12 "wishes" "House.wishes" <|
 jC 484 13 "waxed" "House.waxed" <|
 jC 491 14 "bolt" "House.bolt" <|
 jC 498 15 "hindered" "House.hindered" <|
 jC 505 16 "plan" "House.plan" <|
 jC 512 17 "boilings" "House.boilings" <|
 jC 519 18 "held" "House.held" <|
 jC 526 19 "would" "House.would" <|
 jC 533 20 "sources" "House.sources" <|
 jC 540 21 "now" "House.now" <|
 hK 547 (oZ "cloth" "House.cloth" 57 22) <|
 hK 555 (oX 552) <|
 hK 556 (oY 552) <|
 hK 558 oT <|
 jA 561 59 "_law_whole" <|
 jA 566 60 "_law_wholes" <|
 jG 571 61 62 "_law_shades" "_law_cells_kind" <|
 jG 585 63 64 "_law_alike" "_law_box" <|
 jG 599 65 66 "_law_mixed" "_law_take" <|
 jA 611 67 "_law_lacks" <|
 jA 616 68 "_law_wax" <|
 jA 621 69 "_law_dip" <|
 jA 626 70 "_law_boil" <|
 jG 631 71 72 "_law_full" "_law_bars" <|
 jG 645 73 74 "_law_bars_kind" "_law_deal" <|
 jA 659 75 "_law_letters" <|
 jA 664 76 "_law_named" <|
 jA 669 77 "_law_kept" <|
 jG 674 78 79 "_law_blank" "_law_did" <|
 jA 686 80 "_law_pictures" <|
 jG 691 81 82 "_law_stands" "_law_pool" <|
 jA 705 83 "_law_begun" <|
 jG 710 84 85 "_law_mended" "_law_bolt_of" <|
 jG 724 86 87 "_law_pots" "_law_group_names" <|
 jA 736 88 "_law_easy" <|
 jG 741 89 90 "_law_wide" "_law_made" <|
 jA 755 91 "_law_house_bars" <|
 hK 762 (oU "law" 92) []
def mix:Nat->Nat->List (Nat×Obj)->List (Nat×Obj)->List Obj
 |0,_,_,_=> []
 |n+1,i,(a,x)::l,(b,y)::r=>match Nat.beq a i with
  |true=>x::mix n (i+1) l ((b,y)::r)
  |false=>y::mix n (i+1) ((a,x)::l) r
 |n+1,i,(_,x)::l,[]=>x::mix n (i+1) l []
 |n+1,i,[],(_,y)::r=>y::mix n (i+1) [] r
 |_+1,_,[],[]=> []
def ev:Bool->List Obj->List Obj
 |_,[]=> []
 |true,x::r=>x::ev false r
 |false,_::r=>ev true r
def bt:Nat->List Obj->PySem.W.BT
 |0,_=>.nil
 |_+1,[]=>.nil
 |n+1,x::r=>.node x (bt n (ev true r)) (bt n (ev false r))
def lfe:Life:=(.mk [] [] [] 0 [] [] false #[] [] 0 false false false 0 [2000,10,10] false 0 true [] [] 0 false)
def zg7(P:PySem.Params):List Obj:=mix 765 0 (kz.heap_1 P) (zlp P)
def zcx:List Obj->Nat->Obj->List Obj
 |[],_,_=> []
 |x::r,n,y=>match n with
  |0=>y::r
  |n+1=>x::zcx r n y
def zef:Env:={ scope:=RR.prog.main.scope,locals:=mainNs,globals:=mainNs,cells:= [],code:=.ref 13,frame:=some 14 }
def bH:List Stmt:=PySem.W.behindTheImports RR.prog
def cH:Code:=.body bH zef
abbrev BH:List Frame:= [PySem.W.topFrame ⟨0,0,0,0⟩]
def zjJ (P:PySem.Params):List Obj:= [PySem.W.boot_o_0 P,PySem.W.boot_o_1 P,PySem.W.boot_o_2 P,PySem.W.boot_o_3 P,PySem.W.boot_o_4 P,PySem.W.boot_o_5 P,PySem.W.boot_o_6 P,PySem.W.boot_o_7 P,PySem.W.boot_o_8 P,PySem.W.boot_o_9 P,PySem.W.boot_o_10 P,oA,oT,(oR "<module>" 182 1 11),(oS "__main__" 13 3 164)]
def preH:∀ w:World,(λos=>PySem.W.topGo treeTable RR.prog w 11 (some (.ref 6)) 12 ⟨PySem.W.boot_heap w.params,Array.mk [],PySem.W.boot_drawn,PySem.W.boot_toks,os⟩ (PySem.W.topStub RR.prog))=λos=>some (⟨⟨(zjJ w.params).toArray,lfe⟩,Array.mk [],PySem.W.boot_drawn,187,os⟩,⟨denote treeTable cH,cH,⟨0,0,0,0⟩,BH⟩):=λw=>by kernel_rfl
def tr0(P:PySem.Params):PySem.W.BT:=bt 14 (zjJ P)
def zi4:∀ w:World,(λos=>PySem.W.segRun treeTable RR.prog w 11 (some (.ref 6)) 1 1 ⟨⟨(zjJ w.params).toArray,lfe⟩,Array.mk [],PySem.W.boot_drawn,187,os⟩ (PySem.W.blockOf bH zef cH ⟨0,0,0,0⟩ BH))=λos=>some (.next,(PySem.W.SharedT.mk (tr0 w.params) 15 lfe (Array.mk []) PySem.W.boot_drawn 187 os).abs,cH,⟨0,0,0,0⟩):=λw=>by kernel_rfl
def tr1 (P:PySem.Params):PySem.W.BT:=bt 14 (zcx (zcx (zcx ((zg7 P).take 167) 3 (PySem.Obj.mk (.type "dict") none (.dict #[(dE P "__name__" 165 (.str "waxcloth.errors" 194)),(dE P "__doc__" 166 .none),(dE P "__package__" 167 .none),(dE P "__loader__" 168 (.builtin "__main__.__loader__#opaque")),(dE P "__spec__" 169 .none),dR P "__annotations__" 170 6,dR P "__builtins__" 171 4,(dE P "__file__" 173 (.str "/claim/cut.py" 172)),(dE P "__cached__" 174 .none),dR P "_wall" 193 21,dR P "WaxError" 213 31,dR P "NoName" 229 44,dR P "Taken" 245 56,dR P "BadSize" 261 68,dR P "NoCloth" 277 80,dR P "NoCell" 293 92,dR P "BadWish" 309 104,dR P "Twice" 325 116,dR P "NoDye" 341 128,dR P "Spent" 357 140,dR P "StillFresh" 373 152,dR P "TooDeep" 389 164] 22) #[])) 12 (o3 0 [(1,20),(5,27),(7,40),(9,52),(11,64),(13,76),(15,88),(17,100),(19,112),(21,124),(23,136),(25,148),(27,160)])) 31 (PySem.Obj.mk (.type "type") none (.cls (PySem.ClassData.mk "WaxError" [(.type "ValueError")] [(.ref 31),(.type "ValueError"),(.type "Exception"),(.type "BaseException"),(.type "object")] 30 "WaxError" true [] (rL [44,56,68,80,92,104,116,128,140,152,164]) false none false)) #[(some (.ref 22)),none,(some (.str "WaxError" 196)),(some (.str "WaxError" 204)),(some (.builtin "ValueError.__new__")),(some (.bool true))]))
def zlP:List Stmt:=(bH.drop 0).take 14
def zlD:∀ w:World,(λos=>PySem.W.segRunT treeTable RR.prog w 11 (some (.ref 6)) 1 2568 (PySem.W.SharedT.mk (tr0 w.params) 15 lfe (Array.mk []) PySem.W.boot_drawn 187 os) (PySem.W.piecesOf zlP zef cH ⟨0,0,0,0⟩ BH))=λos=>some (.next,(PySem.W.SharedT.mk (tr1 w.params) 167 lfe (Array.mk []) PySem.W.boot_drawn 390 os),cH,⟨27,0,28,8⟩):=λw=>by kernel_rfl
def tr2 (P:PySem.Params):PySem.W.BT:=bt 14 (zcx (zcx ((zg7 P).take 396) 3 (PySem.Obj.mk (.type "dict") none (.dict #[(dE P "__name__" 165 (.str "waxcloth.house" 729)),(dE P "__doc__" 166 .none),(dE P "__package__" 167 .none),(dE P "__loader__" 168 (.builtin "__main__.__loader__#opaque")),(dE P "__spec__" 169 .none),dR P "__annotations__" 170 6,dR P "__builtins__" 171 4,(dE P "__file__" 173 (.str "/claim/cut.py" 172)),(dE P "__cached__" 174 .none),dR P "_wall" 193 21,dR P "WaxError" 213 31,dR P "NoName" 229 44,dR P "Taken" 245 56,dR P "BadSize" 261 68,dR P "NoCloth" 277 80,dR P "NoCell" 293 92,dR P "BadWish" 309 104,dR P "Twice" 325 116,dR P "NoDye" 341 128,dR P "Spent" 357 140,dR P "StillFresh" 373 152,dR P "TooDeep" 389 164,dR P "NothingLeft" 405 176,dR P "NoMark" 421 188,(dE P "DEEPEST" 425 (.int 9 424)),dR P "bare" 431 195,dR P "with_wish" 443 202,dR P "with_wax" 449 207,dR P "dipped" 455 212,dR P "boiled" 461 217,dR P "has_cell" 469 224,dR P "is_picture" 475 229,dR P "deepened" 483 236,(dE P "LETTERS" 487 (.str "abcdefghijklmnopqrstuvwxyz" 486)),(dE P "MOST_LETTERS" 489 (.int 8 488)),dR P "is_name" 495 241,(dE P "MOST_CELLS" 499 (.int 40 498)),dR P "Stand" 530 258,dR P "new_stand" 537 269,dR P "behind_hang" 547 276,dR P "behind_fold" 553 281,dR P "behind_twin" 563 288,dR P "behind_wish" 574 295,dR P "behind_wax" 584 302,dR P "behind_dip" 590 307,dR P "behind_boil" 596 312,dR P "behind_brew" 605 319,dR P "DEEDS" 622 320,dR P "behind" 633 327,dR P "with_cloths" 642 334,dR P "with_pot" 652 341,dR P "check_new" 660 348,dR P "check_hangs" 668 355,dR P "check_names" 677 362,dR P "check_dye" 685 369,dR P "bars" 702 376,dR P "bar_word" 710 383,dR P "bolt_of" 722 390,dR P "bars_of" 728 395] 59) #[])) 12 (o3 0 [(1,20),(5,27),(7,40),(9,52),(11,64),(13,76),(15,88),(17,100),(19,112),(21,124),(23,136),(25,148),(27,160),(29,172),(31,184),(35,194),(38,201),(45,206),(51,211),(55,216),(57,223),(59,228),(61,235),(66,240),(70,247),(75,268),(77,275),(83,280),(87,287),(92,294),(96,301),(100,306),(108,311),(112,318),(119,326),(123,333),(127,340),(131,347),(136,354),(139,361),(144,368),(148,375),(156,382),(165,389),(171,394)]))
def zlQ:List Stmt:=(bH.drop 14).take 43
def zlE:∀ w:World,(λos=>PySem.W.segRunT treeTable RR.prog w 11 (some (.ref 6)) 1 1738 (PySem.W.SharedT.mk (tr1 w.params) 167 lfe (Array.mk []) PySem.W.boot_drawn 390 os) (PySem.W.piecesOf zlQ zef cH ⟨27,0,28,8⟩ BH))=λos=>some (.next,(PySem.W.SharedT.mk (tr2 w.params) 396 lfe (Array.mk []) PySem.W.boot_drawn 731 os),cH,⟨177,0,177,8⟩):=by
 refine PySem.W.byRow2 "special-get-raises" ?_ ?_<;>exact λw=>by kernel_rfl
def tr3(P:PySem.Params):PySem.W.BT:=bt 14 (zg7 P)
def zlR:List Stmt:=(bH.drop 57).take 36
def zlF:∀ w:World,(λos=>PySem.W.segRunT treeTable RR.prog w 11 (some (.ref 6)) 1 1916 (PySem.W.SharedT.mk (tr2 w.params) 396 lfe (Array.mk []) PySem.W.boot_drawn 731 os) (PySem.W.piecesOf zlR zef cH ⟨177,0,177,8⟩ BH))=λos=>some (.next,(PySem.W.SharedT.mk (tr3 w.params) 765 lfe (Array.mk []) PySem.W.boot_drawn 1214 os),cH,⟨519,0,542,127⟩):=λw=>by kernel_rfl
def hE(P:PySem.Params):Heap:=⟨(zg7 P).toArray,lfe⟩
def finH:∀ w:World,(λos=>PySem.W.topRun treeTable RR.prog w 11 (some (.ref 6)) 2 (PySem.W.SharedT.mk (tr3 w.params) 765 lfe (Array.mk []) PySem.W.boot_drawn 1214 os).abs ⟨PySem.W.doneF .next,cH,⟨519,0,542,127⟩,BH⟩)=λos=>some ⟨hE w.params,Array.mk [],PySem.W.boot_drawn,1214,os⟩:=λw=>by kernel_rfl
def zk4:bH=zlP++(zlQ++(zlR++([]))):=by kernel_rfl
def runH(w:World)(os:OsState):PySem.W.topRun treeTable RR.prog w 11 (some (.ref 6)) (12+(1+(2568+(1738+(1916+2))))) ⟨PySem.W.boot_heap w.params,Array.mk [],PySem.W.boot_drawn,PySem.W.boot_toks,os⟩ (PySem.W.topStub RR.prog)=some ⟨hE w.params,Array.mk [],PySem.W.boot_drawn,1214,os⟩:=by
 refine PySem.W.go_top (congrFun (preH w) os) (PySem.W.piece_block (congrFun (zi4 w) os) ?_)
 rw[zk4]
 exact PySem.W.piece_app (PySem.W.segRun_of (congrFun (zlD w) os)) (PySem.W.piece_app (PySem.W.segRun_of (congrFun (zlE w) os)) (PySem.W.piece_app (PySem.W.segRun_of (congrFun (zlF w) os)) (PySem.W.piece_nil (congrFun (finH w) os))))
abbrev XtH:Am->Bool:=λs=>PySem.W.xlAt Q [] s&&PySem.W.recOk (PySem.W.RowW.records RR) s
abbrev sE(w:World)(os:OsState):Am:=⟨hE w.params,Array.mk [],PySem.W.boot_drawn,1214,os⟩
def lk1(w:World)(os:OsState):(PySem.W.staticsOk (importedModules RR.prog.main.body) (PySem.W.boot_heap w.params) (hE w.params)&&PySem.W.namesBound RR.prog (hE w.params)&&PySem.W.gensDone (sE w os)&&PySem.W.laidKept (PySem.W.boot_heap w.params) (hE w.params))=true:=by kernel_rfl
def lk2 (w:World) (os:OsState):PySem.W.openSeen Q ["DEEDS"] (importedModules RR.prog.main.body) XtH true (sE w os)=PySem.W.openGood Q ["DEEDS"]:=by kernel_rfl
def lk3(w:World)(os:OsState):(PySem.W.Hook.obs (PySem.W.kHook kz.heap_1 kz.asL asE)) (sE w os)=PySem.W.Hook.val (PySem.W.kHook kz.heap_1 kz.asL asE) w:=by kernel_rfl
def zlu:PySem.W.opening RR.prog=PySem.W.plainProg RR.prog.main.scope.names:=by kernel_rfl
def zjk:∀ s,fenceModules? RR.prog s=some s:=λs=>by kernel_rfl
def zlN:∀ w:World,((PySem.W.boot_heap w.params).isNs mainGlobals&&(Array.mk ([]:List GenState)).size==0,(PySem.W.boot_heap w.params).objs.size,(PySem.W.boot_heap w.params).nsMap mainGlobals "__annotations__")=(true,11,(some (.ref 6))):=λw=>by kernel_rfl
theorem left:PySem.W.LeftO RR.prog Q ["DEEDS"] XtH (PySem.W.Hook.obs (PySem.W.kHook kz.heap_1 kz.asL asE)) (PySem.W.Hook.val (PySem.W.kHook kz.heap_1 kz.asL asE)) 12564 :=
 PySem.W.LeftO.of_pieces (PySem.W.boot_open zlu (by decide +kernel) zjk) zlN runH (by decide +kernel) λw=>funext λos=>Prod.ext (lk1 w os) (Prod.ext (lk2 w os) (lk3 w os))
end Wh
section
local macro_rules
|`(tactic|let $x:ident:=$e)=>`(tactic|have $x:ident:=$e)
|`(tactic|let $x:ident : $t := $e)=>`(tactic|have $x:ident : $t := $e)
|`(tactic|let $p:term:=$e)=>do
 let rec go:Nat->Lean.Term->Lean.MacroM (Lean.TSyntax `rcasesPat)
 |n+1,p=>match p with
  |`(⟨$ps,*⟩)=>do
   let q←ps.getElems.mapM λp=>do `(Lean.Parser.Tactic.rcasesPatLo|$(← go n p):rcasesPat)
   `(rcasesPat|⟨$q,*⟩)
  |`(($p,$ps,*))=>do
   let q←(#[p]++ps.getElems).mapM λp=>do `(Lean.Parser.Tactic.rcasesPatLo|$(← go n p):rcasesPat)
   `(rcasesPat|⟨$q,*⟩)
  |`(_)=>`(rcasesPat|_)
  |`($i:ident)=>`(rcasesPat|$i:ident)
  |_=>Lean.Macro.throwUnsupported
 |0,_=>Lean.Macro.throwUnsupported
 `(tactic|obtain $(← go 9 p):rcasesPat:=$e)
local macro_rules|`(tactic|erw[$e:term])=>`(tactic|refine $e)
local macro_rules|`(tactic|lia)=>`(tactic|omega)
local macro_rules
  | `(tactic| rwa [$xs,*]) => do
    let ts ← xs.getElems.mapM fun x => match x with
      | `(Lean.Parser.Tactic.rwRule| $a:term = $b:ident) => `(tactic| generalize $a:term = $b at *)
      | _ => Lean.Macro.throwUnsupported
    `(tactic| ($[$ts];*))
  | `(⇑$x) => `((PySem.Shared.heap $x).objs.size)
  | `(@& $x) => `(some (.d $x))
local macro_rules|`(#[$xs,*])=>`(⟨$xs,*⟩)
namespace L2
open PySem PySem.Spec PyProof.Rows
abbrev Key:=Sum Int Str
def Vj:Key->Aj->Bool
 |.inl k,v=>Value.isInt k v
 |.inr x,v=>Value.isStrOf x v
def keyH(w:World):Key->Int
 |.inl k=>hashInt k
 |.inr x=>hashStr w x
def qD:∀{k:Key}{v:Aj},Vj k v=true->(∃ i t,k=Sum.inl i/\v=Value.int i t)∨(∃ x t,k=Sum.inr x/\v=Value.str x t)
 |.inl i,v,h=>by
  let(t,e):=Value.isInt_shape h
  erw[.inl #[i,t,rfl,e]]
 |.inr x,v,h=>by
  let(t,e):=Value.isStrOf_shape h
  erw[.inr #[x,t,rfl,e]]
def zb1(i:Int)(t:Tok):Vj (.inl i) (.int i t)=true:=by simp[Vj,Value.isInt]
def zb2(x:Str)(t:Tok):Vj (.inr x) (.str x t)=true:=by simp[Vj,Value.isStrOf]
def zjx(a b:Int):decide ((Sum.inl a:Key)=Sum.inl b)=(a==b):=by
 by_cases e:a=b
 ·subst e;simp
 ·let h:¬ (Sum.inl a:Key)=Sum.inl b:=λq=>e (Sum.inl.inj q)
  rw[Xa h]
  erw[(x9.mpr e).symm]
def zjA(a b:Str):decide ((Sum.inr a:Key)=Sum.inr b)=decide (a=b):=by
 by_cases e:a=b
 ·subst e;simp
 ·let h:¬ (Sum.inr a:Key)=Sum.inr b:=λq=>e (Sum.inr.inj q)
  rw[Xa h,Xa e]
def zjy(a:Int)(b:Str):decide ((Sum.inl a:Key)=Sum.inr b)=false:=Xa (λq=>nomatch q)
def zjz(a:Str)(b:Int):decide ((Sum.inr a:Key)=Sum.inl b)=false:=Xa (λq=>nomatch q)
def qC(prog:Ar)(w:World):PySem.KeyKind prog w Key where
 is:=Vj
 hash:=keyH w
 inj:=λv a b ha hb=>by
  rcases qD ha with ⟨i,t,rfl,rfl⟩ | ⟨x,t,rfl,rfl⟩
  ·rcases qD hb with ⟨j,u,rfl,e⟩ | ⟨y,u,rfl,e⟩
   ·injection e with e1 _;rw[e1]
   ·erw[nomatch e]
  ·rcases qD hb with ⟨j,u,rfl,e⟩ | ⟨y,u,rfl,e⟩
   ·erw[nomatch e]
   ·injection e with e1 _;rw[e1]
 byValue:=λk v h=>by
  rcases qD h with ⟨i,t,rfl,rfl⟩ | ⟨x,t,rfl,rfl⟩<;>rfl
 pyHash:=λhv h=>by
  rcases qD hv with ⟨i,t,rfl,rfl⟩ | ⟨x,t,rfl,rfl⟩
  ·erw[wpAny_pyHash_int h]
  ·erw[wpAny_pyHash_str h]
 eqBool:=λhu hv h=>by
  rcases qD hu with ⟨i,t,rfl,rfl⟩ | ⟨x,t,rfl,rfl⟩
  ·rcases qD hv with ⟨j,u,rfl,rfl⟩ | ⟨y,u,rfl,rfl⟩
   ·rw[zjx]at h;exact wpAny_eqBool_int h
   ·rw[zjy]at h;exact SeqAt.EqAt.int_str i t y u _ _ _ _ h
  ·rcases qD hv with ⟨j,u,rfl,rfl⟩ | ⟨y,u,rfl,rfl⟩
   ·rw[zjz]at h;exact SeqAt.EqAt.str_int x t j u _ _ _ _ h
   ·rw[zjA]at h;exact wpAny_eqBool_str h
 «strs»:=λk x t v h=>by
  rcases qD h with ⟨i,u,rfl,e⟩ | ⟨y,u,rfl,e⟩
  ·erw[nomatch e]
  ·injection e with e1 _
   subst e1
   cases v<;>rfl
def Yp(prog:Ar)(w:World)(i:Int)(t:Tok):(qC prog w).is (.inl i) (.int i t)=true:=zb1 i t
def Yq(prog:Ar)(w:World)(x:Str)(t:Tok):(qC prog w).is (.inr x) (.str x t)=true:=zb2 x t
inductive V where
 |non | bl (b:Bool) | int (i:Int) | str (x:Str) | ref (a:Ap) | ty (n:String)
 deriving DecidableEq
def RelV:V->Aj->Prop
 |.non,u=>u=Value.none
 |.bl b,u=>u=Value.bool b
 |.int i,u=>∃ t,u=Value.int i t
 |.str x,u=>∃ t,u=Value.str x t
 |.ref a,u=>u=Value.ref a
 |.ty n,u=>u=Value.type n
abbrev Vals:List V->An->Prop:=Paired RelV
def Vals.length{xs:List V}{us:An}(r:Vals xs us):xs.length=us.length:=Paired.length r
def Vals.get:∀{xs:List V}{us:An}{i:Nat}{x:V},Vals xs us->xs[i]?=some x->∃ u,us[i]?=some u/\RelV x u
 |_,_,_,_,.nil,e=>by simp at e
 |_,_,0,_,.cons r _,e=>by simp at e;subst e;exact#[_,rfl,r]
 |_,_,i+1,x,.cons _ t,e=>by
  let(u,h1,h2):=Vals.get t (~~~e)
  exact#[u,~~~h1,h2]
def Vals.set(r:RelV x u):∀{xs:List V}{us:An}(i:Nat),Vals xs us->Vals (xs.set i x) (us.set i u)
 |_,_,_,.nil=>.nil
 |_,_,0,.cons _ t=>.cons r t
 |_,_,i+1,.cons q t=>.cons q (Vals.set r i t)
def Vals.append:∀{xs ys:List V}{us ws:An},Vals xs us->Vals ys ws->Vals (xs++ys) (us++ws)
 |_,_,_,_,.nil,s=>s
 |_,_,_,_,.cons r t,s=>.cons r (Vals.append t s)
def Vals.take:∀{xs:List V}{us:An}(n:Nat),Vals xs us->Vals (xs.take n) (us.take n)
 |_,_,0,_=>.nil
 |_,_,_+1,.nil=>.nil
 |_,_,n+1,.cons r t=>.cons r (Vals.take n t)
def Vals.drop:∀{xs:List V}{us:An}(n:Nat),Vals xs us->Vals (xs.drop n) (us.drop n)
 |_,_,0,r=>r
 |_,_,_+1,.nil=>.nil
 |_,_,n+1,.cons _ t=>Vals.drop n t
def RelO:Option V->Option Aj->Prop
 |some v,some u=>RelV v u
 |none,none=>True
 |_,_=>False
def KV{κ:Type}:List (κ×V)->List (κ×Value)->Prop:=Paired λ(p:κ×V)(q:κ×Value)=>p.1=q.1/\RelV p.2 q.2
def kV:Key->V
 |.inl i=>.int i
 |.inr x=>.str x
inductive HO where
 |lst (xs:List V)
 |tup (xs:List V)
 |dK (kvs:List (Key×V))
 |set (S:Int->Bool) (n:Nat)
 |ins (C dx:Ap) (fs:List (Str×V))
 |own (x:Ap)
 |xd (fs:List (Str×V))
 |met (f x:Ap)
 |rng (lo hi:Int)
 |frz (o:Obj) (u:HO)
 |tbl (ps:Array Aj)
 |ext (φ:Heap->Prop)
abbrev Hp:=Ap->Option HO
def upd(H:Hp)(a:Ap)(o:HO):Hp:=λb=>if b=a then some o else H b
def zK:upd H a o a=some o:=by unfold upd;rw[if_pos rfl]
def zI(h:b≠a):upd H a o b=H b:=by unfold upd;rw[if_neg h]
def zln{H:Hp}(h:H a=some o)(h':H b=some u)(d:o≠u):a≠b:=by
 intro e;subst e;rw[h]at h';exact d (Option.some.inj h')
def qF{H:Hp}(h:H a=some o)(h':H b=none):a≠b:=by
 grind
section
variable (P:Ar)(w:World)
def ObjOk(H:Hp)(h:Heap)(a:Ap):HO->Prop
 |.lst xs=>xs.length<=sizeLine/\∃ (ab:An) (n:Nat),Vals xs ab/\h.get? a=some { cls:=.type "list",data:=.seq ab.toArray n }
 |.tup xs=>xs.length<=sizeLine/\∃ ab:An,Vals xs ab/\IsTup h a ab.toArray
 |.dK kvs=>kvs.length<=sizeLine/\(a==sysModules)=false/\∃ vs,KV kvs vs/\h.DictOf (qC P w) a vs
 |.set S n=>h.SetOf (intKind P w) a S n
 |.ins C dx fs=>H dx=some (.own a)/\fs.length<=1000/\dx≠a/\h.get? a=some (W.instObj C dx) /\
   ∃ mA,h.Ns1 dx mA/\(∀ f,RelO (fs.lookup f) (mA f))/\PySem.Within mA (fs.map (·.1))
 |.own _=>∃ o,h.get? a=some o
 |.xd fs=>∃ mA,h.Ns1 a mA/\∀ f,RelO (fs.lookup f) (mA f)
 |.rng lo hi=>∃ t u v,h.get? a=some { cls:=.type "range",data:=.fields (List.toArray [.int lo t,.int hi u,.int 1 v]) }
 |.frz o u=>h.get? a=some o/\ObjOk H h a u
 |.tbl ps=>h.get? a=some { cls:=.none,data:=.fields ps }
 |.met f x=>h.get? a=some (W.methodObj (.ref f) (.ref x))
 |.ext φ=>φ h/\(∃ o,h.get? a=some o)/\∀ h1 h2:Heap,φ h1->(∀ o,h1.get? a=some o->h2.get? a=some o)->φ h2
def HOk(H:Hp)(h:Heap):Prop:=∀ a o,H a=some o->ObjOk P w H h a o
end
section
variable {P:Ar}{w:World}{H H':Hp}{h h':Heap}{a:Ap}{o:HO}
def ObjOk.lt(x:ObjOk P w H h a o):a<h.objs.size:=by
 cases o with
 |lst xs=>let⟨_,_,_,_,e⟩:=x;exact x5 e
 |tup xs=>let⟨_,_,_,p⟩:=x;exact p.lt
 |dK kvs=>let⟨_,_,_,_,o,_,_,e,_⟩:=x;exact x5 e
 |set S n=>let⟨o,_,_,_,e,_⟩:=x;exact x5 e
 |ins C dx fs=>let⟨_,_,_,e,_⟩:=x;exact x5 e
 |own y=>let⟨_,e⟩:=x;exact x5 e
 |xd fs=>let⟨_,⟨_,_,_,e,_⟩,_⟩:=x;exact x5 e
 |rng lo hi=>let⟨_,_,_,e⟩:=x;exact x5 e
 |frz ob u=>let⟨e,_⟩:=x;exact x5 e
 |tbl ps=>erw[x5 (show h.get? a=some _ from x)]
 |met f y=>erw[x5 (show h.get? a=some _ from x)]
 |ext φ=>let⟨_,⟨_,e⟩,_⟩:=x;exact x5 e
def ObjOk.stay(x:ObjOk P w H h a o)(k:∀ b u,(b=a∨H b=some (.own a))->h.get? b=some u->h'.get? b=some u)
  (ho:∀ b,H b=some (.own a)->H' b=some (.own a)) (ht:∀ b xs,H b=some (.tup xs)->H' b=some (.tup xs)):ObjOk P w H' h' a o:=by
 induction o with
 |lst xs=>let⟨z,ab,n,r,e⟩:=x;exact#[z,ab,n,r,k _ _ (.inl rfl) e]
 |tup xs=>let⟨z,ab,r,ob,e,c⟩:=x;exact#[z,ab,r,ob,k _ _ (.inl rfl) e,c]
 |dK kvs=>let⟨z,y,vs,r,ob,es,ep,e,c⟩:=x;exact#[z,y,vs,r,ob,es,ep,k _ _ (.inl rfl) e,c]
 |set S n=>let⟨ob,es,ep,t,e,c⟩:=x;exact#[ob,es,ep,t,k _ _ (.inl rfl) e,c]
 |ins C dx fs=>
  let(d,z,ne,e,mA,(od,es,ep,e2,c),r):=x
  exact#[ho _ d,z,ne,k _ _ (.inl rfl) e,mA,#[od,es,ep,k _ _ (.inr d) e2,c],r]
 |own y=>let⟨ob,e⟩:=x;exact#[ob,k _ _ (.inl rfl) e]
 |xd fs=>let⟨mA,⟨od,es,ep,e,c⟩,r⟩:=x;exact#[mA,#[od,es,ep,k _ _ (.inl rfl) e,c],r]
 |rng lo hi=>let⟨t,u,v,e⟩:=x;exact#[t,u,v,k _ _ (.inl rfl) e]
 |frz ob u ih=>let⟨e,q⟩:=x;exact#[k _ _ (.inl rfl) e,ih q]
 |tbl ps=>
  let e:=x
  erw[k a _ (.inl rfl) e]
 |met f y=>
  let e:=x
  erw[k a _ (.inl rfl) e]
 |ext φ=>let⟨p,⟨o,e⟩,st⟩:=x;exact#[st _ _ p λo q=>k _ _ (.inl rfl) q,#[o,k _ _ (.inl rfl) e],st]
def HOk.lt(x:HOk P w H h)(e:H a=some o):a<h.objs.size:=(x a o e).lt
def HOk.fresh(x:HOk P w H h)(e:h.objs.size<=a):H a=none:=by
 cases q:H a with
 |none=>rfl
 |some u=>erw[absurd (xq (x.lt q) e) (ub _)]
def HOk.kept(x:HOk P w H h)(k:∀ b u,h.get? b=some u->h'.get? b=some u):HOk P w H h':=λa o e=>
 (x a o e).stay (λb u _ q=>k b u q) (λ_ q=>q) λ_ _ q=>q
def HOk.laid(x:HOk P w H h)(k:∀ b u,h.get? b=some u->h'.get? b=some u)(hp:h.objs.size<=a)(new:ObjOk P w (upd H a o) h' a o):HOk P w (upd H a o) h':=λb u e=>by
 let hn:=x.fresh hp
 by_cases hb:b=a
 ·subst hb;rw[zK]at e;cases e;exact new
 ·rw[zI hb]at e
  exact (x b u e).stay (λc v _ q=>k c v q) (λc q=>by rw[zI (qF q hn)];exact q) λc xs q=>by rw[zI (qF q hn)];exact q
end
def Rd(H:Hp)(a:Ap)(u:HO):Prop:=H a=some u∨∃ o,H a=some (.frz o u)
def Rd.ok{P:Ar}{w:World}{H:Hp}{h:Heap}{a:Ap}{u:HO}(r:Rd H a u)(x:HOk P w H h):ObjOk P w H h a u:=by
 rcases r with r | ⟨o,r⟩
 ·erw[x a u r]
 ·let(_,q):=x a _ r
  erw[q]
def Mut:Option HO->Prop
 |some (.lst _)=>True
 |some (.dK _)=>True
 |some (.set _ _)=>True
 |some (.ins _ _ _)=>True
 |some (.ext _)=>True
 |_=>False
section
variable {P:Ar}{w:World}{H:Hp}{h h':Heap}{x e:Ap}{o':HO}
def HOk.write(ok:HOk P w H h)(mu:Mut (H x))(he:e=x∨H e=some (.own x))(k:∀ b u,b≠e->h.get? b=some u->h'.get? b=some u)(m8:∃ u,h'.get? e=some u)
  (new:ObjOk P w (upd H x o') h' x o'):HOk P w (upd H x o') h':=λb u q=>by
 let Ay:∀ c y,H c=some (.own y)->c≠x:=λc y r z=>by subst z;rw[r]at mu;exact mu
 let Ax:∀ c xs,H c=some (.tup xs)->c≠x:=λc xs r z=>by subst z;rw[r]at mu;exact mu
 by_cases hb:b=x
 ·subst hb;rw[zK]at q;cases q;exact new
 ·rw[zI hb]at q
  by_cases ng:b=e
  ·let q':H b=some (.own x):=by
    rcases he with z | z
    ·erw[absurd (ng.trans z) hb]
    ·rw[ng];exact z
   rw[q]at q';cases q'
   let(v,hv):=m8
   exact#[v,by rw[ng];exact hv]
  ·refine (ok b u q).stay (λc v hc r=>k c v ?_ r) (λc r=>by rw[zI (Ay c b r)];exact r) λc xs r=>by rw[zI (Ax c xs r)];exact r
   grind
end
structure Un(fs ex:List Ap)(H H':Hp)(h h':Heap):Prop where
 keep:∀ b o,h.get? b=some o->H b=none->b∉fs->b∉ex->h'.get? b=some o
 slot:∀ b o,h.get? b=some o->H b=none->b∈fs->b∉ex->∃ sl,h'.get? b=some { o with slots:=sl }
 free:∀ b o,h.get? b=some o->H b=none->b∉ex->H' b=none
 there:∀ b o,h.get? b=some o->b∉ex->∃ o',h'.get? b=some o'
 tups:∀ b xs,H b=some (.tup xs)->H' b=some (.tup xs)
 frzs:∀ b o u,H b=some (.frz o u)->H' b=some (.frz o u)
 tbls:∀ b ps,H b=some (.tbl ps)->∃ more,H' b=some (.tbl (ps++more))
section
variable {fs ex:List Ap}{H H1:Hp}{h h1 h':Heap}{a x e:Ap}{o:HO}
def Un.any(u:Un fs ex H H1 h h1){b:Ap}{ob:Obj}(q:h.get? b=some ob)(n:H b=none)(hx:b∉ex):∃ sl,h1.get? b=some { ob with slots:=sl }:=by
 by_cases hb:b∈fs
 ·erw[u.slot b ob q n hb hx]
 ·exact#[ob.slots,u.keep b ob q n hb hx]
def Un.kept(k:∀ b u,h.get? b=some u->h'.get? b=some u):Un fs ex H H h h' :=
 #[λb ob q _ _ _=>k b ob q,λb ob q _ _ _=>#[ob.slots,k b ob q],λ_ _ _ n _=>n,λb ob q _=>#[ob,k b ob q],λ_ _ q=>q,λ_ _ _ q=>q,λ_ ps q=>#[(List.toArray []),by rw[q];simp]]
def Un.refl:Un fs ex H H h h:=Un.kept λ_ _ q=>q
def Un.laid(k:∀ b u,h.get? b=some u->h'.get? b=some u)(hp:h.objs.size<=a)(hn:H a=none):Un fs ex H (upd H a o) h h' where
 keep:=λb u q _ _ _=>k b u q
 slot:=λb u q _ _ _=>#[u.slots,k b u q]
 free:=λb u q n _=>by rw[zI (xj (xq (x5 q) hp))];exact n
 there:=λb u q _=>#[u,k b u q]
 tups:=λb xs q=>by rw[zI (qF q hn)];exact q
 frzs:=λb u xs q=>by rw[zI (qF q hn)];exact q
 tbls:=λb ps q=>#[(List.toArray []),by rw[zI (qF q hn),q];simp]
def Un.write(mu:Mut (H x))(he:e=x∨H e=some (.own x))(k:∀ b u,b≠e->h.get? b=some u->h'.get? b=some u)(m8:∃ u,h'.get? e=some u):Un fs ex H (upd H x o) h h':=by
 let hx:∀ b,H b=none->b≠x:=λb n z=>by subst z;rw[n]at mu;exact mu
 let hb:∀ b,H b=none->b≠e:=λb n z=>by
  subst z
  rcases he with r | r
  ·erw[hx b n r]
  ·rw[n]at r;cases r
 let hm:∀ b u,H b=some u->¬ Mut (some u)->b≠x:=λb u q nm z=>by subst z;rw[q]at mu;exact nm mu
 refine⟨λb u q n _ _=>k b u (hb b n) q,λb u q n _ _=>⟨u.slots,k b u (hb b n) q⟩,λb u q n _=>by rw[zI (hx b n)];exact n,λb u q _=>?_,
  λb xs q=>by rw[zI (hm b _ q λz=>z)];exact q,λb u xs q=>by rw[zI (hm b _ q λz=>z)];exact q,λb ps q=>#[(List.toArray []),by rw[zI (hm b _ q λz=>z),q];simp]⟩
 by_cases ng:b=e
 ·subst ng;exact m8
 ·exact#[u,k b u ng q]
end
def trk(h:Heap)(H:Hp):List Ap:=(List.range h.objs.size).filter λa=>(H a).isSome
def yn(h:Heap)(H:Hp):Heap:=W.hideAll h (trk h H)
def zbV(h:Heap)(H:Hp):(yn h H).objs.size=h.objs.size:=W.hideAll_size _ _
def zez(e:h.get? b=some o)(n:H b=none):(yn h H).get? b=some o :=
 W.hideAll_get _ e λhm=>by
  let q:=(ur.mp hm).2
  rw[n]at q;simp at q
def zg8(e:(yn h H).get? b=some o):h.get? b=some o/\H b=none:=by
 let e':=W.of_hideAll (trk h H) e
 refine#[e',?_]
 cases q:H b with
 |none=>rfl
 |some x=>
  let hm:b∈trk h H:=ur.mpr #[List.mem_range.mpr (x5 e'),by simp[q]]
  let z:(yn h H).get? b=none:=W.hideAll_none (trk h H) hm
  rw[z]at e;cases e
structure Mod(K:Ah)(mg:Aq)(base:Heap):Prop where
 kin:K.In base
 glob:base.Ns mainGlobals mg
 blt:∃ mb,base.Ns builtinsNs mb/\∀ x:Str,x≠ "__name__" ->mb x=bootBuiltins x
 nolimit:base.NoLimit
structure Cx where
 prog:Ar
 w:World
 K:Ah
 mg:Aq
 base:Heap
 A:Around
 N:Ab
 s₀:Am
 H₀:Hp
 env:Env
 outer:List Env
 stack:List Env
 ex:List Ap
 fn:Str->Bool
 calm:Bool
 pn:Ak
 xe:Af
def frs(l:List Env):List Ap:=l.filterMap (·.frame)
abbrev Cx.fs(X:Cx):List Ap:=frs X.outer
def Vis(sc:Scope)(x:Str):Prop:=sc.names.lookup x=some .local∨sc.names.lookup x=some .cell∨sc.names.lookup x=some .free
def Loc(sc:Scope)(x:Str):Prop:=sc.names.lookup x=some .local∨sc.names.lookup x=some .cell
def Look(env:Env)(h:Heap)(m:Aq)(x:Str)(u:Aj):Prop :=
 (env.kindOf x=some .local/\m x=some u)∨((env.kindOf x=some .cell∨env.kindOf x=some .free)/\∃ c,env.cells.lookup x=some c/\h.IsCell c (some u))
structure Cx.Ok(X:Cx):Prop where
 mod:Mod X.K X.mg X.base
 kind:X.env.scope.kind=.function
 glob:X.env.globals=mainGlobals
 blt:X.env.builtins=builtinsNs
 above:X.s₀.heap.objs.size<=X.env.locals
 inj:∀ x y c,X.env.cells.lookup x=some c->X.env.cells.lookup y=some c->x=y
 has:∀ x,(X.env.kindOf x=some .cell∨X.env.kindOf x=some .free)->∃ c,X.env.cells.lookup x=some c
 cab:∀ x c,X.fn x=true->X.env.cells.lookup x=some c->X.s₀.heap.objs.size<=c
 hd:X.calm=true->X.A.handled=none
 frames:X.A.frames=some X.stack
 stk:X.stack=X.outer∨(X.stack=X.env::X.outer/\X.env.frame=some X.env.locals)
 exf:∀ b∈X.ex,b≠X.env.locals/\∀ x c,X.env.cells.lookup x=some c->c≠b
 bs:∀ b o,X.base.get? b=some o->X.s₀.heap.get? b=some o/\X.H₀ b=none
 bsz:X.base.objs.size<=X.s₀.heap.objs.size
 noex:∀ b o,X.base.get? b=some o->b∉X.ex
 exfs:∀ b∈X.ex,b∉X.fs
 funs:X.s₀.heap.FunFrames X.base X.outer
 frf:∀ b∈X.fs,X.H₀ b=none
structure Inv(X:Cx)(pins:Ak)(O:List (Option V))(H:Hp)(s:Am):Prop where
 ok:X.Ok
 os:s.os=X.s₀.os
 bare:AllBare s.gens
 base:Un X.fs X.ex X.H₀ H X.s₀.heap s.heap
 loc:∃ m,s.heap.Ns X.env.locals m/\∀(i:Nat)(x:Str)(v:V),X.N[i]?=some x->O[i]?=some (some v)->Vis X.env.scope x->∃ u,RelV v u/\Look X.env s.heap m x u
 cell:∀ x c,X.env.cells.lookup x=some c->∃ v,s.heap.IsCell c v
 free:H X.env.locals=none
 freeC:∀ x c,X.env.cells.lookup x=some c->H c=none
 pin:∀ p∈X.pn++pins,s.heap.get? p.1=some p.2/\H p.1=none/\p.1≠X.env.locals/\p.1∉X.fs/\∀ v,p.2.data≠ .cell v
 hok:HOk X.prog X.w H s.heap
 len:O.length=X.N.length
section
variable {X:Cx}{pins:Ak}{O:List (Option V)}{H H':Hp}{s:Am}{h':Heap}
def Cx.Ok.nofr(ok:X.Ok)(e:X.base.get? b=some o):b∉X.fs:=λhb=>by
 have:=(ok.funs.mem hb).1
 rw[e]at this;cases this
def Inv.bs(I:Inv X pins O H s):∀ b o,X.base.get? b=some o->s.heap.get? b=some o/\H b=none:=λb o e=>
 #[I.base.keep b o (I.ok.bs b o e).1 (I.ok.bs b o e).2 (I.ok.nofr e) (I.ok.noex b o e),I.base.free b o (I.ok.bs b o e).1 (I.ok.bs b o e).2 (I.ok.noex b o e)]
def Inv.bk(I:Inv X pins O H s):∀ b o,X.base.get? b=some o->s.heap.get? b=some o:=λb o e=>(I.bs b o e).1
def Inv.mod(I:Inv X pins O H s):Mod X.K X.mg X.base:=I.ok.mod
def Inv.kIn(I:Inv X pins O H s):X.K.In s.heap:=I.ok.mod.kin.keeps I.bk
def Inv.fr(I:Inv X pins O H s):∃ m,Fr X.base X.env.locals s.heap m :=
 let ⟨m,hn,_⟩:=I.loc
 #[m,hn,I.bk,xD I.ok.bsz I.ok.above]
def Inv.lt(I:Inv X pins O H s):X.env.locals<⇑s:=let #[_,hn,_]:=I.loc;hn.lt
def Inv.sz(I:Inv X pins O H s):X.s₀.heap.objs.size<=⇑s:=xD I.ok.above (uh I.lt)
def Inv.nofs(I:Inv X pins O H s)(h:⇑s<=a):a∉X.fs:=λhb=>by
 let(_,o,ho,_):=I.ok.funs.mem hb
 erw[absurd (xq (x5 ho) (xD I.sz h)) (ub _)]
def Inv.cne(I:Inv X pins O H s):∀ x c,X.env.cells.lookup x=some c->c≠X.env.locals:=λx c e z=>by
 let(v,o,ho,hd):=I.cell x c e
 let(m,(o',es,ep,dg,Cy,_),_):=I.loc
 grind
def Inv.funs(I:Inv X pins O H s):s.heap.FunFrames X.base X.outer:=by
 let all:∀(l:List Env),(∀ b∈frs l,b∈X.fs)->X.s₀.heap.FunFrames X.base l->s.heap.FunFrames X.base l:=by
  intro l
  induction l with
  |nil=>intro _ _;trivial
  |cons env r ih=>
   intro hs hl
   let(hk,(L,o,hf,hn,ho,hd),hr):=hl
   let hL:=hs L (by unfold frs;rw[ug,hf];exact xA)
   let(sl,e):=I.base.slot L o ho (I.ok.frf L hL) hL λz=>I.ok.exfs L z hL
   exact#[hk,#[L,_,hf,hn,e,hd],ih (λb hb=>hs b (by unfold frs;rw[ug,hf];exact xt _ hb)) hr]
 erw[all X.outer (λ_ hb=>hb) I.ok.funs]
def Inv.stack(I:Inv X pins O H s):s.heap.FunFrames X.base X.stack:=by
 rcases I.ok.stk with e | ⟨e,hf⟩
 ·rw[e];exact I.funs
 ·rw[e]
  let(m,hn,_):=I.loc
  refine .cons (by rw[I.ok.kind];decide) hf hn ?_ I.funs
  erw[Heap.get?_none_of_le (xD I.ok.bsz I.ok.above)]
def Inv.stkSub(I:Inv X pins O H s):∀ b∈frs X.stack,b∈X.env.locals::X.fs:=λb hb=>by
 rcases I.ok.stk with e | ⟨e,hf⟩
 ·rw[e]at hb;exact xt _ hb
 ·rw[e]at hb
  unfold frs at hb
  rw[ug,hf]at hb
  erw[hb]
def Inv.stkFree(I:Inv X pins O H s):∀ b∈frs X.stack,H b=none:=λb hb=>by
 rcases xC.mp (I.stkSub b hb)with e | hb
 ·rw[e];exact I.free
 ·let(_,o,ho,_):=I.ok.funs.mem hb
  erw[I.base.free b o ho (I.ok.frf b hb) λz=>I.ok.exfs b z hb]
def Inv.step{g':Array GenState}{t':Nat}{d':Drawn}{ch:List Ap}(I:Inv X pins O H s)
  (ft:∀ b∈ch,(b∈X.ex∨X.s₀.heap.objs.size<=b)/\b≠X.env.locals/\(∀ x c,X.env.cells.lookup x=some c->c≠b)/\∀ p∈X.pn++pins,p.1≠b)
  (keep:∀ b o,b≠X.env.locals->b∉X.fs->b∉ch->s.heap.get? b=some o->H b=none->h'.get? b=some o)
  (slot:∀ b o,b≠X.env.locals->b∈X.fs->b∉ch->s.heap.get? b=some o->H b=none->∃ sl,h'.get? b=some { o with slots:=sl }) (free:∀ b o,b∉ch->s.heap.get? b=some o->H b=none->H' b=none)
  (there:∀ b o,b∉ch->s.heap.get? b=some o->∃ o',h'.get? b=some o')
  (tups:∀ b xs,H b=some (.tup xs)->H' b=some (.tup xs)) (frzs:∀ b o u,H b=some (.frz o u)->H' b=some (.frz o u)) (tbls:∀ b ps,H b=some (.tbl ps)->∃ more,H' b=some (.tbl (ps++more)))
  (ns:∀ m,s.heap.Ns X.env.locals m->h'.Ns X.env.locals m) (hok:HOk X.prog X.w H' h') (hg:AllBare g') :
  Inv X pins O H' { s with heap:=h',gens:=g',drawn:=d',toks:=t' }:=by
 let B6:∀ b o,X.s₀.heap.get? b=some o->b≠X.env.locals:=λb o e=>xj (xq (x5 e) I.ok.above)
 let sx:∀ b o,X.s₀.heap.get? b=some o->b∉X.ex->b∉ch:=λb o e hx hb=>by
  rcases (ft b hb).1 with z | z
  ·erw[hx z]
  ·erw[absurd (xq (x5 e) z) (ub _)]
 let cellK:∀ x c,X.env.cells.lookup x=some c->∀ v,s.heap.IsCell c v->h'.IsCell c v:=λx c e v ⟨o,ho,hd⟩=>by
  let n5:c∉ch:=λz=>(ft c z).2.2.1 x c e rfl
  by_cases hc:c∈X.fs
  ·let(sl,q):=slot c o (I.cne x c e) hc n5 ho (I.freeC x c e)
   exact#[_,q,hd]
  ·exact#[o,keep c o (I.cne x c e) hc n5 ho (I.freeC x c e),hd]
 refine#[I.ok,I.os,hg,#[λb o e n hb hx=>?_,λb o e n hb hx=>?_,λb o e n hx=>?_,λb o e hx=>?_,λb xs e=>tups b xs (I.base.tups b xs e),λb o xs e=>frzs b o xs (I.base.frzs b o xs e),λb ps e=>?_],?_,λx c e=>?_,?_,λx c e=>?_,λp hp=>?_,hok,I.len]
 ·erw[keep b o (B6 b o e) hb (sx b o e hx) (I.base.keep b o e n hb hx) (I.base.free b o e n hx)]
 ·let(sl,e1):=I.base.slot b o e n hb hx
  let(DK,e2):=slot b _ (B6 b o e) hb (sx b o e hx) e1 (I.base.free b o e n hx)
  exact#[DK,e2]
 ·let(o',e1):=I.base.there b o e hx
  erw[free b o' (sx b o e hx) e1 (I.base.free b o e n hx)]
 ·let(o',e1):=I.base.there b o e hx
  erw[there b o' (sx b o e hx) e1]
 ·let(m1,e1):=I.base.tbls b ps e
  let(m2,e2):=tbls b _ e1
  exact#[m1++m2,by rw[e2,Array.append_assoc]]
 ·let(m,hn,hl):=I.loc
  refine#[m,ns m hn,λi x v e1 e2 e3=>?_]
  let(u,r,l):=hl i x v e1 e2 e3
  refine#[u,r,?_]
  rcases l with l | ⟨k,c,e,z⟩
  ·erw[.inl l]
  ·erw[.inr #[k,c,e,cellK x c e _ z]]
 ·let(v,z):=I.cell x c e
  exact#[v,cellK x c e v z]
 ·let(m,(o,_,_,ho,_),_):=I.loc
  erw[free _ o (λz=>(ft _ z).2.1 rfl) ho I.free]
 ·let(v,o,ho,hd):=I.cell x c e
  erw[free c o (λz=>(ft c z).2.2.1 x c e rfl) ho (I.freeC x c e)]
 ·let(e,n,ne,nf,d):=I.pin p hp
  let n5:p.1∉ch:=λz=>(ft p.1 z).2.2.2 p hp rfl
  exact#[keep p.1 p.2 ne nf n5 e n,free p.1 p.2 n5 e n,ne,nf,d]
def Inv.un(I:Inv X pins O H s)(u:Un X.fs [] H H' s.heap h')(hok:HOk X.prog X.w H' h'):Inv X pins O H' { s with heap:=h',toks:=t' }:=by
 let(m,(o,es,ep,ho,r),_):=id I.loc
 let(sl,hL):=u.any ho I.free (by simp)
 exact I.step (ch:= []) (λ_ z=>nomatch z) (λb o _ hb _ e n=>u.keep b o e n hb (by simp)) (λb o _ hb _ e n=>u.slot b o e n hb (by simp)) (λb o _ e n=>u.free b o e n (by simp)) (λb o _ e=>u.there b o e (by simp)) u.tups u.frzs u.tbls (λm' hm=>by
  let(o',BN,BP,dg,r'):=hm
  rw[ho]at dg;cases dg
  exact#[_,BN,BP,hL,r']) hok I.bare
def Inv.call{g':Array GenState}{t':Nat}{d':Drawn}{ch:List Ap}(I:Inv X pins O H s)(u:Un (frs X.stack) ch H H' s.heap h')(hok:HOk X.prog X.w H' h')(hg:AllBare g')
  (ft:∀ b∈ch,(b∈X.ex∨X.s₀.heap.objs.size<=b)/\b≠X.env.locals/\(∀ x c,X.env.cells.lookup x=some c->c≠b)/\∀ p∈X.pn++pins,p.1≠b) :
  Inv X pins O H' { s with heap:=h',gens:=g',drawn:=d',toks:=t' }:=by
 let(m,(o,es,ep,ho,r),_):=id I.loc
 let(sl,hL):=u.any ho I.free λz=>(ft _ z).2.1 rfl
 exact I.step ft (λb o hL hb hc e n=>u.keep b o e n (λz=>(xC.mp (I.stkSub b z)).elim hL hb) hc) (λb o _ _ hc e n=>u.any e n hc) (λb o hc e n=>u.free b o e n hc) (λb o hc e=>u.there b o e hc) u.tups u.frzs u.tbls (λm' hm=>by
  let(o',BN,BP,dg,r'):=hm
  rw[ho]at dg;cases dg
  exact#[_,BN,BP,hL,r']) hok hg
def Inv.turned{t':Nat}(I:Inv X pins O H s)(k:∀ b o,b≠it->s.heap.get? b=some o->h'.get? b=some o)(hn:H it=none)(hL:it≠X.env.locals)
  (h1:it∈X.ex∨X.s₀.heap.objs.size<=it) (h2:∀ x c,X.env.cells.lookup x=some c->c≠it) (h3:∀ p∈X.pn++pins,p.1≠it):Inv X pins O H { s with heap:=h',toks:=t' }:=by
 let ny:∀ b u,H b=some u->b≠it:=λb u e z=>by rw[z,hn]at e;cases e
 refine I.step (ch:= [it]) (λb hb=>?_) (λb o _ _ hc e _=>k b o (λz=>hc (by simp[z])) e) (λb o _ _ hc e _=>#[o.slots,k b o (λz=>hc (by simp[z])) e]) (λ_ _ _ _ n=>n)
  (λb o hc e=>#[o,k b o (λz=>hc (by simp[z])) e]) (λ_ _ e=>e) (λ_ _ _ e=>e) (λb ps e=>#[(List.toArray []),by rw[e];simp]) (λm hm=>?_) (λb u e=>?_) I.bare
 ·let e:b=it:= ~~~hb
  subst e
  exact#[h1,hL,h2,h3]
 ·let(o,es,ep,ho,r):=hm
  exact#[o,es,ep,k _ o (Ne.symm hL) ho,r]
 ·refine (I.hok b u e).stay (λc v hc q=>k c v ?_ q) (λ_ q=>q) λ_ _ q=>q
  rcases hc with z | z
  ·rw[z];exact ny b u e
  ·erw[ny c _ z]
def Inv.tok(I:Inv X pins O H s)(t:Nat):Inv X pins O H { s with toks:=t }:=I.un Un.refl I.hok
def Inv.kept{t':Nat}(I:Inv X pins O H s)(k:∀ b u,s.heap.get? b=some u->h'.get? b=some u):Inv X pins O H { s with heap:=h',toks:=t' }:=I.un (Un.kept k) (I.hok.kept k)
def Inv.laid{a:Ap}{o:HO}{t':Nat}(I:Inv X pins O H s)(k:∀ b u,s.heap.get? b=some u->h'.get? b=some u)(hp:⇑s<=a)(new:ObjOk X.prog X.w (upd H a o) h' a o) :
  Inv X pins O (upd H a o) { s with heap:=h',toks:=t' }:=I.un (Un.laid k hp (I.hok.fresh hp)) (I.hok.laid k hp new)
def Inv.write{o:HO}{t':Nat}(I:Inv X pins O H s)(mu:Mut (H x))(he:e=x∨H e=some (.own x))(k:∀ b u,b≠e->s.heap.get? b=some u->h'.get? b=some u)(m8:∃ u,h'.get? e=some u)
  (new:ObjOk X.prog X.w (upd H x o) h' x o):Inv X pins O (upd H x o) { s with heap:=h',toks:=t' }:=I.un (Un.write mu he k m8) (I.hok.write mu he k m8 new)
def Inv.weak(I:Inv X pins O H s)(hl:O'.length=O.length)(w:∀(i:Nat) v,O'[i]?=some (some v)->O[i]?=some (some v)):Inv X pins O' H s :=
 #[I.ok,I.os,I.bare,I.base,let #[m,hn,dv]:=I.loc;#[m,hn,λi x v e1 e2 e3=>dv i x v e1 (w i v e2) e3],I.cell,I.free,I.freeC,I.pin,I.hok,hl.trans I.len]
def Inv.pins_of(I:Inv X pins O H s)(h:∀ p∈pins',s.heap.get? p.1=some p.2/\H p.1=none/\p.1≠X.env.locals/\p.1∉X.fs/\∀ v,p.2.data≠ .cell v):Inv X pins' O H s :=
 #[I.ok,I.os,I.bare,I.base,I.loc,I.cell,I.free,I.freeC,λp hp=>(xM.mp hp).elim (λz=>I.pin p (ud _ z)) (h p),I.hok,I.len]
def Ys{N:Ab}(hN:N.Nodup){i j:Nat}(a:N[i]?=some x)(b:N[j]?=some x):i=j:=by
 let(h1,e1):=xa.mp a
 let(h2,e2):=xa.mp b
 erw[(List.getElem_inj hN).mp (e1.trans e2.symm)]
def J7{M:Model}{A:Around}{E:Af}{x:Str}{v:V}{u:Aj}{Q:Unit->Am->Prop}(I:Inv X pins O H s)(hN:X.N.Nodup)(hi:X.N[i]?=some x)(hx:Loc X.env.scope x)(r:RelV v u)
  (h:∀ s',Inv X pins (O.set i (some v)) H s'->(∃ a,Heap.SameBut a s.heap s'.heap/\(a=X.env.locals∨X.env.cells.lookup x=some a))->Q () s') (hf:X.fn x=true∨X.env.scope.names.lookup x=some .local:=by first | exact .inl rfl | exact .inr rfl | assumption):wpAny M A (storeName X.env x u) Q E s:=by
 let(m,hn,hl):=id I.loc
 let Bt:(X.env.scope.kind==.class||(X.env.scope.kind==.module&&X.env.locals !=X.env.globals))=false:=by rw[I.ok.kind];rfl
 have hiσ:i<O.length:=by rw[I.len];exact (xa.mp hi).1
 let cne:=I.cne
 let tracked:∀{a:Ap}{h':Heap},(∃ o,s.heap.get? a=some o/\H a=none)->Heap.SameBut a s.heap h'->HOk X.prog X.w H h':=λ{a h'} ha hs b ob e=>by
  let(_,_,Cu):=ha
  erw[(I.hok b ob e).stay (λc w' hc q=>(hs.2 c ?_).trans q) (λ_ q=>q) λ_ _ q=>q]
  grind
 rcases hx with hk | hk
 ·refine wpAny_storeName_local hk hn (λh' hn' hs=>?_) Bt
  let(oL,_,_,oy,_):=id hn
  refine h _ #[I.ok,I.os,I.bare,#[λb o e n hb hx=>?_,λb o e n hb hx=>?_,I.base.free,λb o e hx=>?_,I.base.tups,I.base.frzs,I.base.tbls],#[_,hn',λj y v' e1 e2 e3=>?_],λy c e=>?_,I.free,I.freeC,λp hp=>?_,tracked #[oL,oy,I.free] hs,~~~I.len] #[_,hs,.inl rfl]
  ·erw[(hs.2 b (xj (xq (x5 e) I.ok.above))).trans (I.base.keep b o e n hb hx)]
  ·let(sl,e1):=I.base.slot b o e n hb hx
   exact#[sl,(hs.2 b (xj (xq (x5 e) I.ok.above))).trans e1]
  ·let(o',e1):=I.base.there b o e hx
   exact#[o',(hs.2 b (xj (xq (x5 e) I.ok.above))).trans e1]
  ·by_cases hj:j=i
   ·subst hj
    rw[hi]at e1;cases e1
    rw[xn hiσ]at e2
    cases e2
    exact#[u,r,.inl #[hk,by simp]]
   ·rw[xg (Ne.symm hj)]at e2
    let(u',r',q):=hl j y v' e1 e2 e3
    refine#[u',r',?_]
    rcases q with ⟨k,e⟩ | ⟨k,c,e,z⟩
    ·refine .inl #[k,?_]
     have:y≠x:=λe=>hj (Ys hN e1 (e ▸ hi))
     simp[this,e]
    ·erw[.inr #[k,c,e,z.sameBut hs (cne y c e)]]
  ·let(w',z):=I.cell y c e
   exact#[w',z.sameBut hs (cne y c e)]
  ·let(e,n,ne,nf,d):=I.pin p hp
   exact#[(hs.2 p.1 ne).trans e,n,ne,nf,d]
 ·let Bn:X.fn x=true:=by grind
  let(c,hc):=I.ok.has x (.inl hk)
  let(w',z):=I.cell x c hc
  erw[wpAny_storeName_cell I.ok.kind hk hc z (λh' hc' hs=>?_)]
  let(oc,Cj,A5):=id z
  refine h { s with heap:=h' } #[I.ok,I.os,I.bare,#[λb o e n hb hx=>?_,λb o e n hb hx=>?_,I.base.free,λb o e hx=>?_,I.base.tups,I.base.frzs,I.base.tbls],#[m,hn.sameBut hs (Ne.symm (cne x c hc)),λj y v' e1 e2 e3=>?_],λy c' e=>?_,I.free,I.freeC,λp hp=>?_,tracked #[oc,Cj,I.freeC x c hc] hs,~~~I.len] #[c,hs,.inr hc]
  ·erw[(hs.2 b (xj (xq (x5 e) (I.ok.cab x c Bn hc)))).trans (I.base.keep b o e n hb hx)]
  ·let(sl,e1):=I.base.slot b o e n hb hx
   exact#[sl,(hs.2 b (xj (xq (x5 e) (I.ok.cab x c Bn hc)))).trans e1]
  ·let(o',e1):=I.base.there b o e hx
   exact#[o',(hs.2 b (xj (xq (x5 e) (I.ok.cab x c Bn hc)))).trans e1]
  ·by_cases hj:j=i
   ·subst hj
    rw[hi]at e1;cases e1
    rw[xn hiσ]at e2
    cases e2
    exact#[u,r,.inr #[.inl hk,c,hc,hc']]
   ·rw[xg (Ne.symm hj)]at e2
    let(u',r',q):=hl j y v' e1 e2 e3
    refine#[u',r',?_]
    rcases q with q | ⟨k,c',e,z'⟩
    ·erw[.inl q]
    ·refine .inr #[k,c',e,z'.sameBut hs ?_]
     rintro rfl
     erw[hj (Ys hN e1 (I.ok.inj _ _ _ e hc ▸ hi))]
  ·by_cases Cz:c'=c
   ·subst Cz;exact#[_,hc']
   ·let(w2,z2):=I.cell y c' e
    exact#[w2,z2.sameBut hs Cz]
  ·let(e,n,ne,nf,d):=I.pin p hp
   refine#[(hs.2 p.1 ?_).trans e,n,ne,nf,d]
   intro q
   rw[q,Cj]at e
   let q':=Option.some.inj e
   exact d w' (by rw[<- q'];exact A5)
def QB{M:Model}{A:Around}{E:Af}{i:Nat}{x:Str}{v:V}{u:Aj}{Q:Unit->Am->Prop}(I:Inv X pins O H s)(hN:X.N.Nodup)(hi:X.N[i]?=some x)(hx:Loc X.env.scope x)(r:RelV v u)
  (h:∀ s',Inv X pins (O.set i (some v)) H s'->Q () s') (hf:X.fn x=true∨X.env.scope.names.lookup x=some .local:=by first | exact .inl rfl | exact .inr rfl | assumption):wpAny M A (storeName X.env x u) Q E s :=
 J7 I hN hi hx r (λs' I' _=>h s' I') hf
def Inv.call'(I:Inv X pins O H s)(ho:s'.os=s.os)(u:Un (frs X.stack) ch H H' s.heap s'.heap)(hok:HOk X.prog X.w H' s'.heap)(hg:AllBare s'.gens)
  (ft:∀ b∈ch,(b∈X.ex∨X.s₀.heap.objs.size<=b)/\b≠X.env.locals/\(∀ x c,X.env.cells.lookup x=some c->c≠b)/\∀ p∈X.pn++pins,p.1≠b):Inv X pins O H' s':=by
 let(h',g',d',t',o'):=s'
 let e:=ho
 subst e
 erw[I.call u hok hg ft]
end
abbrev XK:=Aj->Option Ap->Hp->Prop
abbrev St:=List (Option V)
abbrev VK:=V->Hp->Prop
abbrev TE:=St->Hp->VK->Prop
abbrev TT:=St->Hp->(Bool->Hp->Prop)->Prop
abbrev TA:=St->Hp->(List V->Hp->Prop)->Prop
structure Ji where
 nx:St->Hp->Prop
 rt:VK
 bk:St->Hp->Prop:=λ_ _=>False
 ct:St->Hp->Prop:=λ_ _=>False
abbrev TS:=Ji->St->Hp->Prop
def EP(X:Cx)(pins:Ak)(O:St)(Q:VK)(u:Aj)(s':Am):Prop:=∃ v H',Inv X pins O H' s'/\RelV v u/\Q v H'
def TP(X:Cx)(pins:Ak)(O:St)(Q:Bool->Hp->Prop)(b:Bool)(s':Am):Prop:=∃ H',Inv X pins O H' s'/\Q b H'
def AP(X:Cx)(pins:Ak)(O:St)(Q:List V->Hp->Prop)(us:An)(s':Am):Prop:=∃ vs H',Inv X pins O H' s'/\Vals vs us/\Q vs H'
def SP(X:Cx)(pins:Ak)(D:Ji)(f:Flow)(s':Am):Prop :=
 match f with
 |.next=>∃ O' H',Inv X pins O' H' s'/\D.nx O' H'
 |.brk=>∃ O' H',Inv X pins O' H' s'/\D.bk O' H'
 |.cont=>∃ O' H',Inv X pins O' H' s'/\D.ct O' H'
 |.ret u=>∃ v O' H',Inv X pins O' H' s'/\RelV v u/\D.rt v H'
def PE(X:Cx)(e:Expr)(t:TE):Prop :=
 ∀(pins:Ak)(s:Am)(O:St)(H:Hp)(Q:VK),Inv X pins O H s->t O H Q->∅ (eval e X.env) (EP X pins O Q) X.xe s
def PT(X:Cx)(e:Expr)(t:TT):Prop :=
 ∀(pins:Ak)(s:Am)(O:St)(H:Hp)(Q:Bool->Hp->Prop),Inv X pins O H s->t O H Q->∅ (isTrue e X.env (eval e X.env)) (TP X pins O Q) X.xe s
def PW(X:Cx)(e:Expr)(t:TT):Prop :=
 ∀(whole:Sem Aj)(pins:Ak)(s:Am)(O:St)(H:Hp)(Q:Bool->Hp->Prop),Inv X pins O H s->t O H Q->∅ (isTrue e X.env whole) (TP X pins O Q) X.xe s
def PA(X:Cx)(es:Ag)(t:TA):Prop :=
 ∀(pos:Pos)(pins:Ak)(s:Am)(O:St)(H:Hp)(Q:List V->Hp->Prop),Inv X pins O H s->t O H Q->∅ (spliced (backTo pos (starEach es X.env))) (AP X pins O Q) X.xe s
def PS(X:Cx)(st:Stmt)(t:TS):Prop :=
 ∀(pins:Ak)(s:Am)(O:St)(H:Hp)(D:Ji),Inv X pins O H s->t D O H->∅ (exec st X.env) (SP X pins D) X.xe s
def PSs(X:Cx)(st:List Stmt)(t:TS):Prop :=
 ∀(pins:Ak)(s:Am)(O:St)(H:Hp)(D:Ji),Inv X pins O H s->t D O H->∅ (execs st X.env) (SP X pins D) X.xe s
def thn{α:Type}{t:Sem α}{Q Q':α->Am->Prop}{M:Model}{A:Around}{E:Af}{s:Am}(h:wpAny M A t Q E s)(hQ:∀ a s,Q a s->Q' a s):wpAny M A t Q' E s:=Xc h hQ λ_ _ x=>x
section
variable {X:Cx}
def zl0(i:Nat):TE:=λO H Q=>∃ v,O[i]?=some (some v)/\Q v H
def tC(v:V):TE:=λ_ H Q=>Q v H
def qG (hN:X.N[i]?=some x) (hv:Vis X.env.scope x) (hd:(↥x):=by decide) (hcd:(x==("__classdict__" :Str))=false:=by decide):PE X (.Name x pos) (zl0 i):=by
 cbv
 let(v,e,h):=h
 let(m,hn,hl):=I.loc
 let(u,r,l):=hl i x v hN e hv
 let fin:EP X pins O Q u s:=#[v,H,I,r,h]
 rcases l with ⟨hk,hm⟩ | ⟨hk,c,hc,dh⟩
 ·erw[wpAny_Name (wpAny_loadName_local I.ok.kind hk hn hm fin) hd]
 ·rcases hk with hk | hk
  ·erw[wpAny_Name (wpAny_loadName_cell I.ok.kind hk hc dh fin) hd]
  ·erw[wpAny_Name (wpAny_loadName_free I.ok.kind hk hc dh fin hcd) hd]
def pe_int{i j pos}:PE X (.Constant (.int i) j pos) (tC (.int i)):=λ_ _ _ H _ I h=>wpAny_Constant_int #[.int i,H,I.tok _,#[_,rfl],h]
def pe_bl{b j pos}:PE X (.Constant (.bool b) j pos) (tC (.bl b)):=λ_ _ _ H _ I h=>Constant_bool #[.bl b,H,I,rfl,h]
def pe_non{j pos}:PE X (.Constant .none j pos) (tC .non):=λ_ _ _ H _ I h=>Constant_none #[.non,H,I,rfl,h]
def pe_str{x j pos}:PE X (.Constant (.str x) j pos) (tC (.str x)):=λ_ _ _ H _ I h=>Calls.Constant_str #[.str x,H,I.tok _,#[_,rfl],h]
def Gl(X:Cx)(x:Str):Prop:=X.env.kindOf x=some .globalImplicit
def QJ{E:Af}{pins:Ak}{s:Am}{O:St}{H:Hp}{x:Str}{u:Aj}{pos:Pos}{Q:Af}(I:Inv X pins O H s)(hg:Gl X x)(hm:X.mg x=some u)(h:Q u s)
  (hd:(↥x):=by decide):∅ (eval (.Name x pos) X.env) Q E s :=
 Calls.Name_function_global I.ok.kind hg (Calls.loadGlobal_global (by rw[I.ok.glob];exact I.mod.glob.keeps I.bk) hm h) hd
def Jb{E:Af}{pins:Ak}{s:Am}{O:St}{H:Hp}{x:Str}{u:Aj}{pos:Pos}{Q:Af}(I:Inv X pins O H s)(hg:Gl X x)(hm:X.mg x=none)(hv:bootBuiltins x=some u)(h:Q u s)
  (hn:x≠ "__name__" :=by decide) (hd:(↥x):=by decide):∅ (eval (.Name x pos) X.env) Q E s:=by
 let(mb,h1,h2):=I.mod.blt
 exact Calls.Name_function_global I.ok.kind hg (Calls.loadGlobal_builtin (by rw[I.ok.glob];exact I.mod.glob.keeps I.bk) hm (by rw[I.ok.blt];exact h1.keeps I.bk) ((h2 x hn).trans hv) h) hd
def zas (hg:Gl X x) (hm:X.mg x=some u) (r:RelV v u) (hd:(↥x):=by decide):PE X (.Name x pos) (tC v) :=
 λ_ _ _ H _ I h=>QJ I hg hm #[v,H,I,r,h] hd
def zhf (hg:Gl X x) (hm:X.mg x=none) (hv:bootBuiltins x=some u) (r:RelV v u) (hn:x≠ "__name__" :=by decide) (hd:(↥x):=by decide):PE X (.Name x pos) (tC v) :=
 λ_ _ _ H _ I h=>Jb I hg hm hv #[v,H,I,r,h] hn hd
variable {a b:Expr}{ta tb:TE}{pos:Pos}
variable {tA tB':TT}{rest:Ag}
def tAnd(t u:TT):TT:=λO H Q=>t O H λc H1=>if c=true then u O H1 Q else Q false H1
def tOr(t u:TT):TT:=λO H Q=>t O H λc H1=>if c=true then Q true H1 else u O H1 Q
def tNot(t:TT):TT:=λO H Q=>t O H λc H1=>Q (!c) H1
def zhv(ha:PT X a tA):PW X (.BoolOp .And [a] pos) tA:=by
 intro wh pins s O H Q I h
 erw[isTrue_and (thn (ha pins s O H Q I h) λc s1 e=>?_)]
 cases c with
 |true=>erw[isTrue_and_nil e]
 |false=>erw[e]
def zj7(ha:PT X a tA):PW X (.BoolOp .Or [a] pos) tA:=by
 intro wh pins s O H Q I h
 erw[isTrue_or (thn (ha pins s O H Q I h) λc s1 e=>?_)]
 cases c with
 |false=>erw[isTrue_or_nil e]
 |true=>erw[e]
def zj6(ha:PT X a tA)(hb:PW X (.BoolOp .And (b::rest) pos) tB'):PW X (.BoolOp .And (a::b::rest) pos) (tAnd tA tB'):=by
 intro wh pins s O H Q I h
 erw[isTrue_and (thn (ha pins s O H _ I h) λc s1 ⟨H1,I1,q1⟩=>?_)]
 cases c with
 |true=>erw[hb wh pins s1 O H1 Q I1 q1]
 |false=>exact#[H1,I1,q1]
def zly(ha:PT X a tA)(hb:PW X (.BoolOp .Or (b::rest) pos) tB'):PW X (.BoolOp .Or (a::b::rest) pos) (tOr tA tB'):=by
 intro wh pins s O H Q I h
 erw[isTrue_or (thn (ha pins s O H _ I h) λc s1 ⟨H1,I1,q1⟩=>?_)]
 cases c with
 |true=>exact#[H1,I1,q1]
 |false=>erw[hb wh pins s1 O H1 Q I1 q1]
def zj5(ha:PT X a tA):PT X (.UnaryOp .Not a pos) (tNot tA):=by
 cbv
 erw[isTrue_not (ha pins s O H (λc H1=>Q (!c) H1) I h)]
def zlS(ta tb:TE):TE:=λO H Q=>ta O H λx H1=>∃ c,x=.bl c/\if c=true then tb O H1 Q else Q (.bl false) H1
def tOrV(ta tb:TE):TE:=λO H Q=>ta O H λx H1=>∃ c,x=.bl c/\if c=true then Q (.bl true) H1 else tb O H1 Q
def zjW{op}(h:PE X a t):PE X (.BoolOp op [a] pos) t:=λpins s O H Q I hw=>BoolOp_one (h pins s O H Q I hw)
def zjU(ha:PE X a ta)(hb:PE X (.BoolOp .And (b::rest) pos) tb):PE X (.BoolOp .And (a::b::rest) pos) (zlS ta tb):=by
 cbv
 erw[BoolOp_and (thn (ha pins s O H _ I h) λv s1 ⟨x,H1,I1,r1,q1⟩=>?_)]
 let(c,rfl,q1):=q1
 cases r1
 erw[Xh ?_]
 cases c with
 |true=>erw[hb pins s1 O H1 Q I1 q1]
 |false=>exact#[.bl false,H1,I1,rfl,q1]
def zlw(ha:PE X a ta)(hb:PE X (.BoolOp .Or (b::rest) pos) tb):PE X (.BoolOp .Or (a::b::rest) pos) (tOrV ta tb):=by
 cbv
 erw[BoolOp_or (thn (ha pins s O H _ I h) λv s1 ⟨x,H1,I1,r1,q1⟩=>?_)]
 let(c,rfl,q1):=q1
 cases r1
 erw[Xh ?_]
 cases c with
 |false=>erw[hb pins s1 O H1 Q I1 q1]
 |true=>exact#[.bl true,H1,I1,rfl,q1]
def tIf(t:TT)(ta tb:TE):TE:=λO H Q=>t O H λc H1=>if c=true then ta O H1 Q else tb O H1 Q
def zfa{c:Expr}(hc:PT X c tA)(ha:PE X a ta)(hb:PE X b tb):PE X (.IfExp c a b pos) (tIf tA ta tb):=by
 cbv
 erw[wpAny_IfExp (thn (hc pins s O H _ I h) λd s1 ⟨H1,I1,q1⟩=>?_)]
 cases d with
 |true=>erw[ha pins s1 O H1 Q I1 q1]
 |false=>erw[hb pins s1 O H1 Q I1 q1]
end
def SqL(K:Ah)(H:Hp)(a:Ap)(xs:List V):Prop :=
 Rd H a (.lst xs) ∨
  ∃ (o:Obj) (ab:Array Aj) (n:Nat),K.lookup a=some o/\o.cls=.type "list" /\o.dict=none/\o.data=.seq ab n/\ab.size<=sizeLine/\Vals xs ab.toList
def SqT(K:Ah)(H:Hp)(a:Ap)(xs:List V):Prop :=
 Rd H a (.tup xs) ∨
  ∃ (o:Obj) (ab:Array Aj) (n:Nat),K.lookup a=some o/\o.cls=.type "tuple" /\o.data=.seq ab n/\ab.size<=sizeLine/\Vals xs ab.toList
def absV:Aj->Option V
 |.none=>some .non
 |.bool b=>some (.bl b)
 |.int i _=>some (.int i)
 |.str x _=>some (.str x)
 |.ref a=>some (.ref a)
 |.type n=>some (.ty n)
 |_=>none
def RelV.abs(r:RelV x u):absV u=some x:=by
 cases x with
 |non=>cases r;rfl
 |bl _=>cases r;rfl
 |int _=>let⟨t,rfl⟩:=r;rfl
 |str _=>let⟨t,rfl⟩:=r;rfl
 |ref _=>cases r;rfl
 |ty _=>cases r;rfl
def RelV.inj{x y:V}{u:Aj}(r:RelV x u)(q:RelV y u):x=y:=Option.some.inj (r.abs.symm.trans q.abs)
def Vals.inj:∀{xs ys:List V}{us:An},Vals xs us->Vals ys us->xs=ys
 |_,_,_,.nil,.nil=>rfl
 |_,_,_,.cons r t,.cons r' t'=>by rw[r.inj r',Vals.inj t t']
section
variable {X:Cx}{pins:Ak}{O:St}{H:Hp}{s:Am}{a:Ap}{xs ys:List V}
def SqL.of{K:Ah}(h:H a=some (.lst xs)):SqL K H a xs:=.inl (.inl h)
def SqT.of{K:Ah}(h:H a=some (.tup xs)):SqT K H a xs:=.inl (.inl h)
def Inv.list(I:Inv X pins O H s)(h:SqL X.K H a xs):∃ ab:An,Vals xs ab/\PlainL s.heap a ab.toArray/\xs.length<=sizeLine:=by
 rcases h with h | ⟨o,ab,n,hk,hc,hd,hs,hz,r⟩
 ·let(z,ab,n,r,e):=h.ok I.hok
  exact#[ab,r,#[_,n,e,rfl,rfl,rfl],z]
 ·refine#[ab.toList,r,#[o,n,I.kIn a o hk,hc,hd,~~~hs],?_]
  let e:=r.length
  simp only[Array.length_toList]at e
  lia
def Inv.tuple(I:Inv X pins O H s)(h:SqT X.K H a xs):∃ ab:An,Vals xs ab/\IsTup s.heap a ab.toArray/\xs.length<=sizeLine:=by
 rcases h with h | ⟨o,ab,n,hk,hc,hs,hz,r⟩
 ·let(z,ab,r,p):=h.ok I.hok
  exact#[ab,r,p,z]
 ·refine#[ab.toList,r,#[o,I.kIn a o hk,hc,n,~~~hs],?_]
  let e:=r.length
  simp only[Array.length_toList]at e
  lia
def Inv.list_inj(I:Inv X pins O H s)(h:SqL X.K H a xs)(h':SqL X.K H a ys):xs=ys:=by
 let(ab,r,(o,n,e,_,_,d),_):=I.list h
 let(bo,r',(o',n',e',_,_,d'),_):=I.list h'
 rw[e]at e';cases e'
 rw[d]at d'
 injection d' with d1 _
 have:ab=bo:=by simpa using congrArg Array.toList d1
 subst this
 erw[r.inj r']
def Inv.tuple_inj(I:Inv X pins O H s)(h:SqT X.K H a xs)(h':SqT X.K H a ys):xs=ys:=by
 let(ab,r,(o,e,_,n,d),_):=I.tuple h
 let(bo,r',(o',e',_,n',d'),_):=I.tuple h'
 rw[e]at e';cases e'
 rw[d]at d'
 injection d' with d1 _
 have:ab=bo:=by simpa using congrArg Array.toList d1
 subst this
 erw[r.inj r']
end
abbrev Cx.wish(X:Cx)(E:Af):Cx:={ X with xe:=E }
abbrev Cx.nox(X:Cx):Cx:=X.wish λ_ _=>False
def Cx.Ok.wish{X:Cx}(ok:X.Ok)(E:Af):(X.wish E).Ok :=
 #[ok.mod,ok.kind,ok.glob,ok.blt,ok.above,ok.inj,ok.has,ok.cab,ok.hd,ok.frames,ok.stk,ok.exf,ok.bs,ok.bsz,ok.noex,ok.exfs,ok.funs,ok.frf]
def Cx.Ok.unwish{X:Cx}(ok:(X.wish E).Ok):X.Ok :=
 #[ok.mod,ok.kind,ok.glob,ok.blt,ok.above,ok.inj,ok.has,ok.cab,ok.hd,ok.frames,ok.stk,ok.exf,ok.bs,ok.bsz,ok.noex,ok.exfs,ok.funs,ok.frf]
section
variable {X:Cx}{pins:Ak}{O:St}{H:Hp}{s:Am}{E:Af}
def Inv.wish(I:Inv X pins O H s)(E:Af):Inv (X.wish E) pins O H s:=#[I.ok.wish E,I.os,I.bare,I.base,I.loc,I.cell,I.free,I.freeC,I.pin,I.hok,I.len]
def Inv.unwish(I:Inv (X.wish E) pins O H s):Inv X pins O H s:=#[I.ok.unwish,I.os,I.bare,I.base,I.loc,I.cell,I.free,I.freeC,I.pin,I.hok,I.len]
def SP.unwish(h:SP (X.wish E) pins D f s'):SP X pins D f s':=by
 cases f with
 |next=>let⟨O',H',I,q⟩:=h;exact⟨O',H',I.unwish,q⟩
 |brk=>let⟨O',H',I,q⟩:=h;exact#[O',H',I.unwish,q]
 |cont=>let⟨O',H',I,q⟩:=h;exact#[O',H',I.unwish,q]
 |ret u=>let⟨v,O',H',I,r,q⟩:=h;exact#[v,O',H',I.unwish,r,q]
def PSs.nox{st:List Stmt}(h:PSs X.nox st t):PSs X st t:=λpins s O H D I hw=>
 Xc (h pins s O H D (I.wish _) hw) (λ_ _ q=>q.unwish) λ_ _ z=>False.elim z
end
section
variable {X:Cx}{st:Stmt}{rest:List Stmt}{t u:TS}{e:Expr}{te:TE}{pos:Pos}
def zlX:TS:=λD O H=>D.nx O H
def tSeq(t u:TS):TS:=λD O H=>t { D with nx:=u D } O H
def pss_nil:PSs X [] zlX:=λ_ _ O H _ I h=>wpAny_execs_nil #[O,H,I,h]
def Qz(h1:PS X st t)(h2:PSs X rest u):PSs X (st::rest) (tSeq t u):=by
 intro pins s O H D I h
 erw[wpAny_execs_cons (thn (h1 pins s O H { D with nx:=u D } I h) λf s1 q=>?_)]
 cases f with
 |next=>
  let(O',H',I',q):=q
  erw[h2 pins s1 O' H' D I' q]
 |ret v=>erw[q]
 |brk=>erw[q]
 |cont=>erw[q]
def wY(h1:PS X st t):PSs X [st] t:=by
 intro pins s O H D I h
 erw[wpAny_execs_cons (thn (h1 pins s O H D I h) λf s1 q=>?_)]
 cases f with
 |next=>erw[wpAny_execs_nil q]
 |ret v=>erw[q]
 |brk=>erw[q]
 |cont=>erw[q]
def Inv.quiet{pins:Ak}{O:St}{H:Hp}{s:Am}(I:Inv X pins O H s):interactive X.env=false:=by simp[interactive,I.ok.kind]
def zlW(te:TE):TS:=λD O H=>te O H λ_ H1=>D.nx O H1
def Qe(he:PE X e te)(hs:swapsWith e none pos.line X.env=pure false:=by rfl):PS X (.Expr e pos) (zlW te):=by
 intro pins s O H D I h
 erw[wpAny_Expr_any (thn (he pins s O H _ I h) λv s1 ⟨x,H1,I1,r1,q1⟩=>#[O,H1,I1,q1]) I.quiet hs]
def tRet(te:TE):TS:=λD O H=>te O H D.rt
def KH(he:PE X e te):PS X (.Return (some e) pos) (tRet te):=by
 intro pins s O H D I h
 erw[wpAny_Return_some (thn (he pins s O H _ I h) λv s1 ⟨x,H1,I1,r1,q1⟩=>#[x,O,H1,I1,r1,q1])]
def tIfS(c:TT)(t u:TS):TS:=λD O H=>c O H λb H1=>if b=true then t D O H1 else u D O H1
def zlx{c:Expr}{a b:List Stmt}{tc:TT}(hc:PT X c tc)(ha:PSs X a t)(hb:PSs X b u):PS X (.If c a b pos) (tIfS tc t u):=by
 intro pins s O H D I h
 erw[wpAny_If (thn (hc pins s O H _ I h) λd s1 ⟨H1,I1,q1⟩=>?_)]
 cases d with
 |true=>erw[ha pins s1 O H1 D I1 q1]
 |false=>erw[hb pins s1 O H1 D I1 q1]
end
abbrev TG:=V->St->Hp->(St->Hp->Prop)->Prop
abbrev TGs:=List V->St->Hp->(St->Hp->Prop)->Prop
def PG(X:Cx)(target:Expr)(t:TG):Prop :=
 ∀(pins:Ak)(s:Am)(O:St)(H:Hp)(v:V)(u:Aj)(Q:St->Hp->Prop),Inv X pins O H s->RelV v u->t v O H Q ->
  ∅ (assign target X.env u) (λ_ s'=>∃ O' H',Inv X pins O' H' s'/\Q O' H') X.xe s
def PGs(X:Cx)(ts:Ag)(t:TGs):Prop :=
 ∀(pins:Ak)(s:Am)(O:St)(H:Hp)(vs:List V)(us:An)(Q:St->Hp->Prop),Inv X pins O H s->Vals vs us->t vs O H Q ->
  ∅ (assignInOrder ((assignEach ts X.env).map (·.2)) us) (λ_ s'=>∃ O' H',Inv X pins O' H' s'/\Q O' H') X.xe s
abbrev zgf:=V->V->V->Hp->(Hp->Prop)->Prop
def ziW(X:Cx)(t:zgf):Prop :=
 ∀(pins:Ak)(s:Am)(O:St)(H:Hp)(o i v:V)(ov iv u:Aj)(Q:Hp->Prop),Inv X pins O H s->RelV o ov->RelV i iv->RelV v u->t o i v H Q ->
  ∅ (setItem ov iv u) (λ_ s'=>∃ H',Inv X pins O H' s'/\Q H') X.xe s
abbrev TIp:=V->V->Hp->VK->Prop
def PIp(X:Cx)(op:Operator)(t:TIp):Prop :=
 ∀(pins:Ak)(s:Am)(O:St)(H:Hp)(x y:V)(v u:Aj)(Q:VK),Inv X pins O H s->RelV x v->RelV y u->t x y H Q ->
  ∅ (inplaceOp op v u) (EP X pins O Q) X.xe s
section
variable {X:Cx}{pos:Pos}
def WH(i:Nat):TG:=λv O H Q=>Q (O.set i (some v)) H
def zat(hN:X.N.Nodup)(hi:X.N[i]?=some x)(hx:Loc X.env.scope x)(hf:X.fn x=true∨X.env.scope.names.lookup x=some .local:=by first | exact .inl rfl | exact .inr rfl | assumption):PG X (.Name x pos) (WH i):=by
 intro pins s O H v u Q I r h
 erw[wpAny_assign_Name (QB I hN hi hx r (λs' I'=>#[_,H,I',h]) hf)]
def gNil:TGs:=λvs O H Q=>vs= []/\Q O H
def zlf(t:TG)(u:TGs):TGs:=λvs O H Q=>∃ v r,vs=v::r/\t v O H λO' H'=>u r O' H' Q
def pgs_nil:PGs X [] gNil:=by
 intro pins s O H vs us Q I r h
 let(e,h):=h
 subst e
 cases r
 erw[assignInOrder_nil #[O,H,I,h]]
def zfh{e:Expr}{es:Ag}{t:TG}{u:TGs}(h1:PG X e t)(h2:PGs X es u)
  (hs:(assignEach (e::es) X.env).map (·.2)=assign e X.env::(assignEach es X.env).map (·.2):=by rfl):PGs X (e::es) (zlf t u):=by
 intro pins s O H vs us Q I r h
 let(v,vr,e1,h):=h
 subst e1
 cases r with
 |cons r rr=>
  rw[hs]
  erw[assignInOrder_cons (thn (h1 pins s O H _ _ _ I r h) λ_ s1 ⟨O1,H1,I1,q1⟩=>?_)]
  erw[h2 pins s1 O1 H1 _ _ Q I1 rr q1]
def gTup(K:Ah)(n:Nat)(t:TGs):TG:=λv O H Q=>∃ a xs,v=.ref a/\SqT K H a xs/\xs.length=n/\t xs O H Q
def zjZ{k:Nat}{n:Nat}(hc:X.calm=true)(h:PGs X es t)
  (hn:(assignEach es X.env).length=n:=by rfl) (af:(assignEach es X.env).findIdx? (·.1)=none:=by rfl):PG X (.Tuple es k pos) (gTup X.K n t):=by
 intro pins s O H v u Q I r hw
 let(a,xs,e1,hq,hl,hw):=hw
 subst e1
 cases r
 let(ab,rv,ht,hz):=I.tuple hq
 refine assign_Tuple_tuple (I.ok.hd hc) ht (by simp[hn,<- hl,rv.length]) af λh' hx=>?_
 let I1:=I.kept (t':=s.toks) λb o e=>hx b o (xj (x5 e)) e
 exact h pins _ O H xs _ Q I1 (~~~rv) hw
def zlg(to ti:TE)(t:zgf):TG:=λv O H Q=>to O H λo H1=>ti O H1 λi H2=>t o i v H2 λH3=>Q O H3
def zjY{o i:Expr}{to ti:TE}{t:zgf}(ho:PE X o to)(hi:PE X i ti)(hs:ziW X t)
  (ha:∀ v,assign (.Subscript o i pos) X.env v=(do
   let ov<-holding [v] (eval o X.env)
   let iv<-holding [v,ov] (eval i X.env)
   standAt pos
   holding [v,ov,iv] (setItem ov iv v)
   release [v,ov,iv] []):=by intro _;rfl):PG X (.Subscript o i pos) (zlg to ti t):=by
 intro pins s O H v u Q I r h
 rw[ha]
 erw[x3 (Xb (thn (ho pins s O H _ I h) λov s1 ⟨x,H1,I1,r1,q1⟩=>?_))]
 erw[x3 (Xb (thn (hi pins s1 O H1 _ I1 q1) λiv s2 ⟨y,H2,I2,r2,q2⟩=>?_))]
 erw[x3 (wpAny_standAt (x3 (Xb (thn (hs pins s2 O H2 x y v ov iv u _ I2 r1 r2 r q2) λ_ s3 ⟨H3,I3,q3⟩=>?_))))]
 erw[wpAny_release #[O,H3,I3,q3]]
def yL(te:TE)(g:TG):TS:=λD O H=>te O H λx H1=>g x O H1 D.nx
def KG{tg e:Expr}{te:TE}{g:TG}(he:PE X e te)(hg:PG X tg g)(hs:swapsWithSole [tg] e pos.line X.env=pure false:=by rfl)(hw:swappedStores [tg] e X.env=pure none:=by rfl)
    (h1:(assignEach [tg] X.env).map (·.2)= [assign tg X.env]:=by rfl):PS X (.Assign [tg] e pos) (yL te g):=by
  intro pins s O H D I h
  erw[wpAny_Assign_stores (thn (he pins s O H _ I h) λv s1 ⟨x,H1,I1,r1,q1⟩=>?_) hs hw]
  rw[h1]
  erw[thn (hg pins s1 O H1 x v _ I1 r1 q1) λ_ s2 q=>q]
def W5{i:Nat}{x:Str}{e:Expr}{te:TE}{pos':Pos}(hN:X.N.Nodup)(hi:X.N[i]?=some x)(hx:Loc X.env.scope x)(he:PE X e te)(hs:swapsWith e (some (.Name x pos')) pos.line X.env=pure false:=by rfl)(hf:X.fn x=true∨X.env.scope.names.lookup x=some .local:=by first | exact .inl rfl | exact .inr rfl | assumption) :
    PS X (.Assign [.Name x pos'] e pos) (yL te (WH i)):=by
  intro pins s O H D I h
  erw[wpAny_Assign_Name (thn (he pins s O H _ I h) λv s1 ⟨y,H1,I1,r1,q1⟩=>?_) hs]
  erw[QB I1 hN hi hx r1 (λs2 I2=>#[_,H1,I2,q1]) hf]
def tAug(i:Nat)(te:TE)(ti:TIp):TS:=λD O H=>∃ x,O[i]?=some (some x)/\te O H λy H1=>ti x y H1 λz H2=>D.nx (O.set i (some z)) H2
def zj3{i:Nat}{x:Str}{e:Expr}{te:TE}{op:Operator}{ti:TIp}{pos':Pos}(hN:X.N.Nodup)(hi:X.N[i]?=some x)(hx:Loc X.env.scope x)(he:PE X e te)(ho:PIp X op ti)(hf:X.fn x=true∨X.env.scope.names.lookup x=some .local:=by first | exact .inl rfl | exact .inr rfl | assumption) :
    PS X (.AugAssign (.Name x pos') op e pos) (tAug i te ti):=by
  intro pins s O H D I h
  let(v,e1,h):=h
  let(m,hn,hl):=I.loc
  let vis:Vis X.env.scope x:=by rcases hx with k | k;exact .inl k;exact .inr (.inl k)
  let(u,r,l):=hl i x v hi e1 vis
  erw[wpAny_AugAssign_Name ?_]
  let go:∅ (eval e X.env) (λw s₂=>∅ (inplaceOp op u w) (λr s₃=>∅ (storeName X.env x r) (λ_=>SP X pins D .next) X.xe s₃) X.xe s₂) X.xe s:=by
    erw[thn (he pins s O H _ I h) λw s1 ⟨y,H1,I1,r1,q1⟩=>?_]
    erw[thn (ho pins s1 O H1 v y u w _ I1 r r1 q1) λz s2 ⟨zv,H2,I2,r2,q2⟩=>?_]
    erw[QB I2 hN hi hx r2 (λs3 I3=>#[_,H2,I3,q2]) hf]
  rcases l with ⟨hk,hm⟩ | ⟨hk,c,hc,dh⟩
  · exact wpAny_loadName_local I.ok.kind hk hn hm go
  · rcases hk with hk | hk
    · exact wpAny_loadName_cell I.ok.kind hk hc dh go
    · rcases hx with k | k
      · have : X.env.scope.names.lookup x = some .free := hk
        rw[k]at this;cases this
      · have : X.env.scope.names.lookup x = some .free := hk
        rw[k]at this;cases this
end
section
end
structure It where
 go:Nat->Hp->Prop
 yld:Nat->Hp->V->Hp->Prop
 stop:Nat->Hp->Prop
def JK(X:Cx)(pins:Ak)(H:Hp)(b:Ap):Prop :=
 H b=none/\b≠X.env.locals/\b∉X.fs/\(b∈X.ex∨X.s₀.heap.objs.size<=b)/\(∀ x c,X.env.cells.lookup x=some c->c≠b)/\∀ p∈X.pn++pins,p.1≠b
def Inv.fpOk{X:Cx}{pins:Ak}{O:St}{H H':Hp}{s:Am}{b:Ap}(I:Inv X pins O H s)(hb:⇑s<=b)(hn:H' b=none):JK X pins H' b:=by
 refine#[hn,uQ (xq I.lt hb),I.nofs hb,.inr (xD I.sz hb),λx c e z=>?_,λp hp z=>?_]
 ·let(v,q):=I.cell x c e
  exact absurd (xq q.lt (by rw[z];exact hb)) (ub _)
 ·exact absurd (xq (x5 (I.pin p hp).1) (by rw[z];exact hb)) (ub _)
structure Wj(P:Ar)(w:World)(K:Ah)(tg:Expr)(J:It)(fp:List Ap)(it:Ap)(tn:Nat->Heap->Prop):Prop where
 mem:it∈fp
 obj:∀ i h,tn i h->∀ b∈fp,∃ o,h.get? b=some o/\∀ v,o.data≠ .cell v
 keep:∀ i h h',tn i h->(∀ b∈fp,∀ o,h.get? b=some o->h'.get? b=some o)->tn i h'
 item:∀(X:Cx),X.prog=P->X.w=w->X.K=K->X.calm=true->∀(i:Nat)(pins:Ak)(s:Am)(O:St)(H:Hp)(E:Af),Inv X pins O H s->(∀ b∈fp,JK X pins H b)->tn i s.heap->J.go i H ->
  wpAny (model P w) X.A (pyNext (.ref it)) (λr s1=>∃ u,r=some u /\
   wpAny (model P w) X.A (letOwnedTupleGo tg (.ref it) u) (λ_ s2=>∃ x H',Inv X pins O H' s2/\RelV x u/\J.yld i H x H'/\tn (i+1) s2.heap/\∀ b∈fp,H' b=none) E s1) E s
 done:∀(X:Cx),X.prog=P->X.w=w->X.K=K->X.calm=true->∀(i:Nat)(pins:Ak)(s:Am)(O:St)(H:Hp)(E:Af),Inv X pins O H s->(∀ b∈fp,JK X pins H b)->tn i s.heap->J.stop i H ->
  wpAny (model P w) X.A (pyNext (.ref it)) (λr s1=>r=none/\Inv X pins O H s1) E s
 self:∀(A:Around)(i:Nat)(s:Am)(Q:Af)(E:Af),tn i s.heap->Q (.ref it) s->wpAny (model P w) A (pyIter (.ref it)) Q E s
abbrev TI:=St->Hp->(It->Hp->Prop)->Prop
def PIE(X:Cx)(pins:Ak)(O:St)(tg:Expr)(R:It->Hp->Prop)(mv:Aj)(s2:Am):Prop :=
 ∃(it:Ap)(fp:List Ap)(tn:Nat->Heap->Prop)(J:It)(H':Hp),mv=.ref it/\Inv X pins O H' s2/\Wj X.prog X.w X.K tg J fp it tn/\tn 0 s2.heap/\(∀ b∈fp,JK X pins H' b)/\R J H'
def PI(X:Cx)(tg iter:Expr)(wi:TI):Prop :=
 ∀(pins:Ak)(s:Am)(O:St)(H:Hp)(R:It->Hp->Prop),Inv X pins O H s->wi O H R ->
  ∅ (eval iter X.env) (λv s1=>∅ (pyIter v) (PIE X pins O tg R) X.xe s1) X.xe s
def Yh{M:Model}{A:Around}{E:Af}{tg:Expr}{u:Aj}{Q:Unit->Am->Prop}(ho:s.heap.get? it=some o)(hc:o.cls=.type n)(hd:o.data=.fields vs)
    (hn: ["enumerate","zip","dict_itemiterator","dict_reverseitemiterator","odict_iterator","itertools.zip_longest","itertools.pairwise"].contains n=false) (hQ:Q () s):wpAny M A (letOwnedTupleGo tg (.ref it) u) Q E s:=by
  unfold letOwnedTupleGo
  cases tg<;>first
    |exact x6 hQ
    | (cases u<;>first
        |exact x6 hQ
        | (refine x3 (wpAny_load ho ?_)
           rw[hc,hd]
           show wpAny M A (if (["enumerate","zip","dict_itemiterator","dict_reverseitemiterator","odict_iterator","itertools.zip_longest","itertools.pairwise"].contains n&&vs[0]?==some (rawInt _))=true then _ else _) Q E s
           rw[if_neg (by intro h;rw[hn,Bool.false_and]at h;cases h)]
           exact x6 hQ))
def Itl(K:Ah)(a:Ap):It :=
 #[λi H=>∃ xs x,SqL K H a xs/\xs[i]?=some x,λi H x H'=>H'=H/\∀ xs,SqL K H a xs->xs[i]?=some x,λi H=>∃ xs,SqL K H a xs/\xs.length<=i]
def Itt(K:Ah)(a:Ap):It :=
 #[λi H=>∃ xs x,SqT K H a xs/\xs[i]?=some x,λi H x H'=>H'=H/\∀ xs,SqT K H a xs->xs[i]?=some x,λi H=>∃ xs,SqT K H a xs/\xs.length<=i]
def Itr(lo:Int)(n:Nat):It:=#[λi _=>i<n,λi H x H'=>H'=H/\x=.int (lo+i),λi _=>n<=i]
def zcH{P:Ar}{w:World}{K:Ah}{tg:Expr}(a it:Ap):Wj P w K tg (Itl K a) [it] it (λi h=>h.IsListIter it a i) where
 mem:=by simp
 obj:=λi h st b hb=>by
  let e:b=it:= ~~~hb
  subst e
  let(o,e,c,d):=st
  exact#[o,e,λv z=>by rw[d]at z;cases z]
 keep:=λi h h' st k=>st.at λo e=>k it (by simp) o e
 item:=by
  intro X hP hw hK hc i pins s O H E I hf st hg
  subst hP hw hK
  let(xs,x,hq,hx):=hg
  let(ab,rv,p,hz):=I.list hq
  let(u,hu,ru):=rv.get hx
  let(f0,f1,f2,f3,f4,f5):=hf it (by simp)
  refine wpAny_pyNext_list_item st p.isList (x:=u) (~~~hu) λh' bz sb=>?_
  let I1:=I.turned (t':=s.toks) (λb o hb e=>(sb.2 b hb).trans e) f0 f1 f3 f4 f5
  let(o,e,c,d):=id bz
  exact#[u,rfl,Yh e c d (by decide) #[x,H,I1,ru,#[rfl,λys hy=>by rw[I.list_inj hy hq];exact hx],bz,λb hb=>(hf b hb).1]]
 done:=by
  intro X hP hw hK hc i pins s O H E I hf st hg
  subst hP hw hK
  let(xs,hq,hx):=hg
  let(ab,rv,p,hz):=I.list hq
  let(f0,f1,f2,f3,f4,f5):=hf it (by simp)
  let hl:=rv.length
  exact wpAny_pyNext_list_end (I.ok.hd hc) st p.isList (by simp;lia) λh' eb=>#[rfl,I.turned (t':=s.toks) (λb o hb e=>eb b o hb e) f0 f1 f3 f4 f5]
 self:=λ_ _ _ _ _ st h=>wpAny_pyIter_listiter st h
def K0{P:Ar}{w:World}{K:Ah}{tg:Expr}(a it:Ap):Wj P w K tg (Itt K a) [it] it (λi h=>h.IsTupleIter it a i) where
 mem:=by simp
 obj:=λi h st b hb=>by
  let e:b=it:= ~~~hb
  subst e
  let(o,e,c,d):=st
  exact#[o,e,λv z=>by rw[d]at z;cases z]
 keep:=λi h h' st k=>st.at λo e=>k it (by simp) o e
 item:=by
  intro X hP hw hK hc i pins s O H E I hf st hg
  subst hP hw hK
  let(xs,x,hq,hx):=hg
  let(ab,rv,p,hz):=I.tuple hq
  let(u,hu,ru):=rv.get hx
  let(f0,f1,f2,f3,f4,f5):=hf it (by simp)
  refine wpAny_pyNext_tuple_item st (show s.heap.IsTuple a ab.toArray from p) (x:=u) (~~~hu) λh' bz sb=>?_
  let I1:=I.turned (t':=s.toks) (λb o hb e=>(sb.2 b hb).trans e) f0 f1 f3 f4 f5
  let(o,e,c,d):=id bz
  exact#[u,rfl,Yh e c d (by decide) #[x,H,I1,ru,#[rfl,λys hy=>by rw[I.tuple_inj hy hq];exact hx],bz,λb hb=>(hf b hb).1]]
 done:=by
  intro X hP hw hK hc i pins s O H E I hf st hg
  subst hP hw hK
  let(xs,hq,hx):=hg
  let(ab,rv,p,hz):=I.tuple hq
  let(f0,f1,f2,f3,f4,f5):=hf it (by simp)
  let hl:=rv.length
  exact wpAny_pyNext_tuple_end (I.ok.hd hc) st (show s.heap.IsTuple a ab.toArray from p) (by simp;lia) λh' eb=>#[rfl,I.turned (t':=s.toks) (λb o hb e=>eb b o hb e) f0 f1 f3 f4 f5]
 self:=λ_ _ _ _ _ st h=>wpAny_pyIter_tupleiter st h
def KZ{w:World}{K:Ah}(it:Ap)(lo:Int)(n:Nat):Wj P w K tg (Itr lo n) [it] it (λi h=>IsRangeIter h it (lo+(i:Nat)*1) ((n:Int)-(i:Nat)) 1) where
 mem:=by simp
 obj:=λi h st b hb=>by
  let e:b=it:= ~~~hb
  subst e
  exact⟨_,st,λv z=>by
   let z':Data.fields _=Data.cell v:=z
   cases z'⟩
 keep:=λi h h' st k=>k it (by simp) _ st
 item:=by
  intro X hP hw hK hc i pins s O H E I hf st hg
  subst hP hw hK
  let(f0,f1,f2,f3,f4,f5):=hf it (by simp)
  let W:=Walks.range (prog:=X.prog) (w:=X.w) (I.ok.hd hc) it lo 1 n
  erw[W.item i s _ _ hg st λv h' tk hv bz kk=>?_]
  let(t,rfl):=hv
  let I1:Inv X pins O H { s with heap:=h',toks:=tk }:=I.turned (λb o hb e=>kk b o (~~~hb) e) f0 f1 f3 f4 f5
  refine#[_,rfl,Yh (s:={ s with heap:=h',toks:=tk }) (n:= "range_iterator") bz rfl rfl (by decide) #[.int (lo+i),H,I1,#[t,?_],#[rfl,rfl],bz,λb hb=>(hf b hb).1]]
  rw[Int.mul_one]
 done:=by
  intro X hP hw hK hc i pins s O H E I hf st hg
  subst hP hw hK
  let(f0,f1,f2,f3,f4,f5):=hf it (by simp)
  exact wpAny_pyNext_range_end (I.ok.hd hc) st (by have:n<=i:=hg;lia) λh' eb=>#[rfl,I.turned (t':=s.toks) (λb o hb e=>eb b o hb e) f0 f1 f3 f4 f5]
 self:=λ_ _ _ _ _ st h=>wpAny_pyIter_rangeiter st h
section
variable {X:Cx}{tg:Expr}
def zlk(K:Ah)(tl:TE):TI:=λO H R=>tl O H λx H1=>∃ a,x=.ref a/\(∃ xs,SqL K H1 a xs)/\R (Itl K a) H1
def iTup(K:Ah)(tl:TE):TI:=λO H R=>tl O H λx H1=>∃ a,x=.ref a/\(∃ xs,SqT K H1 a xs)/\R (Itt K a) H1
def zau{l:Expr}{tl:TE}(hl:PE X l tl):PI X tg l (zlk X.K tl):=by
 intro pins s O H R I h
 erw[thn (hl pins s O H _ I h) λv s1 ⟨x,H1,I1,r1,q1⟩=>?_]
 let(a,e,(xs,hq),q):=q1
 subst e
 cases r1
 let(ab,rv,p,hz):=I1.list hq
 erw[wpAny_pyIter_list p.isList ?_]
 refine#[⇑s1,[⇑s1],_,_,H1,rfl,I1.kept λb o e=>x4 _ e,zcH a _,#[_,x8 _ rfl,rfl,rfl],λb hb=>?_,q]
 let e:b=⇑s1:= ~~~hb
 subst e
 erw[I1.fpOk (xh _) (I1.hok.fresh (xh _))]
def zj0{l:Expr}{tl:TE}(hl:PE X l tl):PI X tg l (iTup X.K tl):=by
 intro pins s O H R I h
 erw[thn (hl pins s O H _ I h) λv s1 ⟨x,H1,I1,r1,q1⟩=>?_]
 let(a,e,(xs,hq),q):=q1
 subst e
 cases r1
 let(ab,rv,p,hz):=I1.tuple hq
 erw[wpAny_pyIter_tuple (show s1.heap.IsTuple a ab.toArray from p) ?_]
 refine#[⇑s1,[⇑s1],_,_,H1,rfl,I1.kept λb o e=>x4 _ e,K0 a _,#[_,x8 _ rfl,rfl,rfl],λb hb=>?_,q]
 let e:b=⇑s1:= ~~~hb
 subst e
 erw[I1.fpOk (xh _) (I1.hok.fresh (xh _))]
def zfq{pins:Ak}{O:St}{H:Hp}{s:Am}{R:It->Hp->Prop}{E:Af}{lo hi:Int}{t u v:Tok}{tk:Nat}(I:Inv X pins O H s)(h1: -(2 ^ 62)<=lo)(h2:lo<2 ^ 62)(h3: -(2 ^ 62)<=hi)(h4:hi<2 ^ 62)
  (q:R (Itr lo (hi-lo).toNat) H):∅ (pyIter (.ref ⇑s)) (PIE X pins O tg R) E { s with heap:=s.heap.push { cls:=.type "range",data:=.fields (List.toArray [.int lo t,.int hi u,.int 1 v]) },toks:=tk }:=by
 erw[wpAny_pyIter_range (IsRange.new ..) (small_one h1 h2 h3 h4) ?_]
 let I1:Inv X pins O H { s with heap:=s.heap.push { cls:=.type "range",data:=.fields (List.toArray [.int lo t,.int hi u,.int 1 v]) },toks:=tk }:=I.kept λb o e=>x4 _ e
 refine⟨(s.heap.push { cls:=.type "range",data:=.fields (List.toArray [.int lo t,.int hi u,.int 1 v]) }).objs.size,[(s.heap.push { cls:=.type "range",data:=.fields (List.toArray [.int lo t,.int hi u,.int 1 v]) }).objs.size],_,_,H,rfl,
  I1.kept λb o e=>x4 _ e,KZ _ lo (hi-lo).toNat,?_,λb hb=>?_,q⟩
 ·let e1:lo+((0:Nat):Int)*1=lo:=by simp
  let e2:(((hi-lo).toNat:Nat):Int)-((0:Nat):Int)=Builtin.Range.rangeSize lo hi 1:=by rw[rangeSize_one];split<;>lia
  rw[e1,e2]
  erw[x8 _ rfl]
 ·let e:b=(s.heap.push { cls:=.type "range",data:=.fields (List.toArray [.int lo t,.int hi u,.int 1 v]) }).objs.size:= ~~~hb
  subst e
  erw[I1.fpOk (xh _) (I1.hok.fresh (xh _))]
def zll(ta:TA):TI:=λO H R=>ta O H λvs H1=>∃ j:Int,vs= [.int j]/\ -(2 ^ 62)<=j/\j<2 ^ 62/\R (Itr 0 j.toNat) H1
def zcm {a:Expr}{ta:TA}{p pos:Pos}(hg:Gl X "range") (hm:X.mg "range" =none) (ha:PA X [a] ta) (hs:a⁻¹:=by rfl):PI X tg (.Call (.Name "range" p) [a] [] pos) (zll ta):=by
 intro pins s O H R I h
 erw[Call_ (Jb I hg hm boot_range (PyProof.Rows.callWith_type1 (thn (ha pos pins s O H _ I h) λus s1 ⟨vs,H1,I1,r1,q1⟩=>?_) hs rfl))]
 let(j,e,q1,q2,q):=q1
 subst e
 cases r1 with
 |cons r rr=>
  cases rr
  let(t,rfl):=r
  exact call_range_1 (zfq I1 (by lia) (by lia) q1 q2 (~~~q))
def tFor(wi:TI)(g:TG)(tb:TS):TS:=λD O H=>wi O H λJ H1=>∃ W:Nat->Nat->St->Hp->Prop,(∃ m,W 0 m O H1)/\∀ i m O H,W i m O H ->
 (J.stop i H/\D.nx O H)∨(J.go i H/\∃ N:St->Hp->Prop,(∀ O' H',N O' H'->∃ m',m'<m/\W (i+1) m' O' H')/\∀ x H',J.yld i H x H'->g x O H' λO2 H2=>tb { D with nx:=N,ct:=N,bk:=D.nx } O2 H2)
def W0(fp:List Ap)(h:Heap):Ak:=fp.filterMap λb=>(h.get? b).map λo=>(b,o)
def j3{fp:List Ap}{h:Heap}{b:Ap}{o:Obj}(hb:b∈fp)(e:h.get? b=some o):(b,o)∈W0 fp h:=uC.mpr #[b,hb,by rw[e];rfl]
def zcf(hp:p∈W0 fp h):p.1∈fp/\h.get? p.1=some p.2:=by
 let(b,hb,e):=uC.mp hp
 cases q:h.get? b with
 |none=>rw[q]at e;cases e
 |some o=>
  rw[q]at e
  let e':=Option.some.inj e
  subst e'
  exact#[hb,q]
def Inv.pinned{pins:Ak}{O:St}{H:Hp}{s:Am}{fp:List Ap}(I:Inv X pins O H s)(hf:∀ b∈fp,JK X pins H b)(ho:∀ b∈fp,∃ o,s.heap.get? b=some o/\∀ v,o.data≠ .cell v):Inv X (pins++W0 fp s.heap) O H s :=
 I.pins_of λp hp=>(xM.mp hp).elim (λz=>I.pin p (xz _ z)) λz=>by
  let(hb,e):=zcf z
  let(f0,f1,f2,_):=hf p.1 hb
  let(o,e',d):=ho p.1 hb
  rw[e]at e';cases e'
  exact#[e,f0,f1,f2,d]
def Inv.unpinned{pins pl:Ak}{O:St}{H:Hp}{s:Am}(I:Inv X (pins++pl) O H s):Inv X pins O H s:=I.pins_of λp hp=>I.pin p (xz _ (ud _ hp))
def zfl{iter:Expr}{body:List Stmt}{wi:TI}{g:TG}{tb:TS}{pos:Pos}(hp:PassesOwn (model X.prog X.w) X.A X.env X.xe)(hc:X.calm=true)(hi:PI X tg iter wi)(hg:PG X tg g)(hb:PSs X body tb)
  (hs:∀ x,foldedSetIterable iter X.env x=pure x:=by intro _;rfl):PS X (.For tg iter body [] pos) (tFor wi g tb):=by
 intro pins s O H D I h
 erw[wpAny_For (thn (hi pins s O H _ I h) λv s1 h1=>thn h1 λmv s2 h2=>?_) hs]
 let(it,fp,tn,J,H2,e,I2,T,b9,f2,W,(m0,w0),turn):=h2
 subst e
 let il:∀{H':Hp},(∀ b∈fp,H' b=none)->∀ b∈fp,JK X pins H' b:=λhn b hb=>#[hn b hb,(f2 b hb).2]
 erw[codeAny_forLoop_any (λn s'=>∃ i O' H',Inv X pins O' H' s'/\tn i s'.heap/\(∀ b∈fp,H' b=none)/\W i n O' H') ?_ m0 #[0,O,H2,I2,b9,λb hb=>(f2 b hb).1,w0]]
 rintro n s3 ⟨i,O3,H3,I3,nj,rn,w3⟩
 rcases turn i n O3 H3 w3 with ⟨stop,qn⟩ | ⟨go,N,hN,step⟩
 ·refine wpAny_passesOwn hp (thn (T.done X rfl rfl rfl hc i pins s3 O3 H3 X.xe I3 (il rn) nj stop) λr s4 ⟨hr,I4⟩=>?_)
  subst hr
  erw[wpAny_execs_nil #[O3,H3,I4,qn]]
 ·refine wpAny_passesOwn hp (thn (T.item X rfl rfl rfl hc i pins s3 O3 H3 X.xe I3 (il rn) nj go) λr s4 ⟨u,hr,h4⟩=>?_)
  subst hr
  erw[wpAny_passesOwn hp (thn h4 λ_ s5 ⟨x,H5,I5,r5,y5,ip,BJ⟩=>?_)]
  let I5':=I5.pinned (il BJ) (T.obj _ _ ip)
  erw[wpAny_passesOwn hp (thn (hg _ s5 O3 H5 x u _ I5' r5 (step x H5 y5)) λ_ s6 ⟨O6,H6,I6,q6⟩=>?_)]
  erw[wpAny_passesOwn hp (thn (hb _ s6 O6 H6 _ I6 q6) λf s7 q7=>?_)]
  let again:∀{O7:St}{H7:Hp},Inv X (pins++W0 fp s5.heap) O7 H7 s7->N O7 H7->∃ m,m<n/\∃ i O' H',Inv X pins O' H' s7/\tn i s7.heap/\(∀ b∈fp,H' b=none)/\W i m O' H':=λ{O7 H7} I7 n7=>by
   let(m',hm,w7):=hN O7 H7 n7
   refine#[m',hm,i+1,O7,H7,I7.unpinned,T.keep _ _ _ ip λb hb o e=>(I7.pin (b,o) (xz _ (xz _ (j3 hb e)))).1,λb hb=>?_,w7]
   let(o,e,d):=T.obj _ _ ip b hb
   erw[(I7.pin (b,o) (xz _ (xz _ (j3 hb e)))).2.1]
  cases f with
  |next=>let⟨O7,H7,I7,n7⟩:=q7;exact again I7 n7
  |cont=>let⟨O7,H7,I7,n7⟩:=q7;exact again I7 n7
  |brk=>let⟨O7,H7,I7,q7⟩:=q7;exact#[O7,H7,I7.unpinned,q7]
  |ret v=>let⟨x7,O7,H7,I7,r7,q7⟩:=q7;exact#[x7,O7,H7,I7.unpinned,r7,q7]
end
def zep{K:Ah}{g:TG}{tb:TS}{D:Ji}{O:St}{H:Hp}(Pv:Nat->St->Hp->Prop)(h0:Pv 0 O H)(hl:∀ i O H,i<=xs.length->Pv i O H->SqL K H a xs)
  (hs:∀ i x O H,xs[i]?=some x->Pv i O H->g x O H λO2 H2=>tb { D with nx:=Pv (i+1),ct:=Pv (i+1),bk:=D.nx } O2 H2) (hd:∀ O H,Pv xs.length O H->D.nx O H) :
  ∃ W:Nat->Nat->St->Hp->Prop,(∃ m,W 0 m O H)/\∀ i m O H,W i m O H ->
   ((Itl K a).stop i H/\D.nx O H)∨((Itl K a).go i H/\∃ N:St->Hp->Prop,(∀ O' H',N O' H'->∃ m',m'<m/\W (i+1) m' O' H')/\∀ x H',(Itl K a).yld i H x H'->g x O H' λO2 H2=>tb { D with nx:=N,ct:=N,bk:=D.nx } O2 H2):=by
 refine#[λi m O H=>m=xs.length-i/\i<=xs.length/\Pv i O H,#[xs.length,by simp,xS _,h0],?_]
 rintro i m O H ⟨rfl,hi,p⟩
 let q:=hl i O H hi p
 by_cases hlt:i<xs.length
 ·refine .inr #[#[xs,xs[i],q,by simp[hlt]],Pv (i+1),λO' H' p'=>#[xs.length-(i+1),by lia,rfl,hlt,p'],λx H' y=>?_]
  let(e,y):=y
  subst e
  erw[hs i x O _ (y xs q) p]
 ·let e:i=xs.length:=by lia
  subst e
  erw[.inl #[#[xs,q,xh _],hd O H p]]
abbrev R2:=V->V->Hp->VK->Prop
def OpR(X:Cx)(f:Aj->Aj->Sem Aj)(r:R2):Prop :=
 ∀(pins:Ak)(s:Am)(O:St)(H:Hp)(x y:V)(v u:Aj)(Q:VK),Inv X pins O H s->RelV x v->RelV y u->r x y H Q ->
  ∅ (f v u) (EP X pins O Q) X.xe s
def UnR(X:Cx)(f:Aj->Sem Aj)(r:V->Hp->VK->Prop):Prop :=
 ∀(pins:Ak)(s:Am)(O:St)(H:Hp)(x:V)(v:Aj)(Q:VK),Inv X pins O H s->RelV x v->r x H Q ->
  ∅ (f v) (EP X pins O Q) X.xe s
def jT(X:Cx)(f:Aj)(r:List V->Hp->VK->Prop):Prop :=
 ∀(pins:Ak)(s:Am)(O:St)(H:Hp)(xs:List V)(us:An)(Q:VK),Inv X pins O H s->Vals xs us->r xs H Q ->
  ∅ (call f us) (EP X pins O Q) X.xe s
def TruR(X:Cx)(r:V->Hp->(Bool->Hp->Prop)->Prop):Prop :=
 ∀(pins:Ak)(s:Am)(O:St)(H:Hp)(x:V)(v:Aj)(Q:Bool->Hp->Prop),Inv X pins O H s->RelV x v->r x H Q ->
  ∅ (truthy v) (TP X pins O Q) X.xe s
def tOp(r:R2)(ta tb:TE):TE:=λO H Q=>ta O H λx H1=>tb O H1 λy H2=>r x y H2 Q
def tUn(r:V->Hp->VK->Prop)(ta:TE):TE:=λO H Q=>ta O H λx H1=>r x H1 Q
def rI(C:Int->Int->Prop)(g:Int->Int->V):R2:=λx y H Q=>∃ i j,x=.int i/\y=.int j/\C i j/\Q (g i j) H
def rI0(g:Int->Int->V):R2:=λx y H Q=>∃ i j,x=.int i/\y=.int j/\Q (g i j) H
def rU(g:Int->V):V->Hp->VK->Prop:=λx H Q=>∃ i,x=.int i/\Q (g i) H
section
variable {X:Cx}{a b:Expr}{ta tb:TE}{pos:Pos}
def zi2(ha:PE X a ta)(hb:PE X b tb){pins:Ak}{s:Am}{O:St}{H:Hp}{R:V->V->Hp->Prop}(I:Inv X pins O H s)
  (h:ta O H λx H1=>tb O H1 λy H2=>R x y H2) {Q:Af} {f:Aj->Aj->Sem Aj}
  (hf:∀ v u s2 x y H2,Inv X pins O H2 s2->RelV x v->RelV y u->R x y H2->∅ (f v u) Q X.xe s2) :
  ∅ (eval a X.env) (λv s₁=>∅ (eval b X.env) (λu s₂=>∅ (f v u) Q X.xe s₂) X.xe s₁) X.xe s:=by
 erw[thn (ha pins s O H _ I h) λv s1 ⟨x,H1,I1,r1,q1⟩=>?_]
 erw[thn (hb pins s1 O H1 _ I1 q1) λu s2 ⟨y,H2,I2,r2,q2⟩=>?_]
 erw[hf v u s2 x y H2 I2 r1 r2 q2]
def WY(ho:OpR X (binaryOp op) r)(ha:PE X a ta)(hb:PE X b tb):PE X (.BinOp a op b pos) (tOp r ta tb):=by
 cbv
 erw[wpAny_BinOp (zi2 ha hb I h λv u s2 x y H2 I2 rx ry q=>ho pins s2 O H2 x y v u Q I2 rx ry q)]
def zfe{op:UnaryOp}{r:V->Hp->VK->Prop}(ho:UnR X (unaryOp op) r)(ha:PE X a ta):PE X (.UnaryOp op a pos) (tUn r ta):=by
 cbv
 erw[UnaryOp_ (thn (ha pins s O H _ I h) λv s1 ⟨x,H1,I1,r1,q1⟩=>ho pins s1 O H1 x v Q I1 r1 q1)]
def opI{f:Aj->Aj->Sem Aj}{C:Int->Int->Prop}{g:Int->Int->Int}
  (rule:∀(i j:Int)(t u:Tok)(s:Am)(Q:Af)(E:Af),C i j->Q (.int (g i j) s.toks) { s with toks:=s.toks+1 }->∅ (f (.int i t) (.int j u)) Q E s) :
  OpR X f (rI C λi j=>.int (g i j)):=by
 intro pins s O H x y v u Q I rx ry h
 let(i,j,rfl,rfl,hc,q):=h
 let(t,rfl):=rx
 let(t',rfl):=ry
 erw[rule i j t t' s _ _ hc #[.int (g i j),H,I.tok _,#[_,rfl],q]]
def zjK{f:Aj->Aj->Sem Aj}{g:Int->Int->Int}
  (rule:∀(i j:Int)(t u:Tok)(s:Am)(Q:Af)(E:Af),Q (.int (g i j) s.toks) { s with toks:=s.toks+1 }->∅ (f (.int i t) (.int j u)) Q E s) :
  OpR X f (rI0 λi j=>.int (g i j)):=by
 intro pins s O H x y v u Q I rx ry h
 let(i,j,rfl,rfl,q):=h
 let(t,rfl):=rx
 let(t',rfl):=ry
 erw[rule i j t t' s _ _ #[.int (g i j),H,I.tok _,#[_,rfl],q]]
def zg9{f:Aj->Aj->Sem Aj}{g:Int->Int->Bool}
  (rule:∀(i j:Int)(t u:Tok)(s:Am)(Q:Af)(E:Af),Q (.bool (g i j)) s->∅ (f (.int i t) (.int j u)) Q E s) :
  OpR X f (rI0 λi j=>.bl (g i j)):=by
 intro pins s O H x y v u Q I rx ry h
 let(i,j,rfl,rfl,q):=h
 let(t,rfl):=rx
 let(t',rfl):=ry
 erw[rule i j t t' s _ _ #[.bl (g i j),H,I,rfl,q]]
def CDiv(i j:Int):Prop:=0<j/\j<1073741824
def zkW(i j:Int):Prop:=0<=j/\j<=1000000/\i.natAbs<2 ^ 64
def CMul(i j:Int):Prop:=(-(2 ^ 64)<i/\i<2 ^ 64)∨(-(2 ^ 64)<j/\j<2 ^ 64)
def CMul.ok{i j:Int}(h:CMul i j):IntMulOk i j:=by
 rcases h with ⟨h1,h2⟩ | ⟨h1,h2⟩
 ·erw[.of_left (intBits_le_64 h1 h2)]
 ·erw[.of_right (intBits_le_64 h1 h2)]
def K4(k:Nat):(0:Int)<=2 ^ k:=by
 rw[two_pow_cast]
 erw[Int.natCast_nonneg _]
def KA:OpR X (binaryOp .Add) (rI0 λi j=>.int (i+j)):=zjK λ_ _ _ _ _ _ _ q=>add_int q
def zjT:OpR X (binaryOp .Sub) (rI0 λi j=>.int (i-j)):=zjK λ_ _ _ _ _ _ _ q=>sub_int q
def ze2:OpR X (binaryOp .Mult) (rI CMul λi j=>.int (i*j)):=opI λ_ _ _ _ _ _ _ hc q=>mul_int q hc.ok
def zhb:OpR X (binaryOp .FloorDiv) (rI CDiv λi j=>.int (i / j)):=opI λi j _ _ _ _ _ hc q=>by
 let h1:=hc.1
 let h2:=hc.2
 exact floordiv_int (by lia) (by rw[Int.fdiv_eq_ediv_of_nonneg i (by lia)];exact q) (.inl (PyProof.noPylong_small (by lia)))
def ze1:OpR X (binaryOp .Mod) (rI (λ_ j=>0<j) λi j=>.int (i % j)):=opI λi j _ _ _ _ _ hc q=>by
 let h1:=hc
 exact mod_int' (by lia) (by rw[Int.fmod_eq_emod_of_nonneg i (by lia)];exact q)
def zjP:OpR X (binaryOp .Pow) (rI zkW λi j=>.int (i ^ j.toNat)):=opI λ_ _ _ _ _ _ _ hc q=>pow_int_small hc.1 hc.2.1 hc.2.2 q
def zjQ:OpR X (binaryOp .LShift) (rI zkW λi j=>.int (i*2 ^ j.toNat)):=opI λ_ _ _ _ _ _ _ hc q=>lshift_int_small hc.1 hc.2.1 hc.2.2 q
def zjR:OpR X (binaryOp .RShift) (rI (λ_ j=>0<=j) λi j=>.int (i / 2 ^ j.toNat)):=opI λi j _ _ _ _ _ hc q=>
 rshift_int hc (by rw[Int.fdiv_eq_ediv_of_nonneg i (K4 _)];exact q)
def zjL:OpR X (binaryOp .BitAnd) (rI0 λi j=>.int (Builtin.bitAnd i j)):=zjK λ_ _ _ _ _ _ _ q=>and_int q
def unI{f:Aj->Sem Aj}{g:Int->Int}
  (rule:∀(i:Int)(t:Tok)(s:Am)(Q:Af)(E:Af),Q (.int (g i) s.toks) { s with toks:=s.toks+1 }->∅ (f (.int i t)) Q E s) :
  UnR X f (rU λi=>.int (g i)):=by
 intro pins s O H x v Q I rx h
 let(i,rfl,q):=h
 let(t,rfl):=rx
 erw[rule i t s _ _ #[.int (g i),H,I.tok _,#[_,rfl],q]]
def zf1:UnR X (unaryOp .USub) (rU λi=>.int (-i)):=unI λ_ _ _ _ _ q=>neg_int q
end
section
variable {X:Cx}{a b c:Expr}{ta tb tc:TE}{pos:Pos}
def zen(I:Inv X pins O H s)(q:Q (.bl k) H)(e:k=k'):EP X pins O Q (.bool k') s:=by
 subst e
 exact#[.bl k,H,I,rfl,q]
def zlt:OpR X (compareOp .Lt) (rI0 λi j=>.bl (decide (i<j))):=zg9 λ_ _ _ _ _ _ _ q=>lt_int q
def zls:OpR X (compareOp .LtE) (rI0 λi j=>.bl (decide (i<=j))):=zg9 λ_ _ _ _ _ _ _ q=>le_int q
def zlr:OpR X (compareOp .Gt) (rI0 λi j=>.bl (decide (j<i))):=zg9 λ_ _ _ _ _ _ _ q=>gt_int q
def zlq:OpR X (compareOp .GtE) (rI0 λi j=>.bl (decide (j<=i))):=zg9 λ_ _ _ _ _ _ _ q=>ge_int q
def zjO:OpR X (compareOp .Is) (λx y H Q=>y=.non/\Q (.bl (decide (x=.non))) H):=by
 intro pins s O H x y v u Q I rx ry h
 let(rfl,q):=h
 cases ry
 erw[is_none_gen (zen I q ?_)]
 cases x<;>first
  | (cases rx;rfl)
  | (let⟨t,rfl⟩:=rx;rfl)
def zhd:OpR X (compareOp .IsNot) (λx y H Q=>y=.non/\Q (.bl (!decide (x=.non))) H):=by
 intro pins s O H x y v u Q I rx ry h
 let(rfl,q):=h
 cases ry
 erw[isnot_none_gen (zen I q ?_)]
 cases x<;>first
  | (cases rx;rfl)
  | (let⟨t,rfl⟩:=rx;rfl)
def zhh(ho:OpR X (compareOp op) r)(ha:PE X a ta)(hb:PE X b tb)(hm:behindInMarks op b=false):PE X (.Compare a [op] [b] pos) (tOp r ta tb):=by
 cbv
 erw[wpAny_Compare1 (zi2 ha hb I h λv u s2 x y H2 I2 rx ry q=>ho pins s2 O H2 x y v u Q I2 rx ry q) hm]
def ziO(t:TE):TT:=λO H Q=>t O H λx H'=>∃ k,x=.bl k/\Q k H'
def zhu{op:CmpOp}{r:R2}(ho:OpR X (compareOp op) r)(ha:PE X a ta)(hb:PE X b tb)(hm:behindInMarks op b=false):PT X (.Compare a [op] [b] pos) (ziO (tOp r ta tb)):=by
 cbv
 refine wpAny_isTrue_Compare1 (thn (ha pins s O H _ I h) λv s1 ⟨x,H1,I1,r1,q1⟩=>thn (hb pins s1 O H1 _ I1 q1) λu s2 ⟨y,H2,I2,r2,q2⟩=>
  thn (ho pins s2 O H2 x y v u _ I2 r1 r2 q2) λc s3 ⟨z,H3,I3,r3,k,e,q3⟩=>?_) hm
 subst e
 cases r3
 erw[Xh #[H3,I3,q3]]
def KO(r r':R2)(ta tb tc:TE):TE:=λO H Q=>ta O H λx H1=>tb O H1 λy H2=>r x y H2 λz H3=>∃ k,z=.bl k /\
 (if k=true then tc O H3 λw' H4=>r' y w' H4 Q else Q (.bl false) H3)
def ze4{op op':CmpOp}{r r':R2}(ho:OpR X (compareOp op) r)(dg:OpR X (compareOp op') r')(ha:PE X a ta)(hb:PE X b tb)(hc:PE X c tc)
  (hm:lastMarks [op,op'] [b,c]=false:=by with_unfolding_all rfl):PE X (.Compare a [op,op'] [b,c] pos) (KO r r' ta tb tc):=by
 cbv
 refine Compare_chain (thn (ha pins s O H _ I h) λv s1 ⟨x,H1,I1,r1,q1⟩=>chain_link (thn (hb pins s1 O H1 _ I1 q1) λu s2 ⟨y,H2,I2,r2,q2⟩=>
  thn (ho pins s2 O H2 x y v u _ I2 r1 r2 q2) λd s3 ⟨z,H3,I3,r3,k,e,q3⟩=>?_)) hm
 subst e
 cases r3
 erw[Xh ?_]
 cases k with
 |false=>erw[ite_ff #[.bl false,H3,I3,rfl,q3]]
 |true=>erw[ite_tt (chain_last (thn (hc pins s3 O H3 _ I3 q3) λw' s4 ⟨z',H4,I4,r4,q4⟩=>dg pins s4 O H4 y z' u w' Q I4 r2 r4 q4))]
def zfo{op op':CmpOp}{r r':R2}(ho:OpR X (compareOp op) r)(dg:OpR X (compareOp op') r')(ha:PE X a ta)(hb:PE X b tb)(hc:PE X c tc)
  (hm:lastMarks [op,op'] [b,c]=false:=by with_unfolding_all rfl):PT X (.Compare a [op,op'] [b,c] pos) (ziO (KO r r' ta tb tc)):=by
 cbv
 refine isTrue_chain (thn (ha pins s O H _ I h) λv s1 ⟨x,H1,I1,r1,q1⟩=>test_link (thn (hb pins s1 O H1 _ I1 q1) λu s2 ⟨y,H2,I2,r2,q2⟩=>
  thn (ho pins s2 O H2 x y v u _ I2 r1 r2 q2) λd s3 ⟨z,H3,I3,r3,k,e,q3⟩=>?_)) hm
 subst e
 cases r3
 erw[Xh ?_]
 cases k with
 |false=>
  let(k',e',q'):=q3
  cases e'
  erw[ite_ff #[H3,I3,q']]
 |true=>
  erw[ite_tt (test_last (thn (hc pins s3 O H3 _ I3 q3) λw' s4 ⟨z',H4,I4,r4,q4⟩=>thn (dg pins s4 O H4 y z' u w' _ I4 r2 r4 q4) λd' s5 ⟨z2,H5,I5,r5,k2,e2,q5⟩=>?_))]
  subst e2
  cases r5
  erw[Xh #[H5,I5,q5]]
def zgg(K:Ah)(x:V)(H:Hp)(k:Bool):Prop :=
 match x with
 |.non=>k=false
 |.bl b=>k=b
 |.int i=>k=(i !=0)
 |.str y=>y.length<=sizeLine/\k=((y.length:Int) !=0)
 |.ref p=>(∃ xs,SqL K H p xs/\k= !xs.isEmpty)∨(∃ xs,SqT K H p xs/\k= !xs.isEmpty)∨∃ kvs,H p=some (.dK kvs)/\k= !kvs.isEmpty
 |_=>False
def Km{κ:Type}{kvs:List (κ×V)}{vs:List (κ×Value)}(r:KV kvs vs):(!vs.isEmpty)= !kvs.isEmpty:=by
 cases r<;>rfl
def WN{xs:List V}{ab:An}(r:Vals xs ab):(!ab.toArray.isEmpty)= !xs.isEmpty:=by
 cases r<;>simp
def JZ:(sizeLine:Nat)<2 ^ 63:=by rw[Xe];decide
def zfZ:TruR X (λx H Q=>∃ k,zgg X.K x H k/\Q k H):=by
 intro pins s O H x v Q I rx h
 let(k,e,q):=h
 let hl:=JZ
 let hs:=Xe
 cases x with
 |non=>
  cases rx
  let e':=e
  subst e'
  erw[truthy_none #[H,I,q]]
 |bl b=>
  cases rx
  let e':=e
  subst e'
  erw[Xh #[H,I,q]]
 |int i=>
  let(t,rfl):=rx
  let e':=e
  subst e'
  erw[PySem.P.truthy_int #[H,I,q]]
 |str y=>
  let(t,rfl):=rx
  obtain⟨hy,e'⟩:y.length<=sizeLine/\k=((y.length:Int) !=0):=e
  subst e'
  exact PySem.P.truthy_str (by lia) #[H,I.tok _,q]
 |ref p=>
  cases rx
  let e':=e
  rcases e' with ⟨xs,hx,e'⟩ | ⟨xs,hx,e'⟩ | ⟨kvs,hx,e'⟩
  ·subst e'
   let(ab,r,pl,hz):=I.list hx
   let hlen:=r.length
   exact wpAny_truthy_list pl.isList (by simp only[xk];lia) #[H,I.tok _,by rw[WN r];exact q]
  ·subst e'
   let(ab,r,pl,hz):=I.tuple hx
   let hlen:=r.length
   exact truthy_tuple pl (by simp only[xk];lia) #[H,I.tok _,by rw[WN r];exact q]
  ·subst e'
   obtain⟨hz,hS,vs,r,m⟩:kvs.length<=sizeLine/\(p==sysModules)=false/\∃ vs,KV kvs vs/\s.heap.DictOf (qC X.prog X.w) p vs:=I.hok p _ hx
   let hlen:=Paired.length r
   exact wpAny_truthy_dict hS m (by lia) #[H,I.tok _,by rw[Km r];exact q]
 |_=>erw[(show False from e).elim]
def Yw(ha:PE X a ta)(he:∀ whole,isTrue a X.env whole=(do let v<-whole;standAt a.pos;holding [v] (truthy v))) :
  PT X a (λO H Q=>ta O H λx H'=>∃ k,zgg X.K x H' k/\Q k H'):=by
 cbv
 erw[isTrue_plain (thn (ha pins s O H _ I h) λv s1 ⟨x,H1,I1,r1,q1⟩=>zfZ pins s1 O H1 x v Q I1 r1 q1) (he _)]
def ZU(r:Vals [x] us):∃ u,us= [u]/\RelV x u:=by
 cases r with
 |cons r1 r2=>cases r2;exact#[_,rfl,r1]
def zaC(r:Vals [x,y] us):∃ u w',us= [u,w']/\RelV x u/\RelV y w':=by
 cases r with
 |cons r1 r2=>
  cases r2 with
  |cons r3 r4=>cases r4;exact#[_,_,rfl,r1,r3]
def za0 (hc:X.calm=true):jT X (.builtin "max") (λxs H Q=>∃ i j,xs= [.int i,.int j]/\Q (.int (if j>i then j else i)) H):=by
 intro pins s O H xs us Q I r h
 let(i,j,rfl,q):=h
 let(u,w',rfl,(t,rfl),(t',rfl)):=zaC r
 erw[max_two_ints (I.ok.hd hc) λh' tk k=>#[_,H,I.kept k,?_,q]]
 by_cases hj:j>i
 ·rw[if_pos hj,if_pos hj];exact#[_,rfl]
 ·rw[if_neg hj,if_neg hj];exact#[_,rfl]
def za1 (hc:X.calm=true):jT X (.builtin "min") (λxs H Q=>∃ i j,xs= [.int i,.int j]/\Q (.int (if j<i then j else i)) H):=by
 intro pins s O H xs us Q I r h
 let(i,j,rfl,q):=h
 let(u,w',rfl,(t,rfl),(t',rfl)):=zaC r
 erw[min_two_ints (I.ok.hd hc) λh' tk k=>#[_,H,I.kept k,?_,q]]
 by_cases hj:j<i
 ·rw[if_pos hj,if_pos hj];exact#[_,rfl]
 ·rw[if_neg hj,if_neg hj];exact#[_,rfl]
def v8:jT X (.type "int") (λxs H Q=>(∃ i,xs= [.int i]/\Q (.int i) H)∨∃ k,xs= [.bl k]/\Q (.int (if k then 1 else 0)) H):=by
 intro pins s O H xs us Q I r h
 rcases h with ⟨i,rfl,q⟩ | ⟨k,rfl,q⟩
 ·let(u,rfl,t,rfl):=ZU r
  erw[call_int_int #[.int i,H,I,#[_,rfl],q]]
 ·let(u,rfl,r1):=ZU r
  cases r1
  erw[call_int_bool #[.int (if k then 1 else 0),H,I.tok _,#[_,rfl],q]]
end
structure ObjM(h:Heap)(x dx C:Ap)(mA:Aq):Prop where
 obj:h.get? x=some (W.instObj C dx)
 ns:h.Ns1 dx mA
 ne:dx≠x
def zb8{h:Heap}(n:h.Ns1 dx mA):∃ od,h.get? dx=some od/\∀ name,W.lookIn name od=some (mA name):=by
 let(o,es,ep,ho,hd,hk,_,hm):=n
 refine#[o,ho,λname=>?_]
 let e:=hm name
 unfold nsFind findBy at e
 rw[<- Array.find?_toList]at e
 unfold W.lookIn
 rw[hd]
 dsimp only
 split
 next y q=>
  rw[q]at e
  erw[congrArg some e]
 next q=>
  rw[q]at e
  let a:es.toList.any (·.refKey)=false:=by
   rw[List.any_eq_false]
   intro y hy
   let(z,t,Bh):=hk y (Array.mem_toList_iff.mp hy)
   simp[DictEntry.refKey,Bh]
  let a':¬ es.toList.any (·.refKey)=true:=by rw[a];exact uD
  rw[if_neg a']
  erw[congrArg some e]
def ObjM.look(I:ObjM h x dx C mA):∃ od,W.InstAt h x (W.instObj C dx) C (some od)/\∀ name,W.lookIn name od=some (mA name) :=
 let ⟨od,ho,hl⟩:=zb8 I.ns
 #[od,#[I.obj,rfl,rfl,ho],hl]
section
variable {prog:Ar}{w:World}{A:Around}{E:Af}{s:Am}{K:Ah}{x dx C f:Ap}{mA:Aq}{name:Str}{v:Aj}
def zgP{expr:Bool}{Q:Af}(X:K.In s.heap)(I:ObjM s.heap x dx C mA)(hg:W.plainGet K C name=true)(hh:W.hasDictIn K C=true)
  (ha:W.findIn K (.ref C) name=some none) (hv:mA name=some v) (tj:W.handedIn v=true) (h:Q v { s with toks:=s.toks+1 }) :
  wpAny (model prog w) A (getAttr (.ref x) name expr) Q E s:=by
 let(od,J,hl):=I.look
 exact W.get_value X J (W.plainGet_of hg).1 (W.findObj_own hh ha rfl (by rw[hl,hv])) tj h
def zet{pl:Sem Bool}{Q:Aj×An->Am->Prop}(X:K.In s.heap)(I:ObjM s.heap x dx C mA)(hg:W.plainGet K C name=true)
  (hf:W.findIn K (.ref C) name=some (some (.ref f))) (ht:W.isFn K (.ref f)=true) (hv:mA name=none) (h:Q (.ref f,[.ref x]) s) :
  wpAny (model prog w) A (getMethod (.ref x) name pl) Q E s:=by
 let(od,J,hl):=I.look
 exact W.method_fn X J (W.plainGet_of hg).1 (W.plainGet_of hg).2 hf (beq_iff_eq.mp ht) (by show (W.lookIn name od).map (·.isSome)=some false;rw[hl,hv];rfl) h
def zhR{ns:Ab}{Q:Unit->Am->Prop}(X:K.In s.heap)(I:ObjM s.heap x dx C mA)
  (hs:W.findIn K (.ref C) "__setattr__" =some (some (.builtin "object.__setattr__"))) (hp:W.plainOver K C=true) (ht:W.takerIn K C name=some none) (hh:W.hasDictIn K C=true)
  (hw:PySem.Within mA ns) (hsz:ns.length<=sizeLine)
  (h:∀ h',ObjM h' x dx C (λy=>if y=name then some v else mA y)->Heap.SameBut dx s.heap h'->Q () { s with heap:=h',toks:=s.toks+2 }) :
  wpAny (model prog w) A (setAttr (.ref x) name v) Q E s:=by
 let(od,J,hl):=I.look
 erw[W.set_plain X J hs (W.osa_open X J hp ht λb=>?_)]
 let(cd,hc,Cy):=W.any_some hh
 let hx:=I.obj
 erw[x3 (x6 (x3 (x3 (wpAny_loadPart hx (x3 (W.Looks.here (W.looks_clsIn X hc) ?_))))))]
 rw[Cy]
 erw[x6 (x3 (x6 (x3 ?_)))]
 erw[wpAny_nsSet1 I.ns λh' fq cz=>?_]
 let(oD,FD,FG,Ec,ED,EF):=fq.count (PySem.Within.cons name v hw)
 refine x3 (wpAny_lookBehind Ec (by rw[ED];exact pastItsLine_dict (xD EF (by rw[xo];lia))) ?_)
 erw[x6 (h _ #[(cz.2 _ (Ne.symm I.ne)).trans I.obj,fq,I.ne] cz)]
def zeS{R:Result->Am->Prop}{vs:An}{kw:List (Str×Value)}(X:K.In s.heap)(hm:W.makesIn K C=true)
  (hi:W.findIn K (.ref C) "__init__" =some (some (.ref f))) (hf:W.typeIn K (.ref f)=some (.type "function"))
  (h:codeAny (model prog w) (A.under (.builtin "type.__call__" #[.ref C::vs,kw])) (.call (.ref f) #[.ref (⇑s+1)::vs,kw]) (W.InitBack (⇑s+1) R)
   { s with heap:=(s.heap.push W.emptyDict).push (W.instObj C ⇑s) }) :
  codeAny (model prog w) A (.call (.ref C) #[vs,kw]) R s:=by
 let(hh,g,d,t,os):=s
 erw[W.make_core (W.makes_of X hm) (W.looks_findIn X hi) (λself=>W.bind_fn X self hf) (.inl rfl) h]
end
def jy(f:Str)(v:V):List (Str×V)->List (Str×V)
 |[]=> [(f,v)]
 | (g,x)::r=>if g=f then (g,v)::r else (g,x)::jy f v r
def wm(f g:Str)(v:V):∀ fs:List (Str×V),(jy f v fs).lookup g=if g=f then some v else fs.lookup g
 |[]=>by
  show List.lookup g [(f,v)]=_
  by_cases h:g=f
  ·let hb:=beq_iff_eq.mpr h
   simp only[List.lookup,hb,if_pos h]
  ·let hb:=x9.mpr h
   simp only[List.lookup,hb,if_neg h]
 | (k,x)::r=>by
  let ih:=wm f g v r
  rw[show jy f v ((k,x)::r)=(if k=f then (k,v)::r else (k,x)::jy f v r) from rfl]
  by_cases hk:k=f
  ·rw[if_pos hk]
   by_cases h:g=k
   ·let hb:=beq_iff_eq.mpr h
    simp only[List.lookup,hb,if_pos (h.trans hk)]
   ·let hb:=x9.mpr h
    simp only[List.lookup,hb,if_neg (λe:g=f=>h (e.trans hk.symm))]
  ·rw[if_neg hk]
   by_cases h:g=k
   ·let hb:=beq_iff_eq.mpr h
    simp only[List.lookup,hb,if_neg (λe:g=f=>hk (h.symm.trans e))]
   ·let hb:=x9.mpr h
    simp only[List.lookup,hb]
    erw[ih]
def JX(f:Str)(v:V):∀ fs:List (Str×V),f∈(jy f v fs).map (·.1)/\∀ g,g∈fs.map (·.1)->g∈(jy f v fs).map (·.1)
 |[]=>#[by simp[jy],λg h=>by simp at h]
 | (k,x)::r=>by
  let(i1,i2):=JX f v r
  rw[show jy f v ((k,x)::r)=(if k=f then (k,v)::r else (k,x)::jy f v r) from rfl]
  by_cases hk:k=f
  ·rw[if_pos hk]
   subst hk
   exact#[by simp,λg h=>~~~h]
  ·rw[if_neg hk]
   refine#[?_,λg h=>?_]
   ·rw[xr]
    erw[xt _ i1]
   ·rw[xr]at h |-
    rcases xC.mp h with e | e
    ·erw[xC.mpr (.inl e)]
    ·erw[xt _ (i2 g e)]
def we(f:Str)(v:V):∀ fs:List (Str×V),(jy f v fs).length<=fs.length+1
 |[]=>by simp[jy]
 | (k,x)::r=>by
  let ih:=we f v r
  rw[show jy f v ((k,x)::r)=(if k=f then (k,v)::r else (k,x)::jy f v r) from rfl]
  by_cases hk:k=f
  ·rw[if_pos hk,xo,xo];lia
  ·rw[if_neg hk,xo,xo];lia
def RelO.some_of(r:RelO (some v) o):∃ u,o=some u/\RelV v u:=by
 cases o with
 |none=>erw[(show False from r).elim]
 |some u=>exact#[u,rfl,r]
def RelO.none_of(r:RelO none o):o=none:=by
 cases o with
 |none=>rfl
 |some u=>erw[(show False from r).elim]
def zbU(r:RelV v u):W.handedIn u=true:=by
 cases v with
 |non=>cases (show u=Value.none from r);rfl
 |bl b=>cases (show u=Value.bool b from r);rfl
 |int i=>let⟨t,e⟩:=(show ∃ t,u=Value.int i t from r);cases e;rfl
 |str x=>let⟨t,e⟩:=(show ∃ t,u=Value.str x t from r);cases e;rfl
 |ref a=>cases (show u=Value.ref a from r);rfl
 |ty n=>cases (show u=Value.type n from r);rfl
section
variable {P:Ar}{w:World}{H:Hp}{h:Heap}{a C dx:Ap}{fs:List (Str×V)}
def wV(hok:HOk P w H h)(e:H a=some (.ins C dx fs)):∃ mA,ObjM h a dx C mA/\(∀ f,RelO (fs.lookup f) (mA f))/\PySem.Within mA (fs.map (·.1))/\fs.length<=1000/\H dx=some (.own a):=by
 let(d,z,ne,ob,mA,n,r,q):=(show ObjOk P w H h a (.ins C dx fs) from hok a _ e)
 exact#[mA,#[ob,n,ne],r,q,z,d]
end
structure Cls(K:Ah)(C:Ap):Prop where
 pg:W.plainGet K C Str.empty=true
 hd:W.hasDictIn K C=true
 po:W.plainOver K C=true
 sa:W.findIn K (.ref C) "__setattr__" =some (some (.builtin "object.__setattr__"))
def Cls.get{K:Ah}{C:Ap}(c:Cls K C)(f:Str):W.plainGet K C f=true:=c.pg
def NoAttr(K:Ah)(C:Ap)(f:Str):Prop:=W.findIn K (.ref C) f=some none
def NoAttr.taker{K:Ah}(n:NoAttr K C f):W.takerIn K C f=some none:=by
 unfold W.takerIn
 rw[show W.findIn K (.ref C) f=some none from n]
 rfl
structure Y4(K:Ah)(C:Ap)(m:Str)(f:Ap):Prop where
 at_:W.findIn K (.ref C) m=some (some (.ref f))
 fn:W.isFn K (.ref f)=true
 kp:W.keepIn K (.ref f)=true
section
variable {X:Cx}{pins:Ak}{O:St}{H:Hp}{s:Am}{a C dx:Ap}{fs:List (Str×V)}{f:Str}{v:V}{A:Around}{E:Af}
def Kg{b:Bool}{Q:Af}(I:Inv X pins O H s)(e:H a=some (.ins C dx fs))(c:Cls X.K C)(n:NoAttr X.K C f)(l:fs.lookup f=some v)
  (h:∀ u s',Inv X pins O H s'->RelV v u->Q u s'):wpAny (model X.prog X.w) A (getAttr (.ref a) f b) Q E s:=by
 let(mA,σ,r,_,_,_):=wV I.hok e
 let(u,hu,ru):=RelO.some_of (by rw[<- l];exact r f)
 erw[zgP I.kIn σ (c.get f) c.hd n hu (zbU ru) (h u _ (I.tok _) ru)]
def WI{m:Str}{g:Ap}{pl:Sem Bool}{Q:Aj×An->Am->Prop}(I:Inv X pins O H s)(e:H a=some (.ins C dx fs))(c:Cls X.K C)(k:Y4 X.K C m g)(l:fs.lookup m=none)
  (h:Q (.ref g,[.ref a]) s):wpAny (model X.prog X.w) A (getMethod (.ref a) m pl) Q E s:=by
 let(mA,σ,r,_,_,_):=wV I.hok e
 let hn:=RelO.none_of (by rw[<- l];exact r m)
 erw[zet I.kIn σ (c.get m) k.at_ k.fn hn h]
def KJ{y:V}{u:Aj}{Q:Unit->Am->Prop}(I:Inv X pins O H s)(e:H a=some (.ins C dx fs))(c:Cls X.K C)(n:NoAttr X.K C f)(hl:fs.length<1000)(ry:RelV y u)
  (h:∀ s',Inv X pins O (upd H a (.ins C dx (jy f y fs))) s'->Q () s'):wpAny (model X.prog X.w) A (setAttr (.ref a) f u) Q E s:=by
 let(mA,σ,r,wi,_,ho):=wV I.hok e
 let hz:(fs.map (·.1)).length<=sizeLine:=by rw[xl,Xe];lia
 erw[zhR I.kIn σ c.sa c.po n.taker c.hd wi hz λh' σ' sb=>h _ ?_]
 let hd:∃ o,h'.get? dx=some o:=let #[o,_,_,e',_]:=σ'.ns;#[o,e']
 refine I.write (by rw[e];exact True.intro) (.inr ho) (λb q hb z=>(sb.2 b hb).trans z) hd ?_
 refine#[by rw[zI σ.ne];exact ho,?_,σ.ne,σ'.obj,_,σ'.ns,λg=>?_,λg hg=>?_]
 ·have:=we f y fs;lia
 ·show RelO ((jy f y fs).lookup g) (if g=f then some u else mA g)
  rw[wm]
  by_cases q:g=f
  ·rw[if_pos q,if_pos q];exact ry
  ·rw[if_neg q,if_neg q];exact r g
 ·by_cases q:g=f
  ·rw[q];exact (JX f y fs).1
  ·refine (JX f y fs).2 g (wi g λz=>hg ?_)
   show (if g=f then some u else mA g)=none
   rw[if_neg q];exact z
def Inv.made(I:Inv X pins O H s):Inv X pins O (upd (upd H ⇑s (.own (⇑s+1))) (⇑s+1) (.ins C ⇑s []))
  { s with heap:=(s.heap.push W.emptyDict).push (W.instObj C ⇑s) }:=by
 let e1:(s.heap.push W.emptyDict).get? ⇑s=some W.emptyDict:=x8 s.heap rfl
 let e2:((s.heap.push W.emptyDict).push (W.instObj C ⇑s)).get? (⇑s+1)=some (W.instObj C ⇑s):=by
  have:=x8 (s.heap.push W.emptyDict) (o:=W.instObj C ⇑s) rfl
  rwa [Heap.size_push]at this
 let e3:(s.heap.push W.emptyDict).Ns ⇑s (λ_=>none):=#[W.emptyDict,(List.toArray []),_,e1,rfl,(λe he=>absurd he (by simp)),λ_=>rfl]
 let I1:=I.laid (a:=⇑s) (o:=.own (⇑s+1)) (h':=s.heap.push W.emptyDict) (t':=s.toks) (λb u q=>x4 _ q) (xh _) #[_,e1]
 erw[I1.laid (a:=⇑s+1) (o:=.ins C ⇑s []) (t':=s.toks) (λb u q=>x4 _ q) (Nat.le_of_eq (Heap.size_push _ _)) ?_]
 let ne:⇑s≠⇑s+1:=xj (uK _)
 refine#[by rw[zI ne,zK],xS _,ne,e2,λ_=>none,(Heap.Ns1.of_empty e3).at λo q=>x4 _ q,λ_=>True.intro,λy hy=>absurd rfl hy]
def zgk{prog:Ar}{w:World}{env:Env}{e:Expr}{f:Str}{pos:Pos}{s:Am}{Q:Af}(hb:attributeBase e f env (eval e env)=eval e env)
  (h:wpAny (model prog w) A (eval e env) (λo s₁=>wpAny (model prog w) A (getAttr o f true) Q E s₁) E s):wpAny (model prog w) A (eval (.Attribute e f pos) env) Q E s :=
 Attribute_any_ h (by rw[arm_eval_Attribute,hb])
end
def tFld(K:Ah)(ta:TE)(f:Str):TE:=λO H Q=>ta O H λx H1=>∃ a C dx fs v,x=.ref a/\H1 a=some (.ins C dx fs)/\Cls K C/\NoAttr K C f/\fs.lookup f=some v/\Q v H1
def sFld(K:Ah)(ta tv:TE)(f:Str):TS:=λD O H=>tv O H λy H1=>ta O H1 λx H2=>∃ a C dx fs,x=.ref a/\H2 a=some (.ins C dx fs)/\Cls K C/\NoAttr K C f/\fs.length<1000 /\
 D.nx O (upd H2 a (.ins C dx (jy f y fs)))
section
variable {X:Cx}{o e value:Expr}{f:Str}{pos pos':Pos}{ta tv:TE}
def ze9(he:PE X e ta)(hb:attributeBase e f X.env (eval e X.env)=eval e X.env):PE X (.Attribute e f pos) (tFld X.K ta f):=by
 cbv
 erw[zgk hb (thn (he pins s O H _ I h) λu s1 ⟨x,H1,I1,rx,a,C,dx,fs,v,ex,ea,c,n,l,q⟩=>?_)]
 subst ex
 obtain rfl:u=Value.ref a:=rx
 erw[Kg I1 ea c n l λu' s2 I2 ru=>#[v,H1,I2,ru,q]]
def zj4(ha:PE X o ta)(hv:PE X value tv)(hs:swapsWith value (some (.Attribute o f pos')) pos.line X.env=pure false):PS X (.Assign [.Attribute o f pos'] value pos) (sFld X.K ta tv f):=by
 intro pins s O H D I h
 erw[plainObj_wpAny_Assign_Attribute (thn (hv pins s O H _ I h) λu s1 ⟨y,H1,I1,ry,q⟩=>thn (ha pins s1 O H1 _ I1 q) λov s2 ⟨x,H2,I2,rx,a,C,dx,fs,ex,ea,c,n,l,q2⟩=>?_) hs]
 subst ex
 obtain rfl:ov=Value.ref a:=rx
 erw[KJ I2 ea c n l ry λs3 I3=>#[O,_,I3,q2]]
end
section
variable {X:Cx}{pins:Ak}{O:St}{H:Hp}{s:Am}{A:Around}{E:Af}{Q:Af}{c:Aj}{b:Bool}
inductive wz(K:Ah)(H:Hp):V->Aj->Prop where
 |non:wz K H .non (.type "NoneType")
 |bl (x:Bool):wz K H (.bl x) (.type "bool")
 |int (i:Int):wz K H (.int i) (.type "int")
 |str (x:Str):wz K H (.str x) (.type "str")
 |lst {a:Ap} {xs:List V} (e:H a=some (.lst xs)):wz K H (.ref a) (.type "list")
 |frz {a:Ap} {o:Obj} {xs:List V} (e:H a=some (.frz o (.lst xs))):wz K H (.ref a) (.type "list")
 |tup {a:Ap} {xs:List V} (e:H a=some (.tup xs)):wz K H (.ref a) (.type "tuple")
 |dK {a:Ap} {kvs:List (Key×V)} (e:H a=some (.dK kvs)):wz K H (.ref a) (.type "dict")
 |ins {a C dx:Ap} {fs:List (Str×V)} (e:H a=some (.ins C dx fs)) (cl:Cls K C) (ha:W.findIn K (.ref C) "__class__" =some (some (.builtin "object.__class__")))
   (hn:W.specialIn K (.builtin "object.__class__") "__get__" =some (some (.builtin "getset_descriptor.__get__"))) (Cf:W.takesIn K (.builtin "object.__class__")=some true)
   (hm:W.mroIn K C (.type "object")=some true):wz K H (.ref a) (.ref C)
def zb0(I:Inv X pins O H s)(rx:RelV x u)(ty:wz X.K H x t)(e:W.kitOne X.K t c=some b)(h:∀ tk,Q (.bool b) { s with toks:=tk }) :
  wpAny (model X.prog X.w) A (call (.builtin "isinstance") [u,c]) Q E s:=by
 cases ty with
 |non=>cases (show u=Value.none from rx);exact W.kia_one W.kitx_none I.kIn True.intro e (λz=>nomatch z) h
 |bl y=>cases (show u=Value.bool y from rx);exact W.kia_one W.kitx_bool I.kIn True.intro e (λz=>nomatch z) h
 |int i=>let⟨t,q⟩:=(show ∃ t,u=Value.int i t from rx);cases q;exact W.kia_one W.kitx_int I.kIn True.intro e (λz=>nomatch z) h
 |str y=>let⟨t,q⟩:=(show ∃ t,u=Value.str y t from rx);cases q;exact W.kia_one W.kitx_str I.kIn True.intro e (λz=>nomatch z) h
 | @lst a xs ea=>
  cases (show u=Value.ref a from rx)
  let(_,_,n,_,h1):=(show ObjOk X.prog X.w H s.heap a (.lst xs) from I.hok a _ ea)
  erw[W.kia_one W.kitx_list I.kIn #[_,h1,rfl] e (λz=>nomatch z) h]
 | @frz a ob xs ea=>
  cases (show u=Value.ref a from rx)
  let(_,_,_,n,_,h1):=(show ObjOk X.prog X.w H s.heap a (.frz ob (.lst xs)) from I.hok a _ ea)
  erw[W.kia_one W.kitx_list I.kIn #[_,h1,rfl] e (λz=>nomatch z) h]
 | @tup a xs ea=>
  cases (show u=Value.ref a from rx)
  let(_,_,_,p):=(show ObjOk X.prog X.w H s.heap a (.tup xs) from I.hok a _ ea)
  let(o,h1,h2,_):=p
  erw[W.kia_one W.kitx_tuple I.kIn #[o,h1,h2] e (λz=>nomatch z) h]
 | @dK a kvs ea=>
  cases (show u=Value.ref a from rx)
  let(_,_,vs,_,p):=(show ObjOk X.prog X.w H s.heap a (.dK kvs) from I.hok a _ ea)
  let(o,es,ep,h1,h2,_):=p
  erw[W.kia_one W.kitx_dict I.kIn #[o,h1,h2.1] e (λz=>nomatch z) h]
 | @ins a C dx fs ea cl ha hn Cf hm=>
  cases (show u=Value.ref a from rx)
  let(mA,σ,_):=wV I.hok ea
  let(od,J,_):=σ.look
  erw[W.kia_one (W.kitx_own (cl.get _) cl.hd ha hn Cf hm) I.kIn J e (λz=>nomatch z) h]
end
structure Room(k:Nat)(A:Around):Prop where
 hd:A.handled=none
 dp:A.depth+3*k+5<recursionLimit
 un:A.units+16*k+200<cLine
def Room.mono(r:Room k A)(h:j<=k):Room j A:=#[r.hd,by have:=r.dp;lia,by have:=r.un;lia]
def Room.deeper(r:Room (k+1) A)(env:Env):Room k (A.deeper env) :=
 #[r.hd,by have:=r.dp;show A.depth+1+3*k+5<_;lia,by have:=r.un;show A.units+3+16*k+200<_;lia]
def Room.in1(r:Room (k+1) A):Room k A.in1 :=
 #[r.hd,by have:=r.dp;show A.depth+3*k+5<_;lia,by have:=r.un;show A.units+1+16*k+200<_;lia]
def Kt {A:Around}{C:Ap}:(A.under (.builtin "type.__call__" #[.ref C::us,kw])).depth=A.depth+1:=by
 first | rfl | simp[Around.under,Code.weight,Code.isCreation,Code.isGuard,Code.isCaller,Code.frames,Code.isFrame,guardIds]
def Ku {A:Around}{C:Ap}:(A.under (.builtin "type.__call__" #[.ref C::us,kw])).units=A.units+1:=by
 first | rfl | simp[Around.under,Code.cUnits,Code.frames,Code.isFrame]
def Room.make (r:Room (k+1) A) (C:Ap) (us:An) (kw:List (Str×Value)):Room k (A.under (.builtin "type.__call__" #[.ref C::us,kw])) :=
 #[r.hd,by have:=r.dp;rw[Kt];lia,by have:=r.un;rw[Ku];lia]
def Room.depth(r:Room k A):A.depth<recursionLimit:=by have:=r.dp;lia
def Room.units(r:Room k A):A.units+64<cLine:=by have:=r.un;lia
def zkN:TA:=λ_ H Q=>Q [] H
def zfX(ta:TE)(tr:TA):TA:=λO H Q=>ta O H λx H1=>tr O H1 λxs H2=>Q (x::xs) H2
section
variable {X:Cx}{e:Expr}{es:Ag}{te:TE}{t:TA}{pos:Pos}
def pa_nil:PA X [] zkN:=λ_ _ _ _ H Q I h=>Calls.spliced_nil #[[],H,I,.nil,h]
def zX(ha:PE X e te)(hr:PA X es t)(hs:starEach (e::es) X.env=(false,eval e X.env)::starEach es X.env:=by rfl):PA X (e::es) (zfX te t):=by
 intro pos pins s O H Q I h
 rw[hs]
 erw[Calls.spliced_cons (thn (ha pins s O H _ I h) λu s1 ⟨x,H1,I1,r1,q1⟩=>?_)]
 erw[thn (hr pos pins s1 O H1 _ I1 q1) λus s2 ⟨xs,H2,I2,r2,q2⟩=>#[x::xs,H2,I2,.cons r1 r2,q2]]
def tTup(t:TA):TE:=λO H Q=>t O H λxs H1=>xs.length<=sizeLine/\∀ p,H1 p=none->Q (.ref p) (upd H1 p (.tup xs))
def tLst(t:TA):TE:=λO H Q=>t O H λxs H1=>xs.length<=sizeLine/\∀ p,H1 p=none->Q (.ref p) (upd H1 p (.lst xs))
def zfd{x1}(h:PA X es t):PE X (.Tuple es x1 pos) (tTup t):=by
 intro pins s O H Q I hq
 refine wpAny_Tuple_spliced (thn (h pos pins s O H _ I hq) λus s1 ⟨xs,H1,I1,r,z,q⟩=>#[by rw[<- r.length];exact z,?_])
 let hf:=I1.hok.fresh (xh _)
 refine#[.ref ⇑s1,upd H1 ⇑s1 (.tup xs),I1.laid (λb u e=>x4 _ e) (xh _) ?_,rfl,q _ hf]
 exact#[z,us,r,#[_,x8 _ rfl,rfl,_,rfl]]
def zfc(h:PA X es t):PE X (.List es pos) (tLst t):=by
 intro pins s O H Q I hq
 refine wpAny_List_spliced (thn (h pos pins s O H _ I hq) λus s1 ⟨xs,H1,I1,r,z,q⟩=>#[by rw[<- r.length];exact z,?_])
 let hf:=I1.hok.fresh (xh _)
 refine#[.ref ⇑s1,upd H1 ⇑s1 (.lst xs),I1.laid (λb u e=>x4 _ e) (xh _) ?_,rfl,q _ hf]
 exact#[z,us,0,r,x8 _ rfl]
end
abbrev Sp:=List V->Hp->VK->XK->Prop
abbrev CXT:=List Env->Hp->Am->XK->Af
structure Env0(P:Ar)(w:World)(K:Ah)(mg:Aq)(base:Heap)(A:Around)(outer:List Env)(s:Am)(H:Hp):Prop where
 frames:A.frames=some outer
 mod:Mod K mg base
 bs:∀ b o,base.get? b=some o->s.heap.get? b=some o/\H b=none
 bsz:base.objs.size<=⇑s
 funs:s.heap.FunFrames base outer
 frf:∀ b∈frs outer,H b=none
 hok:HOk P w H s.heap
 bare:AllBare s.gens
def CE(outer:List Env)(P:Ar)(w:World)(H:Hp)(s:Am)(Q:VK)(u:Aj)(s':Am):Prop :=
 ∃ v H',s'.os=s.os/\AllBare s'.gens/\Un (frs outer) [] H H' s.heap s'.heap/\HOk P w H' s'.heap/\RelV v u/\Q v H'
def CR(CX:CXT)(outer:List Env)(P:Ar)(w:World)(H:Hp)(s:Am)(Q:VK)(E:XK)(r:Result)(s':Am):Prop :=
 match r with
 |.ok (.ret u)=>CE outer P w H s Q u s'
 |.ok _=>False
 |.error e=>CX outer H s E e s'
structure FnOk(P:Ar)(w:World)(K:Ah)(mg:Aq)(base:Heap)(CX:CXT)(k:Nat)(f:Ap)(fd:FuncData)(ps:Ab)(sp:Sp):Prop where
 len:∀ vs H Q E,sp vs H Q E->vs.length=ps.length
 run:∀(A:Around)(outer:List Env)(s:Am)(H:Hp)(args:Args)(us:An)(vs:List V)(Q:VK)(E:XK),Room k A->Env0 P w K mg base A outer s H->BindsTo s fd args (ps.zip us)->Vals vs us->sp vs H Q E ->
  codeAny (model P w) A (.call (.ref f) args) (CR CX outer P w H s Q E) s
def FnOk.mono{P:Ar}{w:World}{K:Ah}{base:Heap}{CX:CXT}{j k:Nat}{f:Ap}{ps:Ab}{sp:Sp}(F:FnOk P w K mg base CX j f fd ps sp)(h:j<=k) :
  FnOk P w K mg base CX k f fd ps sp:=#[F.len,λA outer s H args us vs Q E hr=>F.run A outer s H args us vs Q E (hr.mono h)]
def Env0.make{P:Ar}{w:World}{K:Ah}{base:Heap}{A:Around}{s:Am}{H:Hp}(e:Env0 P w K mg base A outer s H)(C:Ap)(us:An)(kw:List (Str×Value)) :
  Env0 P w K mg base (A.under (.builtin "type.__call__" #[.ref C::us,kw])) outer s H:=#[by first | exact e.frames | (simpa [Around.under,Code.envs,Code.isFrame,pushEnvs] using e.frames),e.mod,e.bs,e.bsz,e.funs,e.frf,e.hok,e.bare]
section
variable {X:Cx}{pins:Ak}{O:St}{H:Hp}{s s':Am}
def Inv.env0(I:Inv X pins O H s):Env0 X.prog X.w X.K X.mg X.base X.A X.stack s H :=
 #[I.ok.frames,I.ok.mod,I.bs,xD I.ok.bsz I.sz,I.stack,I.stkFree,I.hok,I.bare]
def Inv.after(I:Inv X pins O H s)(h:CE X.stack X.prog X.w H s Q u s'):EP X pins O Q u s':=by
 let(v,H',os,bare,un,hok,r,q):=h
 let(hh,g,d,t,DO):=s'
 obtain rfl:DO=s.os:=os
 exact#[v,H',I.call un hok bare (λb z=>absurd z (by simp)),r,q]
end
def zlT(sp:Sp)(mj:List V)(E:XK)(t:TA):TE:=λO H Q=>t O H λvs H1=>sp (vs++mj) H1 Q E
def Binds(K:Ah)(fd:FuncData)(ps:Ab)(ds:An):Prop :=
 ∀(s:Am)(us:An),K.In s.heap->(us++ds).length=ps.length->BindsTo s fd #[us,[]] (ps.zip (us++ds))
def Binds.all{K:Ah}{fd:FuncData}{ps:Ab}(h:∀ us:An,us.length=ps.length->bindArgs fd #[us,[]]=pure (ps.zip us)):Binds K fd ps []:=λs us _ hl=>by
 rw[xX]at hl |-
 erw[.of_eq (h us hl)]
def VR(CX:CXT)(X:Cx)(E:XK):Prop:=∀(pins:Ak)(O:St)(H:Hp)(s:Am)(e:Aj)(s':Am),Inv X pins O H s->CX X.stack H s E e s'->X.xe e s'
section
variable {X:Cx}{CX:CXT}{k:Nat}{f C:Ap}{fd:FuncData}{ps:Ab}{sp:Sp}{mj:List V}{ds:An}{E:XK}{x:Str}{p pos:Pos}{e:Expr}{es:Ag}{t:TA}
def zj9{pins:Ak}{O:St}{H:Hp}{s:Am}{Q:VK}{us:An}{vs:List V}(F:FnOk X.prog X.w X.K X.mg X.base CX k f fd ps sp)(hr:Room k X.A)(hb:Binds X.K fd ps ds)(hd:Vals mj ds)(hx:VR CX X E)
  (I:Inv X pins O H s) (r:Vals vs us) (h:sp (vs++mj) H Q E):∅ (call (.ref f) us) (EP X pins O Q) X.xe s:=by
 let r2:=r.append hd
 let hl:(us++ds).length=ps.length:=by rw[<- r2.length];exact F.len _ _ _ _ h
 erw[wpAny_call (Xj (F.run X.A X.stack s H #[us,[]] (us++ds) (vs++mj) Q E hr I.env0 (hb s us I.kIn hl) r2 h) λr s' hq=>?_)]
 cases r with
 |error e=>erw[hx pins O H s e s' I hq]
 |ok fl=>
  cases fl with
  |ret u=>erw[I.after hq]
  |next=>erw[False.elim hq]
  |brk=>erw[False.elim hq]
  |cont=>erw[False.elim hq]
def zhg(F:FnOk X.prog X.w X.K X.mg X.base CX k f fd ps sp)(hr:Room k X.A)(hg:Gl X x)(hm:X.mg x=some (.ref f))(hk:W.keepIn X.K (.ref f)=true)(hb:Binds X.K fd ps ds)(hd:Vals mj ds)(hx:VR CX X E)
  (ha:PA X (e::es) t) (bq:(↥x):=by decide) (he:starEach (e::es) X.env=(false,eval e X.env)::starEach es X.env:=by rfl) (hpl:(backTo pos (starEach es X.env)).any (·.1)=false:=by rfl) :
  PE X (.Call (.Name x p) (e::es) [] pos) (zlT sp mj E t):=by
 cbv
 erw[Xi (QJ I hg hm ?_ bq)]
 erw[W.callWith_K I.ok.mod.kin hk (thn (ha pos pins s O H _ I h) λus s1 ⟨vs,H1,I1,r,q⟩=>#[I1.kIn,?_]) he hpl]
 erw[zj9 F hr hb hd hx I1 r q]
structure Mk(K:Ah)(C f:Ap):Prop where
 makes:W.makesIn K C=true
 init:W.findIn K (.ref C) "__init__" =some (some (.ref f))
 fn:W.isFn K (.ref f)=true
 kp:W.keepIn K (.ref C)=true
end
section
end
structure Zb(N P:Ab)(sc:Scope):Prop where
 kind:sc.kind=.function
 co:sc.isCoroutine=false
 gen:sc.isGenerator=false
 nd:N.Nodup
 pre:N.take P.length=P
 par:∀ x∈P,sc.names.lookup x=some .local∨sc.names.lookup x=some .cell
 nofree:∀ y∈sc.names,y.2≠ .free
def vX{kindOf:Str->Option NameKind}:∀{binds:List (Str×Value)}{m:Aq},(∀ v,(x,v)∉binds)->bindL kindOf binds m x=m x
 |[],_,_=>rfl
 | (n,v)::r,m,h=>by
  unfold bindL
  rw[vX λw hw=>h w (xt _ hw)]
  split
  ·have:x≠n:=by rintro rfl;exact h v xA
   simp[this]
  ·rfl
def vV{kindOf:Str->Option NameKind}:∀{binds:List (Str×Value)}{m:Aq},(∀ v,(x,v)∉binds)->bindC kindOf binds m x=m x
 |[],_,_=>rfl
 | (n,v)::r,m,h=>by
  unfold bindC
  rw[vV λw hw=>h w (xt _ hw)]
  split
  ·rfl
  ·have:x≠n:=by rintro rfl;exact h v xA
   simp[this]
def vW{kindOf:Str->Option NameKind}:∀{P:Ab}{vs:An}{i:Nat}{m:Aq},P.Nodup->P[i]?=some x->vs[i]?=some v->kindOf x=some .local ->
  bindL kindOf (P.zip vs) m x=some v
 |[],_,_,_,_,h,_,_=>by simp at h
 |_::_,[],_,_,_,_,h,_=>by simp at h
 |p::P,w::vs,0,m,nd,h1,h2,hk=>by
  simp at h1 h2;subst h1;subst h2
  show bindL kindOf ((p,w)::P.zip vs) m p=_
  unfold bindL
  rw[vX λv hv=>(xB.mp nd).1 (List.of_mem_zip hv).1,if_pos hk]
  simp
 |p::P,w::vs,i+1,m,nd,h1,h2,hk=>by
  unfold bindL
  exact vW (xB.mp nd).2 (~~~h1) (~~~h2) hk
def vU{kindOf:Str->Option NameKind}:∀{P:Ab}{vs:An}{i:Nat}{m:Aq},P.Nodup->P[i]?=some x->vs[i]?=some v->kindOf x≠some .local ->
  bindC kindOf (P.zip vs) m x=some v
 |[],_,_,_,_,h,_,_=>by simp at h
 |_::_,[],_,_,_,_,h,_=>by simp at h
 |p::P,w::vs,0,m,nd,h1,h2,hk=>by
  simp at h1 h2;subst h1;subst h2
  show bindC kindOf ((p,w)::P.zip vs) m p=_
  unfold bindC
  rw[vV λv hv=>(xB.mp nd).1 (List.of_mem_zip hv).1,if_neg hk]
  simp
 |p::P,w::vs,i+1,m,nd,h1,h2,hk=>by
  show bindC kindOf ((p,w)::P.zip vs) m x=_
  unfold bindC
  exact vU (xB.mp nd).2 (~~~h1) (~~~h2) hk
def start(N:Ab)(vs:List V):St:=vs.map some++List.replicate (N.length-vs.length) none
def Js(CX:CXT)(P:Ar)(w:World)(K:Ah)(mg:Aq)(base:Heap)(N:Ab)(qual:Str)(scope:Scope)(f:Ap)(cd:Aj)(A:Around)(outer:List Env)(s:Am)(H:Hp)(E:XK):Cx where
 prog:=P
 w:=w
 K:=K
 mg:=mg
 base:=base
 A:=A.deeper (envOfC qual scope ⇑s f cd)
 N:=N
 s₀:=s
 H₀:=H
 env:=envOfC qual scope ⇑s f cd
 outer:=outer
 stack:=envOfC qual scope ⇑s f cd::outer
 ex:= []
 calm:=true
 fn:=λ_=>true
 pn:= []
 xe:=λe s'=>wpAny (model P w) (A.deeper (envOfC qual scope ⇑s f cd)) (leaving (envOfC qual scope ⇑s f cd) e) (λ_ nr=>CX outer H s E e nr) (λe' nr=>CX outer H s E e' nr) s'
def Jq{sc:Scope}(h:sc.names.lookup x=some .cell):∃ c,(cellsFrom n sc.names []).lookup x=some c:=by
 let q:=W.cellsFrom_some sc.names n [] (.inl h)
 erw[Option.isSome_iff_exists.mp q]
def zbZ{CX:CXT}{P:Ar}{w:World}{K:Ah}{mg:Aq}{base:Heap}{N ps:Ab}{qual:Str}{scope:Scope}{f:Ap}{cd:Aj}{A:Around}{outer:List Env}{s s1:Am}{H:Hp}{E:XK}{us:An}{vs:List V}
  (S:Zb N ps scope) (hd:A.handled=none) (e0:Env0 P w K mg base A outer s H) (hl:vs.length=ps.length) (r:Vals vs us)
  (x:InCallC s ⇑s (bindL (envOfC qual scope ⇑s f cd).kindOf (ps.zip us) λ_=>none) (cellsFrom (⇑s+1) scope.names []) (bindC (envOfC qual scope ⇑s f cd).kindOf (ps.zip us) λ_=>none) s1) :
  Inv (Js CX P w K mg base N qual scope f cd A outer s H E) [] (start N vs) H s1:=by
 let hpl:ps.length<=N.length:=by have:=congrArg List.length S.pre;rw[xJ]at this;lia
 let(h1,tk,rfl,hk):=x.done
 let nv:∀ b:Ap,b∉(Js CX P w K mg base N qual scope f cd A outer s H E).ex:=λb z=>absurd (show b∈([]:List Ap) from z) (by simp)
 refine⟨⟨e0.mod,S.kind,rfl,rfl,xh _,λy z c h1 h2=>?_,λy hy=>?_,λy c _ h=>?_,λ_=>hd,Around.frames_deeper e0.frames,.inr ⟨rfl,rfl⟩,λb z=>absurd z (nv b),e0.bs,e0.bsz,λb _ _=>nv b,λb z=>absurd z (nv b),e0.funs,e0.frf⟩,
  rfl,e0.bare,Un.kept hk,#[_,x.toInCall.ns,λi y v h1 h2 h3=>?_],λy c h=>#[_,x.cell y c h],e0.hok.fresh (xh _),λy c h=>?_,λp hp=>absurd (show p∈([]:Ak) from hp) (by simp),e0.hok.kept hk,?_⟩
 ·erw[name_of_addr x.apart (PySem.mem_of_lookup h1) (PySem.mem_of_lookup h2)]
 ·let hy:=hy
  rcases hy with hy | hy
  ·erw[Jq hy]
  ·erw[absurd rfl (S.nofree _ (PySem.mem_of_lookup hy))]
 ·erw[uh (x.above y c (PySem.mem_of_lookup h))]
 ·let hi:i<vs.length:=by
   unfold start at h2
   by_cases hi:i<vs.length
   ·erw[hi]
   ·rw[xp (~~~hi)]at h2
    rw[xN]at h2
    split at h2<;>cases h2
  let ha:vs[i]?=some v:=by
   unfold start at h2
   rw[xc (~~~hi),xf]at h2
   cases e:vs[i]? with
   |none=>rw[e]at h2;cases h2
   |some a=>rw[e]at h2;cases h2;rfl
  let(u,hu,rv):=r.get ha
  let hp:ps[i]?=some y:=by
   rw[<- S.pre,xW (by lia)];exact h1
  let B7:ps.Nodup:=by rw[<- S.pre];exact S.nd.sublist (List.take_sublist _ _)
  refine#[u,rv,?_]
  rcases S.par y (xO hp)with k | k
  ·erw[.inl #[k,vW B7 hp hu k]]
  ·let(c,e):=Jq k
   erw[.inr #[.inl k,c,e,?_]]
   let q:=x.cell y c e
   rw[vU B7 hp hu (by show scope.names.lookup y≠_;rw[k];decide)]at q
   erw[q]
 ·erw[e0.hok.fresh (uh (x.above y c (PySem.mem_of_lookup h)))]
 ·unfold start
  show _=N.length
  rw[xm,xl,uu]
  lia
def ziI{CX:CXT}{P:Ar}{w:World}{K:Ah}{mg:Aq}{base:Heap}{k:Nat}{f:Ap}{name qual:Str}{params:Arguments}{body:List Stmt}{scope:Scope}{dV kV doc pm ai ct oc:Aj}{an od:Option Ap}
  {gc:Array (Option Aj)} {N ps:Ab} {sp:Sp} (lk:K.lookup f=some #[oc,od,.func (W.fnOf name qual params body scope dV kV doc pm an ai ct),gc]) (hcd:W.codeIn K ai qual=true) (S:Zb N ps scope)
  (len:∀ vs H Q E,sp vs H Q E->vs.length=ps.length)
  (a9:∀(A:Around)(outer:List Env)(s:Am)(H:Hp)(vs:List V)(Q:VK)(E:XK),Room k (A.deeper (envOfC qual scope ⇑s f ai))->sp vs H Q E ->
   ∃ t,PSs (Js CX P w K mg base N qual scope f ai A outer s H E) body t/\t { nx:=λ_ H'=>Q .non H',rt:=Q } (start N vs) H) :
  FnOk P w K mg base CX (k+1) f (W.fnOf name qual params body scope dV kV doc pm an ai ct) ps sp:=by
 refine#[len,λA outer s H args us vs Q E hr e0 hb r de=>?_]
 let hl:=len _ _ _ _ de
 let KX:K.In s.heap:=e0.mod.kin.keeps λb o e=>(e0.bs b o e).1
 let lim:s.heap.NoLimit:=e0.mod.nolimit.keeps λb o e=>(e0.bs b o e).1
 let pj:∀ y∈ps.zip us,scope.names.lookup y.1=some .local∨(scope.names.lookup y.1=some .cell/\((cellsFrom (⇑s+1) scope.names []).lookup y.1).isSome=true):=λ⟨n,v⟩ hy=>by
  rcases S.par n (List.of_mem_zip hy).1 with q | q
  ·erw[.inl q]
  ·erw[.inr #[q,W.cellsFrom_some _ _ _ (.inl q)]]
 erw[codeAny_call_function hr.depth (KX _ _ lk) rfl S.co S.gen rfl (W.codeRec_of KX hcd) (hb _ _ _ _ ?_)]
 erw[wpAny_newFunctionEnv_cells S.kind pj λenv he s1 x=>?_]
 subst he
 refine#[lim.keeps x.toInCall.keep,codeAny_func ?_]
 let(t,ht,hq):=a9 A outer s H vs Q E (hr.deeper _) de
 let I:Inv (Js CX P w K mg base N qual scope f ai A outer s H E) [] (start N vs) H s1:=zbZ S hr.hd e0 hl r x
 erw[Xc (ht [] s1 (start N vs) H _ I hq) (λfl s' hs=>?_) λe s' hs=>hs]
 let fin:∀{O':St}{H':Hp}{v:V}{u:Aj},Inv (Js CX P w K mg base N qual scope f ai A outer s H E) [] O' H' s'->RelV v u->Q v H'->CE outer P w H s Q u s' :=
  λ{O' H' v u} J rv q=>#[v,H',J.os,J.bare,J.base,J.hok,rv,q]
 cases fl with
 |ret u=>
  let(v,O',H',J,rv,q):=hs
  erw[fin J rv q]
 |next=>
  let(O',H',J,q):=hs
  erw[fin (v:=V.non) (u:=Value.none) J rfl q]
 |brk=>
  let(_,_,_,q):=hs
  erw[False.elim q]
 |cont=>
  let(_,_,_,q):=hs
  erw[False.elim q]
section
variable {X:Cx}{x:Str}{p pos:Pos}{e:Expr}{es:Ag}{t:TA}{id T:String}{r:List V->Hp->VK->Prop}
def tCB(r:List V->Hp->VK->Prop)(t:TA):TE:=λO H Q=>t O H λvs H1=>r vs H1 Q
def ZO (hc:jT X (.builtin id) r) (hg:Gl X x) (hm:X.mg x=none) (hv:bootBuiltins x=some (.builtin id)) (ha:PA X (e::es) t) (hn:x≠ "__name__" :=by decide) (bq:(↥x):=by decide)
    (he:starEach (e::es) X.env=(false,eval e X.env)::starEach es X.env:=by rfl) (hpl:(backTo pos (starEach es X.env)).any (·.1)=false:=by rfl):PE X (.Call (.Name x p) (e::es) [] pos) (tCB r t):=by
  cbv
  erw[Xi (Jb I hg hm hv ?_ hn bq)]
  erw[PyProof.Rows.callWith_builtin1 (thn (ha pos pins s O H _ I h) λus s1 ⟨vs,H1,I1,r1,q1⟩=>hc pins s1 O H1 vs us Q I1 r1 q1) he hpl]
def ZP (hc:jT X (.type T) r) (hg:Gl X x) (hm:X.mg x=none) (hv:bootBuiltins x=some (.type T)) (ha:PA X (e::es) t) (hn:x≠ "__name__" :=by decide) (bq:(↥x):=by decide)
    (he:starEach (e::es) X.env=(false,eval e X.env)::starEach es X.env:=by rfl) (hpl:(backTo pos (starEach es X.env)).any (·.1)=false:=by rfl):PE X (.Call (.Name x p) (e::es) [] pos) (tCB r t):=by
  cbv
  erw[Xi (Jb I hg hm hv ?_ hn bq)]
  erw[PyProof.Rows.callWith_type1 (thn (ha pos pins s O H _ I h) λus s1 ⟨vs,H1,I1,r1,q1⟩=>hc pins s1 O H1 vs us Q I1 r1 q1) he hpl]
end
end L2
namespace HT
open PySem PyProof.Rows
section
open PySem.SeqAt
open PySem.AutoSeq1 (wpAny_loadPart')
open PySem.MeetsSeq PySem.MeetsSeq2 PySem.MeetsSeq3
end
section
variable {prog:Ar}{w:World}{A:Around}{E:Af}{s:Am}
def cat_tup{Q:Af}(ht:IsTup s.heap t vs.toArray)(hb:IsTup s.heap b ws.toArray)(hv:vs≠ [])
  (h1:ws= []->Q (.ref t) s) (h2:ws≠ []->Q (.ref ⇑s) { s with heap:=s.heap.push { cls:=.type "tuple",data:=.seq (vs++ws).toArray } })
  (hsz:vs.length+ws.length<=sizeLine):wpAny (model prog w) A (binaryOp .Add (.ref t) (.ref b)) Q E s:=by
 let((cls,dd,data,sl),ho,hc,n,hd):=id ht
 let((BR,ni,data2,sq),i8,di,n2,hd2):=id hb
 simp only at hc hd di hd2
 subst hc hd di hd2
 let e:vs.toArray++ws.toArray=(vs++ws).toArray:=by simp
 by_cases hw:ws= []
 ·exact concat_meets #[_,ho,rfl] #[_,i8,rfl] noFill_tuple_add seq_tuple_add PySem.F.slot_tuple_add PySem.F.entry_tuple_add (PySem.F.args_tuple_add_2 _ _)
   (tuple_addW1 t b vs.toArray ws.toArray n n2 dd ni sl sq (~~~hv) (by simp[hw])) #[ho,i8,h1 hw]
 ·refine concat_meets #[_,ho,rfl] #[_,i8,rfl] noFill_tuple_add seq_tuple_add PySem.F.slot_tuple_add PySem.F.entry_tuple_add (PySem.F.args_tuple_add_2 _ _)
   (tuple_addW2 t b vs.toArray ws.toArray n n2 dd ni sl sq (~~~hv) (~~~hw) (by rw[xk,xk];exact hsz)) #[ho,i8,?_]
  rw[e]
  erw[h2 hw]
def sIx(n d:Nat):Option Int->Nat
 |none=>d
 |some v=>if v<0 then (v+(n:Int)).toNat else min v.toNat n
def zkb(n d:Nat)(hd:d<=n)(o:Option Int):sIx n d o<=n:=by
 cases o with
 |none=>erw[hd]
 |some v=>
  show (if v<0 then (v+(n:Int)).toNat else min v.toNat n)<=n
  by_cases hv:v<0
  ·rw[if_pos hv];lia
  ·rw[if_neg hv];exact Nat.min_le_right _ _
def zah(v:Int)(n d:Nat):(if v<0 then max (v+(n:Int)) 0 else min v (n:Int))=((sIx n d (some v):Nat):Int):=by
 show (if v<0 then max (v+(n:Int)) 0 else min v (n:Int))=(((if v<0 then (v+(n:Int)).toNat else min v.toNat n):Nat):Int)
 by_cases hv:v<0
 ·simp only[if_pos hv];lia
 ·simp only[if_neg hv];lia
def kj(lo hi:Option Int)(n:Nat):Builtin.Slice.sliceAdjust lo hi 1 (n:Int)=(((sIx n 0 lo:Nat):Int),((sIx n n hi:Nat):Int)):=by
 let h1:¬ ((1:Int)<0):=by lia
 unfold Builtin.Slice.sliceAdjust
 simp only[h1,if_false]
 erw[Prod.ext ?_ ?_]
 ·cases lo with
  |none=>rfl
  |some v=>erw[zah v n 0]
 ·cases hi with
  |none=>rfl
  |some v=>erw[zah v n n]
def KC(i j:Nat):Builtin.Slice.slicePlaces (i:Int) (j:Int) 1=j-i:=by
 unfold Builtin.Slice.slicePlaces
 let h1:(1:Int)>0:=by lia
 simp only[h1,if_true,Int.ediv_one]
 split<;>lia
def vd(p:IsPart v o)(h:Q o s):wpAny (model prog w) A (Builtin.Slice.slicePartIndex v) Q E s:=by
 cases p with
 |none=>erw[slicePart_none h]
 |int i t=>erw[slicePart_int h]
def J6{lo hi:Option Int}{n:Nat}{Q:Int×Int×Nat->Am->Prop}(hs:s.heap.IsSliceOf sl vl vu .none)(pl:IsPart vl lo)(pu:IsPart vu hi)
  (h:Q (((sIx n 0 lo:Nat):Int),1,sIx n n hi-sIx n 0 lo) s):wpAny (model prog w) A (Builtin.Slice.sliceApplied (.ref sl) (pure (n:Int))) Q E s:=by
 let(os,ox,lu,hds):=id hs
 unfold Builtin.Slice.sliceApplied Builtin.Slice.sliceFields
 erw[x3 (x3 (wpAny_field ox hds rfl (x3 (wpAny_field ox hds rfl (x3 (wpAny_field ox hds rfl (x6 ?_)))))))]
 erw[x3 (slicePart_none ?_)]
 show wpAny _ _ (if ((1:Int)==0)=true then _ else _) _ _ s
 rw[if_neg (by decide)]
 erw[x3 (vd pl (x3 (vd pu (x3 (x6 ?_)))))]
 show wpAny _ _ (match Builtin.Slice.sliceAdjust lo hi 1 (n:Int)with | (lo,hi)=>pure (lo,(1:Int),Builtin.Slice.slicePlaces lo hi 1)) _ _ s
 rw[kj lo hi n]
 show wpAny _ _ (pure (((sIx n 0 lo:Nat):Int),(1:Int),Builtin.Slice.slicePlaces ((sIx n 0 lo:Nat):Int) ((sIx n n hi:Nat):Int) 1)) _ _ s
 rw[KC]
 erw[x6 h]
def zfk(xs:Array Aj)(i k:Nat):((List.range k).filterMap λ(m:Nat)=>xs[((i:Int)+(m:Int)*1).toNat]?).toArray=((xs.toList.drop i).take k).toArray:=by
 let e:(λ(m:Nat)=>xs[((i:Int)+(m:Int)*1).toNat]?)=λm=>xs[i+m]?:=by
  funext m
  have:((i:Int)+(m:Int)*1).toNat=i+m:=by lia
  rw[this]
 rw[e]
 have:=pick_run xs i k
 rw[uE]at this
 let e2:((λx=>xs[x]?)∘λx=>i+x)=λm=>xs[i+m]?:=rfl
 rw[e2]at this
 rw[this]
def getItem_tuple_cut{t sl:Ap}{lo hi:Option Int}{Q:Af}(ht:IsTup s.heap t items)(hs:s.heap.IsSliceOf sl vl vu .none)(pl:IsPart vl lo)(pu:IsPart vu hi)
  (hw:¬ (sIx items.size 0 lo=0/\sIx items.size items.size hi=items.size))
  (h:Q (.ref ⇑s) { s with heap:=s.heap.push { cls:=.type "tuple",data:=.seq ((items.toList.drop (sIx items.size 0 lo)).take (sIx items.size items.size hi-sIx items.size 0 lo)).toArray } })
  (hsz:items.size<=sizeLine):wpAny (model prog w) A (getItem (.ref t) (.ref sl)) Q E s:=by
 let da:sizeOk (.seq ((items.toList.drop (sIx items.size 0 lo)).take (sIx items.size items.size hi-sIx items.size 0 lo)).toArray):=by
  show ((items.toList.drop (sIx items.size 0 lo)).take (sIx items.size items.size hi-sIx items.size 0 lo)).toArray.size<=sizeLine
  rw[xk,xJ,uy,Array.length_toList]
  lia
 let hj:sIx items.size items.size hi<=items.size:=zkb _ _ (xh _) hi
 let(os,ox,lu,hds):=id hs
 let ER:s.TypeIs (.ref sl) "slice" :=#[os,ox,lu]
 unfold getItem
 try with_reducible refine Xb ?_
 first | refine x3 (x6 ?_) | skip
 refine x3 (wpAny_sequenceKey ht.typeIs (by decide) ?_)
 refine x3 (wpAny_callSpecial?_slot (name:=Str.ofString "__getitem__") ht.typeIs PyProof.Rows.slot_tuple_getitem
  (wpAny_call_entry PyProof.Rows.slot_tuple_getitem ht.typeIs entry_tuple_getitem ?_ (args_tuple_getitem _ _)))
 show wpAny _ _ (Builtin.Tuple.tupleItemsOf (.ref t) >>= _) _ _ s
 erw[x3 (tupleItemsOf_ ht ?_)]
 erw[x3 (wpAny_typeOf ER ?_)]
 rw[if_pos (by decide)]
 erw[x3 (J6 hs pl pu ?_)]
 let Cm:¬ ((((sIx items.size 0 lo:Nat):Int)==0&&(1:Int)==1&&(sIx items.size items.size hi-sIx items.size 0 lo)==items.size)=true):=by
  intro q
  rw[xi,xi]at q
  let q1:((sIx items.size 0 lo:Nat):Int)=0:=eq_of_beq q.1.1
  let q2:sIx items.size items.size hi-sIx items.size 0 lo=items.size:=eq_of_beq q.2
  exact hw #[by lia,by lia]
 show wpAny _ _ (if (((sIx items.size 0 lo:Nat):Int)==0&&(1:Int)==1&&(sIx items.size items.size hi-sIx items.size 0 lo)==items.size)=true then _ else _) _ _ s
 rw[if_neg Cm,zfk]
 first
  |exact x3 (wpAny_newObj_type (x6 ⟨_,rfl,x6 h⟩) da)
  |exact x3 (wpAny_newObj_type (x3 (x6 (x6 ⟨_,rfl,x6 h⟩))) da)
  |exact x3 (x3 (wpAny_newObj_type (x6 (x6 ⟨_,rfl,x6 h⟩)) da))
  |exact x3 (x3 (wpAny_newObj_type (x6 ⟨_,rfl,x6 h⟩) da))
end
end HT
namespace L2
open PySem PySem.Spec PyProof.Rows
abbrev TO:=St->Hp->(Option Int->Hp->Prop)->Prop
def PO(X:Cx)(e:Option Expr)(t:TO):Prop :=
 ∀(pins:Ak)(s:Am)(O:St)(H:Hp)(Q:Option Int->Hp->Prop),Inv X pins O H s->t O H Q ->
  ∅ (evalPart e X.env) (λu s'=>∃ o H',Inv X pins O H' s'/\IsPart u o/\Q o H') X.xe s
def zii:TO:=λ_ H Q=>Q none H
def zlY(t:TE):TO:=λO H Q=>t O H λx H1=>∃ i,x=.int i/\Q (some i) H1
section
variable {X:Cx}{e:Expr}{te:TE}{lo hi:Option Expr}{tl th:TO}{pos p2:Pos}
def yA:PO X none zii:=by
 cbv
 rw[evalPart_none]
 erw[x6 #[none,H,I,.none,h]]
def yB(h:PE X e te):PO X (some e) (zlY te):=by
 intro pins s O H Q I hw
 rw[evalPart_some]
 erw[thn (h pins s O H _ I hw) λu s1 ⟨x,H1,I1,r1,q1⟩=>?_]
 let(i,rfl,q):=q1
 let(t,rfl):=r1
 exact#[some i,H1,I1,.int i t,q]
def SlR(X:Cx)(r:V->Option Int->Option Int->Hp->VK->Prop):Prop :=
 ∀(pins:Ak)(s:Am)(O:St)(H:Hp)(x:V)(v vl vu:Aj)(lo hi:Option Int)(sl:Ap)(Q:VK),Inv X pins O H s->RelV x v->s.heap.IsSliceOf sl vl vu .none->IsPart vl lo->IsPart vu hi->r x lo hi H Q ->
  ∃ T id,typeLookup (.type T) "__getitem__" =pure (some (.builtin id))/\s.TypeIs v T/\∅ (getItem v (.ref sl)) (EP X pins O Q) X.xe s
def tSl(r:V->Option Int->Option Int->Hp->VK->Prop)(te:TE)(tl th:TO):TE:=λO H Q=>te O H λx H1=>tl O H1 λl H2=>th O H2 λu H3=>r x l u H3 Q
def Jz{r:V->Option Int->Option Int->Hp->VK->Prop}(hr:SlR X r)(he:PE X e te)(hl:PO X lo tl)(hu:PO X hi th):PE X (.Subscript e (.Slice lo hi none p2) pos) (tSl r te tl th):=by
 cbv
 erw[Subscript_ (thn (he pins s O H _ I h) λv s1 ⟨x,H1,I1,r1,q1⟩=>?_)]
 erw[wpAny_Slice (thn (hl pins s1 O H1 _ I1 q1) λvl s2 ⟨l,H2,I2,pl,q2⟩=>thn (hu pins s2 O H2 _ I2 q2) λvu s3 ⟨u,H3,I3,pu,q3⟩=>?_)]
 rw[evalPart_none]
 erw[x6 ?_]
 let I4:Inv X pins O H3 { s3 with heap:=s3.heap.push { cls:=.type "slice",data:=.fields (List.toArray [vl,vu,.none]) } }:=I3.kept (t':=s3.toks) λb ob q=>x4 _ q
 let(T,id,hT,ht,hg):=hr pins { s3 with heap:=s3.heap.push { cls:=.type "slice",data:=.fields (List.toArray [vl,vu,.none]) } } O H3 x v vl vu l u ⇑s3 Q I4 r1 (Heap.IsSliceOf.new ..) pl pu q3
 show ∅ (subscriptTail e (.Slice lo hi none p2) v (.ref ⇑s3)) (EP X pins O Q) X.xe { s3 with heap:=s3.heap.push { cls:=.type "slice",data:=.fields (List.toArray [vl,vu,.none]) } }
 exact tail_any ht hT hg (by with_unfolding_all rfl)
def JQ(xs:List V)(lo hi:Option Int):List V:=(xs.drop (HT.sIx xs.length 0 lo)).take (HT.sIx xs.length xs.length hi-HT.sIx xs.length 0 lo)
def wc(xs:List V)(lo hi:Option Int):(JQ xs lo hi).length<=xs.length:=by
 unfold JQ
 rw[xJ,uy]
 lia
def rSlT(K:Ah):V->Option Int->Option Int->Hp->VK->Prop:=λx lo hi H Q=>∃ a xs,x=.ref a/\SqT K H a xs /\
 ¬ (HT.sIx xs.length 0 lo=0/\HT.sIx xs.length xs.length hi=xs.length)/\∀ p,H p=none->Q (.ref p) (upd H p (.tup (JQ xs lo hi)))
def zkx:SlR X (rSlT X.K):=by
 intro pins s O H x v vl vu lo hi sl Q I rx hs pl pu h
 let(a,xs,rfl,hx,hw,q):=h
 cases rx
 let(ab,r,ht,hz):=I.tuple hx
 let hlen:ab.toArray.size=xs.length:=by rw[xk];exact r.length.symm
 refine#["tuple",_,PyProof.Rows.slot_tuple_getitem.lookup,ht.typeIs,?_]
 refine HT.getItem_tuple_cut ht hs pl pu (by rw[hlen];exact hw) ?_ (by rw[hlen];exact hz)
 rw[hlen]
 refine#[.ref ⇑s,_,I.laid (λb ob q=>x4 _ q) (xh _) ?_,rfl,q _ (I.hok.fresh (xh _))]
 exact#[xD (wc xs lo hi) hz,_,(r.drop (HT.sIx xs.length 0 lo)).take (HT.sIx xs.length xs.length hi-HT.sIx xs.length 0 lo),IsTup.new _ _]
def Vals.nil_iff(r:Vals xs us):us= []↔xs= []:=by
 cases r with
 |nil=>simp
 |cons _ _=>simp
end
def ixN(n:Nat)(i:Int):Option Nat:=if 0<=i then (if i<n then some i.toNat else none) else if -(n:Int)<=i then some (i+n).toNat else none
def atI{α:Type}(xs:List α)(i:Int):Option α:=(ixN xs.length i).bind λj=>xs[j]?
def zap(h:ixN n i=some j):seqIndex? i n=some j/\j<n/\ -(n:Int)<=i/\i<n:=by
 unfold ixN at h
 by_cases h0:0<=i
 ·rw[if_pos h0]at h
  by_cases h1:i<n
  ·rw[if_pos h1]at h
   let e:=Option.some.inj h
   exact#[by rw[seqIndex_of h0 h1,e],by lia,by lia,h1]
  ·rw[if_neg h1]at h;cases h
 ·rw[if_neg h0]at h
  by_cases h1: -(n:Int)<=i
  ·rw[if_pos h1]at h
   let e:=Option.some.inj h
   exact#[by rw[seqIndex_neg (by lia) h1,e],by lia,h1,by lia]
  ·rw[if_neg h1]at h;cases h
def VU{α:Type}{xs:List α}{i:Int}{v:α}(h:atI xs i=some v):∃ j,seqIndex? i xs.length=some j/\xs[j]?=some v/\j<xs.length/\ -(xs.length:Int)<=i/\i<xs.length:=by
 unfold atI at h
 cases e:ixN xs.length i with
 |none=>rw[e]at h;cases h
 |some j=>
  rw[e]at h
  let(h1,h2,h3,h4):=zap e
  exact#[j,h1,h,h2,h3,h4]
def qN{α:Type}{xs:List α}{j:Nat}{v:α}(h:xs[j]?=some v):atI xs (j:Int)=some v:=by
 let hj:=(xa.mp h).1
 let e:ixN xs.length (j:Int)=some j:=by
  unfold ixN
  rw[if_pos (by lia),if_pos (by lia)];simp
 unfold atI;rw[e];exact h
def zc6{α:Type}(xs:List α)(v:α):atI (xs++ [v]) (-1)=some v:=by
 let hl:(xs++ [v]).length=xs.length+1:=by simp
 let e:ixN (xs++ [v]).length (-1)=some xs.length:=by
  unfold ixN
  rw[hl,if_neg (by decide),if_pos (by lia)]
  congr 1
  lia
 unfold atI
 rw[e]
 simp
def wU(b:Expr):Prop:=∀ o i,subscripted b false o i=operate [o,i] (getItem o i)
def IxR(X:Cx)(r:R2):Prop :=
 ∀(value slice:Expr)(pins:Ak)(s:Am)(O:St)(H:Hp)(x y:V)(v u:Aj)(Q:VK),Inv X pins O H s->RelV x v->RelV y u->r x y H Q ->
  subscripted slice false v u=operate [v,u] (getItem v u)->∅ (subscriptTail value slice v u) (EP X pins O Q) X.xe s
def MtR(X:Cx)(id:String)(r:V->List V->Hp->VK->Prop):Prop :=
 ∀(pins:Ak)(s:Am)(O:St)(H:Hp)(x:V)(xs:List V)(v:Aj)(us:An)(Q:VK),Inv X pins O H s->RelV x v->Vals xs us->r x xs H Q ->
  ∅ (call (.builtin id) (v::us)) (EP X pins O Q) X.xe s
section
variable {X:Cx}{a b:Expr}{ta tb:TE}{pos:Pos}
def IxR.or{r r':R2}(h:IxR X r)(h':IxR X r'):IxR X (λx y H Q=>r x y H Q∨r' x y H Q):=by
 intro value slice pins s O H x y v u Q I rx ry q hs
 rcases q with q | q
 ·erw[h value slice pins s O H x y v u Q I rx ry q hs]
 ·erw[h' value slice pins s O H x y v u Q I rx ry q hs]
def zfb(hr:IxR X r)(ha:PE X a ta)(hb:PE X b tb)(hs:wU b):PE X (.Subscript a b pos) (tOp r ta tb):=by
 cbv
 erw[Subscript_ (zi2 ha hb I h λv u s2 x y H2 I2 rx ry q=>hr a b pins s2 O H2 x y v u Q I2 rx ry q (hs _ _))]
def rIxL(K:Ah):R2:=λx y H Q=>∃ p xs i v,x=.ref p/\y=.int i/\SqL K H p xs/\atI xs i=some v/\Q v H
def rIxT(K:Ah):R2:=λx y H Q=>∃ p xs i v,x=.ref p/\y=.int i/\SqT K H p xs/\atI xs i=some v/\Q v H
def rIxS:R2:=λx y H Q=>∃ z i c,x=.str z/\y=.int i/\z.length<=sizeLine/\atI z.cps.toList i=some c/\Q (.str #[(List.toArray [c])]) H
def ix_list:IxR X (rIxL X.K):=by
 intro value slice pins s O H x y v u Q I rx ry h hs
 let(p,xs,i,z,rfl,rfl,hq,he,q):=h
 cases rx
 let(t,rfl):=ry
 let(ab,r,pl,hz):=I.list hq
 let(j,h1,h2,h3,h4,h5):=VU he
 let(w,ew,a6):=r.get h2
 let hl:=r.length
 let hn:=JZ
 let fin:EP X pins O Q w s:=#[z,H,I,a6,q]
 by_cases h0:0<=i
 ·let hj:i.toNat=j:=by
   rw[seqIndex_of h0 h5]at h1
   erw[Option.some.inj h1]
  exact item_listR pl.isList h0 (by lia) (by rw[hj];simpa using ew) fin hs
 ·let hj:(i+(ab.toArray.size:Int)).toNat=j:=by
   rw[seqIndex_neg (by lia) h4]at h1
   rw[xk,<- hl]
   erw[Option.some.inj h1]
  exact subscriptTail_builtinR pl.isList.typeIs slot_list_getitem.lookup
   (wpAny_getItem_list_neg pl.isList (by lia) (by rw[xk]<;>lia) (by lia) (by rw[hj];simpa using ew) #[rfl,fin]) hs
def zjv:IxR X (rIxT X.K):=by
 intro value slice pins s O H x y v u Q I rx ry h hs
 let(p,xs,i,z,rfl,rfl,hq,he,q):=h
 cases rx
 let(t,rfl):=ry
 let(ab,r,pl,hz):=I.tuple hq
 let(j,h1,h2,h3,h4,h5):=VU he
 let(w,ew,a6):=r.get h2
 let hl:=r.length
 let hn:=JZ
 let fin:EP X pins O Q w s:=#[z,H,I,a6,q]
 exact subscriptTail_builtinR pl.typeIs slot_tuple_getitem.lookup
  (getItem_tuple pl (by lia) (by lia) (by rw[xk,<- hl];exact h1) (~~~ew) #[rfl,fin]) hs
def zju:IxR X rIxS:=by
 intro value slice pins s O H x y v u Q I rx ry h hs
 let(z,i,c,rfl,rfl,hz,he,q):=h
 let(t,rfl):=rx
 let(t',rfl):=ry
 let(j,h1,h2,h3,h4,h5):=VU he
 let hl:z.cps.toList.length=z.length:=by simp[Str.length]
 rw[hl]at h1 h4 h5
 let hn:=JZ
 exact tail_any (typeIs_str s z t) slot_str_getitem.lookup (getItem_str (by
  let e1:decide (i< -(2 ^ 63:Int))=false:=Xa (by lia)
  let e2:decide (i≥2 ^ 63)=false:=Xa (by lia)
  rw[e1,e2,Bool.or_false]) (by rw[h1];simpa using h2) #[.str #[(List.toArray [c])],H,I.tok _,#[_,rfl],q]) hs
def Kv (ab:An) (n j:Nat) (u:Aj):Obj.mapSeq (·.setIfInBounds j u) { cls:=.type "list",data:=.seq ab.toArray n }={ cls:=.type "list",data:=.seq (ab.set j u).toArray n }:=by
 simp[Obj.mapSeq]
def Inv.lst{pins:Ak}{O:St}{H:Hp}{s:Am}{p:Ap}{xs:List V}(I:Inv X pins O H s)(h:H p=some (.lst xs)) :
  ∃ (ab:An) (n:Nat),Vals xs ab/\s.heap.get? p=some { cls:=.type "list",data:=.seq ab.toArray n }/\xs.length<=sizeLine:=by
 let(z,ab,n,r,e):=I.hok p _ h
 exact#[ab,n,r,e,z]
def Inv.lstUpd{xs ys:List V}{ab bo:An}{n n':Nat}{f:Obj->Obj}(I:Inv X pins O H s)(h:H p=some (.lst xs))
  (ho:s.heap.get? p=some { cls:=.type "list",data:=.seq ab.toArray n }) (hf:f { cls:=.type "list",data:=.seq ab.toArray n }={ cls:=.type "list",data:=.seq bo.toArray n' }) (r:Vals ys bo) (hz:ys.length<=sizeLine) (t:Nat) :
  Inv X pins O (upd H p (.lst ys)) { s with heap:=s.heap.update p f,toks:=t }:=by
 let e:(s.heap.update p f).get? p=some { cls:=.type "list",data:=.seq bo.toArray n' }:=by
  rw[Heap.get?_update_self f ho (by rw[hf]<;>rfl),hf]
 refine I.write (by rw[h];trivial) (.inl rfl) (λb u hb q=>(Xd _ _ (Ne.symm hb)).trans q) #[_,e] ?_
 exact#[hz,bo,n',r,e]
def zlB:V->V->V->Hp->(Hp->Prop)->Prop:=λo i v H Q=>∃ p xs k j,o=.ref p/\i=.int k/\H p=some (.lst xs)/\ixN xs.length k=some j/\Q (upd H p (.lst (xs.set j v)))
def zfC:ziW X zlB:=by
 intro pins s O H o i v ov iv u Q I ro ri rv h
 let(p,xs,k,j,rfl,rfl,hp,hj,q):=h
 cases ro
 let(t,rfl):=ri
 let(ab,n,r,ho,hz):=I.lst hp
 let(h1,h2,h3,h4):=zap hj
 let hl:=r.length
 let hn:=JZ
 let I':Inv X pins O (upd H p (.lst (xs.set j v))) { s with heap:=s.heap.update p (Obj.mapSeq (·.setIfInBounds j u)) } :=
  I.lstUpd hp ho (Kv ab n j u) (r.set rv j) (by rw[xK];exact hz) s.toks
 by_cases h0:0<=k
 ·let hk:k.toNat=j:=by
   rw[seqIndex_of h0 h4]at h1
   erw[Option.some.inj h1]
  exact W.ki_setAt ho h0 (by lia) (by rw[xk,<- hl];exact h4) (by rw[hk];exact#[_,I',q])
 ·let hk:(k+(ab.toArray.size:Int)).toNat=j:=by
   rw[seqIndex_neg (by lia) h3]at h1
   rw[xk,<- hl]
   erw[Option.some.inj h1]
  exact W.ki_setBack ho (by lia) (by rw[xk,<- hl];exact h3) (by lia) (by rw[hk];exact#[_,I',q])
def yG(lo hi:Option Int)(n:Nat):(sliceBounds lo hi none n).1=((HT.sIx n 0 lo:Nat):Int)/\(sliceBounds lo hi none n).2.1=((HT.sIx n n hi:Nat):Int)/\(sliceBounds lo hi none n).2.2=1:=by
 refine#[?_,?_,rfl]
 ·cases lo with
  |none=>simp[sliceBounds,HT.sIx]
  |some i=>
   simp only[sliceBounds,HT.sIx,Option.getD_none,show (1:Int)>0 by decide,if_true]
   by_cases h:i<0
   ·simp only[h,if_true]<;>lia
   ·simp only[h,if_false]<;>lia
 ·cases hi with
  |none=>simp[sliceBounds,HT.sIx]
  |some i=>
   simp only[sliceBounds,HT.sIx,Option.getD_none,show (1:Int)>0 by decide,if_true]
   by_cases h:i<0
   ·simp only[h,if_true]<;>lia
   ·simp only[h,if_false]<;>lia
def vJ(ab:An)(lo hi:Option Int):slicePick ab.toArray lo hi none=((ab.drop (HT.sIx ab.length 0 lo)).take (HT.sIx ab.length ab.length hi-HT.sIx ab.length 0 lo)).toArray:=by
 let(h1,h2,h3):=yG lo hi ab.toArray.size
 unfold slicePick
 rw[h1,h2,h3]
 simp only[sliceRange_one,pick_run,xk]<;>rfl
def rSlL(K:Ah):V->Option Int->Option Int->Hp->VK->Prop:=λx lo hi H Q=>∃ a xs,x=.ref a/\SqL K H a xs/\∀ p,H p=none->Q (.ref p) (upd H p (.lst (JQ xs lo hi)))
def yF:SlR X (rSlL X.K):=by
 intro pins s O H x v vl vu lo hi sl Q I rx hs pl pu h
 let(a,xs,rfl,hx,q):=h
 cases rx
 let(ab,r,ht,hz):=I.list hx
 let hlen:=r.length
 refine#["list",_,slot_list_getitem.lookup,ht.isList.typeIs,?_]
 refine wpAny_getItem_list_slice ht.isList hs pl pu .none (by simp) ?_ (by rw[xk]<;>lia)
 rw[vJ,<- hlen]
 refine#[.ref ⇑s,_,I.laid (λb ob q=>x4 _ q) (xh _) ?_,rfl,q _ (I.hok.fresh (xh _))]
 exact#[xD (wc xs lo hi) hz,_,0,(r.drop (HT.sIx xs.length 0 lo)).take (HT.sIx xs.length xs.length hi-HT.sIx xs.length 0 lo),x8 _ rfl]
def ν4:jT X (.builtin "len") (λxs H Q=>∃ p ys,xs= [.ref p]/\(SqL X.K H p ys∨SqT X.K H p ys)/\Q (.int ys.length) H):=by
 intro pins s O H xs us Q I r h
 let(p,ys,rfl,hq,q):=h
 let(u,rfl,rx):=ZU r
 cases rx
 let hn:=JZ
 rcases hq with hq | hq
 ·let(ab,r',pl,hz):=I.list hq
  let hlen:=r'.length
  exact Calls.call_len_list pl.isList (by simp only[xk]<;>lia) #[.int ys.length,H,I.tok _,#[s.toks+1,by rw[xk,hlen]],q]
 ·let(ab,r',pl,hz):=I.tuple hq
  let hlen:=r'.length
  exact len_tuple pl (by simp only[xk]<;>lia) #[.int ys.length,H,I.tok _,#[s.toks+1,by rw[xk,hlen]],q]
def Jp:jT X (.type "list") (λxs H Q=>∃ p ys,xs= [.ref p]/\(SqL X.K H p ys∨SqT X.K H p ys)/\∀ l,H l=none->Q (.ref l) (upd H l (.lst ys))):=by
 intro pins s O H xs us Q I r h
 let(p,ys,rfl,hq,q):=h
 let(u,rfl,rx):=ZU r
 cases rx
 have fin:∀(ab:An),Vals ys ab->ys.length<=sizeLine->∀(h':Heap)(c':Nat),(∀ b o',s.heap.get? b=some o'->h'.get? b=some o') ->
   h'.get? ⇑s=some { cls:=.type "list",dict:=none,data:=.seq ab.toArray c',slots:=(List.toArray []) }->EP X pins O Q (.ref ⇑s) { s with heap:=h' }:=λab r' hz h' c' kp e=>
  #[.ref ⇑s,_,I.laid kp (xh _) (show ObjOk X.prog X.w _ h' _ (.lst ys) from #[hz,ab,c',r',e]),rfl,q _ (I.hok.fresh (xh _))]
 rcases hq with hq | hq
 ·let(ab,r',pl,hz):=I.list hq
  let hlen:=r'.length
  let(o,ho,hc,n,hd):=pl.isList
  exact call_list_seq p (.inl rfl) ho hc hd (λh' c' kp e=>fin ab r' hz h' c' kp e) (by simp only[xk]<;>lia)
 ·let(ab,r',pl,hz):=I.tuple hq
  let hlen:=r'.length
  let(o,ho,hc,n,hd):=pl
  exact call_list_seq p (.inr rfl) ho hc hd (λh' c' kp e=>fin ab r' hz h' c' kp e) (by simp only[xk]<;>lia)
def vt:jT X (.type "tuple") (λxs H Q=>∃ p ys,xs= [.ref p]/\((SqL X.K H p ys/\∀ l,H l=none->Q (.ref l) (upd H l (.tup ys)))∨(SqT X.K H p ys/\Q (.ref p) H))):=by
 intro pins s O H xs us Q I r h
 let(p,ys,rfl,h):=h
 let(u,rfl,rx):=ZU r
 cases rx
 rcases h with ⟨hq,q⟩ | ⟨hq,q⟩
 ·let(ab,r',pl,hz):=I.list hq
  let hlen:=r'.length
  refine call_tuple_list pl.isList (λh' kp=>?_) (by simp only[xk]<;>lia)
  let I1:=I.kept (t':=s.toks) kp
  let I2:Inv X pins O (upd H h'.objs.size (.tup ys)) { s with heap:=h'.push { cls:=.type "tuple",data:=.seq ab.toArray } } :=
   I1.laid (λb o e=>x4 _ e) (xh _) (show ObjOk X.prog X.w _ _ _ (.tup ys) from #[hz,ab,r',IsTup.new _ _])
  exact#[.ref h'.objs.size,_,I2,rfl,q _ (I1.hok.fresh (xh _))]
 ·let(ab,r',pl,hz):=I.tuple hq
  erw[call_tuple_same pl #[.ref p,H,I,rfl,q]]
def tyV(K:Ah)(T:String)(x:V)(H:Hp):Prop:=match x with
 |.str _=>T= "str"
 |.int _=>T= "int"
 |.ref p=>(T= "list" /\∃ xs,SqL K H p xs)∨(T= "tuple" /\∃ o,K.lookup p=some o/\o.cls=.type "tuple" /\o.dict=none) ∨
   (T= "dict" /\(∃ kvs,H p=some (.dK kvs)))∨(T= "set" /\∃ S n,H p=some (.set S n))
 |_=>False
def zf0{pins:Ak}{O:St}{H:Hp}{s:Am}{T:String}{x:V}{v:Aj}(I:Inv X pins O H s)(r:RelV x v)(ty:tyV X.K T x H) :
  s.TypeIs v T/\∀ a,v=.ref a->∃ ob,s.heap.get? a=some ob/\ob.dict=none:=by
 cases x with
 |str z=>
  let(t,rfl):=r
  cases (show T= "str" from ty)
  exact#[typeIs_str s z t,λ_ e=>nomatch e]
 |int i=>
  let(t,rfl):=r
  cases (show T= "int" from ty)
  exact#[typeIs_int s i t,λ_ e=>nomatch e]
 |ref p=>
  cases r
  rcases ty with ⟨rfl,xs,hq⟩ | ⟨rfl,o,hk,hc,hd⟩ | ⟨rfl,hk⟩ | ⟨rfl,S,n,hk⟩
  ·let(ab,_,pl,_):=I.list hq
   refine#[pl.isList.typeIs,λa e=>?_]
   cases e
   let(o,n,e,c,hd,_):=pl
   exact#[o,e,hd]
  ·refine#[#[o,I.kIn p o hk,hc],λa e=>?_]
   cases e
   exact#[o,I.kIn _ o hk,hd]
  ·let z:∃ o,s.heap.get? p=some o/\o.ExactDict:=by
    let(kvs,hk):=hk
    let(_,_,_,_,o,_,_,e,ex,_):=I.hok p _ hk
    exact#[o,e,ex]
   let(o,e,ex):=z
   refine#[#[o,e,ex.1],λa e2=>?_]
   cases e2
   exact#[o,e,ex.2.1]
  ·let(o,_,_,_,e,ex,_):=I.hok p _ hk
   refine#[#[o,e,ex.1],λa e2=>?_]
   cases e2
   exact#[o,e,ex.2.1]
 |_=>erw[False.elim ty]
def tBM0(K:Ah)(T:String)(r:V->List V->Hp->VK->Prop)(to:TE):TE:=λO H Q=>to O H λx H1=>tyV K T x H1/\r x [] H1 Q
def tBM(K:Ah)(T:String)(r:V->List V->Hp->VK->Prop)(to:TE)(t:TA):TE:=λO H Q=>to O H λx H1=>tyV K T x H1/\t O H1 λxs H2=>r x xs H2 Q
variable {o e:Expr}{es:Ag}{to:TE}{t:TA}{name:Str}{apos aj:Pos}{T id:String}{r:V->List V->Hp->VK->Prop}
def zjV (pa:PlainAttrs T) (slot:Slot T name id) (AJ:typeOf (.builtin id)=pure (.type "method_descriptor")) (hm:MtR X id r) (ho:PE X o to)
  (ba:attributeBase o name X.env (eval o X.env)=eval o X.env:=by rfl) (ah:(apos.endLine==aj.line)=true:=by rfl):PE X (.Call (.Attribute o name apos) [] [] aj) (tBM0 X.K T r to):=by
 cbv
 erw[wpAny_Call_method0_late ba ah (thn (ho pins s O H _ I h) λv s1 ⟨x,H1,I1,r1,ty,q1⟩=>?_)]
 let(h1,h2):=zf0 I1 r1 ty
 exact#[T,id,pa,slot,AJ,h1,h2,Calls.callWith_builtin rfl (PySem.evalArgs_none (hm pins s1 O H1 x [] v [] Q I1 r1 .nil q1))]
def zar (pa:PlainAttrs T) (slot:Slot T name id) (AJ:typeOf (.builtin id)=pure (.type "method_descriptor")) (hm:MtR X id r) (ho:PE X o to) (ha:PA X (e::es) t)
  (ba:attributeBase o name X.env (eval o X.env)=eval o X.env:=by rfl)
  (lr:((backTo aj (starEach (e::es) X.env)).all (λx=> !x.1)&&(backToKw aj (keywordEach [] X.env)).all (λx=>x.1.isSome)
   && decide ((e::es).length+([]:List Keyword).length+(if ([]:List Keyword).isEmpty then 0 else 1)<30))=true:=by rfl)
  (ah:(apos.endLine==aj.line)=true:=by rfl) (hs:starEach (e::es) X.env=(false,eval e X.env)::starEach es X.env:=by rfl) (i5:(backTo aj (starEach es X.env)).any (·.1)=false:=by rfl) :
  PE X (.Call (.Attribute o name apos) (e::es) [] aj) (tBM X.K T r to t):=by
 cbv
 erw[wpAny_Call_method_late ba lr ah rfl (thn (ho pins s O H _ I h) λv s1 ⟨x,H1,I1,r1,ty,q1⟩=>?_)]
 let(h1,h2):=zf0 I1 r1 ty
 refine#[T,id,pa,slot,AJ,h1,h2,?_]
 let hA:=ha aj pins s1 O H1 _ I1 q1
 rw[hs]at hA |-
 refine Calls.callWith_builtin (by show (false||(backTo aj (starEach es X.env)).any (·.1))=false;rw[i5]<;>rfl) (Calls.evalArgs_plain ?_)
 erw[thn hA λus s2 ⟨vs,H2,I2,r2,q2⟩=>hm pins s2 O H2 x vs v us Q I2 r1 r2 q2]
end
def MtM(X:Cx)(id:String)(r:V->List V->Hp->VK->Prop):Prop :=
 ∀(pins:Ak)(s:Am)(O:St)(H:Hp)(x:V)(xs:List V)(v:Aj)(us:An)(Q:VK),Inv X pins O H s->RelV x v->Vals xs us->r x xs H Q ->
  ∅ (call (.builtin id) (v::us)) (EP X pins O Q) X.xe s
def Vals.one:∀{x:V}{us:An},Vals [x] us->∃ u,us= [u]/\RelV x u
 |_,_,.cons r .nil=>#[_,rfl,r]
def Vals.zero:∀{us:An},Vals [] us->us= []
 |_,.nil=>rfl
def Vals.rep(h:Vals xs us):∀ k:Nat,Vals (List.replicate k xs).flatten (List.replicate k us).flatten
 |0=>.nil
 |k+1=>by
  rw[xR,xR,ue,ue]
  erw[Vals.append h (Vals.rep h k)]
def JV(ab:An):∀(k:Nat)(acc:An),
  List.foldl (λx1 x2=>x1++x2) acc.toArray (List.replicate k ab.toArray)=(acc++(List.replicate k ab).flatten).toArray
 |0,acc=>by simp
 |k+1,acc=>by
  let e:acc.toArray++ab.toArray=(acc++ab).toArray:=by simp
  let e2:(acc++ab)++(List.replicate k ab).flatten=acc++(List.replicate (k+1) ab).flatten:=by
   rw[xR,ue,uw]
  rw[<- e2,<- JV ab k (acc++ab),<- e,xR,List.foldl_cons]
section
variable {X:Cx}{pins:Ak}{O:St}{H:Hp}{s:Am}{l:Ap}{xs ys:List V}
def Inv.lset{ab bo:An}{n:Nat}{f:Array Aj->Array Aj}{t':Nat}(I:Inv X pins O H s)(hH:H l=some (.lst xs))
  (e:s.heap.get? l=some { cls:=.type "list",data:=.seq ab.toArray n }) (hf:f ab.toArray=bo.toArray) (hv:Vals ys bo) (hz:ys.length<=sizeLine) :
  Inv X pins O (upd H l (.lst ys)) { s with heap:=s.heap.update l (Obj.mapSeq f),toks:=t' }:=by
 let q:=PySem.IsL.update e f
 rw[hf]at q
 refine I.write (by rw[hH];exact trivial) (.inl rfl) (λb' u hb hu=>(Xd s.heap (Obj.mapSeq f) (Ne.symm hb)).trans hu) #[_,q] ?_
 exact#[hz,bo,_,hv,q]
def Inv.lnew{t':Nat}(I:Inv X pins O H s)(hv:Vals ys ab)(hz:ys.length<=sizeLine) :
  Inv X pins O (upd H ⇑s (.lst ys)) { s with heap:=s.heap.push { cls:=.type "list",data:=.seq ab.toArray },toks:=t' } :=
 I.laid (λ_ _ q=>x4 _ q) (xh _) #[hz,ab,0,hv,x8 _ rfl]
def Inv.fresh(I:Inv X pins O H s):H ⇑s=none:=I.hok.fresh (xh _)
def Inv.lstM (I:Inv X pins O H s) (hH:H l=some (.lst xs)):xs.length<=sizeLine/\∃ (ab:An) (n:Nat),Vals xs ab/\xs.length=ab.length/\s.heap.get? l=some { cls:=.type "list",data:=.seq ab.toArray n }:=by
 let(z,ab,n,r,e):=I.hok l _ hH
 exact#[z,ab,n,r,r.length,e]
def zeX(h:n<=sizeLine):Builtin.List.listTooLong n=false:=by
 unfold Builtin.List.listTooLong
 exact Xa (by lia)
end
section
variable {X:Cx}
def zhw:V->List V->Hp->VK->Prop:=λx vs H Q=>∃ l xs y,x=.ref l/\vs= [y]/\H l=some (.lst xs)/\xs.length<sizeLine/\Q .non (upd H l (.lst (xs++ [y])))
def Vr:MtM X "list.append" zhw:=by
 intro pins s O H x vs v us Q I rx rv h
 let(l,xs,y,rfl,rfl,hH,hz,q):=h
 cases rx
 let(u,rfl,ru):=rv.one
 let(z,ab,n,r,hl,e):=I.lstM hH
 refine call_meets F.slot_list_append #[_,e,rfl] F.entry_list_append (F.args_list_append_2 _ _) (PySem.list_append l ab.toArray n u (by rw[xk];lia)) #[e,?_]
 refine#[.non,_,I.lset hH e (by simp) (r.append (.cons ru .nil)) ?_,rfl,q]
 rw[xm,xV]
 lia
def rCat:R2:=λx y H Q=>∃ l b xs zs,x=.ref l/\y=.ref b/\H l=some (.lst xs)/\H b=some (.lst zs)/\xs.length+zs.length<=sizeLine/\∀ p,H p=none->Q (.ref p) (upd H p (.lst (xs++zs)))
def zjM:OpR X (binaryOp .Add) rCat:=by
 intro pins s O H x y v u Q I rx ry h
 let(l,b,xs,zs,rfl,rfl,hH,hB,hz,q):=h
 cases rx
 cases ry
 let(z,ab,n,r,hl,e):=I.lstM hH
 let(z2,cv,n2,r2,hl2,e2):=I.lstM hB
 refine PySem.P.add_list e e2 ?_ (by rw[xk,xk];lia)
 let ea:ab.toArray++cv.toArray=(ab++cv).toArray:=by simp
 rw[ea]
 exact#[.ref _,_,I.lnew (r.append r2) (by rw[xm];lia),rfl,q _ I.fresh]
def yt{α:Type}(xs:List α)(k:Nat):(List.replicate k xs).flatten.length=k*xs.length:=by
 induction k with
 |zero=>simp
 |succ k ih=>rw[xR,ue,xm,ih,Nat.succ_mul,Nat.add_comm]
end
section
end
section
end
end L2
namespace Att
open PySem PySem.W PySem.Calls PyProof.Rows
def wR:∀(ns:List Int)(vs:An),WellAll P h vs (ns.map WData.int)->IntsAre vs ns:=by
 intro ns
 induction ns with
 |nil=>
  intro vs w
  rw[List.map_nil]at w
  cases w
  erw[.nil]
 |cons n ns ih=>
  intro vs w
  rw[xr]at w
  cases w with
  |cons a b=>
   cases a
   erw[.cons _ _ (ih _ b)]
def zcw{l:OpenLaw}(hn:l.most=some n){P:Params}{h:Heap}{args:List WData}{vals:An}
  (bp:l.row.toRowW.claim.pre args=true) (AF:WellAll P h vals args) :
  ∃ a vs ns,vals= [Value.ref a]/\args= [WData.list (ns.map WData.int)]/\h.get? a=some { cls:=.type "list",data:=.seq vs.toArray }/\IntsAre vs ns/\ns.length<=n:=by
 let hsh:=(pre_splitW bp).1
 let hc:l.pre.holds [] { args:=args }=true:=(pre_splitW bp).2
 let(d,r,rfl,h1,h2):=hasAllW_cons hsh
 obtain rfl:=hasAllW_nil h2
 let(xs,rfl,h3):=hasW_list h1
 let(ns,rfl):=items_int h3
 let hlen:ns.length<=n:=by
  unfold OpenLaw.pre at hc
  let h4:(WTm.not (.lt (.lit (.int (n:Int))) (.len (.arg 0)))).holds [] { args:= [.list (ns.map .int)] }=true:=by
   let h4:=(holds_andW hc).1
   rw[hn]at h4
   erw[h4]
  let h5:=condW_of h4 (w_not (w_lt w_lit (w_len_list (w_arg rfl))))
  rw[xl]at h5
  erw[Nat.le_of_not_lt λq=>?_]
  let q':(n:Int)<((ns.length:Nat):Int):=by lia
  first
   | (rw[decide_eq_true q']at h5;exact absurd h5 (by decide))
   | (simp at h5;lia)
 cases AF with
 |cons w1 w2=>
  cases w2
  cases w1 with
  |list ho gm=>exact#[_,_,ns,rfl,rfl,ho,wR ns _ gm,hlen]
def zcr(l:OpenLaw)(args:List WData):l.row.toRowW.claim.post args (.bool true) args=true :=
 postW_of
  (show WShape.has [] (.bool true) .bool=true by first | rfl | decide | simp[WShape.has,WShape.arms,WShape.armsAll])
  (show (WTm.eq .res (.lit (.bool true))).value [] { args:=args,res:=some (.bool true),after:=args }=some (.bool (true==true)) from w_eq_bool (w_res rfl) w_lit) rfl
def attach_call{l:OpenLaw}{n:Nat}{q:Ar}{loose:Ab}{XP:(Aq)->Heap->Prop}{YP:World->Heap->Prop}{d:DefRec}
  (hn:l.most=some n) (p7:d.params.defaults= [])
  (call:∀(w:World)(s₀ s₁:Am)(mg mb:Aq)(fa:Ap)(o:Obj)(pm cd doc:Aj)(a:Ap)(vs:An)(ns:List Int),
   Ground q loose [] XP w s₀ mg mb s₁.heap->YP w s₁.heap ->
   s₁.heap.get? fa=some o->o.data=.func (docDef d.name d.params d.body d.scope pm cd doc)->s₁.heap.CodeRec cd d.name->mg d.name=some (.ref fa) ->
   s₁.heap.get? a=some { cls:=.type "list",data:=.seq vs.toArray }->IntsAre vs ns->ns.length<=n->s₁.gens=(List.toArray []) ->
   codeAny (model l.prog w) callerA (.call (.ref fa) #[[.ref a],[]]) (λr s'=>r=.ok (.ret (.bool true))/\OldK s₁.heap s'.heap/\s'.os=s₁.os/\AllBare s'.gens) s₁) :
  WalkO q loose XP YP l.row.toRowW d [] (λf vs=>PySem.call f vs):=by
 intro w s₀ s₁ mg mb G Y fa o pm cd doc dV kV ho hd hcd hD pd hg args vals as bp Eg Fq AF Bc
 obtain rfl:dV=.none:=Dflts.none hD p7
 obtain rfl:kV=.none:=Dflts.noKw hD
 let(a,vs,ns,rfl,rfl,i7,hints,hlen):=zcw hn bp AF
 erw[enter_call (Xj (call w s₀ s₁ mg mb fa o pm cd doc a vs ns G Y ho (fd_plain hd) hcd pd i7 hints hlen hg) λr s' hq=>?_)]
 let(rfl,h2,h3,h4):=hq
 exact#[.inl #[.bool true,.bool true,[],rfl,λ_=>rfl,.bool true,zcr l _,λ_=>#[List.Pairwise.nil,λ_ hm=>(nomatch hm)]],h2,h3,h4]
section
end
end Att
namespace L2
open PySem PySem.Spec PyProof.Rows
def ZV:∀{vs:An}{ns:List Int},IntsAre vs ns->Vals (ns.map V.int) vs
 |_,_,.nil=>.nil
 |_,_,.cons n t h=>.cons #[t,rfl] (ZV h)
def ziV(H:Hp):Prop:=∀ b,H b=none∨∃ o xs,H b=some (.frz o (.lst xs))
def zeG{P:Ar}{w:World}{K:Ah}{mg mb:Aq}{CX:CXT}{k:Nat}{fa a:Ap}{fd:FuncData}{x:Str}{sp:Sp}{s₁:Am}{vs:An}{ns:List Int}
  (KX:K.In s₁.heap) (ay:s₁.heap.Ns mainGlobals mg) (hb:s₁.heap.Ns builtinsNs mb) (EK:∀ x:Str,x≠ "__name__" ->mb x=bootBuiltins x) (Be:s₁.heap.NoLimit) (hg:s₁.gens=(List.toArray []))
  (ha:s₁.heap.get? a=some { cls:=.type "list",data:=.seq vs.toArray }) (hi:IntsAre vs ns) (hl:ns.length<=sizeLine) (hr:Room k callerA)
  (F:∀ base:Heap,K.In base->base.Ns mainGlobals mg->FnOk P w K mg base CX k fa fd [x] sp) (p8:∀(s:Am)(u:Aj),BindsTo s fd #[[u],[]] [(x,u)])
  (de:∀ H:Hp,ziV H->SqL K H a (ns.map V.int)->sp [.ref a] H (λv _=>v=.bl true) λ_ _ _=>False)
  (BE:∀ H e s',CX [] H s₁ (λ_ _ _=>False) e s'->False) :
  codeAny (model P w) callerA (.call (.ref fa) #[[.ref a],[]]) (λr s'=>r=.ok (.ret (.bool true))/\OldK s₁.heap s'.heap/\s'.os=s₁.os/\AllBare s'.gens) s₁:=by
 let rv:=ZV hi
 let lenV:=hi.length
 have core:∀ H:Hp,ziV H->SqL K H a (ns.map V.int)->HOk P w H s₁.heap->(∀ b,H b≠none->b=a)->(H a≠none->K.lookup a=none) ->
   codeAny (model P w) callerA (.call (.ref fa) #[[.ref a],[]]) (λr s'=>r=.ok (.ret (.bool true))/\OldK s₁.heap s'.heap/\s'.os=s₁.os/\AllBare s'.gens) s₁:=by
  intro H hO hS hok hA hK
  let Jo:∀{b:Ap}{o:Obj},s₁.heap.get? b=some o->H b=none->(yn s₁.heap H).get? b=some o:=λe n=>zez e n
  let nv:∀{b:Ap}{o:Obj}{es:Array DictEntry}{ep:Nat},s₁.heap.get? b=some o->o.data=.dict es ep->H b=none:=λ{b o es ep} e d=>by
   grind
  let su:∀{b:Ap}{m:Aq},s₁.heap.Ns b m->(yn s₁.heap H).Ns b m:=λ{b m} ⟨o,es,ep,e,d,r⟩=>#[o,es,ep,Jo e (nv e d),d,r]
  let CJ:K.In (yn s₁.heap H):=λb o e=>Jo (KX b o e) (by
   grind)
  let hM:Mod K mg (yn s₁.heap H):=#[CJ,su ay,#[mb,su hb,EK],let #[mc,h1,h2]:=Be;#[mc,su h1,h2]]
  let e0:Env0 P w K mg (yn s₁.heap H) callerA [] s₁ H:=#[rfl,hM,λb o e=>zg8 e,Nat.le_of_eq (zbV _ _),trivial,λb hb=>absurd (show b∈([]:List Ap) from hb) (by simp),hok,.of_eq hg]
  erw[Xj ((F _ CJ (su ay)).run callerA [] s₁ H #[[.ref a],[]] [.ref a] [.ref a] _ _ hr e0 (p8 s₁ (.ref a)) (.cons rfl .nil) (de H hO hS)) λr s' h=>?_]
  cases r with
  |error e=>erw[(BE H e s' h).elim]
  |ok fl=>
   cases fl with
   |next=>erw[False.elim h]
   |brk=>erw[False.elim h]
   |cont=>erw[False.elim h]
   |ret u=>
    let(v,H',os,bare,un,AZ,r',q):=h
    let q':=q
    subst q'
    obtain rfl:u=Value.bool true:=r'
    refine#[rfl,OldK.of_keep λb o e=>?_,os,bare]
    cases q:H b with
    |none=>exact un.keep b o e q (by intro z;exact absurd (show b∈([]:List Ap) from z) (by simp)) (by simp)
    |some u=>
     rcases hO b with z | ⟨ob,xs,z⟩
     ·rw[q]at z;cases z
     ·let z2:=un.frzs b ob _ z
      let(e1,_):=hok b _ z
      let(e2,_):=AZ b _ z2
      grind
 cases hk:K.lookup a with
 |some o=>
  let e:=KX a o hk
  rw[ha]at e
  cases e
  refine core (λ_=>none) (λ_=>.inl rfl) (.inr #[_,vs.toArray,_,hk,rfl,rfl,rfl,by rw[xk,lenV];exact hl,~~~rv]) (λb u z=>by grind) (λb z=>absurd rfl z) λz=>absurd rfl z
 |none=>
  erw[core (λb=>if b=a then some (.frz { cls:=.type "list",data:=.seq vs.toArray } (.lst (ns.map V.int))) else none) (λb=>?_) (.inl (.inr #[{ cls:=.type "list",data:=.seq vs.toArray },if_pos rfl])) (λb u z=>?_) (λb z=>?_) λ_=>hk]
  ·by_cases hb:b=a
   ·erw[.inr #[_,_,if_pos hb]]
   ·erw[.inl (if_neg hb)]
  ·by_cases hb:b=a
   ·let z':=(if_pos hb).symm.trans z
    cases z'
    subst hb
    exact#[ha,by rw[xl];exact hl,vs,_,rv,ha]
   ·let z':=(if_neg hb).symm.trans z
    cases z'
  ·by_cases hb:b=a
   ·erw[hb]
   ·erw[absurd (if_neg hb) z]
abbrev KOf{K:Ah}{h:Heap}(_:K.In h):Ah:=K
def walk_of{l:W.OpenLaw}{n k:Nat}{q:Ar}{loose:Ab}{XP:(Aq)->Heap->Prop}{YP:World->Heap->Prop}{d:DefRec}{K:Params->Ah}{CX:World->CXT}{sp:World->Sp}{x:Str}
  (hn:l.most=some n) (fq:n<=sizeLine) (p7:d.params.defaults= []) (hr:Room k callerA)
  (hY:∀(w:World)(h:Heap),YP w h->(K w.params).In h)
  (F:∀(w:World)(mg:Aq)(fa:Ap)(h:Heap),(K w.params).In h->h.Ns mainGlobals mg->mg d.name=some (.ref fa) ->
   ∃ fd:FuncData,(∀(s:Am)(u:Aj),BindsTo s fd #[[u],[]] [(x,u)]) /\
    ∀ base:Heap,(K w.params).In base->base.Ns mainGlobals mg->FnOk l.prog w (K w.params) mg base (CX w) k fa fd [x] (sp w))
  (de:∀(w:World)(H:Hp)(a:Ap)(ns:List Int),ns.length<=n->ziV H->SqL (K w.params) H a (ns.map V.int)->sp w [.ref a] H (λv _=>v=.bl true) λ_ _ _=>False)
  (BE:∀(w:World)(H:Hp)(s:Am)(e:Aj)(s':Am),CX w [] H s (λ_ _ _=>False) e s'->False) :
  W.WalkO q loose XP YP l.row.toRowW d [] (λf vs=>PySem.call f vs):=by
 erw[Att.attach_call hn p7 λw s₀ s₁ mg mb fa o pm cd doc a vs ns G Y ho hd hcd pd i7 hints hlen hg=>?_]
 let KX:=hY w _ Y
 let(fd,hb,hF):=F w mg fa _ KX G.T.g pd
 erw[zeG KX G.T.g G.T.b G.T.builtins G.T.nolimit hg i7 hints (xD hlen fq) hr hF hb (λH hO hS=>de w H a ns hlen hO hS) λH e s'=>BE w H s₁ e s']
def jc(s:Stmt):Arguments:=match s with
 |.FunctionDef _ a _ _ _ _ _ _ _ _=>a
 |_=>{ posonlyargs:= [],args:= [],vararg:=none,kwonlyargs:= [],kw_defaults:= [],kwarg:=none,defaults:= [] }
abbrev CX0:CXT:=λ_ _ _ _ _ _=>False
abbrev E0:XK:=λ_ _ _=>False
def zlv:VR CX0 X E0:=λ_ _ _ _ _ _ _ h=>h.elim
structure Fun(K:Ah)(x qual:Str)(st:Stmt)(f:Ap)(fd:FuncData):Prop where
 ex:∃(oc:Aj)(od:Option Ap)(kV doc pm:Aj)(an:Option Ap)(ai ct:Aj)(gc:Array (Option Aj)),
  fd=W.fnOf x qual (jc st) (defBody st) (defScope st) .none kV doc pm an ai ct/\K.lookup f=some #[oc,od,.func fd,gc]/\W.codeIn K ai qual=true
 kp:W.keepIn K (.ref f)=true
section
variable {P:Ar}{w:World}{K:Ah}{mg:Aq}{base:Heap}
def Fun.ok{x qual:Str}{st:Stmt}{f:Ap}{fd:FuncData}{N ps:Ab}{k:Nat}{sp:Sp}(F:Fun K x qual st f fd)(S:Zb N ps (defScope st))(len:∀ vs H Q E,sp vs H Q E->vs.length=ps.length)
  (a9:∀(ai:Aj)(A:Around)(outer:List Env)(s:Am)(H:Hp)(vs:List V)(Q:VK)(E:XK),Room k (A.deeper (envOfC qual (defScope st) ⇑s f ai))->sp vs H Q E ->
   ∃ t,PSs (Js CX0 P w K mg base N qual (defScope st) f ai A outer s H E).nox (defBody st) t/\t { nx:=λ_ H'=>Q .non H',rt:=Q } (start N vs) H):FnOk P w K mg base CX0 (k+1) f fd ps sp:=by
 let(oc,od,kV,doc,pm,an,ai,ct,gc,rfl,lk,hcd):=F.ex
 erw[ziI lk hcd S len λA outer s H vs Q E hr de=>?_]
 let(t,h,q):=a9 ai A outer s H vs Q E hr de
 exact#[t,h.nox,q]
def Fun.binds{x qual:Str}{st:Stmt}{f:Ap}{fd:FuncData}{ps:Ab}(F:Fun K x qual st f fd)
  (h:∀(kV doc pm:Aj)(an:Option Ap)(ai ct:Aj)(us:An),us.length=ps.length->bindArgs (W.fnOf x qual (jc st) (defBody st) (defScope st) .none kV doc pm an ai ct) #[us,[]]=pure (ps.zip us)):Binds K fd ps []:=by
 let(oc,od,kV,doc,pm,an,ai,ct,gc,rfl,lk,hcd):=F.ex
 erw[.all (h kV doc pm an ai ct)]
def Q8{st:Stmt}{f:Ap}{oc:Aj}{kV doc pm ai ct:Aj}(l:K.lookup f=some #[oc,od,.func (W.fnOf x qual (jc st) (defBody st) (defScope st) .none kV doc pm an ai ct),gc])
  (c:W.codeIn K ai qual=true) (k:W.keepIn K (.ref f)=true):Fun K x qual st f (W.fnOf x qual (jc st) (defBody st) (defScope st) .none kV doc pm an ai ct):=#[#[oc,od,kV,doc,pm,an,ai,ct,gc,rfl,l,c],k]
end
section
variable {X:Cx}
def pv (i:Nat){pos:Pos}(hN:X.N[i]?=some x:=by rfl) (hv:Vis X.env.scope x:=by first | exact Or.inl rfl | exact Or.inr (Or.inl rfl) | exact Or.inr (Or.inr rfl)) (hd:(↥x):=by decide)
    (hcd:(x==("__classdict__" :Str))=false:=by decide):PE X (.Name x pos) (zl0 i):=qG hN hv hd hcd
end
def Yl{A B:Prop}(h:B):if false=true then A else B:=by
 rw[if_neg uD]
 erw[h]
def Ym{A B:Prop}(h:A):if true=true then A else B:=by
 rw[if_pos rfl]
 erw[h]
def Same(H H':Hp):Prop:=∀ b o,H b=some o->H' b=some o
def Same.refl(H:Hp):Same H H:=λ_ _ h=>h
def Same.trans(a:Same H H1)(b:Same H1 H2):Same H H2:=λc o h=>b c o (a c o h)
def Same.free{H H':Hp}(e:Same H H'){l:Ap}(h:H' l=Option.none):H l=Option.none:=by
 cases q:H l with
 |none=>rfl
 |some o=>
  rw[e l o q]at h
  cases h
def Same.seq{K:Ah}{H H':Hp}{a:Ap}{xs:List V}(e:Same H H')(h:SqL K H a xs):SqL K H' a xs:=by
 rcases h with (h | ⟨o,h⟩) | h
 ·erw[.inl (.inl (e _ _ h))]
 ·erw[.inl (.inr #[o,e _ _ h])]
 ·erw[.inr h]
section
variable {κ:Type}[DecidableEq κ]
def vp(kvs:List (κ×V))(k:κ):Option V:=(kvs.find? λkv=>decide (kv.1=k)).map (·.2)
def JB(kvs:List (κ×V))(k:κ)(v:V):List (κ×V) :=
 if (kvs.any λkv=>decide (kv.1=k))=true then kvs.map (λkv=>if kv.1=k then (kv.1,v) else kv) else kvs++ [(k,v)]
def WD(kvs:List (κ×V))(k:κ):List (κ×V):=kvs.filter λkv=>decide (kv.1≠k)
def zf5{k:κ}(e:p.1=k):vp (p::r) k=some p.2:=by simp[vp,xY,e]
def zf4{k:κ}(e:¬ p.1=k):vp (p::r) k=vp r k:=by simp[vp,xY,e]
def wg(kvs:List (κ×V))(k:κ)(v:V):(JB kvs k v).length<=kvs.length+1:=by
 unfold JB
 split
 ·rw[xl];lia
 ·rw[xm,xo,xP];lia
def RelO.isSome_eq(r:RelO o u):o.isSome=u.isSome:=by
 cases o with
 |none=>cases u with
  |none=>rfl
  |some _=>erw[(show False from r).elim]
 |some _=>cases u with
  |none=>erw[(show False from r).elim]
  |some _=>rfl
def KV.val(r:KV kvs vs)(k:κ):RelO (vp kvs k) (valueAt vs k):=by
 unfold KV at r
 induction r with
 |nil=>erw[True.intro]
 | @cons p q ps qs h t ih=>
  let(h1,h2):=h
  by_cases e:p.1=k
  ·let e':=h1.symm.trans e
   let b:valueAt (q::qs) k=some q.2:=by simp[valueAt,xY,e']
   rw[zf5 e,b];exact h2
  ·let e':¬ q.1=k:=λz=>e (h1.trans z)
   let b:valueAt (q::qs) k=valueAt qs k:=by simp[valueAt,xY,e']
   rw[zf4 e,b];exact ih
def KV.any(r:KV kvs vs)(k:κ):(kvs.any λkv=>decide (kv.1=k))=vs.any λkv=>decide (kv.1=k):=by
 unfold KV at r
 induction r with
 |nil=>rfl
 |cons h t ih=>rw[xT,xT,ih,h.1]
def KV.repl(r:KV kvs vs)(k:κ)(ry:RelV y u) :
  KV (kvs.map λkv=>if kv.1=k then (kv.1,y) else kv) (vs.map λkv=>if kv.1=k then (kv.1,u) else kv):=by
 unfold KV at r |-
 induction r with
 |nil=>erw[.nil]
 | @cons p q ps qs h t ih=>
  rw[xr,xr]
  erw[.cons ?_ ih]
  let(h1,h2):=h
  by_cases e:p.1=k
  ·rw[if_pos e,if_pos (h1.symm.trans e)];exact#[h1,ry]
  ·rw[if_neg e,if_neg (λz=>e (h1.trans z))];exact#[h1,h2]
def KV.put(r:KV kvs vs)(k:κ)(ry:RelV y u):KV (JB kvs k y) (stored vs k u):=by
 unfold JB stored
 rw[r.any k]
 by_cases e:(vs.any λkv=>decide (kv.1=k))=true
 ·rw[if_pos e,if_pos e];exact r.repl k ry
 ·rw[if_neg e,if_neg e];exact Paired.snoc r #[rfl,ry]
def KV.drop(r:KV kvs vs)(k:κ):KV (WD kvs k) (without vs k):=by
 unfold KV at r |-
 unfold WD without
 induction r with
 |nil=>erw[.nil]
 | @cons p q ps qs h t ih=>
  let(h1,h2):=h
  rw[uj,uj]
  by_cases e:p.1=k
  ·grind
  ·let e':¬ q.1=k:=λz=>e (h1.trans z)
   let a:decide (p.1≠k)=true:=by simp[e]
   let b:decide (q.1≠k)=true:=by simp[e']
   rw[if_pos a,if_pos b];exact .cons #[h1,h2] ih
def KV.keys{kvs:List (κ×V)}(r:KV kvs vs):kvs.map (·.1)=vs.map (·.1):=by
 unfold KV at r
 induction r with
 |nil=>rfl
 |cons h t ih=>rw[xr,xr,ih,h.1]
def KV.length(r:KV kvs vs):kvs.length=vs.length:=Paired.length r
def zdt(kvs:List (κ×V))(k:κ):(WD kvs k).length<=kvs.length:=uk _ _
end
def WO(r:RelV (kV k) u):(qC P w).is k u=true:=by
 cases k with
 |inl i=>let⟨t,e⟩:=(show ∃ t,u=Value.int i t from r);subst e;exact Yp P w i t
 |inr x=>let⟨t,e⟩:=(show ∃ t,u=Value.str x t from r);subst e;exact Yq P w x t
section
variable {P:Ar}{w:World}{H:Hp}{h:Heap}{a:Ap}
def zlC(ok:HOk P w H h)(e:Rd H a u):ObjOk P w H h a u:=e.ok ok
def Qt(ok:HOk P w H h)(e:Rd H a (.dK kvs)):kvs.length<=sizeLine/\(a==sysModules)=false/\∃ vs,KV kvs vs/\h.DictOf (qC P w) a vs :=
 show ObjOk P w H h a (.dK kvs) from zlC ok e
def zaj(ok:HOk P w H h)(e:H a=some (.dK kvs)):kvs.length<=sizeLine/\(a==sysModules)=false/\∃ vs,KV kvs vs/\h.DictOf (qC P w) a vs:=Qt ok (.inl e)
end
def YW(H:Hp)(a:Ap)(y:V)(r:Option V):Prop :=
 ∃ kvs k,Rd H a (.dK kvs)/\y=kV k/\r=vp kvs k
def zkX(H:Hp)(a:Ap)(y v:V)(H':Hp):Prop :=
 ∃ kvs k,H a=some (.dK kvs)/\y=kV k/\kvs.length<sizeLine/\H'=upd H a (.dK (JB kvs k v))
section
variable {X:Cx}{pins:Ak}{O:St}{H:Hp}{s:Am}{a:Ap}{y v:V}{u r:Aj}{o:Option V}{A:Around}{E:Af}
def Inv.big(I:Inv X pins O H s):sysModules<⇑s:=by
 let h:=(I.mod.glob.keeps I.bk).lt
 exact Nat.lt_trans (by decide) h
def za3(hu:A.units+1<cLine)(I:Inv X pins O H s)(g:YW H a y (some v))(ry:RelV y u)(h:∀ w' s',Inv X pins O H s'->RelV v w'->Q w' s') :
  wpAny (model X.prog X.w) A (getItem (.ref a) u) Q E s:=by
 let(kvs,k,e,ey,l):=g
 subst ey
 let(z,hd,vs,rel,dd):=Qt I.hok e
 let(w',hw,a6):=RelO.some_of (by rw[l];exact rel.val k)
 erw[wpAny_getItem_of (WO ry) dd.mapOf hw (h w' _ (I.tok _) a6)]
def d_in(hu:A.units+1<cLine)(I:Inv X pins O H s)(g:YW H a y o)(ry:RelV y u)(h:∀ s',Inv X pins O H s'->Q (.bool o.isSome) s') :
  wpAny (model X.prog X.w) A (compareOp .In u (.ref a)) Q E s:=by
 let(kvs,k,e,ey,l):=g
 subst ey
 let(z,hd,vs,rel,dd):=Qt I.hok e
 erw[wpAny_in_of (WO ry) hd dd.mapOf ?_]
 rw[<- (rel.val k).isSome_eq,<- l]
 erw[h _ (I.tok _)]
def zgw(hu:A.units+1<cLine)(I:Inv X pins O H s)(g:YW H a y o)(ry:RelV y u)(h:∀ s',Inv X pins O H s'->Q (.bool (!o.isSome)) s') :
  wpAny (model X.prog X.w) A (compareOp .NotIn u (.ref a)) Q E s:=by
 let(kvs,k,e,ey,l):=g
 subst ey
 let(z,hd,vs,rel,dd):=Qt I.hok e
 erw[wpAny_notIn_of (WO ry) hd dd.mapOf ?_]
 rw[<- (rel.val k).isSome_eq,<- l]
 erw[h _ (I.tok _)]
def yd{t':Nat}(I:Inv X pins O H s)(mu:Mut (H a))(hs:Heap.SameBut a s.heap h')(he:∃ q,h'.get? a=some q)(new:ObjOk X.prog X.w (upd H a ob) h' a ob) :
  Inv X pins O (upd H a ob) { s with heap:=h',toks:=t' } :=
 I.write mu (.inl rfl) (λb q hb z=>(hs.2 b hb).trans z) he new
def WC{H':Hp}(z:kvs.length<=sizeLine)(hd:(a==sysModules)=false)(rel:KV kvs vs)(dd:h'.DictOf (qC P w) a vs) :
  ObjOk P w H' h' a (.dK kvs):=#[z,hd,vs,rel,dd]
def za7(hu:A.units+1<cLine)(I:Inv X pins O H s)(g:zkX H a y v H')(ry:RelV y u)(rv:RelV v r)(h:∀ s',Inv X pins O H' s'->Q () s') :
  wpAny (model X.prog X.w) A (setItem (.ref a) u r) Q E s:=by
 let(kvs,k,e,ey,l,eH):=g
 subst ey eH
 let(z,hd,vs,rel,dd):=zaj I.hok e
 let hz:vs.length<=sizeLine:=by rw[<- rel.length];exact z
 let hl:(JB kvs k v).length<=sizeLine:=by have:=wg kvs k v;lia
 erw[wpAny_setItem_pairs (WO ry) dd λh' gb hs=>h _ ?_]
 let he:∃ q,h'.get? a=some q:=let #[q,_,_,hq,_]:=gb;#[q,hq]
 exact yd I (by rw[e];exact True.intro) hs he (WC hl hd (rel.put k rv) gb)
end
section
variable {X:Cx}{pins:Ak}{O:St}{H:Hp}{s:Am}{a:Ap}{kvs:List (Key×V)}{k:Key}{u:Aj}{A:Around}{E:Af}
def zk8{Q:Af}(I:Inv X pins O H s)(e:H a=some (.dK kvs))(ry:RelV (kV k) u)(l:vp kvs k=some v)(hm:more= []∨∃ x,more= [x])
  (h:∀ w' s',Inv X pins O (upd H a (.dK (WD kvs k))) s'->RelV v w'->Q w' s'):wpAny (model X.prog X.w) A (call (.builtin "dict.pop") (.ref a::u::more)) Q E s:=by
 let(z,hd,vs,rel,dd):=zaj I.hok e
 let(w',hw,a6):=RelO.some_of (by rw[<- l];exact rel.val k)
 let hp:(keyPart u).isSome=true:=by
  cases k with
  |inl i=>let⟨t,q⟩:=(show ∃ t,u=Value.int i t from ry);subst q;rfl
  |inr x=>let⟨t,q⟩:=(show ∃ t,u=Value.str x t from ry);subst q;rfl
 let ha:argsOk "dict.pop" ⟨.ref a::u::more,[]⟩:=by
  rcases hm with q | ⟨x,q⟩
  ·subst q;exact PySem.F.args_dict_pop_2 _ _
  ·subst q;exact PySem.F.args_dict_pop_3 _ _ _
 refine call_meetsIn PySem.F.slot_dict_pop dd.typeIs PySem.F.entry_dict_pop ha (meets_dict_pop_there (qC X.prog X.w) a (WO ry) more hm hp)
  #[vs,w',dd,by rw[<- rel.length];exact z,hw,λh' gb hs=>h w' _ ?_ a6]
 let he:∃ q,h'.get? a=some q:=let #[q,_,_,hq,_]:=gb;#[q,hq]
 exact yd I (by rw[e];exact True.intro) hs he (WC (xD (zdt kvs k) z) hd (rel.drop k) gb)
end
def zge(i:Expr):Prop:=∀ ov iv,subscripted i false ov iv=operate [ov,iv] (getItem ov iv)
def zie{prog:Ar}{w:World}{A:Around}{E:Af}{s:Am}{env:Env}{value slice:Expr}{pos:Pos}{T id:String}{Q:Af}
  (hl:typeLookup (.type T) "__getitem__" =pure (some (.builtin id))) (hs:zge slice)
  (h:wpAny (model prog w) A (eval value env) (λo s₁=>wpAny (model prog w) A (eval slice env) (λi s₂=>s₂.TypeIs o T/\wpAny (model prog w) A (getItem o i) Q E s₂) E s₁) E s) :
  wpAny (model prog w) A (eval (.Subscript value slice pos) env) Q E s:=by
 erw[Subscript_ (Xc h (λo s₁ h₁=>Xc h₁ (λi s₂ h₂=>?_) λ_ _ x=>x) λ_ _ x=>x)]
 let(hT,h₂):=h₂
 unfold subscriptTail
 erw[x3 ?_]
 rw[getitemInPython_of_ne hT.not_modules]
 erw[x3 (wpAny_specialOf hT hl ?_)]
 let fin:wpAny (model prog w) A (subscripted slice false o i) (λr s₃=>wpAny (model prog w) A (letTemporaryGo value o r >>= λ_=>pure r) Q E s₃) E s₂:=by
  rw[hs o i]
  erw[wpAny_operating (Xc h₂ (λr s₃ h₃=>x3 (wpAny_letTemporaryGo (x6 h₃))) λ_ _ x=>x)]
 first
  |exact x6 (x3 fin)
  |exact x3 (x6 (x3 fin))
  |exact x3 fin
def Yc (I:Inv X pins O H s) (g:YW H a y o):s.TypeIs (.ref a) "dict" :=by
 let(kvs,k,e,_,_):=g
 let(_,_,vs,_,dd):=Qt I.hok e
 erw[dd.typeIs]
def zlU(td ty:TE):TE:=λO H Q=>td O H λx H1=>ty O H1 λy H2=>∃ a v,x=.ref a/\YW H2 a y (some v)/\Q v H2
def zlG(td ty tv:TE):TS:=λD O H=>tv O H λv H1=>td O H1 λx H2=>ty O H2 λy H3=>∃ a H4,x=.ref a/\zkX H3 a y v H4/\D.nx O H4
section
variable {X:Cx}{o i value:Expr}{pos pos':Pos}{td ty tv:TE}
def zhj(hu:X.A.units+1<cLine)(ho:PE X o td)(hi:PE X i ty)(hs:zge i):PE X (.Subscript o i pos) (zlU td ty):=by
 cbv
 erw[zie PySem.F.slot_dict_getitem.lookup hs (thn (ho pins s O H _ I h) λu s1 ⟨x,H1,I1,rx,q1⟩=>thn (hi pins s1 O H1 _ I1 q1) λiv s2 ⟨y,H2,I2,ry,a,v,ex,g,q2⟩=>?_)]
 subst ex
 obtain rfl:u=Value.ref a:=rx
 exact#[Yc I2 g,za3 hu I2 g ry λw' s3 I3 a6=>#[v,H2,I3,a6,q2]]
def zhr(hu:X.A.units+1<cLine)(ho:PE X o td)(hi:PE X i ty)(hv:PE X value tv)(hs:swapsWith value (some (.Subscript o i pos')) pos.line X.env=pure false) :
  PS X (.Assign [.Subscript o i pos'] value pos) (zlG td ty tv):=by
 intro pins s O H D I h
 erw[wpAny_Assign_Subscript (thn (hv pins s O H _ I h) λr s1 ⟨v,H1,I1,rv,q1⟩=>thn (ho pins s1 O H1 _ I1 q1) λu s2 ⟨x,H2,I2,rx,q2⟩=>thn (hi pins s2 O H2 _ I2 q2) λiv s3 ⟨y,H3,I3,ry,a,H4,ex,g,q3⟩=>?_) hs]
 subst ex
 obtain rfl:u=Value.ref a:=rx
 erw[za7 hu I3 g ry rv λs4 I4=>#[O,H4,I4,q3]]
end
def CZ (h:Heap) (hb:sysModules<h.objs.size):ObjOk P w H (h.push { cls:=.type "dict",data:=.dict (List.toArray []) }) h.objs.size (.dK []) :=
 #[xS _,x9.mpr (Ne.symm (xj hb)),[],.nil,Heap.DictOf.new h]
def zkK:TE:=λ_ H Q=>∀ p,H p=none->Q (.ref p) (upd H p (.dK []))
section
variable {X:Cx}{pos:Pos}
def pe_dnewK:PE X (.Dict [] [] pos) zkK:=λpins s O H Q I h=>
 wpAny_Dict_empty #[.ref ⇑s,_,I.laid (λ_ _ q=>x4 _ q) (xh _) (CZ s.heap I.big),rfl,h _ (I.hok.fresh (xh _))]
end
def Jd(kvs more:List (Key×V)):List (Key×V):=more.foldl (λacc kv=>JB acc kv.1 kv.2) kvs
def KV.merge:∀{more:List (Key×V)}{rs:List (Key×Value)}{kvs:List (Key×V)}{vs:List (Key×Value)},KV more rs->KV kvs vs->KV (Jd kvs more) (merged vs rs):=by
 intro more rs kvs vs r
 unfold KV at r
 induction r generalizing kvs vs with
 |nil=>intro q;exact q
 | @cons p q ps qs h t ih=>
  intro r0
  let e:KV (JB kvs p.1 p.2) (stored vs q.1 q.2):=by
   have:=r0.put p.1 h.2
   rw[<- h.1];exact this
  erw[ih e]
def QR:∀(more kvs:List (Key×V)),(Jd kvs more).length<=kvs.length+more.length
 |[],kvs=>by show kvs.length<=kvs.length+0;lia
 |p::r,kvs=>by
  let h1:=QR r (JB kvs p.1 p.2)
  let h2:=wg kvs p.1 p.2
  show (Jd (JB kvs p.1 p.2) r).length<=_
  rw[xo];lia
structure M1(X:Cx)(o:Expr)(m:Str)(apos:Pos)(e:Expr)(aj:Pos):Prop where
 base:attributeBase o m X.env (eval o X.env)=eval o X.env
 few:((backTo aj (starEach [e] X.env)).all (λx=> !x.1)&&(backToKw aj (keywordEach [] X.env)).all (λx=>x.1.isSome)
  && decide (([e]:Ag).length+([]:List Keyword).length+(if ([]:List Keyword).isEmpty then 0 else 1)<30))=true
 line:(apos.endLine==aj.line)=true
 trees:backTo aj (starEach [e] X.env)= [(false,eval e X.env)]
def IsD(H:Hp)(a:Ap):Prop:=∃ kvs,Rd H a (.dK kvs)
def Kl(I:Inv X pins O H s)(d:IsD H a) :
  s.TypeIs (.ref a) "dict" /\(∀ b,Value.ref a=.ref b->∃ ob,s.heap.get? b=some ob/\ob.dict=none)/\(a==sysModules)=false:=by
 let(kvs,e):=d
 let(_,hd,vs,_,dd):=Qt I.hok e
 refine#[dd.typeIs,λb q=>?_,hd]
 cases q
 let(ob,_,_,h1,h2,_):=dd
 exact#[ob,h1,h2.2.1]
section
end
def zkL(td ty:TE):TE:=λO H Q=>td O H λx H1=>∃ a,x=.ref a/\IsD H1 a/\ty O H1 λy H2=>∃ kvs k v,H2 a=some (.dK kvs)/\y=kV k/\vp kvs k=some v/\Q v (upd H2 a (.dK (WD kvs k)))
section
variable {X:Cx}{o e:Expr}{apos aj:Pos}{td ty:TE}
def ze8 (ho:PE X o td) (he:PE X e ty) (m:M1 X o "pop" apos e aj):PE X (.Call (.Attribute o "pop" apos) [e] [] aj) (zkL td ty):=by
 cbv
 erw[wpAny_Call_method m.base m.few m.line PySem.F.plainAttrs_dict PySem.F.slot_dict_pop PySem.F.type_dict_pop (thn (ho pins s O H _ I h) λu s1 ⟨x,H1,I1,rx,a,ex,d,q1⟩=>?_)]
 subst ex
 obtain rfl:u=Value.ref a:=rx
 let(t1,t2,_):=Kl I1 d
 refine#[t1,t2,?_]
 rw[m.trees]
 erw[Calls.callWith_builtin rfl (Calls.evalArgs_plain (Calls.spliced_cons (thn (he pins s1 O H1 _ I1 q1) λiv s2 ⟨y,H2,I2,ry,kvs,k,v,ea,ey,l,q2⟩=>Calls.spliced_nil ?_)))]
 subst ey
 erw[zk8 I2 ea ry l (.inl rfl) λw' s3 I3 a6=>#[v,_,I3,a6,q2]]
end
section
variable {X:Cx}{pins:Ak}{O:St}{H:Hp}{s:Am}{a:Ap}{kvs:List (Key×V)}{A:Around}{E:Af}
def zdl (I:Inv X pins O H s) (e:Rd H a (.dK kvs)) (h:∀ p s',H p=none->Inv X pins O (upd H p (.dK kvs)) s'->Q (.ref p) s'):wpAny (model X.prog X.w) A (call (.type "dict") [.ref a]) Q E s:=by
 let(z,hd,vs,rel,dd):=Qt I.hok e
 refine kt_call_dict hd dd (by rw[<- rel.length];exact z) λh' gb hs=>?_
 erw[h _ _ (I.hok.fresh (xh _)) (I.laid (λb q hq=>?_) (xh _) (WC z (x9.mpr (Ne.symm (xj I.big))) rel gb))]
 erw[(hs.2 b (xj (x5 hq))).trans (x4 _ hq)]
end
section
end
section
end
def qW{α β:Type}[BEq α][LawfulBEq α]:∀{l:List (α×β)}{x:α}{v:β},l.lookup x=some v->(x,v)∈l
 |[],_,_,h=>by simp at h
 | (a,b)::r,x,v,h=>by
  rw[xy]at h
  cases e:x==a with
  |true=>rw[e]at h;have e':=eq_of_beq e;subst e';cases h;exact xA
  |false=>rw[e]at h;exact xt _ (qW h)
def Q4{env:Env}:∀(names:List (Str×NameKind))(cs:List (Str×Addr)),
    (∀ y∈names,y.2=.free->∃ c,env.cells.lookup y.1=some c)->(∀ x c,cs.lookup x=some c->env.cells.lookup x=some c) ->
    ∃ cl,(forIn names cs λx r=>if (x.snd==NameKind.free)=true then do
                let z<-cellOf env x.fst
                pure (ForInStep.yield ((x.fst,z)::r))
              else pure (ForInStep.yield r):Sem (List (Str×Addr)))=pure cl/\(∀ x c,cl.lookup x=some c->env.cells.lookup x=some c) /\
      (∀ x,(∃ c,cs.lookup x=some c)∨(x,NameKind.free)∈names->∃ c,cl.lookup x=some c)
  |[],cs,_,h2=>⟨cs,by simp,h2,λx hx=>by
      grind⟩
  | (n,k)::r,cs,h1,h2=>by
    rw[List.forIn_cons]
    by_cases hk:k=.free
    · subst hk
      let(c,hc):=h1 (n,.free) xA rfl
      let e:cellOf env n=pure c:=by unfold cellOf;rw[hc]
      let(cl,e1,h3,h4):=Q4 r ((n,c)::cs) (λy hy=>h1 y (xt _ hy)) (λx c' hx=>by
        rw[xy]at hx
        cases q:x==n with
        |true=>rw[q]at hx;cases hx;rw[eq_of_beq q];exact hc
        |false=>rw[q]at hx;exact h2 x c' hx)
      refine#[cl,?_,h3,λx hx=>h4 x ?_]
      · simp only [beq_self_eq_true, if_true, e, pure_bind]
        erw[e1]
      · by_cases q : x = n
        · subst q;exact .inl #[c,by simp]
        · grind
    · have hb : (k == NameKind.free) = false := by simpa using hk
      let(cl,e1,h3,h4):=Q4 r cs (λy hy=>h1 y (xt _ hy)) h2
      refine#[cl,?_,h3,λx hx=>h4 x ?_]
      · simp only [hb, Bool.false_eq_true, if_false, pure_bind]
        erw[e1]
      · grind
def kC(h:∀ y∈sc.names,y.2=.free->∃ c,env.cells.lookup y.1=some c) :
  ∃ cl,closureFor sc env=pure cl/\(∀ x c,cl.lookup x=some c->env.cells.lookup x=some c)/\(∀ x,(x,NameKind.free)∈sc.names->∃ c,cl.lookup x=some c):=by
 let(cl,e,h1,h2):=Q4 sc.names [] h (λx c z=>by simp at z)
 refine#[cl,?_,h1,λx hx=>h2 x (.inr hx)]
 simp only[closureFor]
 rw[bind_pure]
 erw[e]
abbrev Cx.comp(X:Cx)(N':Ab)(scope:Scope)(cl:List (Str×Addr))(C:Ap)(s2:Am)(H2:Hp)(fp:List Ap):Cx :=
 { X with N:=N',env:=compEnvC scope cl C X.env,s₀:=s2,H₀:=H2,outer:=X.stack,stack:=X.stack,ex:=fp,fn:=λx=>decide (scope.names.lookup x=some .cell),pn:= [],xe:=λ_ _=>False }
structure CSc(gu:Scope)(N:Ab)(sc:Scope)(N':Ab)(k:Nat)(ix:Ac):Prop where
 kind:sc.kind=.function
 cel:∀ y∈sc.names,y.2=.cell->sc.names.lookup y.1=some .cell
 loc:∀ y∈sc.names,y.2=.local->sc.names.lookup y.1=some .local
 fre:∀ y∈sc.names,y.2=.free->gu.names.lookup y.1=some .cell∨gu.names.lookup y.1=some .free
 len:N'.length=k+ix.length
 nd:N'.Nodup
 cap:∀(j i:Nat),ix[j]?=some i->∃ y,N'[k+j]?=some y/\N[i]?=some y/\sc.names.lookup y=some .free
def zdj(gu:Scope)(N:Ab)(sc:Scope)(N':Ab)(k:Nat)(ix:Ac):Bool :=
 decide (sc.kind=.function)&&sc.names.all (λy=>(decide (y.2≠ .cell)||decide (sc.names.lookup y.1=some .cell))&&(decide (y.2≠ .local)||decide (sc.names.lookup y.1=some .local))&&(decide (y.2≠ .free)||decide (gu.names.lookup y.1=some .cell)||decide (gu.names.lookup y.1=some .free))) &&
 decide (N'.length=k+ix.length)&&decide N'.Nodup&&(List.range ix.length).all (λj=>match N'[k+j]?,N[ix.getD j 0]? with
  |some y,some z=>decide (y=z)&&decide (sc.names.lookup y=some .free)
  |_,_=>false)
def CSc.of(h:zdj gu N sc N' k ix=true):CSc gu N sc N' k ix:=by
 unfold zdj at h
 simp only[xi,x0,xG,xQ]at h
 let((((h1,h2),h3),h4),h5):=h
 refine#[h1,λy hy e=>?_,λy hy e=>?_,λy hy e=>?_,h3,h4,λj i e=>?_]
 ·rcases (h2 y hy).1.1 with z | z
  ·erw[absurd e z]
  ·erw[z]
 ·rcases (h2 y hy).1.2 with z | z
  ·erw[absurd e z]
  ·erw[z]
 ·rcases (h2 y hy).2 with (z | z) | z
  ·erw[absurd e z]
  ·erw[.inl z]
  ·erw[.inr z]
 ·let(hj,ei):=xa.mp e
  have:=h5 j (List.mem_range.mpr hj)
  let e2:ix.getD j 0=i:=by grind
  rw[e2]at this
  split at this
  next y z ey ez=>
   simp only[xi,x0]at this
   let(rfl,hl):=this
   exact#[y,ey,ez,hl]
  ·cases this
def cS(k:Nat)(ix:Ac)(O:St):St:=List.replicate k none++ix.map λi=>(O[i]?).join
def JC{env:Env}:∀{names:List (Str×NameKind)}{x:Str},
    ((names.map λ(n,k)=>if (k==NameKind.free&&env.scope.kind==.function&&env.kindOf n==some .cell) then (n,NameKind.cell) else (n,k)).lookup x=some .cell ∨
     (names.map λ(n,k)=>if (k==NameKind.free&&env.scope.kind==.function&&env.kindOf n==some .cell) then (n,NameKind.cell) else (n,k)).lookup x=some .free)->names.lookup x=some .free∨names.lookup x=some .cell
  |[],_,h=>by simp at h
  | (n,k)::r,x,h=>by
    let ih:=@JC env r x
    rw[xr]at h
    dsimp only at h
    by_cases hcd:(k==NameKind.free&&env.scope.kind==.function&&env.kindOf n==some .cell)=true
    · have Ei : k = .free := by
        simp only[xi]at hcd
        erw[eq_of_beq hcd.1.1]
      rw[if_pos hcd]at h
      cases hx:x==n with
      |true=>rw[xy,hx,Ei];exact .inl rfl
      |false=>simp only[xy,hx]at h;simp only[xy,hx];exact ih h
    · rw [if_neg hcd] at h
      cases hx:x==n with
      |true=>
        simp only[xy,hx]at h
        rw[xy,hx]
        rcases h with h | h
        · exact .inr h
        · exact .inl h
      |false=>simp only[xy,hx]at h;simp only[xy,hx];exact ih h
def wt{env:Env}:∀{names:List (Str×NameKind)}{x:Str},names.lookup x=some .free ->
    ((names.map λ(n,k)=>if (k==NameKind.free&&env.scope.kind==.function&&env.kindOf n==some .cell) then (n,NameKind.cell) else (n,k)).lookup x=some .cell ∨
     (names.map λ(n,k)=>if (k==NameKind.free&&env.scope.kind==.function&&env.kindOf n==some .cell) then (n,NameKind.cell) else (n,k)).lookup x=some .free)
  |[],_,h=>by simp at h
  | (n,k)::r,x,h=>by
    let ih:=@wt env r x
    rw[xr]
    dsimp only
    cases hx:x==n with
    |true=>
      rw[xy,hx]at h
      cases h
      by_cases hcd:(NameKind.free==NameKind.free&&env.scope.kind==.function&&env.kindOf n==some .cell)=true
      · rw[if_pos hcd];simp[xy,hx]
      · rw[if_neg hcd];simp[xy,hx]
    |false=>
      rw[xy,hx]at h
      by_cases hcd:(k==NameKind.free&&env.scope.kind==.function&&env.kindOf n==some .cell)=true
      · rw[if_pos hcd];simp only[xy,hx];exact ih h
      · rw[if_neg hcd];simp only[xy,hx];exact ih h
structure ClOk(X:Cx)(sc:Scope)(cl:List (Str×Addr))(C:Ap)(h4:Heap):Prop where
 src:∀ x c,cl.lookup x=some c->X.env.cells.lookup x=some c∨(C<c/\h4.IsCell c none)
 inj:∀ x y c,cl.lookup x=some c->cl.lookup y=some c->x=y
 has:∀ x,(sc.names.lookup x=some .free∨sc.names.lookup x=some .cell)->∃ c,cl.lookup x=some c
 own:∀ x c,sc.names.lookup x=some .cell->cl.lookup x=some c->C<c
 old:∀ x c,sc.names.lookup x=some .free->cl.lookup x=some c->X.env.cells.lookup x=some c
def jb:∀(names:List (Str×NameKind))(n:Nat)(acc:List (Str×Addr)),cellsFrom n names acc=cellsFrom n names []++acc
 |[],n,acc=>rfl
 | (x,k)::r,n,acc=>by
  unfold cellsFrom
  split
  ·rw[jb r (n+1) ((x,n)::acc),jb r (n+1) [(x,n)],uw];rfl
  ·erw[jb r n acc]
def ν6:∀(names:List (Str×NameKind))(n:Nat)(y:Str×Addr),y∈cellsFrom n names []->(y.1,NameKind.cell)∈names
 |[],n,y,h=>by cases h
 | (x,k)::r,n,y,h=>by
  unfold cellsFrom at h
  split at h
  next hk=>
   rw[jb]at h
   rcases xM.mp h with h | h
   ·erw[xt _ (ν6 r _ y h)]
   grind
  ·erw[xt _ (ν6 r _ y h)]
def Jc{β:Type}:∀(l1 l2:List (Str×β))(x:Str),(l1++l2).lookup x=(match l1.lookup x with | some v=>some v | none=>l2.lookup x)
 |[],l2,x=>rfl
 | (a,b)::l1,l2,x=>by
  rw[List.cons_append,xy,xy]
  cases x==a with
  |true=>rfl
  |false=>erw[Jc l1 l2 x]
def vL{M:Model}{A:Around}{E:Af}{s:Am}{scope:Scope}{globals:Ap}{cl:List (Str×Addr)}{qual:Str}{env:Env}{builtins:Ap}{Q:Env->Am->Prop}
  (hQ:Q (newEnv scope ⇑s globals (cellsFrom (⇑s+1) scope.names cl) qual none .none (some env) builtins) { s with heap:=pushCells (s.heap.push { cls:=.type "dict",data:=.dict (List.toArray []) }) scope.names }) :
  wpAny M A (newFunctionEnv scope globals cl [] qual none .none (some env) builtins) Q E s:=by
 simp only[newFunctionEnv,Option.isSome_some,if_true]
 erw[x3 (wpAny_alloc ?_)]
 refine x3 (wpAny_layCells _ (λname kind cells=>by grind) _ _ _ _ ?_)
 rw[show ({ s with heap:=s.heap.push { cls:=.type "dict",data:=.dict (List.toArray []) } }:Am).heap.objs.size=⇑s+1 from Heap.size_push ..]
 simp only[List.forIn_nil]
 erw[x3 (x6 (x6 hQ))]
section
variable {X:Cx}{pins:Ak}{O:St}{H:Hp}{s2:Am}
def ClOk.of(I:Inv X pins O H s2)(S:CSc X.env.scope X.N sc N' k ix)(aw:∀ x c,cl.lookup x=some c->X.env.cells.lookup x=some c)(az:∀ x,(x,NameKind.free)∈sc.names->∃ c,cl.lookup x=some c)
  {g:Heap} {o:Obj} (hg:⇑s2<=g.objs.size):ClOk X sc (cellsFrom (g.objs.size+1) sc.names cl) g.objs.size (pushCells (g.push o) sc.names):=by
 let ok:=cellsFrom_ok sc.names (g.push o) (g.objs.size+1) [] #[(λ_ _ hm=>nomatch hm),List.Pairwise.nil] (by rw[Heap.size_push];exact xh _)
 rw[Heap.size_push]at ok
 rw[jb]
 let bg:∀ x c,(cellsFrom (g.objs.size+1) sc.names []).lookup x=some c->g.objs.size<c/\(pushCells (g.push o) sc.names).IsCell c none/\(x,NameKind.cell)∈sc.names:=λx c e=>by
  let hm:=qW e
  have:=ok.empty x c hm
  exact#[Nat.lt_of_succ_le this.2,this.1,ν6 _ _ _ hm]
 let hold:∀ x c,cl.lookup x=some c->c<g.objs.size:=λx c e=>by
  let(v,ob,bu,_):=I.cell x c (aw x c e)
  erw[xq (x5 bu) hg]
 let dt:∀ x c,(cellsFrom (g.objs.size+1) sc.names []++cl).lookup x=some c->((cellsFrom (g.objs.size+1) sc.names []).lookup x=some c)∨((cellsFrom (g.objs.size+1) sc.names []).lookup x=none/\cl.lookup x=some c):=λx c e=>by
  rw[Jc]at e
  cases q:(cellsFrom (g.objs.size+1) sc.names []).lookup x with
  |some v=>rw[q]at e;exact .inl e
  |none=>rw[q]at e;exact .inr #[rfl,e]
 let g7:∀ x,sc.names.lookup x=some .free->(cellsFrom (g.objs.size+1) sc.names []).lookup x=none:=λx hx=>by
  cases q:(cellsFrom (g.objs.size+1) sc.names []).lookup x with
  |none=>rfl
  |some c=>
   have:=S.cel (x,.cell) (bg x c q).2.2 rfl
   rw[hx]at this;cases this
 refine#[λx c e=>?_,λx y c e1 e2=>?_,λx hx=>?_,λx c hx e=>?_,λx c hx e=>?_]
 ·rcases dt x c e with q | ⟨_,q⟩
  ·erw[.inr #[(bg x c q).1,(bg x c q).2.1]]
  ·erw[.inl (aw x c q)]
 ·rcases dt x c e1 with q1 | ⟨_,q1⟩
  ·rcases dt y c e2 with q2 | ⟨_,q2⟩
   ·let m1:=qW q1
    let m2:=qW q2
    by_cases hxy:x=y
    ·erw[hxy]
    ·exfalso
     have:=ok.apart
     let(i,hi,ei):=List.getElem_of_mem m1
     let(j,hj,ej):=List.getElem_of_mem m2
     let pw:=List.pairwise_iff_getElem.mp this
     rcases Nat.lt_trichotomy i j with h | h | h
     ·have:=pw i j hi hj h
      rw[ei,ej]at this;exact this rfl
     ·subst h
      rw[ei]at ej
      erw[hxy (congrArg Prod.fst ej)]
     ·have:=pw j i hj hi h
      rw[ei,ej]at this;exact this rfl
   ·erw[absurd (hold y c q2) (Nat.not_lt.mpr (uh (bg x c q1).1))]
  ·rcases dt y c e2 with q2 | ⟨_,q2⟩
   ·erw[absurd (hold x c q1) (Nat.not_lt.mpr (uh (bg y c q2).1))]
   ·erw[I.ok.inj x y c (aw x c q1) (aw y c q2)]
 ·rw[Jc]
  rcases hx with hx | hx
  ·rw[g7 x hx]
   erw[az x (qW hx)]
  ·let(c,hc):=Jq hx
   rw[hc];exact#[c,rfl]
 ·rcases dt x c e with q | ⟨q,_⟩
  ·erw[(bg x c q).1]
  ·let(c',hc):=Jq hx
   rw[hc]at q;cases q
 ·rcases dt x c e with q | ⟨_,q⟩
  ·rw[g7 x hx]at q;cases q
  ·erw[aw x c q]
def Inv.child(I:Inv X pins O H s2)(S:CSc X.env.scope X.N sc N' k ix)(hf:∀ b∈fp,JK X pins H b)
  (pz:∀ b∈fp,∃ o,s2.heap.get? b=some o) {cl:List (Str×Addr)}
  {C:Ap} {s4:Am} (L:ClOk X sc cl C s4.heap) (hC:⇑s2<=C) (keep:∀ b o,s2.heap.get? b=some o->s4.heap.get? b=some o) {m0:Aq} (ay:s4.heap.Ns C m0) (ho:s4.os=s2.os) (hg:AllBare s4.gens) :
  Inv (X.comp N' sc cl C s2 H fp) [] (cS k ix O) H s4 where
 ok:={
  mod:=I.ok.mod
  kind:=S.kind
  glob:=I.ok.glob
  blt:=I.ok.blt
  above:=hC
  inj:=L.inj
  has:=λx hx=>L.has x (JC hx)
  cab:=λx c h e=>xD hC (uh (L.own x c (Xf h) e))
  hd:=I.ok.hd
  frames:=I.ok.frames
  stk:=.inl rfl
  exf:=λb hb=>by
   let(f0,f1,f2,f3,f4,f5):=hf b hb
   let(o,e):=pz b hb
   refine#[xj (xq (x5 e) hC),λx c z=>?_]
   rcases L.src x c z with z | z
   ·erw[f4 x c z]
   ·erw[Ne.symm (xj (Nat.lt_trans (xq (x5 e) hC) z.1))]
  bs:=λb o e=>I.bs b o e
  bsz:=xD I.ok.bsz I.sz
  noex:=λb o e hb=>by
   let(f0,f1,f2,f3,f4,f5):=hf b hb
   rcases f3 with z | z
   ·erw[I.ok.noex b o e z]
   ·erw[absurd (xq (x5 (I.ok.bs b o e).1) z) (ub _)]
  exfs:=λb hb hz=>by
   let(f0,f1,f2,f3,f4,f5):=hf b hb
   rcases xC.mp (I.stkSub b hz)with z | z
   ·erw[f1 z]
   ·erw[f2 z]
  funs:=I.stack
  frf:=I.stkFree }
 os:=ho
 bare:=hg
 base:=Un.kept keep
 loc:=⟨m0,ay,λi x v e1 e2 e3=>by
  unfold cS at e2
  by_cases hi:i<k
  ·rw[xc (~~~hi),xN,if_pos hi]at e2
   cases e2
  ·obtain⟨j,rfl⟩:∃ j,i=k+j:=#[i-k,by lia]
   rw[xp (by simp),uu,Nat.add_sub_cancel_left,xf]at e2
   cases q:ix[j]? with
   |none=>rw[q]at e2;cases e2
   |some i0=>
    rw[q]at e2
    let(y,mw,hy2,tf):=S.cap j i0 q
    let ey:y=x:=by grind
    subst ey
    let ev:O[i0]?=some (some v):=by
     simp only[uB,Option.some.injEq]at e2
     cases r:O[i0]? with
     |none=>rw[r]at e2;cases e2
     |some z=>rw[r]at e2;exact congrArg some e2
    let(m,hn,hl):=I.loc
    let hfr:=S.fre (y,.free) (qW tf) rfl
    let hv:Vis X.env.scope y:=.inr hfr
    let(u,r1,l1):=hl i0 y v hy2 ev hv
    refine#[u,r1,.inr #[wt tf,?_]]
    let(c,hc):=L.has y (.inl tf)
    refine#[c,hc,?_]
    let hc':=L.old y c tf hc
    rcases l1 with ⟨hk,_⟩ | ⟨_,c',di,z⟩
    ·let Cq:X.env.scope.names.lookup y=some .local:=hk
     rcases hfr with w | w
     ·rw[Cq]at w;cases w
     ·rw[Cq]at w;cases w
    ·rw[hc']at di;cases di
     let(ob,bu,hd):=z
     exact#[ob,keep _ _ bu,hd]⟩
 cell:=λx c e=>by
  rcases L.src x c e with e | e
  ·let(v,ob,bu,hd):=I.cell x c e
   exact#[v,ob,keep _ _ bu,hd]
  ·exact#[none,e.2]
 free:=I.hok.fresh hC
 freeC:=λx c e=>by
  rcases L.src x c e with e | e
  ·erw[I.freeC x c e]
  ·erw[I.hok.fresh (xD hC (uh e.1))]
 pin:=λp hp=>by cases hp
 hok:=I.hok.kept keep
 len:=by
  rw[S.len];unfold cS;simp
def Inv.back(I:Inv X pins O H s2)(hf:∀ b∈fp,JK X pins H b)(J:Inv (X.comp N' sc cl C s2 H fp) pl Oc H5 s5):Inv X pins O H5 s5 :=
 I.call' J.os J.base J.hok J.bare λb hb=>by
  let(f0,f1,f2,f3,f4,f5):=hf b hb
  exact#[f3,f1,f4,f5]
end
section
variable {X:Cx}{pins:Ak}{O:St}{H:Hp}{s:Am}
def Inv.track{o:HO}(I:Inv X pins O H s)(ha:X.s₀.heap.objs.size<=a)(hn:H a=none)(hL:a≠X.env.locals)(hc:∀ x c,X.env.cells.lookup x=some c->c≠a)(hp:∀ p∈X.pn++pins,p.1≠a)
  (new:ObjOk X.prog X.w (upd H a o) s.heap a o):Inv X pins O (upd H a o) s where
 ok:=I.ok
 os:=I.os
 bare:=I.bare
 base:={
  keep:=I.base.keep
  slot:=I.base.slot
  free:=λb ob e n hx=>by
   rw[zI (xj (xq (x5 e) ha))]
   erw[I.base.free b ob e n hx]
  there:=I.base.there
  tups:=λb xs e=>by
   have:=I.base.tups b xs e
   rw[zI (qF this hn)];exact this
  frzs:=λb ob u e=>by
   have:=I.base.frzs b ob u e
   rw[zI (qF this hn)];exact this
  tbls:=λb ps e=>by
   let(mo,this):=I.base.tbls b ps e
   exact#[mo,by rw[zI (qF this hn)];exact this] }
 loc:=I.loc
 cell:=I.cell
 free:=by rw[zI (Ne.symm hL)];exact I.free
 freeC:=λx c e=>by rw[zI (hc x c e)];exact I.freeC x c e
 pin:=λp h=>by
  let(e,n,r):=I.pin p h
  exact#[e,by rw[zI (hp p h)];exact n,r]
 hok:=λb u q=>by
  by_cases hb:b=a
  ·subst hb;rw[zK]at q;cases q;exact new
  ·rw[zI hb]at q
   exact (I.hok b u q).stay (λc v _ r=>r) (λc r=>by rw[zI (qF r hn)];exact r) λc xs r=>by rw[zI (qF r hn)];exact r
 len:=I.len
end
def PF(X:Cx)(ifs:Ag)(t:TT):Prop :=
 ∀(pins:Ak)(s:Am)(O:St)(H:Hp)(Q:Bool->Hp->Prop),Inv X pins O H s->t O H Q ->
  ∅ (forIn ifs true λc r=>if r=true then do let ok<-isTrue c X.env (eval c X.env);pure (ForInStep.yield ok) else pure (ForInStep.yield r)) (TP X pins O Q) X.xe s
def zlZ:TT:=λ_ H Q=>Q true H
def pf_nil:PF X [] zlZ:=λ_ _ _ H _ I h=>wpAny_tests_nil #[H,I,h]
def zjX(h:PT X c t):PF X [c] t:=λpins s O H Q I hw=>wpAny_tests_one (h pins s O H Q I hw)
def yZ{e target iter:Expr}{ifs:Ag}{act:Sem Unit}(hlp:∀(R:Result->Am->Prop)(s:Am)(I:Nat->Am->Prop)(n:Nat),(∀ n s,I n s->wpAny (model prog w) A ((compTurn e 0 it acc env).onRaise (λx=>do noteFrame x env;theTreesLotGoes x)) (λfin s'=>match fin with
   |.done f=>R (.ok f) s'
   |.again c'=>c'=Code.compLoop e 0 it acc env/\∃ m,m<n/\I m s') (λe s'=>R (.error e) s') s)->I n s->codeAny (model prog w) A (.compLoop e 0 it acc env) R s)
  (heq:compTurn e 0 it acc env=(do
   standAt iter.pos
   match<-pyNext it with
   |none=>pure (.done .next)
   |some v=>
    letOwnedTupleGo target it v
    assign target env v
    let mut ok:=true
    for c in ifs do
     if ok then ok<-isTrue c env (eval c env)
    if ok then act
    again (.compLoop e 0 it acc env))) (I:Nat->Am->Prop)
  (turn:∀ n s,I n s->wpAny (model prog w) A (pyNext it) (λr s₁=>match r with
   |none=>R (.ok .next) s₁
   |some v=>wpAny (model prog w) A (letOwnedTupleGo target it v) (λ_ s₁=>wpAny (model prog w) A (assign target env v) (λ_ s₂=>
     wpAny (model prog w) A (forIn ifs true λc r=>if r=true then do let ok<-isTrue c env (eval c env);pure (ForInStep.yield ok) else pure (ForInStep.yield r)) (λok s₃=>
      if ok=true then wpAny (model prog w) A act (λ_ s₅=>∃ m,m<n/\I m s₅) (λ_ _=>False) s₃
      else ∃ m,m<n/\I m s₃) (λ_ _=>False) s₂) (λ_ _=>False) s₁) (λ_ _=>False) s₁) (λ_ _=>False) s)
  (n:Nat) (h:I n s):codeAny (model prog w) A (.compLoop e 0 it acc env) R s:=by
 erw[hlp R s I n (λn s hI=>?_) h]
 erw[wpAny_noted ?_]
 rw[heq]
 erw[x3 (wpAny_standAt (x3 (Xc (turn n s hI) (λr s₁ h₁=>?_) λ_ _ f=>f.elim)))]
 cases r with
 |none=>erw[x6 h₁]
 |some v=>
  erw[x3 (Xc h₁ (λ_ s₂ h₂=>?_) λ_ _ f=>f.elim)]
  erw[x3 (Xc h₂ (λ_ s₂ h₂=>x3 (Xc h₂ (λok s₃ h₃=>?_) λ_ _ f=>f.elim)) λ_ _ f=>f.elim)]
  cases ok with
  |false=>erw[x6 #[rfl,h₃]]
  |true=>erw[x3 (Xc h₃ (λ_ s₅ h₅=>x6 #[rfl,h₅]) λ_ _ f=>f.elim)]
structure Acc(α β:Type) where
 a0:α
 add:α->β->α
 len:α->Nat
 ho:α->HO
def VX{α β:Type}(ac:Acc α β)(k:Nat)(ix:Ac)(g:TG)(tt:TT)(te:St->Hp->(β->Hp->Prop)->Prop)(O:St)(J:It)(H1:Hp)(Q:α->Hp->Prop):Prop :=
 ∃ W:Nat->Nat->α->Hp->Prop,(∃ m,W 0 m ac.a0 H1)/\∀ i m ys H,W i m ys H->ac.len ys<sizeLine /\
  ((J.stop i H/\Q ys H)∨(J.go i H/\∃ N:α->Hp->Prop,(∀ dr H',N dr H'->∃ m',m'<m/\W (i+1) m' dr H')/\∀ x H',J.yld i H x H'->g x (cS k ix O) H' λO2 H2=>O2.drop k=(cS k ix O).drop k/\tt O2 H2 λb H3=>
   if b=true then te O2 H3 λy H4=>N (ac.add ys y) H4 else N ys H3))
abbrev zgi:Acc (List V) V:=#[[],λys y=>ys++ [y],List.length,.lst]
abbrev zgh:Acc (List (Key×V)) (Key×V):=#[[],λys y=>JB ys y.1 y.2,List.length,.dK]
def YI(k:Nat)(ix:Ac)(wi:TI)(g:St->TG)(tt:St->TT)(te:St->TE):TE:=λO H Q=>
 wi O H λJ H1=>VX zgi k ix (g O) (tt O) (te O) O J H1 λys H2=>∀ p,H2 p=none->Q (.ref p) (upd H2 p (.lst ys))
def YJ(tk tv:TE):St->Hp->(Key×V->Hp->Prop)->Prop:=λO H Q=>tk O H λx H1=>tv O H1 λy H2=>∃ k,x=kV k/\Q (k,y) H2
def vm(k:Nat)(ix:Ac)(wi:TI)(g:St->TG)(tt:St->TT)(te:St->St->Hp->(Key×V->Hp->Prop)->Prop):TE:=λO H Q=>
 wi O H λJ H1=>VX zgh k ix (g O) (tt O) (te O) O J H1 λys H2=>∀ p,H2 p=none->Q (.ref p) (upd H2 p (.dK ys))
structure ziP(P:Ar)(w:World){α β γ:Type}(ac:Acc α β)(OK:α->Obj->Prop)(RB:β->γ->Prop)(o0:Obj)(na:Sem Aj)(st:Ap->γ->Sem Unit):Prop where
 new:∀(A:Around)(E:Af)(s:Am)(Q:Af),Q (.ref ⇑s) { s with heap:=s.heap.push o0 }->wpAny (model P w) A na Q E s
 z0:OK ac.a0 o0
 live:o0.isFreed=false
 cell:∀ a o,OK a o->∀ v,o.data≠ .cell v
 st:∀(A:Around)(E:Af)(s:Am)(Q:Unit->Am->Prop)(D:Ap)(a:α)(o:Obj)(y:β)(b:γ),OK a o->ac.len a<sizeLine->RB y b->s.heap.get? D=some o ->
  (∀ h' o' t',Heap.SameBut D s.heap h'->h'.get? D=some o'->OK (ac.add a y) o'->Q () { s with heap:=h',toks:=t' })->wpAny (model P w) A (st D b) Q E s
 ok:∀(H:Hp)(h:Heap)(D:Ap)(a:α)(o:Obj),OK a o->ac.len a<=sizeLine->sysModules<D->h.get? D=some o->ObjOk P w H h D (ac.ho a)
def PEv(X:Cx){β γ:Type}(RB:β->γ->Prop)(st:Ap->γ->Sem Unit)(act:Ap->Env->Sem Unit)(te:St->Hp->(β->Hp->Prop)->Prop):Prop:=∀(D:Ap)(pins:Ak)(s:Am)(O:St)(H:Hp)(Q:β->Hp->Prop)(R:Unit->Am->Prop),Inv X pins O H s->te O H Q ->
 (∀ y b s' H',Inv X pins O H' s'->RB y b->Q y H'->∅ (st D b) R X.xe s')->∅ (act D X.env) R X.xe s
section
variable {X:Cx}{pins:Ak}{O:St}{H:Hp}{s2:Am}
def Vb{α β γ:Type}{ac:Acc α β}{OK:α->Obj->Prop}{RB:β->γ->Prop}{o0:Obj}{na:Sem Aj}{BY:Ap->γ->Sem Unit}{act:Ap->Env->Sem Unit}{e tg iter:Expr}{ifs:Ag}{scope:Scope}{N':Ab}{k:Nat}{ix:Ac}{g:TG}{tt:TT}{te:St->Hp->(β->Hp->Prop)->Prop}{cl:List (Str×Addr)}{it:Ap}{fp:List Ap}{tn:Nat->Heap->Prop}{J:It}
  {Q:α->Hp->Prop} {RR:Aj->Ap->Result->Am->Prop} {E:Af} (AK:ziP X.prog X.w ac OK RB o0 na BY)
  (hlp:∀(it acc:Aj)(env:Env)(R:Result->Am->Prop)(s:Am)(I:Nat->Am->Prop)(n:Nat),(∀ n s,I n s->∅ ((compTurn e 0 it acc env).onRaise (λx=>do noteFrame x env;theTreesLotGoes x)) (λfin s'=>match fin with
   |.done f=>R (.ok f) s'
   |.again c'=>c'=Code.compLoop e 0 it acc env/\∃ m,m<n/\I m s') (λe s'=>R (.error e) s') s)->I n s->codeAny (model X.prog X.w) X.A (.compLoop e 0 it acc env) R s)
  (heq:∀ it D env,compTurn e 0 it (.ref D) env=(do
   standAt iter.pos
   match<-pyNext it with
   |none=>pure (.done .next)
   |some v=>
    letOwnedTupleGo tg it v
    assign tg env v
    let mut ok:=true
    for c in ifs do
     if ok then ok<-isTrue c env (eval c env)
    if ok then act D env
    again (.compLoop e 0 it (.ref D) env)))
  (iy:∀(R:Result->Am->Prop)(s:Am)(it acc:Aj)(env:Env),codeAny (model X.prog X.w) X.A (.compLoop e 0 it acc env) R s->∅ (pyIter it) (λDS s'=>codeAny (model X.prog X.w) X.A (.compLoop e 0 DS acc env) R s') (notedBy (model X.prog X.w) X.A env λx s'=>R (.error x) s') s ->
   codeAny (model X.prog X.w) X.A (.compStart e 0 it acc env) R s) (ag:X.calm=true)
  (S:CSc X.env.scope X.N scope N' k ix)
  (hg:∀ cl C s2 H2 fp,PG ⋯ tg g) (ht:∀ cl C s2 H2 fp,PF ⋯ ifs tt) (he:∀ cl C s2 H2 fp,PEv ⋯ RB BY act te)
  (I2:Inv X pins O H s2) (T:Wj X.prog X.w X.K tg J fp it tn) (b9:tn 0 s2.heap) (f2:∀ b∈fp,JK X pins H b) (hR:VX ac k ix g tt te O J H Q)
  (aw:∀ x c,cl.lookup x=some c->X.env.cells.lookup x=some c) (az:∀ x,(x,NameKind.free)∈scope.names->∃ c,cl.lookup x=some c)
  (fin:∀(D C:Ap)(ys:α)(H5:Hp)(s5:Am)(m:Aq),Inv X pins O (upd H5 D (ac.ho ys)) s5->Q ys H5->H5 D=none->s5.heap.Ns C m->C≠D->⇑s2<=C->upd H5 D (ac.ho ys) C=none ->
   RR (.ref D) C (.ok .next) s5) :
  ∅ na (λacc s₃=>∅ (newFunctionEnv scope X.env.globals cl [] X.env.qual none .none (some X.env)) (λcy s₄=>
   codeAny (model X.prog X.w) X.A (.compStart e 0 (.ref it) acc { cy with scope:=relabel scope X.env }) (RR acc cy.locals) s₄) E s₃) E s2:=by
 erw[AK.new _ _ _ _ (vL ?_)]
 dsimp only
 generalize BA:s2.heap.push o0=G2
 let hC:G2.objs.size=⇑s2+1:=by rw[<- BA,Heap.size_push]
 let u1:⇑s2≠G2.objs.size:=by rw[hC];exact xj (uK _)
 let d8:⇑s2<=G2.objs.size:=by rw[hC];exact uN _
 let L:=ClOk.of I2 S aw az (g:=G2) (o:={ cls:=.type "dict",data:=.dict (List.toArray []) }) d8
 let below:∀ b,b<⇑s2->b≠G2.objs.size/\b≠⇑s2:=λb hb=>#[by rw[hC];exact xj (Nat.lt_succ_of_lt hb),xj hb]
 let old:∀ b o,s2.heap.get? b=some o->(pushCells (G2.push { cls:=.type "dict",data:=.dict (List.toArray []) }) scope.names).get? b=some o:=λb o e=>pushCells_keeps _ _ b o (x4 _ (BA ▸ x4 _ e))
 let rb:(pushCells (G2.push { cls:=.type "dict",data:=.dict (List.toArray []) }) scope.names).get? ⇑s2=some o0:=pushCells_keeps _ _ _ _ (x4 _ (BA ▸ x8 _ AK.live))
 let oz:(pushCells (G2.push { cls:=.type "dict",data:=.dict (List.toArray []) }) scope.names).Ns G2.objs.size _:=(Heap.Ns.new G2 (.type "dict")).keeps (pushCells_keeps _ _)
 generalize pushCells (G2.push { cls:=.type "dict",data:=.dict (List.toArray []) }) scope.names=h₁ at L old rb oz |-
 generalize cellsFrom (G2.objs.size+1) scope.names cl=cl2 at L |-
 let mr:tn 0 h₁:=T.keep _ _ _ b9 λb _ o e=>old b o e
 let pz:∀ b∈fp,∃ o,s2.heap.get? b=some o:=λb hb=>let #[o,e,_]:=T.obj _ _ b9 b hb;#[o,e]
 let Ic:Inv (X.comp N' scope cl2 G2.objs.size s2 H fp) [] (cS k ix O) H { s2 with heap:=h₁ } :=
  I2.child S f2 pz L d8 old oz rfl I2.bare
 let Fe:⇑s2∉(X.comp N' scope cl2 G2.objs.size s2 H fp).fs:=λhz=>by
  rcases xC.mp (I2.stkSub _ hz)with z | z
  ·exact absurd I2.lt (by rw[<- z];exact ub _)
  ·erw[I2.nofs (xh _) z]
 let sf:∀ x c,cl2.lookup x=some c->c≠⇑s2:=λx c e=>by
  rcases L.src x c e with e | e
  ·let(v,ob,bu,_):=I2.cell x c e
   erw[xj (x5 bu)]
  ·erw[Ne.symm (xj (Nat.lt_of_le_of_lt d8 e.1))]
 have r9:∀(ys:α)(ob:Obj)(O':St)(H':Hp)(s':Am),Inv (X.comp N' scope cl2 G2.objs.size s2 H fp) [] O' H' s'->OK ys ob->s'.heap.get? ⇑s2=some ob->H' ⇑s2=none ->
   Inv (X.comp N' scope cl2 G2.objs.size s2 H fp) [(⇑s2,ob)] O' H' s':=λys ob O' H' s' I' ok e hn=>I'.pins_of λp hp=>by
  let e':p=(⇑s2,ob):= ~~~hp
  subst e'
  exact#[e,hn,u1,Fe,λv z=>AK.cell _ _ ok v z]
 let BK:∀(ob:Obj)(H':Hp),(∀ b∈fp,H' b=none)->∀ b∈fp,JK (X.comp N' scope cl2 G2.objs.size s2 H fp) [(⇑s2,ob)] H' b:=λob H' hn b hb=>by
  let(f0,f1,rp,f3,f4,f5):=f2 b hb
  let(o,e):=pz b hb
  let hb2:=below b (x5 e)
  refine#[hn b hb,hb2.1,λhz=>?_,.inl hb,λx c z=>?_,λp hp=>?_]
  ·rcases xC.mp (I2.stkSub b hz)with z | z
   ·erw[f1 z]
   ·erw[rp z]
  ·rcases L.src x c z with z | z
   ·erw[f4 x c z]
   ·erw[Ne.symm (xj (Nat.lt_trans (xq (x5 e) d8) z.1))]
  ·let e':p=(⇑s2,ob):= ~~~hp
   subst e'
   erw[Ne.symm hb2.2]
 let(W,(m0,w0),turn):=hR
 have loop:codeAny (model X.prog X.w) X.A (.compLoop e 0 (.ref it) (.ref ⇑s2) (compEnvC scope cl2 G2.objs.size X.env)) (RR (.ref ⇑s2) G2.objs.size)
   { s2 with heap:=h₁ }:=by
  refine yZ (hlp _ _ _) (heq _ _ _) (λn s'=>∃ i ys ob H',Inv (X.comp N' scope cl2 G2.objs.size s2 H fp) [(⇑s2,ob)] (cS k ix O) H' s'/\OK ys ob/\tn i s'.heap/\(∀ b∈fp,H' b=none)/\W i n ys H') ?_ m0
   #[0,_,o0,H,r9 _ _ _ _ _ Ic AK.z0 rb (I2.hok.fresh (xh _)),AK.z0,mr,λb hb=>(f2 b hb).1,w0]
  rintro n s3 ⟨i,ys,ob,H3,I3,rv,nj,rn,w3⟩
  let(hlen,hw):=turn i n ys H3 w3
  let CK:H3 ⇑s2=none:=(I3.pin (⇑s2,ob) (by simp)).2.1
  let Fv:s3.heap.get? ⇑s2=some ob:=(I3.pin (⇑s2,ob) (by simp)).1
  rcases hw with ⟨stop,q⟩ | ⟨go,N,hN,step⟩
  ·refine thn (T.done (X.comp N' scope cl2 G2.objs.size s2 H fp) rfl rfl rfl ag i _ s3 _ H3 _ I3 (BK _ _ rn) nj stop) λr s4 ⟨hr,I4⟩=>?_
   subst hr
   let BC:s4.heap.get? ⇑s2=some ob:=(I4.pin (⇑s2,ob) (by simp)).1
   let Ib:Inv X pins O H3 s4:=I2.back f2 I4
   let hz:ac.len ys<=sizeLine:=uh hlen
   let(m',hn',_):=I4.loc
   let It:=Ib.track I2.sz CK (Ne.symm (xj I2.lt)) (λx c e=>by
    let(v,ob,bu,_):=I2.cell x c e
    exact xj (x5 bu)) (λp hp=>xj (x5 (I2.pin p hp).1)) (AK.ok _ _ _ _ _ rv hz I2.big BC)
   exact fin _ _ ys H3 s4 m' It q CK hn' (Ne.symm u1) d8 (by rw[zI (Ne.symm u1)];exact I4.free)
  ·refine thn (T.item (X.comp N' scope cl2 G2.objs.size s2 H fp) rfl rfl rfl ag i _ s3 _ H3 _ I3 (BK _ _ rn) nj go) λr s4 ⟨u,hr,h4⟩=>?_
   subst hr
   erw[thn h4 λ_ s5 ⟨x,H5,I5,r5,y5,ip,BJ⟩=>?_]
   let I5':=I5.pinned (BK ob H5 BJ) (T.obj _ _ ip)
   erw[thn (hg _ _ _ _ _ _ s5 _ H5 x u _ I5' r5 (step x H5 y5)) λ_ s6 ⟨O6,H6,I6,hσ,q6⟩=>?_]
   erw[thn (ht _ _ _ _ _ _ s6 O6 H6 _ I6 q6) λok s7 ⟨H7,I7,q7⟩=>?_]
   let wk:∀{pl:Ak}{H':Hp}{s':Am},Inv (X.comp N' scope cl2 G2.objs.size s2 H fp) pl O6 H' s'->Inv (X.comp N' scope cl2 G2.objs.size s2 H fp) pl (cS k ix O) H' s':=λ{pl H' s'} I'=>
    I'.weak (by rw[Ic.len,I'.len]) λj v ev=>by
     by_cases hj:j<k
     ·unfold cS at ev
      rw[xc (~~~hj),xN,if_pos hj]at ev
      cases ev
     ·obtain⟨j',rfl⟩:∃ j',j=k+j':=#[j-k,by lia]
      rw[<- List.getElem?_drop,hσ,List.getElem?_drop]
      erw[ev]
   let Cc:∀{O':St}{H':Hp}{s':Am},Inv (X.comp N' scope cl2 G2.objs.size s2 H fp) ([(⇑s2,ob)]++W0 fp s5.heap) O' H' s'->tn (i+1) s'.heap/\∀ b∈fp,H' b=none:=λ{O' H' s'} I'=>
    ⟨T.keep _ _ _ ip λb hb o e=>(I'.pin (b,o) (xz _ (xz _ (j3 hb e)))).1,λb hb=>by
     let(o,e,_):=T.obj _ _ ip b hb
     exact (I'.pin (b,o) (xz _ (xz _ (j3 hb e)))).2.1⟩
   cases ok with
   |false=>
    rw[if_neg (by decide)]at q7 |-
    let(m',hm,w7):=hN _ _ q7
    let(t7,f7):=Cc I7
    exact#[m',hm,i+1,ys,ob,H7,wk I7.unpinned,rv,t7,f7,w7]
   |true=>
    rw[if_pos rfl]at q7 |-
    erw[thn (he _ _ _ _ _ ⇑s2 _ s7 O6 H7 _ _ I7 q7 λy b s8 H8 I8 r8 DQ=>?_) λ_ _ q=>q]
    let(m',hm,w8):=hN _ _ DQ
    let(t8,f8):=Cc I8
    let BS:Inv (X.comp N' scope cl2 G2.objs.size s2 H fp) [(⇑s2,ob)] O6 H8 s8:=I8.unpinned
    let e8:s8.heap.get? ⇑s2=some ob:=(BS.pin (⇑s2,ob) (by simp)).1
    let n8:H8 ⇑s2=none:=(BS.pin (⇑s2,ob) (by simp)).2.1
    erw[AK.st _ _ s8 _ _ ys ob y b rv hlen r8 e8 λh' o' t' sb e9 B5=>?_]
    let Fj:Inv (X.comp N' scope cl2 G2.objs.size s2 H fp) [] O6 H8 s8:=BS.pins_of λp hp=>by cases hp
    let I9:Inv (X.comp N' scope cl2 G2.objs.size s2 H fp) [] O6 H8 { s8 with heap:=h',toks:=t' } :=
     Fj.turned (λb o hb e=>(sb.2 b hb).trans e) n8 u1 (.inr (xh _)) (λx c e=>sf x c e) (λp hp=>by cases hp)
    refine#[m',hm,i+1,_,o',H8,wk (r9 _ _ _ _ _ I9 B5 e9 n8),B5,?_,f8,w8]
    exact T.keep _ _ _ t8 λb hb o e=>(sb.2 b (by
     let(o',e'):=pz b hb
     exact (below b (x5 e')).2)).trans e
 erw[iy _ _ _ _ _ loop (T.self X.A 0 _ _ _ mr loop)]
abbrev zlm (ys:An) (n:Nat):Obj:={ cls:=.type "list",data:=.seq ys.toArray n }
def zaI:ziP P w zgi (λys o=>∃ ab n,Vals ys ab/\o=zlm ab n) RelV (zlm [] 0) (newList []) (λD b=>do let _<-call (.builtin "list.append") [.ref D,b]) where
 new A E s Q h:=wpAny_newObj_type h
 z0:=#[[],0,.nil,rfl]
 live:=rfl
 cell a o h v z:=by
  let(ab,n,_,rfl):=h
  cases z
 st A E s Q D a o y b h hl r e k:=by
  let(ab,n,rv,rfl):=h
  refine x3 (call_meets F.slot_list_append #[_,e,rfl] F.entry_list_append (F.args_list_append_2 _ _) (PySem.list_append D ab.toArray n b (by
   have:=rv.length
   let dv:a.length<sizeLine:=hl
   rw[xk];lia)) #[e,x6 ?_])
  let q9:=PySem.IsL.update e (·.push b)
  rw[show ab.toArray.push b=(ab++ [b]).toArray by simp]at q9
  exact k _ _ _ #[by simp[Heap.update],λc hc=>Xd s.heap _ (Ne.symm hc)] q9 #[ab++ [b],_,rv.append (.cons r .nil),rfl]
 ok H h D a o hk hz _ e:=by
  let(ab,n,rv,rfl):=hk
  exact#[hz,ab,n,rv,e]
def zaH:ziP P w zgh (λys o=>∃ vs,KV ys vs/\o.IsDictOf (qC P w) vs) (λ(y:Key×V) (b:Aj×Value)=>RelV (kV y.1) b.1/\RelV y.2 b.2) { cls:=.type "dict",data:=.dict (List.toArray []) } newDict (λD b=>holding [b.1,b.2] (dictSet D b.1 b.2)) where
 new A E s Q h:=wpAny_newObj_type h
 z0:=by
  refine#[[],.nil,?_]
  exact#[(List.toArray []),0,#[rfl,rfl,rfl],rfl,λ_ he=>by simp at he,Pairs.nil,List.nodup_nil]
 live:=rfl
 cell a o h v z:=by
  let(vs,_,es,ep,_,hd,_):=h
  rw[hd]at z;cases z
 st A E s Q D a o y b h hl r e k:=by
  let(vs,rv,hd):=h
  refine Xb (wpAny_dictSet_pairs (WO r.1) (Heap.dictOf_iff.mpr #[o,e,hd]) (λh' dd sb=>?_) (by rw[<- rv.length];exact uh hl))
  let(o',e',r'):=Heap.dictOf_iff.mp dd
  erw[k h' o' _ sb e' #[_,rv.put y.1 r.2,r']]
 ok H h D a o hk hz hb e:=by
  let(vs,rv,hd):=hk
  exact#[hz,x9.mpr (uQ hb),vs,rv,Heap.dictOf_iff.mpr #[o,e,hd]]
def ν7(I:Inv X pins O H s)(S:CSc X.env.scope X.N scope N' k ix) :
  ∃ cl,closureFor scope X.env=pure cl/\(∀ x c,cl.lookup x=some c->X.env.cells.lookup x=some c)/\(∀ x,(x,NameKind.free)∈scope.names->∃ c,cl.lookup x=some c) :=
 kC λy hy e=>by
  rcases S.fre y hy e with z | z
  ·erw[I.ok.has _ (.inl z)]
  ·erw[I.ok.has _ (.inr z)]
def Inv.letgo(I2:Inv X pins O H s2)(I5:Inv X pins O5 H5 s5)(c6:⇑s2<=C)(gn:H5 C=none)(hs:∀ b,b≠C->h'.get? b=s5.heap.get? b):Inv X pins O5 H5 { s5 with heap:=h' } :=
 I5.turned (λb o hb e=>(hs b hb).trans e) gn (Ne.symm (xj (xq I2.lt c6))) (.inr (xD I2.sz c6))
  (λx c e=>by
   let(v,ob,bu,_):=I2.cell x c e
   exact xj (xq (x5 bu) c6))
  (λp hp=>xj (xq (x5 (I2.pin p hp).1) c6))
end
section
variable {X:Cx}{elt tg iter:Expr}{ifs:Ag}{scope:Scope}{pos:Pos}{N':Ab}{k:Nat}{ix:Ac}{g:St->TG}{tt:St->TT}{te:St->TE}{wi:TI}
def KW:compTurn (.ListComp elt [#[tg,iter,ifs,0]] scope pos) 0 it (.ref D) env=(do
   standAt iter.pos
   match<-pyNext it with
   |none=>pure (.done .next)
   |some v=>
    letOwnedTupleGo tg it v
    assign tg env v
    let mut ok:=true
    for c in ifs do
     if ok then ok<-isTrue c env (eval c env)
    if ok then (do let _<-call (.builtin "list.append") [.ref D,<- eval elt env])
    again (.compLoop (.ListComp elt [#[tg,iter,ifs,0]] scope pos) 0 it (.ref D) env)):=compTurn_list elt tg iter ifs scope pos it (.ref D) env
def zfg {te:TE}(he:PE X elt te):PEv X RelV (λD b=>do let _<-call (.builtin "list.append") [.ref D,b]) (λD env=>do let _<-call (.builtin "list.append") [.ref D,<- eval elt env]) te:=λD pins s O H Q R I h k=>
 x3 (Xc (he pins s O H Q I h) (λb s' ⟨y,H',I',r,q⟩=>k y b s' H' I' r q) λ_ _ z=>z)
def Vd(ag:X.calm=true)(S:CSc X.env.scope X.N scope N' k ix)
  {pins:Ak} {O:St} {H:Hp} {s2:Am} {cl:List (Str×Addr)} {it:Ap} {fp:List Ap} {tn:Nat->Heap->Prop} {J:It} {Q:List V->Hp->Prop} {RR:Aj->Ap->Result->Am->Prop} {E:Af}
  (hg:∀ cl C s2 H2 fp,PG ⋯ tg (g O)) (ht:∀ cl C s2 H2 fp,PF ⋯ ifs (tt O)) (he:∀ cl C s2 H2 fp,PE ⋯ elt (te O))
  (I2:Inv X pins O H s2) (T:Wj X.prog X.w X.K tg J fp it tn) (b9:tn 0 s2.heap) (f2:∀ b∈fp,JK X pins H b) (hR:VX zgi k ix (g O) (tt O) (te O) O J H Q)
  (aw:∀ x c,cl.lookup x=some c->X.env.cells.lookup x=some c) (az:∀ x,(x,NameKind.free)∈scope.names->∃ c,cl.lookup x=some c)
  (fin:∀(D C:Ap)(ys:List V)(H5:Hp)(s5:Am)(m:Aq),Inv X pins O (upd H5 D (.lst ys)) s5->Q ys H5->H5 D=none->s5.heap.Ns C m->C≠D->⇑s2<=C->upd H5 D (.lst ys) C=none->RR (.ref D) C (.ok .next) s5) :
  ∅ (newList []) (λacc s₃=>∅ (newFunctionEnv scope X.env.globals cl [] X.env.qual none .none (some X.env)) (λcy s₄=>
   codeAny (model X.prog X.w) X.A (.compStart (.ListComp elt [#[tg,iter,ifs,0]] scope pos) 0 (.ref it) acc { cy with scope:=relabel scope X.env }) (RR acc cy.locals) s₄) E s₃) E s2 :=
 Vb zaI (act:=λD env=>do let _<-call (.builtin "list.append") [.ref D,<- eval elt env]) (λit acc env R s I n h h0=>codeAny_loop rfl I h n h0) (λ_ _ _=>KW) (λR s it acc env h0 h=>codeAny_compStart_list h0 h) ag S hg ht (λcl C s2 H2 fp=>zfg (he cl C s2 H2 fp)) I2 T b9 f2 hR aw az fin
def zhi(ag:X.calm=true)(S:CSc X.env.scope X.N scope N' k ix)(hi:PI X tg iter wi)
  (hg:∀ O cl C s2 H2 fp,PG ⋯ tg (g O)) (ht:∀ O cl C s2 H2 fp,PF ⋯ ifs (tt O)) (he:∀ O cl C s2 H2 fp,PE ⋯ elt (te O))
  (hs:∀ x,foldedSetIterable iter X.env x=pure x:=by intro _;rfl):PE X (.ListComp elt [#[tg,iter,ifs,0]] scope pos) (YI k ix wi g tt te):=by
 cbv
 let(cl,mi,aw,az):=ν7 I S
 rw[eval_ListComp]
 erw[wpAny_comprehension_free rfl hs mi S.kind S.loc (thn (hi pins s O H _ I h) λv s1 h1=>thn h1 λmv s2 h2=>?_)]
 let(it,fp,tn,J,H2,e,I2,T,b9,f2,hR):=h2
 subst e
 erw[Vd ag S (hg O) (ht O) (he O) I2 T b9 f2 hR aw az ?_]
 intro D C ys H5 s5 m I5 q hD hn u2 c6 gn
 exact#[m,hn,λh' d5=>#[.ref D,upd H5 D (.lst ys),I2.letgo I5 c6 gn d5.2,rfl,q D hD]]
def zhs{pos' spos:Pos}(hN:X.N.Nodup)(bx:X.N[i]?=some x)(hx:Loc X.env.scope x)(ag:X.calm=true)(S:CSc X.env.scope X.N scope N' k ix)(hi:PI X tg iter wi)
  (hg:∀ O cl C s2 H2 fp,PG ⋯ tg (g O)) (ht:∀ O cl C s2 H2 fp,PF ⋯ ifs (tt O)) (he:∀ O cl C s2 H2 fp,PE ⋯ elt (te O))
  (b8:swapsWith (.ListComp elt [#[tg,iter,ifs,0]] scope pos) (some (.Name x pos')) spos.line X.env=pure true)
  (hs:∀ x,foldedSetIterable iter X.env x=pure x:=by intro _;rfl) (hf:X.fn x=true∨X.env.scope.names.lookup x=some .local:=by first | exact .inl rfl | exact .inr rfl | assumption) :
  PS X (.Assign [.Name x pos'] (.ListComp elt [#[tg,iter,ifs,0]] scope pos) spos) (yL (YI k ix wi g tt te) (WH i)):=by
 intro pins s O H D' I h
 let(cl,mi,aw,az):=ν7 I S
 rw[exec_Assign_Name_used _ _ _ _ b8]
 erw[x3 (wpAny_standAt (x3 ?_))]
 refine x3 (Xc (wpAny_comprehension_free (Q:=λ_ s'=>SP X pins D' .next s') rfl hs mi S.kind S.loc
  (thn (hi pins s O H _ I h) λv s1 h1=>thn h1 λmv s2 h2=>?_)) (λ_ s' hq=>x6 (x6 hq)) λ_ _ e=>e)
 let(it,fp,tn,J,H2,e,I2,T,b9,f2,hR):=h2
 subst e
 erw[Vd ag S (hg O) (ht O) (he O) I2 T b9 f2 hR aw az ?_]
 intro D C ys H5 s5 m I5 q hD hn u2 c6 gn
 erw[wpAny_assign_Name (J7 (v:=.ref D) I5 hN bx hx rfl (λs' I' ⟨a,sb,ha⟩=>?_) hf)]
 let BD:C≠a:=by
  rcases ha with rfl | ha
  ·erw[Ne.symm (xj (xq I2.lt c6))]
  ·let(v,ob,bu,_):=I2.cell x a ha
   erw[Ne.symm (xj (xq (x5 bu) c6))]
 exact#[m,hn.sameBut sb BD,λh' d5=>#[_,_,I2.letgo I' c6 gn d5.2,q D hD]]
end
section
variable {X:Cx}{kx vx tg iter:Expr}{ifs:Ag}{scope:Scope}{pos:Pos}{N':Ab}{k:Nat}{ix:Ac}{g:St->TG}{tt:St->TT}{tk tv:St->TE}{wi:TI}
def zff{tk tv:TE}(hk:PE X kx tk)(hv:PE X vx tv):PEv X (λ(y:Key×V)(b:Aj×Value)=>RelV (kV y.1) b.1/\RelV y.2 b.2) (λD b=>holding [b.1,b.2] (dictSet D b.1 b.2)) (λD env=>do
   let kv<-eval kx env
   let vv<-holding [kv] (eval vx env)
   standAt { kx.pos with endLine:=vx.pos.endLine,endCol:=vx.pos.endCol }
   holding [kv,vv] (dictSet D kv vv)) (YJ tk tv):=λD pins s O H Q R I h kk=>
 x3 (Xc (hk pins s O H _ I h) (λkv s1 ⟨x,H1,I1,rx,q1⟩=>x3 (Xb (Xc (hv pins s1 O H1 _ I1 q1) (λvv s2 ⟨y,H2,I2,ry,k,ek,q2⟩=>
  x3 (wpAny_standAt (kk (k,y) (kv,vv) s2 H2 I2 #[by rw[<- ek];exact rx,ry] q2))) λ_ _ z=>z))) λ_ _ z=>z)
def Vc(ag:X.calm=true)(S:CSc X.env.scope X.N scope N' k ix)
  {pins:Ak} {O:St} {H:Hp} {s2:Am} {cl:List (Str×Addr)} {it:Ap} {fp:List Ap} {tn:Nat->Heap->Prop} {J:It} {Q:List (Key×V)->Hp->Prop} {RR:Aj->Ap->Result->Am->Prop} {E:Af}
  (hg:∀ cl C s2 H2 fp,PG ⋯ tg (g O)) (ht:∀ cl C s2 H2 fp,PF ⋯ ifs (tt O)) (hk:∀ cl C s2 H2 fp,PE ⋯ kx (tk O)) (hv:∀ cl C s2 H2 fp,PE ⋯ vx (tv O))
  (I2:Inv X pins O H s2) (T:Wj X.prog X.w X.K tg J fp it tn) (b9:tn 0 s2.heap) (f2:∀ b∈fp,JK X pins H b) (hR:VX zgh k ix (g O) (tt O) (YJ (tk O) (tv O)) O J H Q)
  (aw:∀ x c,cl.lookup x=some c->X.env.cells.lookup x=some c) (az:∀ x,(x,NameKind.free)∈scope.names->∃ c,cl.lookup x=some c)
  (fin:∀(D C:Ap)(ys:List (Key×V))(H5:Hp)(s5:Am)(m:Aq),Inv X pins O (upd H5 D (.dK ys)) s5->Q ys H5->H5 D=none->s5.heap.Ns C m->C≠D->⇑s2<=C->upd H5 D (.dK ys) C=none->RR (.ref D) C (.ok .next) s5) :
  ∅ newDict (λacc s₃=>∅ (newFunctionEnv scope X.env.globals cl [] X.env.qual none .none (some X.env)) (λcy s₄=>
   codeAny (model X.prog X.w) X.A (.compStart (.DictComp kx vx [#[tg,iter,ifs,0]] scope pos) 0 (.ref it) acc { cy with scope:=relabel scope X.env }) (RR acc cy.locals) s₄) E s₃) E s2 :=
 Vb zaH (act:=λD env=>do
   let kv<-eval kx env
   let vv<-holding [kv] (eval vx env)
   standAt { kx.pos with endLine:=vx.pos.endLine,endCol:=vx.pos.endCol }
   holding [kv,vv] (dictSet D kv vv)) (λit acc env R s I n h h0=>codeAny_loop rfl I h n h0) (λit D env=>compTurn_dict kx vx tg iter ifs scope pos it D env) (λR s it acc env h0 h=>codeAny_compStart_dict h0 h) ag S hg ht (λcl C s2 H2 fp=>zff (hk cl C s2 H2 fp) (hv cl C s2 H2 fp)) I2 T b9 f2 hR aw az fin
def ze5(ag:X.calm=true)(S:CSc X.env.scope X.N scope N' k ix)(hi:PI X tg iter wi)
  (hg:∀ O cl C s2 H2 fp,PG ⋯ tg (g O)) (ht:∀ O cl C s2 H2 fp,PF ⋯ ifs (tt O)) (hk:∀ O cl C s2 H2 fp,PE ⋯ kx (tk O)) (hv:∀ O cl C s2 H2 fp,PE ⋯ vx (tv O))
  (hs:∀ x,foldedSetIterable iter X.env x=pure x:=by intro _;rfl):PE X (.DictComp kx vx [#[tg,iter,ifs,0]] scope pos) (vm k ix wi g tt (λO=>YJ (tk O) (tv O))):=by
 cbv
 let(cl,mi,aw,az):=ν7 I S
 erw[wpAny_comprehension_free rfl hs mi S.kind S.loc (thn (hi pins s O H _ I h) λv s1 h1=>thn h1 λmv s2 h2=>?_)]
 let(it,fp,tn,J,H2,e,I2,T,b9,f2,hR):=h2
 subst e
 erw[Vc ag S (hg O) (ht O) (hk O) (hv O) I2 T b9 f2 hR aw az ?_]
 intro D C ys H5 s5 m I5 q hD hn u2 c6 gn
 exact#[m,hn,λh' d5=>#[.ref D,upd H5 D (.dK ys),I2.letgo I5 c6 gn d5.2,rfl,q D hD]]
def zfm{pos' spos:Pos}(hN:X.N.Nodup)(bx:X.N[i]?=some x)(hx:Loc X.env.scope x)(ag:X.calm=true)(S:CSc X.env.scope X.N scope N' k ix)(hi:PI X tg iter wi)
  (hg:∀ O cl C s2 H2 fp,PG ⋯ tg (g O)) (ht:∀ O cl C s2 H2 fp,PF ⋯ ifs (tt O)) (hk:∀ O cl C s2 H2 fp,PE ⋯ kx (tk O)) (hv:∀ O cl C s2 H2 fp,PE ⋯ vx (tv O))
  (b8:swapsWith (.DictComp kx vx [#[tg,iter,ifs,0]] scope pos) (some (.Name x pos')) spos.line X.env=pure true)
  (hs:∀ x,foldedSetIterable iter X.env x=pure x:=by intro _;rfl) (hf:X.fn x=true∨X.env.scope.names.lookup x=some .local:=by first | exact .inl rfl | exact .inr rfl | assumption) :
  PS X (.Assign [.Name x pos'] (.DictComp kx vx [#[tg,iter,ifs,0]] scope pos) spos) (yL (vm k ix wi g tt (λO=>YJ (tk O) (tv O))) (WH i)):=by
 intro pins s O H D' I h
 let(cl,mi,aw,az):=ν7 I S
 rw[exec_Assign_Name_used _ _ _ _ b8]
 erw[x3 (wpAny_standAt (x3 ?_))]
 refine x3 (Xc (wpAny_comprehension_free (Q:=λ_ s'=>SP X pins D' .next s') rfl hs mi S.kind S.loc
  (thn (hi pins s O H _ I h) λv s1 h1=>thn h1 λmv s2 h2=>?_)) (λ_ s' hq=>x6 (x6 hq)) λ_ _ e=>e)
 let(it,fp,tn,J,H2,e,I2,T,b9,f2,hR):=h2
 subst e
 erw[Vc ag S (hg O) (ht O) (hk O) (hv O) I2 T b9 f2 hR aw az ?_]
 intro D C ys H5 s5 m I5 q hD hn u2 c6 gn
 erw[wpAny_assign_Name (J7 (v:=.ref D) I5 hN bx hx rfl (λs' I' ⟨a,sb,ha⟩=>?_) hf)]
 let BD:C≠a:=by
  rcases ha with rfl | ha
  ·erw[Ne.symm (xj (xq I2.lt c6))]
  ·let(v,ob,bu,_):=I2.cell x a ha
   erw[Ne.symm (xj (xq (x5 bu) c6))]
 exact#[m,hn.sameBut sb BD,λh' d5=>#[_,_,I2.letgo I' c6 gn d5.2,q D hD]]
end
class Cs where
 adr:Str->Ap
variable [Cs]
def ExO(C:Ap)(dx:Option Ap)(a:Ap):HO:=.ext λh=>∃ t,h.get? a=some { cls:=.ref C,dict:=dx,data:=.fields (List.toArray [.ref t,.none,.none,.none,.bool false,.none]) }
def kK(p:Str×V):Key×V:=(.inr p.1,p.2)
def dK(p:Str×PyData):PyData×PyData:=(.str p.1,p.2)
mutual
inductive Rep(M:Ae)(H:Hp):V->PyData->Prop
 |none:Rep M H .non .none
 |bool (b:Bool):Rep M H (.bl b) (.bool b)
 |int (i:Int):Rep M H (.int i) (.int i)
 |str (x:Str):Rep M H (.str x) (.str x)
 |list {a:Ap} {vs:List V} {ds:Aa}:H a=some (.lst vs)->¬ M a->RepL M H vs ds->Rep M H (.ref a) (.list ds)
 |tuple {a:Ap} {vs:List V} {ds:Aa}:H a=some (.tup vs)->RepL M H vs ds->Rep M H (.ref a) (.tuple ds)
 |dict {a:Ap} {kvs:List (Str×V)} {ds:Ad}:Rd H a (.dK (kvs.map kK))->¬ M a->kvs.map (·.1)=ds.map (·.1)->RepL M H (kvs.map (·.2)) (ds.map (·.2))->Rep M H (.ref a) (.dict (ds.map dK))
 |inst {a dx:Ap} {c:Str} {fs:List (Str×V)} {ds:Ad}:H a=some (.ins (Cs.adr c) dx fs)->¬ M a->fs.map (·.1)=ds.map (·.1)->RepL M H (fs.map (·.2)) (ds.map (·.2))->Rep M H (.ref a) (.dict ((.none,.str c)::ds.map dK))
 |exo {a:Ap} {dx:Option Ap} {c:Str} {fs:List (Str×V)} {ds:Ad}:H a=some (ExO (Cs.adr c) dx a)->¬ M a->(dx=none/\fs= []∨∃ d,dx=some d/\H d=some (.xd fs)/\¬ M d)->fs.map (·.1)=ds.map (·.1)->RepL M H (fs.map (·.2)) (ds.map (·.2))->Rep M H (.ref a) (.dict ((.bool true,.str c)::ds.map dK))
inductive RepL(M:Ae)(H:Hp):List V->Aa->Prop
 |nil:RepL M H [] []
 |cons {v:V} {vs:List V} {d:PyData} {ds:Aa}:Rep M H v d->RepL M H vs ds->RepL M H (v::vs) (d::ds)
end
def zkZ(M:Ae)(H H':Hp):Prop:=∀ b o,¬ M b->H b=some o->H' b=some o
def TupM(H H':Hp):Prop:=∀ b xs,H b=some (.tup xs)->H' b=some (.tup xs)
structure ziS(M:Ae)(H H':Hp):Prop where
 same:zkZ M H H'
 tups:TupM H H'
 stay:∀ b,H b≠none->H' b≠none
def Same.grow(s:Same H H'):ziS M H H' :=
 ⟨λb o _ e=>s b o e,λb xs e=>s b _ e,λb h=>by
  cases q:H b with
  |none=>erw[absurd q h]
  |some o=>rw[s b o q];exact λz=>nomatch z⟩
def Rep.go(k:∀ a o,H a=some o->¬ M a->(∀ x,o≠ .dK x)->(∀ b x,o≠ .frz b (.dK x))->H' a=some o/\¬ M' a)(t:∀ a xs,H a=some (.tup xs)->H' a=some (.tup xs))
  (dd:∀ a x,Rd H a (.dK x)->¬ M a->Rd H' a (.dK x)/\¬ M' a) {v:V} {d:PyData} (r:Rep M H v d):Rep M' H' v d :=
 Rep.rec (motive_1:=λv d _=>Rep M' H' v d) (motive_2:=λvs ds _=>RepL M' H' vs ds) .none .bool .int .str
  (λe n _ r=>let z:=k _ _ e n (λ_ z=>nomatch z) (λ_ _ z=>nomatch z);.list z.1 z.2 r) (λe _ r=>.tuple (t _ _ e) r) (λe n q _ r=>.dict (dd _ _ e n).1 (dd _ _ e n).2 q r)
  (λe n q _ r=>let z:=k _ _ e n (λ_ z=>nomatch z) (λ_ _ z=>nomatch z);.inst z.1 z.2 q r)
  (λe n x q _ r=>let z:=k _ _ e n (λ_ z=>nomatch z) (λ_ _ z=>nomatch z);.exo z.1 z.2 (x.imp id λ⟨d,w,q,m⟩=>let z:=k _ _ q m (λ_ z=>nomatch z) (λ_ _ z=>nomatch z);#[d,w,z.1,z.2]) q r) .nil (λ_ _ r t=>.cons r t) r
def RepL.ind{H:Hp}{P:List V->Aa->Prop}(h0:P [] [])(h1:∀{v vs d ds},Rep M H v d->RepL M H vs ds->P vs ds->P (v::vs) (d::ds))(r:RepL M H vs ds):P vs ds:=by
 induction vs generalizing ds with
 |nil=>cases r;exact h0
 |cons v vs ih=>cases r with
  |cons r t=>erw[h1 r t (ih t)]
def j9{M M':Ae}(hr:∀ v d,Rep M H v d->Rep M' H' v d)(r:RepL M H vs ds):RepL M' H' vs ds:=r.ind .nil λr _ t=>.cons (hr _ _ r) t
def Rep.grow(g:ziS M H H')(r:Rep M H v d):Rep M H' v d :=
 r.go (λa o e n _ _=>#[g.same _ _ n e,n]) g.tups λa x e n=>#[e.imp (g.same _ _ n) λ⟨o,z⟩=>#[o,g.same _ _ n z],n]
def RepL.grow(g:ziS M H H')(r:RepL M H vs ds):RepL M H' vs ds:=j9 (λ_ _=>Rep.grow g) r
def Rep.less(g:∀ b,M' b->H b≠ .none->M b)(r:Rep M H v d):Rep M' H v d :=
 r.go (λa o e n _ _=>#[e,λz=>n (g _ z (by rw[e];exact λz=>nomatch z))]) (λ_ _ e=>e) λa x e n=>#[e,λz=>n (g _ z (by rcases e with e | ⟨o,e⟩<;>rw[e]<;>exact λz=>nomatch z))]
def RepL.length{ds:Aa}(r:RepL M H vs ds):vs.length=ds.length:=r.ind (P:=λvs ds=>vs.length=ds.length) rfl λ_ _ ih=>congrArg (·+1) ih
def RepL.append{ds es:Aa}(r:RepL M H vs ds)(s:RepL M H ws es):RepL M H (vs++ws) (ds++es):=r.ind (P:=λvs ds=>RepL M H (vs++ws) (ds++es)) s λr _ ih=>.cons r ih
def RepL.get{H:Hp}{ds:Aa}{i:Nat}{v:V}(r:RepL M H vs ds):vs[i]?=some v->∃ d,ds[i]?=some d/\Rep M H v d :=
 r.ind (P:=λvs ds=>∀ i:Nat,vs[i]?=some v->∃ d,ds[i]?=some d/\Rep M H v d) (λ_ e=>nomatch e) (λr _ ih i e=>by
  cases i with
  |zero=>cases e;exact#[_,rfl,r]
  |succ i=>exact ih i e) i
def RepL.get'{H:Hp}{i:Nat}{d:PyData}(r:RepL M H vs ds)(e:ds[i]?=some d):∃ v,vs[i]?=some v/\Rep M H v d:=by
 let hl:=r.length
 let hi:i<vs.length:=by rw[hl];exact (xa.mp e).1
 let(d',e',r'):=r.get (i:=i) (v:=vs[i]) (by simp[hi])
 rw[e]at e';cases e'
 exact#[vs[i],by simp[hi],r']
def RepL.take{ds:Aa}(n:Nat)(r:RepL M H vs ds):RepL M H (vs.take n) (ds.take n):=r.ind (P:=λvs ds=>∀ n:Nat,RepL M H (vs.take n) (ds.take n)) (λn=>by simp;exact .nil) (λr _ ih n=>by
    cases n with
    |zero=>erw[.nil]
    |succ n=>exact .cons r (ih n)) n
def RepL.drop{ds:Aa}(n:Nat)(r:RepL M H vs ds):RepL M H (vs.drop n) (ds.drop n):=r.ind (P:=λvs ds=>∀ n:Nat,RepL M H (vs.drop n) (ds.drop n)) (λn=>by simp;exact .nil) (λr t ih n=>by
    cases n with
    |zero=>erw[.cons r t]
    |succ n=>exact ih n) n
def RepL.ints:∀(ns:List Int),RepL M H (ns.map V.int) (ns.map PyData.int)
 |[]=>.nil
 |n::ns=>.cons (.int n) (RepL.ints ns)
def Rep.reads(ok:HOk P w H h)(r:Rep M H v d):d.canLay0=true->RelV v u->∃ as,Reads h u d as :=
 Rep.rec (motive_1:=λv d _=>∀ u,d.canLay0=true->RelV v u->∃ as,Reads h u d as) (motive_2:=λvs ds _=>∀ us,PyData.canLayAll0 ds=true->Vals vs us->∃ as,ReadsAll h us ds as)
  (λu _ r=>by cases (show u=Value.none from r);exact#[_,.none]) (λb u _ r=>by cases (show u=Value.bool b from r);exact#[_,.bool b]) (λi u _ r=>by let(t,e):=(show ∃ t,u=Value.int i t from r);cases e;exact#[_,.int i t])
  (λx u _ r=>by let(t,e):=(show ∃ t,u=Value.str x t from r);cases e;exact#[_,.str x t])
  (λ{a vs ds} e n q ih u l r=>by
   cases (show u=Value.ref a from r)
   let(_,ab,c,rv,ho):=(show ObjOk P w H h a (.lst vs) from ok a _ e)
   let(as,z):=ih _ l rv
   exact#[_,.list ho rfl rfl (~~~z)])
  (λ{a vs ds} e q ih u l r=>by
   cases (show u=Value.ref a from r)
   let(_,ab,rv,o,ho,hc,c,hd):=(show ObjOk P w H h a (.tup vs) from ok a _ e)
   let(as,z):=ih _ l rv
   exact#[_,.tuple ho hc hd (~~~z)])
  (λ_ _ _ _ _ _ l _=>by cases l) (λ_ _ _ _ _ _ l _=>by cases l) (λ_ _ _ _ _ _ _ l _=>by cases l) (λus _ r=>by cases r;exact#[_,.nil])
  (λ_ _ i1 i2 us l r=>by
   let l':=xL.mp l
   cases r with
   |cons r rs=>
    let(as,z):=i1 _ l'.1 r
    let(bs,y):=i2 _ l'.2 rs
    exact#[_,.cons z y]) r u
def RepL.reads{w:World}{H:Hp}{h:Heap}(ok:HOk P w H h){vs:List V}{ds:Aa}(r:RepL M H vs ds):PyData.canLayAll0 ds=true->Vals vs us->∃ as,ReadsAll h us ds as :=
 r.ind (P:=λvs ds=>∀ us,PyData.canLayAll0 ds=true->Vals vs us->∃ as,ReadsAll h us ds as) (λus _ r=>by cases r;exact#[_,.nil]) (λq _ ih us l r=>by
  let l':=xL.mp l
  cases r with
  |cons r rs=>
   let(as,z):=q.reads ok l'.1 r
   let(bs,y):=ih _ l'.2 rs
   exact#[_,.cons z y]) us
section
variable (X:Cx)
def wpE(e:Expr):TE:=λO H Q=>∀(pins:Ak)(s:Am),Inv X pins O H s->∅ (eval e X.env) (EP X pins O Q) X.xe s
def wpT(e:Expr):TT:=λO H Q=>∀(pins:Ak)(s:Am),Inv X pins O H s->∅ (isTrue e X.env (eval e X.env)) (TP X pins O Q) X.xe s
def wpW(e:Expr):TT:=λO H Q=>∀(whole:Sem Aj)(pins:Ak)(s:Am),Inv X pins O H s->∅ (isTrue e X.env whole) (TP X pins O Q) X.xe s
def wpA(es:Ag):TA:=λO H Q=>∀(pos:Pos)(pins:Ak)(s:Am),Inv X pins O H s->∅ (spliced (backTo pos (starEach es X.env))) (AP X pins O Q) X.xe s
def wpS(st:Stmt):TS:=λD O H=>∀(pins:Ak)(s:Am),Inv X pins O H s->∅ (exec st X.env) (SP X pins D) X.xe s
def wpB(st:List Stmt):TS:=λD O H=>∀(pins:Ak)(s:Am),Inv X pins O H s->∅ (execs st X.env) (SP X pins D) X.xe s
def wpG(tg:Expr):TG:=λv O H Q=>∀(pins:Ak)(s:Am)(u:Aj),Inv X pins O H s->RelV v u->∅ (assign tg X.env u) (λ_ s'=>∃ O' H',Inv X pins O' H' s'/\Q O' H') X.xe s
def wpF(ifs:Ag):TT:=λO H Q=>∀(pins:Ak)(s:Am),Inv X pins O H s ->
 ∅ (forIn ifs true λc r=>if r=true then do let ok<-isTrue c X.env (eval c X.env);pure (ForInStep.yield ok) else pure (ForInStep.yield r)) (TP X pins O Q) X.xe s
def wpI(tg iter:Expr):TI:=λO H R=>∀(pins:Ak)(s:Am),Inv X pins O H s ->
  ∅ (eval iter X.env) (λv s1=>∅ (pyIter v) (PIE X pins O tg R) X.xe s1) X.xe s
end
section
variable {X:Cx}{e:Expr}{es:Ag}{st:Stmt}{c7:List Stmt}{tg iter:Expr}{O:St}{H:Hp}
def zF:PE X e (wpE X e):=λpins s O H Q I h=>h pins s I
def Zh:PT X e (wpT X e):=λpins s O H Q I h=>h pins s I
def zax:PW X e (wpW X e):=λwh pins s O H Q I h=>h wh pins s I
def Zg:PA X es (wpA X es):=λpos pins s O H Q I h=>h pos pins s I
def zaw:PS X st (wpS X st):=λpins s O H D I h=>h pins s I
def jQ:PSs X c7 (wpB X c7):=λpins s O H D I h=>h pins s I
def yy:PG X tg (wpG X tg):=λpins s O H v u Q I r h=>h pins s u I r
def JA:PI X tg iter (wpI X tg iter):=λpins s O H R I h=>h pins s I
def PE.wp(h:PE X e t)(q:t O H Q):wpE X e O H Q:=λpins s I=>h pins s O H Q I q
def PT.wp(h:PT X e t)(q:t O H Q):wpT X e O H Q:=λpins s I=>h pins s O H Q I q
def PW.wp(h:PW X e t)(q:t O H Q):wpW X e O H Q:=λwh pins s I=>h wh pins s O H Q I q
def PA.wp(h:PA X es t)(q:t O H Q):wpA X es O H Q:=λpos pins s I=>h pos pins s O H Q I q
def PS.wp(h:PS X st t)(q:t D O H):wpS X st D O H:=λpins s I=>h pins s O H D I q
def PSs.wp(h:PSs X c7 t)(q:t D O H):wpB X c7 D O H:=λpins s I=>h pins s O H D I q
def PG.wp(h:PG X tg t)(q:t v O H Q):wpG X tg v O H Q:=λpins s u I r=>h pins s O H v u Q I r q
def PF.wp(h:PF X ifs t)(q:t O H Q):wpF X ifs O H Q:=λpins s I=>h pins s O H Q I q
def PI.wp(h:PI X tg iter t)(q:t O H R):wpI X tg iter O H R:=λpins s I=>h pins s O H R I q
def wpE.mono(h:wpE X e O H Q)(k:∀ v H',Q v H'->Q' v H'):wpE X e O H Q':=λpins s I=>thn (h pins s I) λu s' ⟨v,H',a,b,c⟩=>#[v,H',a,b,k v H' c]
def wpA.mono(h:wpA X es O H Q)(k:∀ v H',Q v H'->Q' v H'):wpA X es O H Q':=λpos pins s I=>thn (h pos pins s I) λu s' ⟨v,H',a,b,c⟩=>#[v,H',a,b,k v H' c]
end
def Al(M:Ae)(H:Hp):Prop:=∀ a,M a->H a≠none
inductive Ent where
 |d (x:PyData)
 |v (x:V)
abbrev Ge:=List (Option Ent)
structure RS(M:Ae)(U:Ge)(O:St)(H:Hp):Prop where
 al:Al M H
 at':∀(i:Nat)(d:PyData),U[i]?=some (@&d)->∃ v,O[i]?=some (some v)/\Rep M H v d
 av:∀(i:Nat)(v:V),U[i]?=some (some (.v v))->O[i]?=some (some v)
def zkY(M:Ae)(H:Hp)(v:V):Ent->Prop
 |.d d=>Rep M H v d
 |.v u=>v=u
def RS.setE(h:RS M U O H)(r:zkY M H v z)(hi:i<O.length):RS M (U.set i (some z)) (O.set i (some v)) H:=⟨h.al,λj d' e=>by
 by_cases hj:j=i
 ·subst hj
  by_cases hl:j<U.length
  ·rw[xn hl]at e
   cases e
   exact#[v,by rw[xn hi],r]
  ·rw[xE (~~~hl)]at e;cases e
 ·rw[xg (Ne.symm hj)]at e |-
  exact h.at' j d' e,λj d' e=>by
 by_cases hj:j=i
 ·subst hj
  by_cases hl:j<U.length
  ·rw[xn hl]at e
   cases e
   rw[xn hi];exact congrArg (λx=>some (some x)) r
  ·rw[xE (~~~hl)]at e;cases e
 ·rw[xg (Ne.symm hj)]at e |-
  exact h.av j d' e⟩
def RS.setV(h:RS M U O H)(hi:i<O.length):RS M (U.set i (some (.v v))) (O.set i (some v)) H:=h.setE rfl hi
section
variable {X:Cx}{p:Pos}{d1 d2:PyData}
def qg{p:Ap}(n:H p=none):Same H (upd H p o):=λb u e=>by rw[zI (qF e n)];exact e
def zcg(hu:∀ n,n<=60->X.A.units+n<cLine):OpR X (compareOp .Eq) (λx y H Q=>∃ M M' d1 d2,Rep M H x d1/\Rep M' H y d2/\d1.canLay0=true/\d2.canLay0=true/\min d1.depth d2.depth<=60/\Q (.bl (PyData.eqv d1 d2)) H):=by
 intro pins s O H x y v u Q I rx ry h
 let(M,M',d1,d2,r1,r2,c1,c2,hd,q):=h
 let(as,z1):=r1.reads I.hok c1 rx
 let(bs,z2):=r2.reads I.hok c2 ry
 erw[SeqAt.compareEq_reads z1 z2 c1 c2 (hu _ hd) #[.bl _,H,I,rfl,q]]
def zch(hu:∀ n,n<=60->X.A.units+n<cLine):OpR X (compareOp .NotEq) (λx y H Q=>∃ M M' d1 d2,Rep M H x d1/\Rep M' H y d2/\d1.canLay0=true/\d2.canLay0=true/\min d1.depth d2.depth<=60/\Q (.bl (!PyData.eqv d1 d2)) H):=by
 intro pins s O H x y v u Q I rx ry h
 let(M,M',d1,d2,r1,r2,c1,c2,hd,q):=h
 let(as,z1):=r1.reads I.hok c1 rx
 let(bs,z2):=r2.reads I.hok c2 ry
 erw[SeqAt.compareNe_reads z1 z2 c1 c2 (hu _ hd) #[.bl _,H,I,rfl,q]]
def Room.u60(r:Room k A):∀ n,n<=60->A.units+n<cLine:=λn h=>by have:=r.units;lia
end
end L2
namespace PySem
open PySem.AutoSeq1 (wpAny_loadPart')
def YN(l:Ap)(items:Array Aj)(n:Nat)(dd:Option Ap)(sl:Array (Option Aj))(x:Int)(u:Tok)(hb1:¬ (decide (x< -(2 ^ 63))||decide (x≥2 ^ 63))=true)(fu:¬ (items.isEmpty||x==1)=true)(dj:¬ (decide (x<=0)||items.isEmpty)=true)(di:¬ (items.size:Int)*x>(2 ^ 63-1) / 8)(CA:¬ Builtin.Tuple.tupleTooMany ((items.size:Int)*x)=true)(hsz:((List.replicate x.toNat items).foldl (·++·) (List.toArray [])).size<=sizeLine) :
  Meets (Builtin.«tuple.__mul__» #[[.ref l,.int x u],[]]) (λ_ R s=>s.heap.get? l=some { cls:=.type "tuple",dict:=dd,data:=.seq items n,slots:=sl }/\R (.ok (.ret (Value.ref ⇑s))) { s with heap:=s.heap.push { cls:=Value.type "tuple",data:=Data.seq ((List.replicate x.toNat items).foldl (·++·) (List.toArray [])) },toks:=s.toks }) :=
 .of_wp λprog w A R s h=>by
  let(hp,g,d,tk,os):=s;let(hl,h):=h
  let f1:=AutoSeq1.idx_int
  wp_walk using Xg hl
  erw[wpAny_ite_false (Xa hb1) ?_]
  wp_walk using Xg hl
  first | (refine wpAny_ite_false (Xa di) ?_;wp_walk using Xg hl) | skip
  first | (refine wpAny_ite_false (Xa (Nat.not_lt.mpr hsz)) ?_;wp_walk using Xg hl) | skip
  exact#[_,rfl,h]
def YL(l:Ap)(items:Array Aj)(n:Nat)(dd:Option Ap)(sl:Array (Option Aj))(x:Int)(u:Tok)(hb1:¬ (decide (x< -(2 ^ 63))||decide (x≥2 ^ 63))=true)(fu:(items.isEmpty||x==1)=true) :
  Meets (Builtin.«tuple.__mul__» #[[.ref l,.int x u],[]]) (λ_ R s=>s.heap.get? l=some { cls:=.type "tuple",dict:=dd,data:=.seq items n,slots:=sl }/\R (.ok (.ret (Value.ref l))) { s with heap:=s.heap,toks:=s.toks }) :=
 .of_wp λprog w A R s h=>by
  let(hp,g,d,tk,os):=s;let(hl,h):=h
  let f1:=AutoSeq1.idx_int
  wp_walk using Xg hl
  erw[wpAny_ite_false (Xa hb1) ?_]
  wp_walk using Xg hl
  exact#[_,rfl,h]
def YM(l:Ap)(items:Array Aj)(n:Nat)(dd:Option Ap)(sl:Array (Option Aj))(x:Int)(u:Tok)(hb1:¬ (decide (x< -(2 ^ 63))||decide (x≥2 ^ 63))=true)(fu:¬ (items.isEmpty||x==1)=true)(dj:(decide (x<=0)||items.isEmpty)=true) :
  Meets (Builtin.«tuple.__mul__» #[[.ref l,.int x u],[]]) (λ_ R s=>s.heap.get? l=some { cls:=.type "tuple",dict:=dd,data:=.seq items n,slots:=sl }/\R (.ok (.ret (Value.ref ⇑s))) { s with heap:=s.heap.push { cls:=Value.type "tuple",data:=Data.seq (List.toArray []) },toks:=s.toks }) :=
 .of_wp λprog w A R s h=>by
  let(hp,g,d,tk,os):=s;let(hl,h):=h
  let f1:=AutoSeq1.idx_int
  wp_walk using Xg hl
  erw[wpAny_ite_false (Xa hb1) ?_]
  wp_walk using Xg hl
  exact#[_,rfl,h]
def Jy:fillsNumberSlot (.type "tuple") "mul" =pure false :=
 fillsNumberSlot_seq (id:= "tuple.__mul__") (r:=some (.builtin "tuple.__rmul__")) F.slot_tuple_mul.lookup (by decide +kernel) F.slot_tuple_rmul.lookup (by decide +kernel)
def vI:seqRepeat? (.type "tuple")=pure (some (.builtin "tuple.__mul__")):=by
 unfold seqRepeat?
 rw[seqSlot_of (T:= "tuple") (name:= "__mul__") (id:= "tuple.__mul__") F.slot_tuple_mul.lookup (by decide +kernel),seqSlot_of (T:= "tuple") (name:= "__rmul__") (id:= "tuple.__rmul__") F.slot_tuple_rmul.lookup (by decide +kernel)]
 rfl
def wQ(a:Int)(t:Tok)(l:Ap)(items:Array Aj)(n:Nat)(dd:Option Ap)(sl:Array (Option Aj)) :
  Meets (Builtin.«int.__rmul__» #[[.int a t,.ref l],[]]) (λ_ R s=>s.heap.get? l=some { cls:=.type "tuple",dict:=dd,data:=.seq items n,slots:=sl }/\R (.ok (.ret Value.notImplemented)) s) :=
 .of_wp λprog w A R s h=>by let(hp,g,d,tk,os):=s;let(hl,h):=h;wp_walk using Xg hl;exact#[_,rfl,h]
end PySem
namespace L2
open PySem PySem.Spec PyProof.Rows
variable [Cs]
section
variable {X:Cx}
def zlA(K:Ah):R2:=λx y H Q=>∃ l k xs,x=.ref l/\y=.int k/\SqT K H l xs/\ -(2 ^ 63)<=k/\k<2 ^ 63/\xs.length*k.toNat<=sizeLine /\
 ((xs= []∨k=1)->Q (.ref l) H)/\∀ p,H p=none->Q (.ref p) (upd H p (.tup (List.replicate k.toNat xs).flatten))
def zhe:OpR X (binaryOp .Mult) (zlA X.K):=by
 intro pins s O H x y v u Q I rx ry h
 let(l,k,xs,rfl,rfl,hH,h1,h2,hz,qs,q):=h
 cases rx
 let(t,rfl):=ry
 let(ab,r,hit,Cd):=I.tuple hH
 let hl:=r.length
 let((cls,dd,data,sl),ho,hc,n,hd):=id hit
 simp only at hc hd
 subst hc hd
 let hb1:¬ (decide (k< -(2 ^ 63))||decide (k≥2 ^ 63))=true:=by
  simp only[xQ,x0];lia
 let bg:List.foldl (λx1 x2=>x1++x2) (List.toArray []) (List.replicate k.toNat ab.toArray)=(List.replicate k.toNat ab).flatten.toArray:=by
  have:=JV ab k.toNat []
  rw[uO]at this
  erw[this]
 refine wpAny_binaryOp_repeat_ref (T:= "tuple") (U:= "int") (by decide) #[_,ho,rfl] (λs'=>typeIs_int s' k t) Jy F.fills_int_mul F.slot_int_rmul vI F.slot_int_index.lookup
  (call_meets F.slot_int_rmul (typeIs_int s k t) F.entry_int_rmul (F.args_int_rmul_2 _ _) (wQ k t l ab.toArray n dd sl) #[ho,rfl,#[_,ho,rfl],?_])
 by_cases fu:(ab.toArray.isEmpty||k==1)=true
 ·refine call_meets F.slot_tuple_mul #[_,ho,rfl] F.entry_tuple_mul (F.args_tuple_mul_2 _ _) (YL l ab.toArray n dd sl k t hb1 fu) #[ho,?_]
  refine#[.ref l,H,I,rfl,qs ?_]
  grind
 ·by_cases dj:(decide (k<=0)||ab.toArray.isEmpty)=true
  ·refine call_meets F.slot_tuple_mul #[_,ho,rfl] F.entry_tuple_mul (F.args_tuple_mul_2 _ _) (YM l ab.toArray n dd sl k t hb1 fu dj) #[ho,?_]
   let e0:(List.replicate k.toNat xs).flatten= []:=by
    simp only[xQ,x0]at dj
    rcases dj with z | z
    ·rw[show k.toNat=0 by lia];rfl
    ·exact absurd (by simp[z]) fu
   refine#[.ref ⇑s,_,I.laid (λb u e=>x4 _ e) (xh _) ?_,rfl,by have:=q _ (I.hok.fresh (xh _));rw[e0]at this;exact this]
   exact#[xS _,[],.nil,#[_,x8 _ rfl,rfl,_,rfl]]
  ·let hlen:ab.length*k.toNat<=sizeLine:=by rw[<- hl];exact hz
   let ck:0<k:=by
    simp only[xQ,x0]at dj;lia
   let hm:((ab.toArray.size:Int)*k)=((ab.length*k.toNat:Nat):Int):=by grind
   let hsl:(sizeLine:Nat)<=(2 ^ 63-1) / 8:=by decide
   let di:¬ (ab.toArray.size:Int)*k>(2 ^ 63-1) / 8:=by
    rw[hm]
    let E4:((2 ^ 63-1) / 8:Int)=(((2 ^ 63-1) / 8:Nat):Int):=by decide
    rw[E4]
    intro z
    have:=Int.ofNat_lt.mp z
    lia
   let CA:¬ Builtin.Tuple.tupleTooMany ((ab.toArray.size:Int)*k)=true:=by
    unfold Builtin.Tuple.tupleTooMany
    rw[hm,x0]
    intro z
    have:=Int.ofNat_lt.mp z
    lia
   refine call_meets F.slot_tuple_mul #[_,ho,rfl] F.entry_tuple_mul (F.args_tuple_mul_2 _ _) (YN l ab.toArray n dd sl k t hb1 fu dj di CA (by rw[bg,xk,yt,Nat.mul_comm];exact hlen)) #[ho,?_]
   rw[bg]
   refine#[.ref ⇑s,_,I.laid (λb u e=>x4 _ e) (xh _) ?_,rfl,q _ (I.hok.fresh (xh _))]
   exact#[by rw[yt,Nat.mul_comm];exact hz,_,r.rep k.toNat,#[_,x8 _ rfl,rfl,_,rfl]]
def RepL.rep(h:RepL M H vs ds):∀ k:Nat,RepL M H (List.replicate k vs).flatten (List.replicate k ds).flatten
 |0=>.nil
 |k+1=>by rw[xR,xR,ue,ue];exact h.append (RepL.rep h k)
def Rep.tup_inv(r:Rep M H v (.tuple ds)):∃ a vs,v=.ref a/\H a=some (.tup vs)/\RepL M H vs ds:=by
 cases r with
 |tuple e q=>exact#[_,_,rfl,e,q]
def Rep.lst_inv(r:Rep M H v (.list ds)):∃ a vs,v=.ref a/\H a=some (.lst vs)/\¬ M a/\RepL M H vs ds:=by
 cases r with
 |list e n q=>exact#[_,_,rfl,e,n,q]
variable {p:Pos}{a b:Expr}{d:PyData}{ds:Aa}
def zj8(K:Ah):R2:=λx y H Q=>∃ a b xs ys,x=.ref a/\y=.ref b/\SqT K H a xs/\SqT K H b ys/\xs.length+ys.length<=sizeLine/\(xs= []->Q (.ref b) H)/\(ys= []->Q (.ref a) H)/\∀ p,H p=none->Q (.ref p) (upd H p (.tup (xs++ys)))
def zeZ:OpR X (binaryOp .Add) (zj8 X.K):=by
 intro pins s O H x y v u Q I rx ry h
 let(a,b,xs,ys,rfl,rfl,ha,hb,hz,q0,q1,q):=h
 cases rx
 cases ry
 let(ab,r,hit,_):=I.tuple ha
 let(cv,r2,d6,_):=I.tuple hb
 by_cases hv:ab= []
 ·let((cls,dd,data,sl),ho,hc,n,hd):=id hit
  let((BR,ni,data2,sq),i8,di,n2,hd2):=id d6
  simp only at hc hd di hd2
  subst hc hd di hd2
  refine concat_meets #[_,ho,rfl] #[_,i8,rfl] noFill_tuple_add seq_tuple_add PySem.F.slot_tuple_add PySem.F.entry_tuple_add (PySem.F.args_tuple_add_2 _ _)
   (tuple_addW0 a b ab.toArray cv.toArray n n2 dd ni sl sq (by simp[hv])) #[ho,i8,#[.ref b,H,I,rfl,q0 ?_]]
  erw[r.nil_iff.mp hv]
 ·refine HT.cat_tup hit d6 hv (λhw=>#[.ref a,H,I,rfl,q1 (r2.nil_iff.mp hw)]) (λ_=>?_) (by rw[<- r.length,<- r2.length];exact hz)
  refine#[.ref ⇑s,_,I.laid (λb u e=>x4 _ e) (xh _) ?_,rfl,q _ (I.hok.fresh (xh _))]
  exact#[by rw[xm];exact hz,_,r.append r2,#[_,x8 _ rfl,rfl,_,rfl]]
def VV(r:RepL M H vs ds)(h:atI ds i=some d):∃ v,atI vs i=some v/\Rep M H v d:=by
 unfold atI at h |-
 rw[r.length]
 cases e:ixN ds.length i with
 |none=>rw[e]at h;cases h
 |some j=>
  rw[e]at h
  erw[r.get' h]
end
def tyD:PyData->String
 |.none=> "NoneType"
 |.bool _=> "bool"
 |.int _=> "int"
 |.str _=> "str"
 |.list _=> "list"
 |.tuple _=> "tuple"
 |.dict _=> "dict"
def Rep.ty {K:Ah}{v:V}(r:Rep M H v d) (hd:tyD d≠ "dict"):wz K H v (.type (tyD d)):=by
 cases r with
 |none=>erw[.non]
 |bool b=>erw[.bl b]
 |int i=>erw[.int i]
 |str x=>erw[.str x]
 |list e n q=>erw[.lst e]
 |tuple e q=>erw[.tup e]
 |dict _ _ _ _=>erw[absurd rfl hd]
 |inst _ _ _ _=>erw[absurd rfl hd]
 |exo _ _ _ _ _=>erw[absurd rfl hd]
section
variable {X:Cx}
def zdh:jT X (.builtin "isinstance") (λxs H Q=>∃ x T t k,xs= [x,.ty T]/\wz X.K H x t/\W.kitOne X.K t (.type T)=some k/\Q (.bl k) H):=by
 intro pins s O H xs us Q I r h
 let(x,T,t,k,rfl,ty,e,q):=h
 let(u,w',rfl,rx,rc):=zaC r
 cases (show w'=Value.type T from rc)
 erw[zb0 I rx ty e λtk=>#[.bl k,H,I.tok tk,rfl,q]]
variable {p:Pos}{b:Expr}
def zcs(bs:List Bool):(List.range bs.length).all (λi=>(bs[i]?).getD false)=bs.all id:=by
 let e:(List.range bs.length).map (λi=>(bs[i]?).getD false)=bs:=by
  apply List.ext_getElem
  ·simp
  ·intro i h1 h2
   simp[h2]
 let h:=congrArg (λl=>List.all l id) e
 rw[List.all_map]at h
 erw[h]
def zct(bs:List Bool):(List.range bs.length).any (λi=>(bs[i]?).getD false)=bs.any id:=by
 let e:(List.range bs.length).map (λi=>(bs[i]?).getD false)=bs:=by
  apply List.ext_getElem
  ·simp
  ·intro i h1 h2
   simp[h2]
 let h:=congrArg (λl=>List.any l id) e
 rw[uI]at h
 erw[h]
def zaD{bs:List Bool}(rv:Vals (bs.map V.bl) ab){i:Nat}(e:ab[i]?=some v):∃ b,bs[i]?=some b/\v=.bool b:=by
 let hi:=(xa.mp e).1
 let hl:=rv.length
 rw[xl]at hl
 let hb:i<bs.length:=by lia
 let(u,hu,ru):=rv.get (i:=i) (x:=V.bl bs[i]) (by simp[hb])
 rw[e]at hu;cases hu
 exact#[bs[i],by simp[hb],ru]
def zaX (hc:X.calm=true):jT X (.builtin "all") (λxs H Q=>∃ (p:Ap) (bs:List Bool),xs= [.ref p]/\SqL X.K H p (bs.map V.bl)/\Q (.bl (bs.all id)) H):=by
 intro pins s O H xs us Q I r h
 let(p,bs,rfl,hq,q):=h
 let(u,rfl,rx):=ZU r
 cases rx
 let(ab,rv,pl,hz):=I.list hq
 let ax:p≠⇑s:=by
  let(o,n,e,_):=pl
  erw[xj (x5 e)]
 let hl:=rv.length
 rw[xl]at hl
 refine call_all_walk (wpAny_pyIter_list pl.isList ⟨⇑s,_,_,_,_,_,λi=>(bs[i]?).getD false,rfl,Walks.list (show X.A.in1.handled=none from I.ok.hd hc) ⇑s p ax ab.toArray,
  #[#[_,x8 _ rfl,rfl,rfl],pl.isList.at λo e=>x4 _ e],λi v s' Q' E' hP hQ=>?_,λh' tk hk=>?_⟩)
 ·let(b,hb,rfl):=zaD rv (~~~hP)
  dsimp only at hQ;rw[hb]at hQ
  erw[Xh hQ]
 ·rw[xk,<- hl,zcs]
  refine#[.bl _,H,I.kept λb o e=>hk b o ?_ (x4 _ e),rfl,q]
  intro z
  rw[List.mem_singleton]at z
  exact absurd (x5 e) (by rw[z];exact ub _)
def zaY (hc:X.calm=true):jT X (.builtin "any") (λxs H Q=>∃ (p:Ap) (bs:List Bool),xs= [.ref p]/\SqL X.K H p (bs.map V.bl)/\Q (.bl (bs.any id)) H):=by
 intro pins s O H xs us Q I r h
 let(p,bs,rfl,hq,q):=h
 let(u,rfl,rx):=ZU r
 cases rx
 let(ab,rv,pl,hz):=I.list hq
 let ax:p≠⇑s:=by
  let(o,n,e,_):=pl
  erw[xj (x5 e)]
 let hl:=rv.length
 rw[xl]at hl
 refine call_any_walk (wpAny_pyIter_list pl.isList ⟨⇑s,_,_,_,_,_,λi=>(bs[i]?).getD false,rfl,Walks.list (show X.A.in1.handled=none from I.ok.hd hc) ⇑s p ax ab.toArray,
  #[#[_,x8 _ rfl,rfl,rfl],pl.isList.at λo e=>x4 _ e],λi v s' Q' E' hP hQ=>?_,λh' tk hk=>?_⟩)
 ·let(b,hb,rfl):=zaD rv (~~~hP)
  dsimp only at hQ;rw[hb]at hQ
  erw[Xh hQ]
 ·rw[xk,<- hl,zct]
  refine#[.bl _,H,I.kept λb o e=>hk b o ?_ (x4 _ e),rfl,q]
  intro z
  rw[List.mem_singleton]at z
  exact absurd (x5 e) (by rw[z];exact ub _)
def RepL.bls:∀{vs:List V}{bs:List Bool},RepL M H vs (bs.map PyData.bool)->vs=bs.map V.bl
 |_,[],.nil=>rfl
 |_,b::bs,.cons q t=>by cases q;rw[xr,<- RepL.bls t]
def zaQ:bootBuiltins "all" =some (.builtin "all"):=by decide +kernel
def zaR:bootBuiltins "any" =some (.builtin "any"):=by decide +kernel
def Q3:bootBuiltins "list" =some (.type "list"):=by decide +kernel
def wb:bootBuiltins "tuple" =some (.type "tuple"):=by decide +kernel
def v5:bootBuiltins "int" =some (.type "int"):=by decide +kernel
def kA:bootBuiltins "bool" =some (.type "bool"):=by decide +kernel
def JN:bootBuiltins "set" =some (.type "set"):=by decide +kernel
end
section
def zV(n:Nat):Aa:=(List.range n).map λ(i:Nat)=>PyData.int (i:Int)
def zC(n:Nat):(zV n).length=n:=by simp[zV]
def jf(h:(zV n)[i]?=some d):i<n/\d=.int (i:Int):=by
 unfold zV at h
 rw[xf]at h
 let hi:i<n:=by
  cases e:(List.range n)[i]? with
  |none=>rw[e]at h;cases h
  |some j=>simpa using (xa.mp e).1
 rw[um hi]at h
 exact#[hi,(Option.some.inj h).symm]
end
def zkT(X:Cx)(ts:Ag):TGs:=λvs O H Q=>∀(pins:Ak)(s:Am)(us:An),Inv X pins O H s->Vals vs us ->
  ∅ (assignInOrder ((assignEach ts X.env).map (·.2)) us) (λ_ s'=>∃ O' H',Inv X pins O' H' s'/\Q O' H') X.xe s
def WZ:PGs X ts (zkT X ts):=λpins s O H vs us Q I r h=>h pins s us I r
def PGs.wp(h:PGs X ts t)(q:t vs O H Q):zkT X ts vs O H Q:=λpins s us I r=>h pins s O H vs us Q I r q
section
end
def zi5(q:ix[j]?=some i0)(h:O[i0]?=some (some v)):(cS k ix O)[k+j]?=some (some v):=by
 unfold cS
 rw[xp (by simp),uu,Nat.add_sub_cancel_left,xf,q]
 simp[h]
section
variable {X:Cx}{elt tg iter:Expr}{ifs:Ag}{scope:Scope}{pos:Pos}{N':Ab}{k:Nat}{ix:Ac}{O:St}{H:Hp}{Q:VK}
def gU(X:Cx)(N':Ab)(scope:Scope)(tg:Expr)(O0:St):TG:=λv O H Q=>∀ cl C s2 H2 fp,wpG ⋯ tg v O H Q
def fU(X:Cx)(N':Ab)(scope:Scope)(ifs:Ag)(O0:St):TT:=λO H Q=>∀ cl C s2 H2 fp,wpF ⋯ ifs O H Q
def eU(X:Cx)(N':Ab)(scope:Scope)(elt:Expr)(O0:St):TE:=λO H Q=>∀ cl C s2 H2 fp,wpE ⋯ elt O H Q
def ze6(ag:X.calm=true)(S:CSc X.env.scope X.N scope N' k ix)(hf:∀ x,foldedSetIterable iter X.env x=pure x:=by intro _;rfl) :
    PE X (.ListComp elt [#[tg,iter,ifs,0]] scope pos) (YI k ix (wpI X tg iter) (gU X N' scope tg) (fU X N' scope ifs) (eU X N' scope elt)) :=
  zhi ag S JA (λ_ cl C s2 H2 fp pins s O H v u Q I r h=>h cl C s2 H2 fp pins s u I r) (λ_ cl C s2 H2 fp pins s O H Q I h=>h cl C s2 H2 fp pins s I)
    (λ_ cl C s2 H2 fp pins s O H Q I h=>h cl C s2 H2 fp pins s I) hf
def zht{pos' spos:Pos}(hN:X.N.Nodup)(bx:X.N[i]?=some x)(hx:Loc X.env.scope x)(ag:X.calm=true)(S:CSc X.env.scope X.N scope N' k ix)
  (b8:swapsWith (.ListComp elt [#[tg,iter,ifs,0]] scope pos) (some (.Name x pos')) spos.line X.env=pure true) (hs:∀ x,foldedSetIterable iter X.env x=pure x:=by intro _;rfl)
  (hf:X.fn x=true∨X.env.scope.names.lookup x=some .local:=by first | exact .inl rfl | exact .inr rfl | assumption) :
  PS X (.Assign [.Name x pos'] (.ListComp elt [#[tg,iter,ifs,0]] scope pos) spos) (yL (YI k ix (wpI X tg iter) (gU X N' scope tg) (fU X N' scope ifs) (eU X N' scope elt)) (WH i)) :=
 zhs hN bx hx ag S JA (λ_ cl C s2 H2 fp pins s O H v u Q I r h=>h cl C s2 H2 fp pins s u I r) (λ_ cl C s2 H2 fp pins s O H Q I h=>h cl C s2 H2 fp pins s I)
  (λ_ cl C s2 H2 fp pins s O H Q I h=>h cl C s2 H2 fp pins s I) b8 hs hf
end
section
end
structure Kn(P:Ar)(w:World)(K:Ah)(mg:Aq)(base:Heap)(CX:CXT)(x:Str)(k:Nat)(sp:Sp):Prop where
 ex:∃(f:Ap)(fd:FuncData)(ps:Ab),FnOk P w K mg base CX k f fd ps sp/\mg x=some (.ref f)/\W.keepIn K (.ref f)=true/\Binds K fd ps []
section
variable {X:Cx}{x:Str}{k:Nat}{CX:CXT}{E:XK}{e:Expr}{es:Ag}{p pos:Pos}
def ziC (kn:Kn X.prog X.w X.K X.mg X.base CX x k sp) (hr:Room k X.A) (hg:Gl X x) (hx:VR CX X E) (h:wpA X (e::es) O H λvs H1=>sp vs H1 Q E) (bq:(↥x):=by decide)
    (he:starEach (e::es) X.env=(false,eval e X.env)::starEach es X.env:=by rfl) (hpl:(backTo pos (starEach es X.env)).any (·.1)=false:=by rfl):wpE X (.Call (.Name x p) (e::es) [] pos) O H Q:=by
  let(f,fd,ps,F,hm,hk,hb):=kn.ex
  erw[(zhg F hr hg hm hk hb .nil hx Zg bq he hpl).wp (h.mono λvs H1 q=>?_)]
  rw[xX];exact q
end
def yK(h:vs.length<=N.length):(start N vs).length=N.length:=by
 unfold start;simp;lia
structure Df(K:Ah)(mg:Aq)(x:Str)(st:Stmt)(ps:Ab):Prop where
 ex:∃ f fd,Fun K x x st f fd/\mg x=some (.ref f)/\Binds K fd ps []
section
variable {P:Ar}{w:World}{K:Ah}{mg:Aq}{base:Heap}{x:Str}{st:Stmt}{N ps:Ab}{k:Nat}
def Df.kn(D:Df K mg x st ps)(S:Zb N ps (defScope st))(len:∀ vs H Q E,sp vs H Q E->vs.length=ps.length)
  (a9:∀(f:Ap)(ai:Aj)(A:Around)(outer:List Env)(s:Am)(H:Hp)(vs:List V)(Q:VK)(E:XK),Room k (A.deeper (envOfC x (defScope st) ⇑s f ai))->sp vs H Q E ->
   wpB (Js CX0 P w K mg base N x (defScope st) f ai A outer s H E).nox (defBody st) { nx:=λ_ H'=>Q .non H',rt:=Q } (start N vs) H):Kn P w K mg base CX0 x (k+1) sp:=by
 let(f,fd,F,hm,hb):=D.ex
 exact#[f,fd,ps,F.ok S len (λai A outer s H vs Q E hr h=>#[_,jQ,a9 f ai A outer s H vs Q E hr h]),hm,F.kp,hb]
end
section
variable {X:Cx}{O:St}{H:Hp}{D:Ji}{c7:List Stmt}{e:Expr}{pos pos':Pos}{x:Str}
def zl9(i:Nat)(hN:X.N.Nodup)(h:wpE X e O H Q)(k:∀ v H',Q v H'->wpB X c7 D (O.set i (some v)) H')(hi:X.N[i]?=some x:=by rfl)(hx:Loc X.env.scope x:=by first | exact Or.inl rfl | exact Or.inr rfl)(hs:swapsWith e (some (.Name x pos')) pos.line X.env=pure false:=by rfl)
    (hf:X.fn x=true∨X.env.scope.names.lookup x=some .local:=by first | exact .inl rfl | exact .inr rfl | assumption):wpB X (.Assign [.Name x pos'] e pos::c7) D O H :=
  (Qz (W5 hN hi hx zF hs hf) jQ).wp (h.mono k)
end
section
end
mutual
noncomputable def noL:PyData->Bool
 |.list _=>false
 |.tuple ds=>zg5 ds
 |.dict _=>false
 |_=>true
noncomputable def zg5:Aa->Bool
 |[]=>true
 |d::ds=>noL d&&zg5 ds
end
def Rep.free(h:noL d=true)(r:Rep M H v d):Rep M' H v d :=
 Rep.rec (motive_1:=λv d _=>noL d=true->Rep M' H v d) (motive_2:=λvs ds _=>zg5 ds=true->RepL M' H vs ds) (λ_=>.none) (λb _=>.bool b) (λi _=>.int i) (λx _=>.str x) (λ_ _ _ _ h=>by simp[noL]at h) (λe _ ih h=>.tuple e (ih (by simpa [noL] using h)))
  (λ_ _ _ _ _ h=>by cases h) (λ_ _ _ _ _ h=>by cases h) (λ_ _ _ _ _ _ h=>by cases h) (λ_=>.nil) (λ_ _ i1 i2 h=>by
   rw[zg5,xi]at h
   exact .cons (i1 h.1) (i2 h.2)) r h
section
end
def Df.of{K:Ah}{x:Str}{st:Stmt}{ps:Ab}{f:Ap}{oc:Aj}{od an:Option Ap}{sl:Array (Option Aj)}{kV dc pm cd ct:Aj}(X:K.In h)(G:h.Ns mainGlobals mg)
  (a:PySem.W.nsIn K mainGlobals x=some (some (.ref f))) (l:K.lookup f=some #[oc,od,.func (PySem.W.fnOf x x (jc st) (defBody st) (defScope st) .none kV dc pm an cd ct),sl]) (c:PySem.W.codeIn K cd x=true) (k:PySem.W.keepIn K (.ref f)=true)
  (hb:∀(kV doc pm:Aj)(an:Option Ap)(ai ct:Aj)(us:An),us.length=ps.length->bindArgs (PySem.W.fnOf x x (jc st) (defBody st) (defScope st) .none kV doc pm an ai ct) #[us,[]]=pure (ps.zip us)):Df K mg x st ps :=
 #[f,_,Q8 l c k,PySem.W.mg_of X G a,(Q8 l c k).binds hb]
structure Dl(K:Ah)(x:Str)(st:Stmt)(fa:Ap)(p:Str):Prop where
 ex:∃ fd:FuncData,Fun K x x st fa fd/\∀(s:Am)(u:Aj),BindsTo s fd #[[u],[]] [(p,u)]
def Dl.of{K:Ah}{x p:Str}{st:Stmt}{f fa:Ap}{oc:Aj}{od an:Option Ap}{sl:Array (Option Aj)}{kV dc pm cd ct:Aj}(X:K.In h)(G:h.Ns mainGlobals mg)(EA:mg x=some (.ref fa))
  (a:PySem.W.nsIn K mainGlobals x=some (some (.ref f))) (l:K.lookup f=some #[oc,od,.func (PySem.W.fnOf x x (jc st) (defBody st) (defScope st) .none kV dc pm an cd ct),sl]) (c:PySem.W.codeIn K cd x=true) (k:PySem.W.keepIn K (.ref f)=true)
  (hb:∀(s:Am)(u:Aj),BindsTo s (PySem.W.fnOf x x (jc st) (defBody st) (defScope st) .none kV dc pm an cd ct) #[[u],[]] [(p,u)]):Dl K x st fa p:=by
 let e:=EA.symm.trans (PySem.W.mg_of X G a)
 cases e
 exact#[_,Q8 l c k,hb]
def zaz(K:Ah):Sp:=λvs H Q _=>∃(a:Ap)(ns:List Int),vs= [.ref a]/\SqL K H a (ns.map V.int)/\ns.length<=63/\∀ H',Q (.bl true) H'
def Fun.law{P:Ar}{w:World}{K:Ah}{mg:Aq}{base:Heap}{st:Stmt}{k:Nat}{f:Ap}(F:Fun K x x st f fd)(S:Zb N [p] (defScope st))
  (a9:∀(ai:Aj)(A:Around)(outer:List Env)(s:Am)(H:Hp)(Q:VK)(E:XK)(a:Ap)(ns:List Int),Room k (A.deeper (envOfC x (defScope st) ⇑s f ai))->SqL K H a (ns.map V.int)->ns.length<=63->(∀ H',Q (.bl true) H') ->
   wpB (Js CX0 P w K mg base N x (defScope st) f ai A outer s H E).nox (defBody st) { nx:=λ_ H'=>Q .non H',rt:=Q } (start N [.ref a]) H):FnOk P w K mg base CX0 (k+1) f fd [p] (zaz K) :=
 F.ok S (λvs H Q E ⟨a,ns,e,_⟩=>by rw[e];rfl) λai A outer s H vs Q E hr ⟨a,ns,e,hS,hlen,kk⟩=>#[_,jQ,by subst e;exact a9 ai A outer s H Q E a ns hr hS hlen kk]
def walkL{l:PySem.W.OpenLaw}{q:Ar}{loose:Ab}{XP:(Aq)->Heap->Prop}{YP:World->Heap->Prop}{K:Params->Ah}{st:Stmt}(hn:l.most=some 63)(p7:d.params.defaults= [])(hk:Room k callerA)
  (hY:∀(w:World)(h:Heap),YP w h->(K w.params).In h)
  (F:∀(w:World)(mg:Aq)(fa:Ap)(h:Heap),(K w.params).In h->h.Ns mainGlobals mg->mg d.name=some (.ref fa) ->
   Dl (K w.params) "law" st fa "_law_script" /\∀ (fd:FuncData),Fun (K w.params) "law" "law" st fa fd->∀ base:Heap,FnOk l.prog w (K w.params) mg base CX0 k fa fd ["_law_script"] (zaz (K w.params))) :
  PySem.W.WalkO q loose XP YP l.row.toRowW d [] (λf vs=>PySem.call f vs) :=
 L2.walk_of (n:=63) (k:=k) (x:= "_law_script") (CX:=λ_=>CX0) (sp:=λw=>zaz (K w.params)) hn (by decide) p7 hk hY (λw mg fa h KX G hm=>by
  let((fd,Ff,hb),hF):=F w mg fa h KX G hm
  exact#[fd,hb,λbase _ _=>hF fd Ff base]) (λ_ _ a ns hl _ hS=>#[a,ns,rfl,hS,hl,λ_=>rfl]) λ_ _ _ _ _ z=>z
section
variable {X:Cx}{pins:Ak}{O:St}{H:Hp}{Q:VK}{k:Nat}{sp:Sp}{f:Ap}{fd:FuncData}{ps:Ab}{x:Str}{e:Expr}{es:Ag}{p pos:Pos}
def JD{s:Am}{us:An}{vs:List V}(F:FnOk X.prog X.w X.K X.mg X.base CX0 k f fd ps sp)(hr:Room k X.A)(hb:Binds X.K fd ps [])
  (I:Inv X pins O H s) (r:Vals vs us) (h:sp vs H Q E0):∅ (call (.ref f) us) (EP X pins O Q) X.xe s:=by
 let hl:us.length=ps.length:=by rw[<- r.length];exact F.len _ _ _ _ h
 let hb':=hb s us I.kIn (~~~hl)
 rw[xX]at hb'
 erw[wpAny_call (Xj (F.run X.A X.stack s H #[us,[]] us vs Q E0 hr I.env0 hb' r h) λr s' hq=>?_)]
 cases r with
 |error e=>erw[False.elim hq]
 |ok fl=>
  cases fl with
  |ret u=>erw[I.after hq]
  |next=>erw[False.elim hq]
  |brk=>erw[False.elim hq]
  |cont=>erw[False.elim hq]
def YR (kn:Kn X.prog X.w X.K X.mg X.base CX0 x k sp) (hr:Room k X.A) (hg:Gl X x) (h:wpA X (e::es) O H λvs H1=>sp vs H1 Q E0) (bq:(↥x))
  (he:starEach (e::es) X.env=(false,eval e X.env)::starEach es X.env) (hpl:(backTo pos (starEach es X.env)).any (·.1)=false):wpE X (.Call (.Name x p) (e::es) [] pos) O H Q:=λpins s I=>by
 let(f,fd,ps,F,hm,hk,hb):=kn.ex
 erw[Xi (QJ I hg hm ?_ bq)]
 erw[PySem.W.callWith_K I.ok.mod.kin hk (thn (h pos pins s I) λus s1 ⟨vs,H1,I1,r,q⟩=>#[I1.kIn,JD F hr hb I1 r q]) he hpl]
def zcL (kn:Kn X.prog X.w X.K X.mg X.base CX0 x k sp) (hr:Room k X.A) (hg:Gl X x) (h:sp [] H Q E0) (bq:(↥x)):wpE X (.Call (.Name x p) [] [] pos) O H Q:=λpins s I=>by
 let(f,fd,ps,F,hm,hk,hb):=kn.ex
 erw[Xi (QJ I hg hm ?_ bq)]
 erw[PySem.W.callWith_K0 I.kIn hk (JD F hr hb I .nil h)]
def zcK{r:Str}{i:Nat}(kn:Kn X.prog X.w X.K X.mg X.base CX0 x k sp)(qx:X.mg x=some (.ref b))(hr:Room k X.A)
  (hN:X.N[i]?=some r) (hv:Vis X.env.scope r) (hd:(↥r)) (hcd:(r==("__classdict__" :Str))=false) (hσ:O[i]?=some (some (.ref b)))
  (h:wpA X (e::es) O H λvs H1=>sp vs H1 Q E0) (he:starEach (e::es) X.env=(false,eval e X.env)::starEach es X.env) (hpl:(backTo pos (starEach es X.env)).any (·.1)=false):wpE X (.Call (.Name r p) (e::es) [] pos) O H Q:=λpins s I=>by
 let(f,fd,ps,F,hm,hk,hb):=kn.ex
 rw[qx]at hm;cases hm
 erw[Xi (thn (qG hN hv hd hcd pins s O H (λv H'=>v=.ref b/\H'=H) I #[_,hσ,rfl,rfl]) λu s1 ⟨v,H1,I1,r1,e1,e2⟩=>?_)]
 subst e1 e2
 cases r1
 erw[PySem.W.callWith_K I1.ok.mod.kin hk (thn (h pos pins s1 I1) λus s1 ⟨vs,H1,I1,r,q⟩=>#[I1.kIn,JD F hr hb I1 r q]) he hpl]
end
section
variable {prog:Ar}{w:World}{A:Around}{E:Af}{s:Am}
def zfU{Q:An->Am->Prop}(hl:s.heap.IsList l (x::xs).toArray)(hh:A.handled=none)(hz:(x::xs).length<=sizeLine)
  (k:∀ (h2:Heap) (tk:Nat),(∀ b o,s.heap.get? b=some o->h2.get? b=some o)->Q [x,.ref h2.objs.size] { s with heap:=h2.push { cls:=.type "list",data:=.seq xs.toArray },toks:=tk }) :
  wpAny (model prog w) A (unpackItems (.ref l) 2 (some 1)) Q E s:=by
 let(ol,i6,hcl,hdl):=id hl
 let hlt:=x5 i6
 let ax:l≠⇑s:=xj hlt
 unfold unpackItems notIterableAtAll
 erw[x3 (x3 (wpAny_specialOf hl.typeIs PySem.F.slot_list_iter.lookup (x6 ?_)))]
 simp only[uF,if_false]
 erw[x3 (Xb (wpAny_pyIter_list hl ?_))]
 refine x3 (Xb (PySem.W.kun_draw ax 1 0 _ _ #[_,x8 _ rfl,rfl,rfl] (hl.push _) (by simp) λh1 n9 nk=>?_))
 let hl1:=(hl.push _).extBut nk.extBut ax
 let(oi,A4,_):=id n9
 let(o1,A6,_):=id hl1
 let ll:(((x::xs).toArray.toList.drop 0).take 1)= [x]:=rfl
 rw[ll]
 rw[if_neg (show ¬ ([x].length<1) by simp)]
 refine x3 (Xb (PySem.W.kun_collect (s:={ s with heap:=h1 }) (T:= "list_iterator") (.inr (.inr (.inl rfl))) (Walks.list (A:=A.in1) hh ⇑s l ax (x::xs).toArray) (λj u st=>st.1.typeIs) (k:=1) (by simp) #[n9,hl1] (x5 A4) (x5 A6) (λh2 tk hk=>?_) (~~~hz)))
 let Bp:(x::xs).toArray.toList.drop 1=xs:=rfl
 rw[Bp]
 rw[if_neg (by lia)]
 let keep:∀ b o,s.heap.get? b=some o->h2.get? b=some o:=λb o e=>by
  let hb:b≠⇑s:=xj (x5 e)
  erw[hk b o hb (nk.extBut b o hb (x4 _ e))]
 let h0:xs.length-(2-1-1)=xs.length:=by lia
 rw[h0,uz,uL]
 refine x3 (wpAny_newList (x6 ?_) (by simp at hz;lia))
 erw[k h2 tk keep]
def zcB{Q:An->Am->Prop}(hl:IsTup s.heap l (x::xs).toArray)(hh:A.handled=none)(hz:(x::xs).length<=sizeLine)
  (k:∀ (h2:Heap) (tk:Nat),(∀ b o,s.heap.get? b=some o->h2.get? b=some o)->Q [x,.ref h2.objs.size] { s with heap:=h2.push { cls:=.type "list",data:=.seq xs.toArray },toks:=tk }) :
  wpAny (model prog w) A (unpackItems (.ref l) 2 (some 1)) Q E s:=by
 let(ol,i6,_):=id hl
 let hlt:=x5 i6
 let ax:l≠⇑s:=xj hlt
 unfold unpackItems notIterableAtAll
 erw[x3 (x3 (wpAny_specialOf hl.typeIs PySem.F.slot_tuple_iter.lookup (x6 ?_)))]
 simp only[uF,if_false]
 erw[x3 (Xb (iter_tuple hl ?_))]
 refine x3 (Xb (draw_tuple ax 1 0 _ _ #[_,x8 _ rfl,rfl,rfl] (hl.push _) (by simp) λh1 n9 nk=>?_))
 let hl1:=(hl.push _).extBut nk.extBut ax
 let(oi,A4,_):=id n9
 let(o1,A6,_):=id hl1
 let ll:(((x::xs).toArray.toList.drop 0).take 1)= [x]:=rfl
 rw[ll]
 rw[if_neg (show ¬ ([x].length<1) by simp)]
 refine x3 (Xb (PySem.W.kun_collect (s:={ s with heap:=h1 }) (T:= "tuple_iterator") (.inr (.inr (.inr rfl))) (Walks.tuple (A:=A.in1) hh ⇑s l ax (x::xs).toArray) (λj u st=>st.1.typeIs) (k:=1) (by simp) #[n9,hl1] (x5 A4) (x5 A6) (λh2 tk hk=>?_) (~~~hz)))
 let Bp:(x::xs).toArray.toList.drop 1=xs:=rfl
 rw[Bp]
 rw[if_neg (by lia)]
 let keep:∀ b o,s.heap.get? b=some o->h2.get? b=some o:=λb o e=>by
  let hb:b≠⇑s:=xj (x5 e)
  erw[hk b o hb (nk.extBut b o hb (x4 _ e))]
 let h0:xs.length-(2-1-1)=xs.length:=by lia
 rw[h0,uz,uL]
 refine x3 (wpAny_newList (x6 ?_) (by simp at hz;lia))
 erw[k h2 tk keep]
end
section
variable {M:Model}{A:Around}{E:Af}{s:Am}
def zbQ:fillsInplaceSlot (.type "list") "add" true=pure false:=by
 unfold fillsInplaceSlot
 show (typeLookup (.type "list") (dunderI "add") >>= λz=>pure (z.isSome&& !isSeqSlot z))=pure false
 rw[PySem.F.slot_list_iadd.lookup]
 let z:isSeqSlot (some (.builtin "list.__iadd__"))=true:=by decide +kernel
 grind
def zfA:seqSlot? (.type "list") (dunderI "add")=pure (some (.builtin "list.__iadd__")):=PySem.seqSlot_of PySem.F.slot_list_iadd.lookup (by decide +kernel)
def yp (ha:s.TypeIs a "list") (hb:s.TypeIs b "list") (h:wpAny M A (call (.builtin "list.__iadd__") [a,b]) Q E s):wpAny M A (inplaceOp .Add a b) Q E s:=by
 unfold inplaceOp
 erw[Xb (x3 (wpAny_typeOf ha (x3 (wpAny_of_eq zbQ ?_))))]
 rw[if_neg uD]
 erw[x3 (wpAny_binaryOp1_none (nm:= "add") ha hb noFill_list_add (x3 (wpAny_of_eq zfA ?_)))]
 erw[x3 (wpAny_rule h)]
end
section
variable {X:Cx}
def zgU:PIp X .Add (λx y H Q=>∃ l b xs zs,x=.ref l/\y=.ref b/\H l=some (.lst xs)/\H b=some (.lst zs)/\xs.length+zs.length<=sizeLine/\Q (.ref l) (upd H l (.lst (xs++zs)))):=by
 intro pins s O H x y v u Q I rx ry h
 let(l,b,xs,zs,rfl,rfl,hH,hB,hz,q):=h
 cases rx
 cases ry
 let(z,ab,n,r,hl,e):=I.lstM hH
 let(z2,cv,n2,r2,hl2,e2):=I.lstM hB
 erw[yp #[_,e,rfl] #[_,e2,rfl] ?_]
 let hsz:ab.toArray.size+cv.toArray.size<=sizeLine:=by rw[xk,xk];lia
 let pe:¬ (!ab.toArray.isEmpty&&Builtin.List.listTooLong (ab.toArray.size+cv.toArray.size))=true:=by
  rw[zeX hsz,Bool.and_false];exact uD
 refine call_meets PySem.F.slot_list_iadd #[_,e,rfl] PySem.F.entry_list_iadd (PySem.F.args_list_iadd_2 _ _) (AutoSeq1.list___iadd___list_list_0 l ab.toArray n b cv.toArray n2 pe (by rw[xk];lia) (by lia)) #[e,e2,?_]
 exact#[.ref l,_,I.lset hH e (by simp) (r.append r2) (by rw[xm];lia),rfl,q]
def ziJ(K:Ah)(i j:Nat):TG:=λv O H Q=>∃ l y ys,v=.ref l/\(SqL K H l (y::ys)∨SqT K H l (y::ys))/\∀ p,H p=none->Q ((O.set i (some y)).set j (some (.ref p))) (upd H p (.lst ys))
def zhl{k:Nat}{px py ps pos:Pos}(hc:X.calm=true)(hN:X.N.Nodup)(hi:X.N[i]?=some x)(hx:Loc X.env.scope x)(Bl:X.fn x=true∨X.env.scope.names.lookup x=some .local)(hj:X.N[j]?=some y)(hy:Loc X.env.scope y)(Bk:X.fn y=true∨X.env.scope.names.lookup y=some .local) :
  PG X (.Tuple [.Name x px,.Starred (.Name y py) ps] k pos) (ziJ X.K i j):=by
 intro pins s O H v u Q I r h
 let(l,z,zs,rfl,hq,q):=h
 cases r
 let fin:∀ {w:Aj} {ws:An} {h2:Heap} {tk:Nat},RelV z w->Vals zs ws->zs.length+1<=sizeLine->(∀ b o,s.heap.get? b=some o->h2.get? b=some o)->∅ (assignInOrder ((assignEach [.Name x px,.Starred (.Name y py) ps] X.env).map (·.2)) [w,.ref h2.objs.size]) (λ_ s'=>∃ O' H',Inv X pins O' H' s'/\Q O' H') X.xe { s with heap:=h2.push { cls:=.type "list",data:=.seq ws.toArray },toks:=tk }:=λ{w ws h2 tk} r1 r2 hz keep=>by
  let I2:=I.kept (t':=tk) keep
  let I3:=I2.lnew (t':=tk) r2 (by lia)
  erw[assignInOrder_cons (wpAny_assign_Name (QB I3 hN hi hx r1 (λs4 I4=>?_) Bl))]
  erw[assignInOrder_cons (wpAny_assign_Name (QB (v:=.ref h2.objs.size) I4 hN hj hy rfl (λs5 I5=>?_) Bk))]
  erw[assignInOrder_nil #[_,_,I5,q _ I2.fresh]]
 rw[assign_Tuple]
 erw[x3 (wpAny_standAt ?_)]
 unfold unpack
 rcases hq with hq | hq
 ·let(ab,rv,pl,hz):=I.list hq
  cases rv with
  |cons r1 r2=>
   rename_i w ws
   exact x3 (Xb (zfU (x:=w) (xs:=ws) pl.isList (I.ok.hd hc) (by have:=r2.length;simp at hz |-;lia) λh2 tk keep=>fin r1 r2 (~~~hz) keep))
 ·let(ab,rv,pl,hz):=I.tuple hq
  cases rv with
  |cons r1 r2=>
   rename_i w ws
   exact x3 (Xb (zcB (x:=w) (xs:=ws) pl (I.ok.hd hc) (by have:=r2.length;simp at hz |-;lia) λh2 tk keep=>fin r1 r2 (~~~hz) keep))
def zlh(K:Ah)(n:Nat)(t:TGs):TG:=λv O H Q=>∃ a xs,v=.ref a/\SqL K H a xs/\xs.length=n/\t xs O H Q
def zhm(hc:X.calm=true)(h:PGs X es t)(hn:(assignEach es X.env).length=n)(af:(assignEach es X.env).findIdx? (·.1)=none):PG X (.Tuple es k pos) (zlh X.K n t):=by
 intro pins s O H v u Q I r hw
 let(a,xs,e1,hq,hl,hw):=hw
 subst e1
 cases r
 let(ab,rv,pl,hz):=I.list hq
 rw[assign_Tuple]
 erw[x3 (wpAny_standAt ?_)]
 unfold unpack
 let hsz:(assignEach es X.env).length=ab.toArray.size:=by rw[hn,<- hl,rv.length,xk]
 rw[af,hsz]
 erw[x3 (Xb (PySem.W.kun_itemsOf (I.ok.hd hc) pl.isList λh' hx=>?_))]
 let I1:=I.kept (t':=s.toks) λb o e=>hx b o (xj (x5 e)) e
 exact h pins _ O H xs _ Q I1 (~~~rv) hw
end
end L2
namespace L3
open PySem PySem.Spec PyProof.Rows L2
inductive OV where
 |d (x:PyData)
 |l (xs:List OV)
 |t (xs:List OV)
 |m (kvs:Ad)
 |o (c:Str) (ns:Ab) (xs:List OV)
abbrev Gv:=List (Option OV)
mutual
noncomputable def OV.view:OV->PyData
 |.d x=>x
 |.l xs=>.list (OV.views xs)
 |.t xs=>.tuple (OV.views xs)
 |.m kvs=>.dict (kvs.map dK)
 |.o c ns xs=>.dict ((.none,.str c)::(ns.zip (OV.views xs)).map dK)
noncomputable def OV.views:List OV->Aa
 |[]=> []
 |x::xs=>x.view::OV.views xs
end
def OV.views_d(xs:Aa):OV.views (xs.map .d)=xs:=by
 induction xs with
 |nil=>rfl
 |cons x xs ih=>simp[OV.views,OV.view,ih]
def OV.views_map(xs:List OV):OV.views xs=xs.map OV.view:=by
 induction xs with
 |nil=>rfl
 |cons x xs ih=>simp[OV.views,ih]
variable [Cs]
mutual
inductive OR(M:Ae)(H:Hp):V->OV->List Ap->Prop
 |d {v:V} {x:PyData}:Rep M H v x->OR M H v (.d x) []
 |l {a:Ap} {vs:List V} {xs:List OV} {A:List Ap}:H a=some (.lst vs)->ORL M H vs xs A->OR M H (.ref a) (.l xs) (a::A)
 |t {a:Ap} {vs:List V} {xs:List OV} {A:List Ap}:H a=some (.tup vs)->ORL M H vs xs A->OR M H (.ref a) (.t xs) A
 |m {a:Ap} {kvs:List (Str×V)} {ds:Ad}:H a=some (.dK (kvs.map kK))->kvs.map (·.1)=ds.map (·.1)->RepL M H (kvs.map (·.2)) (ds.map (·.2))->OR M H (.ref a) (.m ds) [a]
 |o {a dx:Ap} {c:Str} {fs:List (Str×V)} {ns:Ab} {xs:List OV} {A:List Ap}:H a=some (.ins (Cs.adr c) dx fs)->fs.map (·.1)=ns->ORL M H (fs.map (·.2)) xs A->OR M H (.ref a) (.o c ns xs) (a::A)
inductive ORL(M:Ae)(H:Hp):List V->List OV->List Ap->Prop
 |nil:ORL M H [] [] []
 |cons {v:V} {vs:List V} {x:OV} {xs:List OV} {A B:List Ap}:OR M H v x A->ORL M H vs xs B->ORL M H (v::vs) (x::xs) (A++B)
end
abbrev qk:Ae:=λ_=>False
def ORL.ind{H:Hp}{P:List V->List OV->List Ap->Prop}(h0:P [] [] [])(h1:∀{v vs x xs A B},OR M H v x A->ORL M H vs xs B->P vs xs B->P (v::vs) (x::xs) (A++B)){vs:List V}{os:List OV}(r:ORL M H vs os A):P vs os A:=by
 induction vs generalizing os A with
 |nil=>cases r;exact h0
 |cons v vs ih=>cases r with
  |cons r t=>erw[h1 r t (ih t)]
def OV.views_len(xs:List OV):(OV.views xs).length=xs.length:=by rw[OV.views_map,xl]
def ORL.length{M:Ae}{H:Hp}{os:List OV}(r:ORL M H vs os A):vs.length=os.length:=r.ind (P:=λvs os _=>vs.length=os.length) rfl λ_ _ ih=>congrArg (·+1) ih
def ziE{α β:Type}:∀{ns:List α}{xs:List β},ns.length=xs.length->(ns.zip xs).map (·.1)=ns:=λ{ns xs} h=>by rw[List.map_fst_zip (Nat.le_of_eq h)]
def ziF{α β:Type}:∀{ns:List α}{xs:List β},ns.length=xs.length->(ns.zip xs).map (·.2)=xs:=λ{ns xs} h=>by rw[List.map_snd_zip (Nat.le_of_eq h.symm)]
def OR.go(hr:∀ v d,Rep M H v d->Rep M' H' v d)(ht:∀ b xs,H b=some (.tup xs)->H' b=some (.tup xs)){v:V}{o:OV}(h:∀ a∈A,H' a=H a)(r:OR M H v o A):OR M' H' v o A :=
 OR.rec (motive_1:=λv o A _=>(∀ a∈A,H' a=H a)->OR M' H' v o A) (motive_2:=λvs os A _=>(∀ a∈A,H' a=H a)->ORL M' H' vs os A) (λr _=>.d (hr _ _ r)) (λe _ ih h=>.l (by rw[h _ xA];exact e) (ih λa ha=>h a (xt _ ha))) (λe _ ih h=>.t (ht _ _ e) (ih h))
  (λe k r h=>.m (by rw[h _ xA];exact e) k (j9 hr r)) (λe k _ ih h=>.o (by rw[h _ xA];exact e) k (ih λa ha=>h a (xt _ ha))) (λ_=>.nil)
  (λ_ _ i1 i2 h=>.cons (i1 λa ha=>h a (ud _ ha)) (i2 λa ha=>h a (xz _ ha))) r h
def ORL.go{M M':Ae}{H H':Hp}(hr:∀ v d,Rep M H v d->Rep M' H' v d)(ht:∀ b xs,H b=some (.tup xs)->H' b=some (.tup xs))(h:∀ a∈A,H' a=H a)(r:ORL M H v o A):ORL M' H' v o A :=
 r.ind (P:=λv o A=>(∀ a∈A,H' a=H a)->ORL M' H' v o A) (λ_=>.nil) (λr _ ih h=>.cons (r.go hr ht λa ha=>h a (ud _ ha)) (ih λa ha=>h a (xz _ ha))) h
def OR.rep(hm:∀ b,M' b->M b){v:V}{o:OV}(h:∀ a∈A,¬ M' a)(r:OR M H v o A):Rep M' H v o.view :=
 OR.rec (motive_1:=λv o A _=>(∀ a∈A,¬ M' a)->Rep M' H v o.view) (motive_2:=λvs os A _=>(∀ a∈A,¬ M' a)->RepL M' H vs (OV.views os)) (λr _=>r.less λb hb _=>hm b hb) (λe _ ih h=>.list e (h _ xA) (ih λa ha=>h a (xt _ ha))) (λe _ ih h=>.tuple e (ih h))
  (λe k r h=>.dict (.inl e) (h _ xA) k (j9 (λ_ _ x=>x.less λb hb _=>hm b hb) r))
  (λ{a dx c fs ns xs A} e k r ih h=>by
   let hl:ns.length=(OV.views xs).length:=by rw[OV.views_len,<- r.length,<- k,xl,xl]
   refine .inst e (h _ xA) (by rw[ziE hl];exact k) ?_
   rw[ziF hl]
   exact ih λa ha=>h a (xt _ ha)) (λ_=>.nil)
  (λ_ _ i1 i2 h=>.cons (i1 λa ha=>h a (ud _ ha)) (i2 λa ha=>h a (xz _ ha))) r h
def OR.weak{v:V}{o:OV}(r:OR M H v o A):Rep qk H v o.view:=r.rep (λ_ h=>h.elim) λ_ _ h=>h
def OR.laid{v:V}{o:OV}(r:OR M H v o A):∀ a∈A,∃ vs,H a=some vs :=
 OR.rec (motive_1:=λ_ _ A _=>∀ a∈A,∃ vs,H a=some vs) (motive_2:=λ_ _ A _=>∀ a∈A,∃ vs,H a=some vs) (λ_ _ h=>by cases h) (λe _ ih=>List.forall_mem_cons.mpr #[#[_,e],ih]) (λ_ _ ih=>ih) (λe _ _=>List.forall_mem_cons.mpr #[#[_,e],λ_ h=>by cases h]) (λe _ _ ih=>List.forall_mem_cons.mpr #[#[_,e],ih]) (λ_ h=>by cases h)
  (λ_ _ i1 i2 a h=>(xM.mp h).elim (i1 a) (i2 a)) r
def ORL.data(r:RepL M H vs ds):ORL M H vs (ds.map .d) []:=r.ind (P:=λvs ds=>ORL M H vs (ds.map .d) []) .nil λr _ ih=>.cons (.d r) ih
abbrev Fp:=Nat->List Ap
def fset(F:Fp)(i:Nat)(A:List Ap):Fp:=λj=>if j=i then A else F j
def zL:fset F i A i=A:=by unfold fset;rw[if_pos rfl]
def zP(h:j≠i):fset F i A j=F j:=by unfold fset;rw[if_neg h]
def MM(M0:Ae)(F:Fp):Ae:=λa=>M0 a∨∃ i,a∈F i
abbrev Nu:=List (Option V)
structure RS(M0:Ae)(F:Fp)(U:Gv)(Z:Nu)(H:Hp):Prop where
 al0:∀ a,M0 a->H a≠none
 dis0:∀ i a,a∈F i->¬ M0 a
 nd:∀ i,(F i).Nodup
 dis:∀ i j a,a∈F i->a∈F j->i=j
 at':∀ i o,U[i]?=some (some o)->∃ v,Z[i]?=some (some v)/\OR (MM M0 F) H v o (F i)
 emp:∀ i,(∀ o,U[i]?≠some (some o))->F i= []
 len:Z.length=U.length
structure Stp(F:Fp)(H:Hp)(F':Fp)(H':Hp):Prop where
 keep:∀ b o,H b=some o->(∀ i,b∉F i)->H' b=some o/\∀ i,b∉F' i
 tups:∀ b xs,H b=some (.tup xs)->H' b=some (.tup xs)
 stay:∀ b,H b≠none->H' b≠none
def Stp.refl(F:Fp)(H:Hp):Stp F H F H:=#[λ_ _ e n=>#[e,n],λ_ _ e=>e,λ_ h=>h]
def Stp.trans(a:Stp F H F1 H1)(b:Stp F1 H1 F2 H2):Stp F H F2 H2 :=
 #[λc o e n=>let #[e1,n1]:=a.keep c o e n;b.keep c o e1 n1,λc xs e=>b.tups c xs (a.tups c xs e),λc h=>b.stay c (a.stay c h)]
def Stp.same(s:Same H H'):Stp F H F H':=⟨λb o e n=>⟨s b o e,n⟩,λb xs e=>s b _ e,λb h=>by
 cases q:H b with
 |none=>erw[absurd q h]
 |some o=>rw[s b o q];exact λz=>nomatch z⟩
section
variable {M0:Ae}{F F':Fp}{U U':Gv}{Z Z':Nu}{H H':Hp}
def RS.laidF(r:RS M0 F U Z H)(h:a∈F i):∃ vs,H a=some vs:=by
 by_cases q:∃ o,U[i]?=some (some o)
 ·let(o,q):=q
  let(v,_,z):=r.at' i o q
  erw[z.laid a h]
 ·rw[r.emp i λo e=>q #[o,e]]at h;cases h
def RS.al(r:RS M0 F U Z H):Al (MM M0 F) H:=λa h=>by
 rcases h with h | ⟨i,h⟩
 ·erw[r.al0 a h]
 ·let(vs,e):=r.laidF h
  rw[e];exact λz=>nomatch z
def qf(s:Stp F H F' H')(h0:∀ a,M0 a->H a≠none)(r:Rep (MM M0 F) H v d):Rep (MM M0 F') H' v d:=by
 let go:∀ b o,H b=some o->¬ MM M0 F b->H' b=some o/\¬ MM M0 F' b:=λb o e n=>by
  let(e',n'):=s.keep b _ e λi h=>n (.inr #[i,h])
  refine#[e',?_]
  rintro (h | ⟨i,h⟩)
  ·erw[n (.inl h)]
  ·erw[n' i h]
 exact r.go (λa o e n _ _=>go a o e n) s.tups λa x e n=>by
  rcases e with e | ⟨o,e⟩
  ·exact#[.inl (go a _ e n).1,(go a _ e n).2]
  ·exact#[.inr #[o,(go a _ e n).1],(go a _ e n).2]
def W8(s:Stp F H F' H')(h0:∀ a,M0 a->H a≠none)(r:RepL (MM M0 F) H vs ds):RepL (MM M0 F') H' vs ds:=j9 (λ_ _=>qf s h0) r
def RS.same(r:RS M0 F U Z H)(s:Same H H'):RS M0 F U Z H' where
 al0 a h:=by
  have:=r.al0 a h
  cases q:H a with
  |none=>erw[absurd q this]
  |some o=>rw[s a o q];exact λz=>nomatch z
 dis0:=r.dis0
 nd:=r.nd
 dis:=r.dis
 at' i o e:=by
  let(v,e1,q):=r.at' i o e
  exact⟨v,e1,q.go (λv d x=>x.grow s.grow) (λb xs e=>s b _ e) λa ha=>by
   let(vs,z):=q.laid a ha
   rw[z,s a _ z]⟩
 emp:=r.emp
 len:=r.len
def RS.put{o:OV}{v:V}(r:RS M0 F U Z H)(s:Stp F H (fset F i A) H')(hF:∀ j,j≠i->∀ a∈F j,H' a=H a)
  (hm:∀ a,M0 a->H' a≠none) (E3:∀ a∈A,¬ M0 a) (E2:A.Nodup) (CL:∀ j,j≠i->∀ a∈A,a∉F j) (hi:i<U.length)
  (q:OR (MM M0 (fset F i A)) H' v o A):RS M0 (fset F i A) (U.set i (some o)) (Z.set i (some v)) H' where
 al0:=hm
 dis0 j a h:=by
  by_cases hj:j=i
  ·subst hj;rw[zL]at h;exact E3 a h
  ·rw[zP hj]at h;exact r.dis0 j a h
 nd j:=by
  by_cases hj:j=i
  ·subst hj;rw[zL];exact E2
  ·rw[zP hj];exact r.nd j
 dis j k a h1 h2:=by
  by_cases hj:j=i
  ·by_cases hk:k=i
   ·rw[hj,hk]
   ·subst hj;rw[zL]at h1;rw[zP hk]at h2;exact absurd h2 (CL k hk a h1)
  ·by_cases hk:k=i
   ·subst hk;rw[zL]at h2;rw[zP hj]at h1;exact absurd h1 (CL j hj a h2)
   ·rw[zP hj]at h1;rw[zP hk]at h2;exact r.dis j k a h1 h2
 at' j p e:=by
  by_cases hj:j=i
  ·subst hj
   rw[xn hi]at e
   cases e
   refine#[v,by rw[xn (by rw[r.len];exact hi)],?_]
   rw[zL];exact q
  ·rw[xg (Ne.symm hj)]at e |-
   let(u,e1,z):=r.at' j p e
   refine#[u,e1,?_]
   rw[zP hj]
   erw[z.go (λv d x=>qf s r.al0 x) s.tups (hF j hj)]
 emp j h:=by
  by_cases hj:j=i
  ·grind
  ·rw[zP hj]
   erw[r.emp j λp e=>h p ?_]
   rw[xg (Ne.symm hj)];exact e
 len:=by rw[xK,xK];exact r.len
def RS.setD(r:RS M0 F U Z H)(q:Rep (MM M0 F) H v d)(hi:i<U.length):∃ F',RS M0 F' (U.set i (@&d)) (Z.set i (some v)) H/\Stp F H F' H:=by
 let s:Stp F H (fset F i []) H:=⟨λb o e n=>⟨e,λj=>by
  by_cases hj:j=i
  ·subst hj;rw[zL];exact λz=>nomatch z
  ·rw[zP hj];exact n j⟩,λ_ _ e=>e,λ_ h=>h⟩
 exact#[_,r.put s (λ_ _ _ _=>rfl) r.al0 (λ_ h=>nomatch h) .nil (λ_ _ _ h=>nomatch h) hi (.d (qf s r.al0 q)),s]
def WF(F:Fp)(n:Nat):Fp:=λj=>if j<n then F j else []
def yh(h:j<n):WF F n j=F j:=by unfold WF;rw[if_pos h]
def zam(h:¬ j<n):WF F n j= []:=by unfold WF;rw[if_neg h]
def j2(h:a∈WF F n j):j<n/\a∈F j:=by
 unfold WF at h
 split at h
 ·exact#[by assumption,h]
 ·cases h
def JG(h:∀ j a,a∈F' j->∃ k,a∈F k):Stp F H F' H:=#[λb o e n=>#[e,λj hj=>let #[k,hk]:=h j b hj;n k hk],λ_ _ e=>e,λ_ h=>h]
def RS.cut(r:RS M0 F U Z H)(n:Nat):RS M0 (WF F n) (U.take n) (Z.take n) H/\Stp F H (WF F n) H:=by
 let s:Stp F H (WF F n) H:=JG λj a h=>#[j,(j2 h).2]
 refine#[#[r.al0,λj a h=>r.dis0 j a (j2 h).2,λj=>?_,λj k a h1 h2=>r.dis j k a (j2 h1).2 (j2 h2).2,λj o e=>?_,λj h=>?_,?_],s]
 ·by_cases hj:j<n
  ·rw[yh hj];exact r.nd j
  ·rw[zam hj];exact .nil
 ·let hj:j<n:=by
   by_cases hj:j<n
   ·erw[hj]
   ·rw[xE (by rw[xJ];lia)]at e;cases e
  rw[xW hj]at e |-
  let(v,e1,q):=r.at' j o e
  exact#[v,e1,by rw[yh hj];exact q.go (λ_ _ x=>qf s r.al0 x) s.tups λ_ _=>rfl]
 ·by_cases hj:j<n
  ·rw[yh hj]
   erw[r.emp j λo e=>h o ?_]
   rw[xW hj];exact e
  ·erw[zam hj]
 ·rw[xJ,xJ,r.len]
def RS.ext(r:RS M0 F U Z H)(k:Nat):RS M0 F (U++List.replicate k none) (Z++List.replicate k none) H:=by
 let get:∀{α:Type}(l:List (Option α))(j:Nat)(o:α),(l++List.replicate k none)[j]?=some (some o)->l[j]?=some (some o):=λ{α} l j o e=>by
  by_cases hj:j<l.length
  ·rw[xc hj]at e;exact e
  ·rw[xp (by lia),xN]at e
   split at e<;>cases e
 let put:∀{α:Type}(l:List (Option α))(j:Nat)(o:α),l[j]?=some (some o)->(l++List.replicate k none)[j]?=some (some o):=λ{α} l j o e=>by
  rw[xc (xa.mp e).1];exact e
 exact#[r.al0,r.dis0,r.nd,r.dis,λj o e=>let #[v,e1,q]:=r.at' j o (get _ _ _ e);#[v,put _ _ _ e1,q],λj h=>r.emp j λo e=>h o (put _ _ _ e),by simp[r.len]]
def YB{α:Type}(l:List (Option α))(x:α):(l++List.replicate 1 none).set l.length (some x)=l++ [some x]:=by
 rw[uv _ _ (xh _)];simp
def RS.new1{p:Ap}{o:OV}{H':Hp}(r:RS M0 F U Z H)(n:H p=none)(same:Same H H')(q:Stp F H (fset F U.length [p]) H'->OR (MM M0 (fset F U.length [p])) H' (.ref p) o [p]) :
  RS M0 (fset F U.length [p]) (U++ [some o]) (Z++ [some (.ref p)]) H'/\Stp F H (fset F U.length [p]) H':=by
 let hp:∀ i,p∉F i:=λi h=>by
  let(vs,e):=r.laidF h
  rw[n]at e;cases e
 let s:Stp F H (fset F U.length [p]) H':=⟨λb o e nb=>⟨same b o e,λj h=>by
  by_cases hj:j=U.length
  ·subst hj;rw[zL]at h
   grind
  ·rw[zP hj]at h;exact nb j h⟩,λb xs e=>same b _ e,(Stp.same (F:=F) same).stay⟩
 let r1:=(r.ext 1).put (A:= [p]) s (λj _ a ha=>by
   let(u,eu):=r.laidF ha
   rw[same a u eu,eu])
  (λa h=>s.stay a (r.al0 a h)) (λa ha h=>by
   let e:a=p:= ~~~ha
   subst e;exact r.al0 a h n) (xB.mpr #[(λz=>nomatch z),.nil]) (λj _ a ha=>by
   grind) (by simp) (q s)
 rw[YB]at r1
 let e2:(Z++List.replicate 1 none).set U.length (some (V.ref p))=Z++ [some (V.ref p)]:=by rw[<- r.len,YB]
 rw[e2]at r1
 exact#[r1,s]
def RS.newO(r:RS M0 F U Z H)(n:H p=none)(q:RepL (MM M0 F) H vs ds) :
  RS M0 (fset F U.length [p]) (U++ [some (.l (ds.map .d))]) (Z++ [some (.ref p)]) (upd H p (.lst vs))/\Stp F H (fset F U.length [p]) (upd H p (.lst vs)):=r.new1 n (qg n) λs=>.l zK (ORL.data (W8 s r.al0 q))
def RS.of{U':Gv}{Z':Nu}{H':Hp}(r:RS M0 F U Z H)(B:Fp)(s:∀ F',(∀ j a,a∈F' j->a∈B j)->Stp F H F' H')(d0:∀ j a,a∈B j->¬ M0 a)(nd:∀ j,(B j).Nodup)
  (dis:∀ j k o p a,U'[j]?=some (some o)->U'[k]?=some (some p)->a∈B j->a∈B k->j=k)
  (h:∀ F',(∀ j a,a∈F' j->a∈B j)->Stp F H F' H'->∀ j o,U'[j]?=some (some o)->∃ v,Z'[j]?=some (some v)/\OR (MM M0 F') H' v o (B j)) (len:Z'.length=U'.length):∃ F',RS M0 F' U' Z' H'/\Stp F H F' H':=by
 let sub:∀ j a,a∈(match U'[j]? with | some (some _)=>B j | _=> [])->∃ o,U'[j]?=some (some o)/\a∈B j:=λj a=>by
  split
  ·erw[λh=>#[_,‹_›,h]]
  ·erw[λh=>nomatch h]
 let u:=λj a h=>(sub j a h).choose_spec.2
 let s:=s (λj=>match U'[j]? with | some (some _)=>B j | _=> []) u
 refine#[_,#[λa h=>s.stay a (r.al0 a h),λj a h=>d0 _ a (u j a h),λj=>?_,λj k a h1 h2=>?_,λj o e=>?_,λj h=>?_,len],s]
 ·split
  ·erw[nd _]
  ·erw[.nil]
 ·let(o,e1,z1):=sub j a h1
  let(p,e2,z2):=sub k a h2
  erw[dis j k o p a e1 e2 z1 z2]
 ·let(v,ev,q):=h _ u s j o e
  refine#[v,ev,?_]
  rw[show (match U'[j]? with | some (some _)=>B j | _=> [])=B j by rw[e]]
  erw[q]
 ·split
  ·erw[absurd ‹_› (h _)]
  ·rfl
def RS.map{U':Gv}{Z':Nu}(r:RS M0 F U Z H)(g:Nat->Nat)(h:∀ j o,U'[j]?=some (some o)->U[g j]?=some (some o)/\Z'[j]?=Z[g j]?)
  (inj:∀ j k o p,U'[j]?=some (some o)->U'[k]?=some (some p)->g j=g k->j=k) (len:Z'.length=U'.length):∃ F',RS M0 F' U' Z' H/\Stp F H F' H :=
 r.of (λj=>F (g j)) (λF' h=>JG λj a q=>#[_,h j a q]) (λj=>r.dis0 _) (λj=>r.nd _) (λj k o p a e1 e2 z1 z2=>inj j k o p e1 e2 (r.dis _ _ a z1 z2)) (λF' _ s j o e=>by
  let(e1,e2):=h j o e
  let(v,ev,q):=r.at' _ _ e1
  exact#[v,e2.trans ev,q.go (λ_ _ x=>qf s r.al0 x) s.tups λ_ _=>rfl]) len
def RS.move(r:RS M0 F (U++ [some o]) (Z++ [some v]) H)(hi:i<U.length):∃ F',RS M0 F' (U.set i (some o)) (Z.set i (some v)) H/\Stp F H F' H:=by
 let hl:Z.length=U.length:= ~~~r.len
 refine r.map (λj=>if j=i then U.length else j) (λj p e=>?_) (λj k o p e1 e2=>?_) (by simp[hl])
 ·split
  ·subst j
   rw[xn hi]at e
   cases e
   simp[hl,hi]
  next hj=>
   rw[xg (Ne.symm hj)]at e |-
   let hjl:=(xa.mp e).1
   rw[xc hjl,xc (by lia)]
   exact#[e,rfl]
 ·let h1:=(xa.mp e1).1
  let h2:=(xa.mp e2).1
  rw[xK]at h1 h2
  split<;>split<;>lia
def RS.dropD(r:RS M0 F (U++ [some o]) (Z++ [some v]) H):∃ F',RS M0 F' U Z H/\Stp F H F' H/\Rep (MM M0 F') H v o.view:=by
 let hl:Z.length=U.length:=by have:=r.len;simp at this;exact this
 let(r1,s):=r.cut U.length
 let e1:(U++ [some o]).take U.length=U:=by simp
 let e2:(Z++ [some v]).take U.length=Z:=by rw[<- hl];simp
 rw[e1,e2]at r1
 refine#[_,r1,s,?_]
 let(u,e,q):=r.at' U.length o (by grind)
 rw[xp (by lia),hl]at e
 simp at e
 subst e
 erw[q.rep (λb hb=>?_) (λa ha hb=>?_)]
 ·rcases hb with hb | ⟨j,hb⟩
  ·erw[.inl hb]
  ·erw[.inr #[j,(j2 hb).2]]
 ·rcases hb with hb | ⟨j,hb⟩
  ·erw[r.dis0 _ a ha hb]
  ·have:=r.dis _ _ a ha (j2 hb).2
   have:=(j2 hb).1
   lia
def RS.frz(r:RS M0 F U Z H)(e:U[i]?=some (some o)):∃ F' v,Z[i]?=some (some v)/\RS M0 F' (U.set i (some (.d o.view))) Z H/\Stp F H F' H/\Rep (MM M0 F') H v o.view:=by
 let(v,ev,q):=r.at' i o e
 let hi:=(xa.mp e).1
 let s:Stp F H (fset F i []) H:=JG λj a h=>by
  by_cases hj:j=i
  ·subst hj;rw[zL]at h;cases h
  ·rw[zP hj]at h;exact#[j,h]
 let hq:Rep (MM M0 (fset F i [])) H v o.view:=q.rep (λb hb=>by
  rcases hb with hb | ⟨j,hb⟩
  ·erw[.inl hb]
  ·by_cases hj:j=i
   ·subst hj;rw[zL]at hb;cases hb
   ·rw[zP hj]at hb;exact .inr #[j,hb]) (λa ha hb=>by
  rcases hb with hb | ⟨j,hb⟩
  ·erw[r.dis0 _ a ha hb]
  ·by_cases hj:j=i
   ·subst hj;rw[zL]at hb;cases hb
   ·rw[zP hj]at hb;exact hj (r.dis _ _ a hb ha))
 let r1:=r.put s (λ_ _ _ _=>rfl) r.al0 (λ_ h=>nomatch h) .nil (λ_ _ _ h=>nomatch h) hi (.d hq)
 let e2:Z.set i (some v)=Z:=by
  apply xU
  intro j
  by_cases hj:i=j
  ·subst hj;rw[xn (xa.mp ev).1,ev]
  ·rw[xg hj]
 rw[e2]at r1
 exact#[_,v,ev,r1,s,hq]
def RS.mut{xs xs':List OV}{vs:List V}(r:RS M0 F U Z H)(e:U[i]?=some (some (.l xs)))(ev:Z[i]?=some (some (.ref a)))
  (h:∀ us A,H a=some (.lst us)->ORL (MM M0 F) H us xs A->F i=a::A->∃ A',(∀ b∈A',b∈A)/\A'.Nodup/\ORL (MM M0 F) H vs xs' A') :
  ∃ F',RS M0 F' (U.set i (some (.l xs'))) Z (upd H a (.lst vs))/\Stp F H F' (upd H a (.lst vs)):=by
 let(v,dm,q):=r.at' i _ e
 rw[ev]at dm;cases dm
 let hi:=(xa.mp e).1
 generalize hA:F i=Ai at q
 cases q with
 |l ea qa=>
  rename_i us A
  let(A',sub,AB,q'):=h us A ea qa hA
  let nd:=r.nd i
  rw[hA]at nd
  let hnA:=(xB.mp nd).1
  let AD:∀ b,b∈(a::A')->b∈F i:=λb hb=>by
   grind
  let s:Stp F H (fset F i (a::A')) (upd H a (.lst vs)):=⟨λb o eb nb=>⟨by rw[zI (λz=>nb i (by rw[hA,z];exact xA))];exact eb,λj hj=>by
   by_cases z:j=i
   ·subst z;rw[zL]at hj;exact nb j (AD b hj)
   ·rw[zP z]at hj;exact nb j hj⟩,λb xs eb=>by rw[zI (zln eb ea (by intro z;cases z))];exact eb,λb hb=>by
   by_cases z:b=a
   ·subst z;rw[zK];exact λw=>nomatch w
   ·rw[zI z];exact hb⟩
  let r1:=r.put s (λj hj b hb=>by
    rw[zI]
    intro z
    subst z
    exact hj (r.dis j i b hb (by rw[hA];exact xA))) (λb hb=>s.stay b (r.al0 b hb)) (λb hb=>r.dis0 i b (AD b hb)) (xB.mpr #[λz=>hnA (sub a z),AB])
   (λj hj b hb EI=>hj (r.dis j i b EI (AD b hb))) hi (.l zK (q'.go (λ_ _ x=>qf s r.al0 x) s.tups λb hb=>by
    rw[zI];intro z;subst z;exact hnA (sub b hb)))
  let e2:Z.set i (some (V.ref a))=Z:=by
   apply xU
   intro j
   by_cases hj:i=j
   ·subst hj;rw[xn (xa.mp ev).1,ev]
   ·rw[xg hj]
  rw[e2]at r1
  exact#[_,r1,s]
end
def ORL.snoc{M:Ae}{H:Hp}{v:V}{d:PyData}(q:Rep M H v d){os:List OV}(r:ORL M H vs os A):ORL M H (vs++ [v]) (os++ [OV.d d]) A:=r.ind (P:=λvs os A=>ORL M H (vs++ [v]) (os++ [OV.d d]) A) (.cons (.d q) .nil) λr _ ih=>.cons r ih
def ORL.setD{M:Ae}{H:Hp}{v:V}{d:PyData}(q:Rep M H v d){os:List OV}{j:Nat}{x:PyData}(r:ORL M H vs os A):os[j]?=some (.d x)->ORL M H (vs.set j v) (os.set j (OV.d d)) A :=
 r.ind (P:=λvs os A=>∀ j:Nat,os[j]?=some (.d x)->ORL M H (vs.set j v) (os.set j (OV.d d)) A) (λ_ e=>nomatch e) (λr t ih j e=>by
  cases j with
  |zero=>cases e;cases r;exact .cons (.d q) t
  |succ j=>exact .cons r (ih j e)) j
def ORL.insD{M:Ae}{H:Hp}{v:V}{d:PyData}(q:Rep M H v d){os:List OV}(j:Nat)(r:ORL M H vs os A):ORL M H (vs.take j++v::vs.drop j) (os.take j++OV.d d::os.drop j) A :=
 r.ind (P:=λvs os A=>∀ j:Nat,ORL M H (vs.take j++v::vs.drop j) (os.take j++OV.d d::os.drop j) A) (λj=>by simp;exact .cons (.d q) .nil) (λr t ih j=>by
  cases j with
  |zero=>erw[.cons (A:= []) (.d q) (.cons r t)]
  |succ j=>exact .cons r (ih j)) j
def ORL.get{M:Ae}{H:Hp}{os:List OV}{j:Nat}{x:PyData}(r:ORL M H vs os A):os[j]?=some (.d x)->∃ v,vs[j]?=some v/\Rep M H v x :=
 r.ind (P:=λvs os A=>∀ j:Nat,os[j]?=some (.d x)->∃ v,vs[j]?=some v/\Rep M H v x) (λ_ e=>nomatch e) (λr t ih j e=>by
  cases j with
  |zero=>cases e;cases r with
   |d r=>exact#[_,rfl,r]
  |succ j=>exact ih j e) j
abbrev St:=L2.St
inductive R(α:Type) where
 |ok (a:α)
 |bad
def R.bind{α β:Type}(r:R α)(f:α->R β):R β:=match r with
 |.ok a=>f a
 |.bad=>.bad
def R.get{α β:Type}(o:Option α)(f:α->R β):R β:=match o with
 |some a=>f a
 |none=>.bad
def R.bind_assoc{α β γ:Type}(r:R α)(f:α->R β)(g:β->R γ):(r.bind f).bind g=r.bind λa=>(f a).bind g:=by cases r<;>rfl
def R.get_bind{α β γ:Type}(o:Option α)(f:α->R β)(g:β->R γ):(R.get o f).bind g=R.get o λa=>(f a).bind g:=by cases o<;>rfl
def R.got{α β:Type}{o:Option α}{f:α->R β}{T:R β->Prop}(hb:T .bad->False)(h:T (R.get o f)):∃ a,o=some a/\T (f a):=by
 cases o with
 |none=>erw[(hb h).elim]
 |some a=>exact#[a,rfl,h]
def R.gif{β:Type}{c:Prop}[Decidable c]{r:R β}{T:R β->Prop}(hb:T .bad->False)(h:T (if c then r else .bad)):c/\T r:=by
 by_cases q:c
 ·rw[if_pos q]at h;exact#[q,h]
 ·rw[if_neg q]at h;exact (hb h).elim
abbrev EM(α:Type):=Gv->R (α×Gv)
inductive FV where
 |dat (x:PyData)
 |own (i:Nat)
private def derf(U:Gv):FV->Option PyData
 |.dat x=>some x
 |.own i=>match U[i]? with
  |some (some o)=>some o.view
  |_=>none
private def derS(U:Gv):FV->Option PyData
 |.dat x=>some x
 |.own i=>match U[i]? with
  |some (@&x)=>some x
  |_=>none
def leaves:List OV->Option (Aa)
 |[]=>some []
 |.d x::r=>(leaves r).map (x::·)
 |.l _::_=>none
 |.t _::_=>none
 |.m _::_=>none
 |.o _ _ _::_=>none
def Yo(xs:Aa):leaves (xs.map .d)=some xs:=by
 induction xs with
 |nil=>rfl
 |cons x r ih=>simp[leaves,ih]
def derL(U:Gv):FV->Option (Aa)
 |.dat (.list xs)=>some xs
 |.own i=>match U[i]? with
  |some (some (.l xs))=>leaves xs
  |some (@&(.list xs))=>some xs
  |_=>none
 |_=>none
def Sees(mp:Ac)(Z:Nu)(O:St):Prop:=∀(s i:Nat)(v:V),mp[s]?=some i->Z[i]?=some (some v)->O[s]?=some (some v)
def EPost{α:Type}(M0:Ae)(F:Fp)(Z:Nu)(O:St)(H:Hp)(P:Fp->Gv->Hp->α->Prop)(r:R (α×Gv)):Prop:=match r with
 |.ok (a,U')=>∀ F' H',RS M0 F' U' Z H'->Stp F H F' H'->P F' U' H' a
 |.bad=>False
section
variable {α:Type}{M0:Ae}{F:Fp}{Z:Nu}{O:St}{H:Hp}
def EPost.mono(h:EPost M0 F Z O H P r)(k:∀ F' U' H' a,RS M0 F' U' Z H'->Stp F H F' H'->P F' U' H' a->P' F' U' H' a):EPost M0 F Z O H P' r:=by
 cases r with
 |ok a=>erw[λF' H' rs s=>k F' _ H' _ rs s (h F' H' rs s)]
 |bad=>erw[h]
def EPost.seq{r:R (α×Gv)}(h:EPost M0 F Z O H P (r.bind k)) :
  EPost M0 F Z O H (λF1 U1 H1 a=>EPost M0 F1 Z O H1 P (k (a,U1))) r:=by
 cases r with
 |ok a=>
  let(a,U1):=a
  intro F1 H1 rs1 s1
  let h':EPost M0 F Z O H P (k (a,U1)):=h
  revert h'
  generalize k (a,U1)=r2
  intro h'
  cases r2 with
  |ok b=>erw[λF' H' rs s=>h' F' H' rs (s1.trans s)]
  |bad=>erw[h']
 |bad=>erw[h]
def EPost.step(h:EPost M0 F Z O H P r)(s1:Stp F H F1 H1):EPost M0 F1 Z O H1 P r:=by
 cases r with
 |ok b=>erw[λF' H' rs s=>h F' H' rs (s1.trans s)]
 |bad=>erw[h]
end
def FOk(M0:Ae)(F:Fp)(Z:Nu)(H:Hp)(v:V):FV->Prop
 |.dat x=>Rep (MM M0 F) H v x
 |.own i=>Z[i]?=some (some v)
section
variable {M0:Ae}{F F':Fp}{U:Gv}{Z:Nu}{H H':Hp}{v:V}{u:FV}{x:PyData}
def FOk.stp(h:FOk M0 F Z H v u)(s:Stp F H F' H')(h0:∀ a,M0 a->H a≠none):FOk M0 F' Z H' v u:=by
 cases u with
 |dat x=>erw[qf s h0 h]
 |own i=>erw[h]
def FOk.weak(h:FOk M0 F Z H v u)(rs:RS M0 F U Z H)(e:derf U u=some x):Rep qk H v x:=by
 cases u with
 |dat y=>cases e;exact Rep.less (λ_ z _=>z.elim) h
 |own i=>
  dsimp only [derf]at e
  split at e
  next o q=>
   cases e
   let(w,e1,r):=rs.at' i o q
   let h':=h
   rw[h']at e1;cases e1
   erw[r.weak]
  ·cases e
def FOk.strong(h:FOk M0 F Z H v u)(rs:RS M0 F U Z H)(e:derS U u=some x):Rep (MM M0 F) H v x:=by
 cases u with
 |dat y=>cases e;exact h
 |own i=>
  dsimp only [derS]at e
  split at e
  next y q=>
   cases e
   let(w,e1,r):=rs.at' i _ q
   let h':=h
   rw[h']at e1;cases e1
   generalize F i=A at r
   cases r with
   |d r=>erw[r]
  ·cases e
def ORL.leaf{vs:List V}{os:List OV}(r:ORL M H vs os A):leaves os=some ds->RepL M H vs ds/\A= [] :=
 r.ind (P:=λvs os A=>∀ ds,leaves os=some ds->RepL M H vs ds/\A= []) (λ_ e=>by cases e;exact#[.nil,rfl]) (λ{_ _ x xs _ _} r _ ih ds e=>by
  cases r with
  |d r=>
   unfold leaves at e
   cases q:leaves xs with
   |none=>rw[q]at e;cases e
   |some ys=>
    rw[q]at e;cases e
    let(h1,h2):=ih _ q
    exact#[.cons r h1,by rw[h2];rfl]
  |_=>cases e) ds
def FOk.list(h:FOk M0 F Z H v u)(rs:RS M0 F U Z H)(e:derL U u=some ds):∃ a vs,v=.ref a/\H a=some (.lst vs)/\RepL (MM M0 F) H vs ds:=by
 unfold derL at e
 split at e
 ·cases e
  let(a,vs,rfl,e1,_,r):=Rep.lst_inv h
  exact#[a,vs,rfl,e1,r]
 next i=>
  let h':=h
  split at e
  next q=>
   let(w,e1,r):=rs.at' i _ q
   rw[h']at e1;cases e1
   generalize F i=A at r
   cases r with
   |l ea qa=>exact#[_,_,rfl,ea,(ORL.leaf qa e).1]
  next q=>
   cases e
   let(w,e1,r):=rs.at' i _ q
   rw[h']at e1;cases e1
   generalize F i=A at r
   cases r with
   |d r=>
    let(a,vs,rfl,e1,_,r):=Rep.lst_inv r
    exact#[a,vs,rfl,e1,r]
  ·cases e
 ·cases e
end
def SE(X:Cx)(mp:Ac)(e:Expr)(f:EM FV):Prop:=∀(M0:Ae)(F:Fp)(U:Gv)(Z:Nu)(O:St)(H:Hp)(Q:VK),RS M0 F U Z H->Sees mp Z O ->
 EPost M0 F Z O H (λF' U' H' u=>∀ v,FOk M0 F' Z H' v u->Q v H') (f U)->wpE X e O H Q
def SN(X:Cx)(mp:Ac)(e:Expr)(f:EM (Aa)):Prop:=∀(M0:Ae)(F:Fp)(U:Gv)(Z:Nu)(O:St)(H:Hp)(Q:VK),RS M0 F U Z H->Sees mp Z O ->
 EPost M0 F Z O H (λF' U' H' ds=>∀ vs p,RepL (MM M0 F') H' vs ds->H' p=none->Q (.ref p) (upd H' p (.lst vs))) (f U)->wpE X e O H Q
def ST(X:Cx)(mp:Ac)(e:Expr)(f:EM Bool):Prop:=∀(M0:Ae)(F:Fp)(U:Gv)(Z:Nu)(O:St)(H:Hp)(Q:Bool->Hp->Prop),RS M0 F U Z H->Sees mp Z O ->
 EPost M0 F Z O H (λF' U' H' b=>Q b H') (f U)->wpT X e O H Q
def SW(X:Cx)(mp:Ac)(e:Expr)(f:EM Bool):Prop:=∀(M0:Ae)(F:Fp)(U:Gv)(Z:Nu)(O:St)(H:Hp)(Q:Bool->Hp->Prop),RS M0 F U Z H->Sees mp Z O ->
 EPost M0 F Z O H (λF' U' H' b=>Q b H') (f U)->wpW X e O H Q
section
variable {X:Cx}{mp:Ac}{a b e:Expr}{pos p:Pos}{fa fb:EM FV}{ta:EM Bool}{na:EM (Aa)}
section
variable {β:Type}{M0:Ae}{F:Fp}{U:Gv}{Z:Nu}{O:St}{H:Hp}{P:Fp->Gv->Hp->β->Prop}
def SE.run{Q:VK}{k:FV×Gv->R (β×Gv)}(ha:SE X mp a fa)(rs:RS M0 F U Z H)(hs:Sees mp Z O)(h:EPost M0 F Z O H P ((fa U).bind k))
  (kk:∀ F1 U1 H1 u v,RS M0 F1 U1 Z H1->Stp F H F1 H1->FOk M0 F1 Z H1 v u->EPost M0 F1 Z O H1 P (k (u,U1))->Q v H1):wpE X a O H Q :=
 ha M0 F U Z O H Q rs hs (h.seq.mono λF1 U1 H1 u rs1 s1 h1 v hv=>kk F1 U1 H1 u v rs1 s1 hv h1)
def SN.run{Q:VK}{k:Aa×Gv->R (β×Gv)}(ha:SN X mp a na)(rs:RS M0 F U Z H)(hs:Sees mp Z O)(h:EPost M0 F Z O H P ((na U).bind k))
  (kk:∀ F1 U1 H1 ds vs p,RS M0 F1 U1 Z H1->Stp F H F1 H1->RepL (MM M0 F1) H1 vs ds->H1 p=none->EPost M0 F1 Z O H1 P (k (ds,U1))->Q (.ref p) (upd H1 p (.lst vs))):wpE X a O H Q :=
 ha M0 F U Z O H Q rs hs (h.seq.mono λF1 U1 H1 u rs1 s1 h1 vs p r n=>kk F1 U1 H1 u vs p rs1 s1 r n h1)
def ST.run{Q:Bool->Hp->Prop}{k:Bool×Gv->R (β×Gv)}(ha:ST X mp a ta)(rs:RS M0 F U Z H)(hs:Sees mp Z O)(h:EPost M0 F Z O H P ((ta U).bind k))
  (kk:∀ F1 U1 H1 u,RS M0 F1 U1 Z H1->Stp F H F1 H1->EPost M0 F1 Z O H1 P (k (u,U1))->Q u H1):wpT X a O H Q :=
 ha M0 F U Z O H Q rs hs (h.seq.mono λF1 U1 H1 u rs1 s1 h1=>kk F1 U1 H1 u rs1 s1 h1)
end
private def fNew(n:EM (Aa)):EM FV:=λU=>(n U).bind λ(ds,U1)=>.ok (.dat (.list ds),U1)
def SN.se(h:SN X mp a na):SE X mp a (fNew na):=λM0 F U Z O H Q rs hs hp=>
 h.run rs hs hp λF1 U1 H1 ds vs p rs1 s1 r n h1=>by
  let s2:Same H1 (upd H1 p (.lst vs)):=qg n
  erw[h1 F1 _ (rs1.same s2) (.same s2) _ (Rep.list zK (λz=>rs1.al p z n) (r.grow s2.grow))]
private def fVar(i:Nat):EM FV:=λU=>match U[i]? with
 |some (@&x)=>.ok (.dat x,U)
 |some (some (.l _))=>.ok (.own i,U)
 |some (some (.t _))=>.ok (.own i,U)
 |some (some (.m _))=>.ok (.own i,U)
 |some (some (.o _ _ _))=>.ok (.own i,U)
 |_=>.bad
def zkq {s i:Nat}(hN:X.N[s]?=some x) (hv:Vis X.env.scope x) (hm:mp[s]?=some i) (hd:(↥x)) (hcd:(x==("__classdict__" :Str))=false) :
  SE X mp (.Name x pos) (fVar i):=by?
 unfold fVar at hp
 split at hp
 next y q=>
  let(v,e1,r):=rs.at' i _ q
  generalize hA:F i=A at r
  cases r with
  |d r=>erw[(qG hN hv hd hcd).wp #[v,hs s i v hm e1,hp F H rs (.refl F H) v r]]
 next y q=>
  let(v,e1,r):=rs.at' i _ q
  erw[(qG hN hv hd hcd).wp #[v,hs s i v hm e1,hp F H rs (.refl F H) v e1]]
 next y q=>
  let(v,e1,r):=rs.at' i _ q
  erw[(qG hN hv hd hcd).wp #[v,hs s i v hm e1,hp F H rs (.refl F H) v e1]]
 next y q=>
  let(v,e1,r):=rs.at' i _ q
  erw[(qG hN hv hd hcd).wp #[v,hs s i v hm e1,hp F H rs (.refl F H) v e1]]
 next y _ _ q=>
  let(v,e1,r):=rs.at' i _ q
  erw[(qG hN hv hd hcd).wp #[v,hs s i v hm e1,hp F H rs (.refl F H) v e1]]
 ·erw[hp.elim]
private def fFrz(i:Nat):EM FV:=λU=>match U[i]? with
 |some (some o)=>.ok (.dat o.view,U.set i (some (.d o.view)))
 |_=>.bad
def zki {s i:Nat}(hN:X.N[s]?=some x) (hv:Vis X.env.scope x) (hm:mp[s]?=some i) (hd:(↥x)) (hcd:(x==("__classdict__" :Str))=false) :
  SE X mp (.Name x pos) (fFrz i):=by?
 unfold fFrz at hp
 delta hp o q
 let(F',v,e1,rs1,s1,r):=rs.frz q
 erw[(qG hN hv hd hcd).wp #[v,hs s i v hm e1,hp F' H rs1 s1 v r]]
private def fC(x:PyData):EM FV:=λU=>.ok (.dat x,U)
def zkj{i j}:SE X mp (.Constant (.int i) j pos) (fC (.int i)):=λM0 F U Z O H Q rs hs hp=>pe_int.wp (hp F H rs (.refl F H) _ (Rep.int i))
def zhD{x j}:SE X mp (.Constant (.bool x) j pos) (fC (.bool x)):=λM0 F U Z O H Q rs hs hp=>pe_bl.wp (hp F H rs (.refl F H) _ (Rep.bool x))
def zhP{j}:SE X mp (.Constant .none j pos) (fC .none):=λM0 F U Z O H Q rs hs hp=>pe_non.wp (hp F H rs (.refl F H) _ Rep.none)
def zko{x j}:SE X mp (.Constant (.str x) j pos) (fC (.str x)):=λM0 F U Z O H Q rs hs hp=>pe_str.wp (hp F H rs (.refl F H) _ (Rep.str x))
def zhJ (hg:Gl X x) (hm:∃ t,X.mg x=some (.int i t)) (hd:(↥x)):SE X mp (.Name x pos) (fC (.int i)):=by?
 let(t,hm):=hm
 erw[(zas (v:=.int i) hg hm #[t,rfl] hd).wp (hp F H rs (.refl F H) _ (Rep.int i))]
def zhK (hg:Gl X x) (hm:∃ t,X.mg x=some (.str i t)) (hd:(↥x)):SE X mp (.Name x pos) (fC (.str i)):=by?
 let(t,hm):=hm
 erw[(zas (v:=.str i) hg hm #[t,rfl] hd).wp (hp F H rs (.refl F H) _ (Rep.str i))]
def OpS(X:Cx)(f:Aj->Aj->Sem Aj)(g:PyData->PyData->Option PyData):Prop:=∀ x y z,g x y=some z->∃ r:R2,OpR X f r/\∀(M:Ae)(H:Hp)(v u:V)(Q:VK),
 Al M H->Rep M H v x->Rep M H u y->(∀ w H',Same H H'->Rep M H' w z->Q w H')->r v u H Q
private def fBin(g:PyData->PyData->Option PyData)(fa fb:EM FV):EM FV:=λU=>(fa U).bind λ(u,U1)=>(fb U1).bind λ(w,U2)=>R.get (derS U2 u) λx=>R.get (derS U2 w) λy=>R.get (g x y) λz=>.ok (.dat z,U2)
def zkh(ho:OpS X (binaryOp op) g)(ha:SE X mp a fa)(hb:SE X mp b fb):SE X mp (.BinOp a op b pos) (fBin g fa fb):=by?
 let key:=ho
 refine (WY (r:=λv u H Q=>∃ M x y z,g x y=some z/\Al M H/\Rep M H v x/\Rep M H u y/\∀ w H',Same H H'->Rep M H' w z->Q w H') ?_ zF zF).wp
  (ha.run rs hs hp λF1 U1 H1 u v rs1 s1 o1 h1=>hb.run rs1 hs h1 λF2 U2 H2 w v2 rs2 s2 o2 h2=>?_)
 ·rintro pins s O H x y v u Q I rx ry ⟨M,dx,dy,dz,e,al,r1,r2,k⟩
  let(r,hr,hh):=ho dx dy dz e
  erw[hr pins s O H x y v u Q I rx ry (hh M H x y Q al r1 r2 k)]
 ·let(x,e1,h2):=R.got id h2
  let(y,e2,h2):=R.got id h2
  let(z,e3,h2):=R.got id h2
  exact#[MM M0 F2,x,y,z,e3,rs2.al,(o1.stp s2 rs1.al0).strong rs2 e1,o2.strong rs2 e2,λw' H3 s3 r3=>h2 F2 H3 (rs2.same s3) (.same s3) w' r3]
def w9(X:Cx)(op:CmpOp)(g:PyData->PyData->Option Bool):Prop:=∀ x y z,g x y=some z->∃ r:R2,OpR X (compareOp op) r/\∀(H:Hp)(v u:V)(Q:VK),
 Rep qk H v x->Rep qk H u y->Q (.bl z) H->r v u H Q
private def fCmp(g:PyData->PyData->Option Bool)(fa fb:EM FV):EM Bool:=λU=>(fa U).bind λ(u,U1)=>(fb U1).bind λ(w,U2)=>R.get (derf U2 u) λx=>R.get (derf U2 w) λy=>R.get (g x y) λz=>.ok (z,U2)
private def fB(t:EM Bool):EM FV:=λU=>(t U).bind λ(b,U1)=>.ok (.dat (.bool b),U1)
def QI(ho:w9 X op g):OpR X (compareOp op) (λv u H Q=>∃ x y z,g x y=some z/\Rep qk H v x/\Rep qk H u y/\Q (.bl z) H):=by
 rintro pins s O H x y v u Q I rx ry ⟨dx,dy,dz,e,r1,r2,k⟩
 let(r,hr,hh):=ho dx dy dz e
 erw[hr pins s O H x y v u Q I rx ry (hh H x y Q r1 r2 k)]
section
variable {M0:Ae}{F:Fp}{U:Gv}{Z:Nu}{O:St}{H:Hp}{β:Type}{P:Fp->Gv->Hp->β->Prop}
def zai{Q:VK}(ha:SE X mp a fa)(hb:SE X mp b fb)(rs:RS M0 F U Z H)(hs:Sees mp Z O)(hp:EPost M0 F Z O H P ((fCmp g fa fb U).bind k))
  (kk:∀ F2 U2 H2 z,RS M0 F2 U2 Z H2->Stp F H F2 H2->EPost M0 F2 Z O H2 P (k (z,U2))->Q (.bl z) H2) :
  wpE X a O H λv H1=>wpE X b O H1 λu H2=>∃ x y z,g x y=some z/\Rep qk H2 v x/\Rep qk H2 u y/\Q (.bl z) H2:=by
 unfold fCmp at hp
 rw[R.bind_assoc]at hp
 erw[ha.run rs hs hp λF1 U1 H1 u v rs1 s1 o1 h1=>?_]
 dsimp only at h1
 rw[R.bind_assoc]at h1
 erw[hb.run rs1 hs h1 λF2 U2 H2 w v2 rs2 s2 o2 h2=>?_]
 dsimp only at h2
 rw[R.get_bind]at h2
 let(x,e1,h2):=R.got id h2
 rw[R.get_bind]at h2
 let(y,e2,h2):=R.got id h2
 rw[R.get_bind]at h2
 let(z,e3,h2):=R.got id h2
 exact#[x,y,z,e3,(o1.stp s2 rs1.al0).weak rs2 e1,o2.weak rs2 e2,kk F2 U2 H2 z rs2 (s1.trans s2) h2]
end
def R.bind_ok{α:Type}(r:R α):r.bind .ok=r:=by cases r<;>rfl
def yE(ho:w9 X op g)(ha:SE X mp a fa)(hb:SE X mp b fb)(hm:behindInMarks op b=false):SE X mp (.Compare a [op] [b] pos) (fB (fCmp g fa fb)):=λM0 F U Z O H Q rs hs hp=>
 (zhh (QI ho) zF zF hm).wp (zai ha hb rs hs hp λF2 U2 H2 z rs2 s2 h2=>h2 F2 H2 rs2 (.refl _ _) _ (Rep.bool z))
def yJ(ho:w9 X op g)(ha:SE X mp a fa)(hb:SE X mp b fb)(hm:behindInMarks op b=false):ST X mp (.Compare a [op] [b] pos) (fCmp g fa fb):=λM0 F U Z O H Q rs hs hp=>
 (zhu (QI ho) zF zF hm).wp (zai (k:=.ok) (Q:=λv H'=>∃ k,v=.bl k/\Q k H') ha hb rs hs (by rw[R.bind_ok];exact hp) λF2 U2 H2 z rs2 s2 h2=>#[z,rfl,h2 F2 H2 rs2 (.refl _ _)])
end
def truD:PyData->Option Bool
 |.none=>some false
 |.bool b=>some b
 |.int i=>some (i !=0)
 |.list xs=>some (!xs.isEmpty)
 |.tuple xs=>some (!xs.isEmpty)
 |_=>none
def Yk(r:RepL M H vs ds):(!vs.isEmpty)= !ds.isEmpty:=by cases r<;>rfl
def zaB{K:Ah}{H:Hp}{v:V}(r:Rep M H v x)(e:truD x=some k):zgg K v H k:=by
 cases r with
 |none=>cases e;rfl
 |bool b=>cases e;rfl
 |int i=>cases e;rfl
 |str x=>cases e
 |list ea n q=>cases e;exact .inl #[_,SqL.of ea,(Yk q).symm]
 |tuple ea q=>cases e;exact .inr (.inl #[_,SqT.of ea,(Yk q).symm])
 |dict _ _ _ _=>cases e
 |inst _ _ _ _=>cases e
 |exo _ _ _ _ _=>cases e
section
variable {X:Cx}{mp:Ac}{a b c e:Expr}{es:Ag}{pos p p2:Pos}{fa fb fc:EM FV}{ta tb:EM Bool}
private def fTru(fa:EM FV):EM Bool:=λU=>(fa U).bind λ(u,U1)=>R.get (derf U1 u) λx=>R.get (truD x) λk=>.ok (k,U1)
def zfS(ha:SE X mp a fa)(he:∀ whole,isTrue a X.env whole=(do let v<-whole;standAt a.pos;holding [v] (truthy v))):ST X mp a (fTru fa):=λM0 F U Z O H Q rs hs hp=>
 (Yw zF he).wp (ha.run rs hs hp λF1 U1 H1 u v rs1 s1 o1 h1=>by
  let(x,ex,h1):=R.got id h1
  let(k,ek,h1):=R.got id h1
  exact#[k,zaB (o1.weak rs1 ex) ek,h1 F1 H1 rs1 (.refl _ _)])
private def fNotT(ta:EM Bool):EM Bool:=λU=>(ta U).bind λ(b,U1)=>.ok (!b,U1)
def zkJ(h:ST X mp a ta):ST X mp (.UnaryOp .Not a pos) (fNotT ta):=λM0 F U Z O H Q rs hs hp=>
 (zj5 Zh).wp (h.run rs hs hp λF1 U1 H1 b rs1 s1 h1=>h1 F1 H1 rs1 (.refl _ _))
def SW.st(h:SW X mp a ta):ST X mp a ta:=λM0 F U Z O H Q rs hs hp pins s I=>h M0 F U Z O H Q rs hs hp _ pins s I
def zig(h:ST X mp a ta):SW X mp (.BoolOp .And [a] pos) ta:=λM0 F U Z O H Q rs hs hp=>(zhv Zh).wp (h M0 F U Z O H Q rs hs hp)
def zih(h:ST X mp a ta):SW X mp (.BoolOp .Or [a] pos) ta:=λM0 F U Z O H Q rs hs hp=>(zj7 Zh).wp (h M0 F U Z O H Q rs hs hp)
private def fAndT(ta tb:EM Bool):EM Bool:=λU=>(ta U).bind λ(b,U1)=>if b then tb U1 else .ok (false,U1)
private def fOrT(ta tb:EM Bool):EM Bool:=λU=>(ta U).bind λ(b,U1)=>if b then .ok (true,U1) else tb U1
def zfV(ha:ST X mp a ta)(hb:SW X mp (.BoolOp .And (b::es) pos) tb):SW X mp (.BoolOp .And (a::b::es) pos) (fAndT ta tb):=λM0 F U Z O H Q rs hs hp=>
 (zj6 Zh zax).wp (ha.run rs hs hp λF1 U1 H1 b rs1 s1 h1=>by
  cases b with
  |true=>erw[Ym (hb M0 F1 U1 Z O H1 Q rs1 hs h1)]
  |false=>exact Yl (h1 F1 H1 rs1 (.refl _ _)))
def ziN(ha:ST X mp a ta)(hb:SW X mp (.BoolOp .Or (b::es) pos) tb):SW X mp (.BoolOp .Or (a::b::es) pos) (fOrT ta tb):=λM0 F U Z O H Q rs hs hp=>
 (zly Zh zax).wp (ha.run rs hs hp λF1 U1 H1 b rs1 s1 h1=>by
  cases b with
  |true=>erw[Ym (h1 F1 H1 rs1 (.refl _ _))]
  |false=>exact Yl (hb M0 F1 U1 Z O H1 Q rs1 hs h1))
private def fAndV(fa fb:EM FV):EM FV:=λU=>(fa U).bind λ(u,U1)=>match derf U1 u with
 |some (.bool true)=>fb U1
 |some (.bool false)=>.ok (.dat (.bool false),U1)
 |_=>.bad
private def fOrV(fa fb:EM FV):EM FV:=λU=>(fa U).bind λ(u,U1)=>match derf U1 u with
 |some (.bool true)=>.ok (.dat (.bool true),U1)
 |some (.bool false)=>fb U1
 |_=>.bad
def zfy{op}(h:SE X mp a fa):SE X mp (.BoolOp op [a] pos) fa:=λM0 F U Z O H Q rs hs hp=>(zjW zF).wp (h M0 F U Z O H Q rs hs hp)
def zft(ha:SE X mp a fa)(hb:SE X mp (.BoolOp .And (b::es) pos) fb):SE X mp (.BoolOp .And (a::b::es) pos) (fAndV fa fb):=λM0 F U Z O H Q rs hs hp=>
 (zjU zF zF).wp (ha.run rs hs hp λF1 U1 H1 u v rs1 s1 o1 h1=>by
  dsimp only at h1
  split at h1
  next ex=>
   cases o1.weak rs1 ex
   exact#[true,rfl,Ym (hb M0 F1 U1 Z O H1 Q rs1 hs h1)]
  next ex=>
   cases o1.weak rs1 ex
   exact#[false,rfl,Yl (h1 F1 H1 rs1 (.refl _ _) _ (Rep.bool false))]
  ·exact h1.elim)
def ziM(ha:SE X mp a fa)(hb:SE X mp (.BoolOp .Or (b::es) pos) fb):SE X mp (.BoolOp .Or (a::b::es) pos) (fOrV fa fb):=λM0 F U Z O H Q rs hs hp=>
 (zlw zF zF).wp (ha.run rs hs hp λF1 U1 H1 u v rs1 s1 o1 h1=>by
  dsimp only at h1
  split at h1
  next ex=>
   cases o1.weak rs1 ex
   exact#[true,rfl,Ym (h1 F1 H1 rs1 (.refl _ _) _ (Rep.bool true))]
  next ex=>
   cases o1.weak rs1 ex
   exact#[false,rfl,Yl (hb M0 F1 U1 Z O H1 Q rs1 hs h1)]
  ·exact h1.elim)
def zin:UnR X (unaryOp .Not) (λx H Q=>∃ k,zgg X.K x H k/\Q (.bl (!k)) H):=by
 intro pins s O H x v Q I rx h
 let(k,hk,q):=h
 erw[not_of (thn (zfZ pins s O H x v _ I rx #[k,hk,q]) λb s' ⟨H',I',q'⟩=>#[.bl (!b),H',I',rfl,q'])]
def zkm(ha:SE X mp a fa):SE X mp (.UnaryOp .Not a pos) (fB (fNotT (fTru fa))):=by?
 unfold fB fNotT fTru at hp
 rw[R.bind_assoc,R.bind_assoc]at hp
 erw[(zfe zin zF).wp (ha.run rs hs hp λF1 U1 H1 u v rs1 s1 o1 h1=>?_)]
 dsimp only at h1
 rw[R.get_bind]at h1
 let(x,ex,h1):=R.got id h1
 rw[R.get_bind]at h1
 let(k,ek,h1):=R.got id h1
 exact#[k,zaB (o1.weak rs1 ex) ek,h1 F1 H1 rs1 (.refl _ _) _ (Rep.bool _)]
private def fIf(t:EM Bool)(fa fb:EM FV):EM FV:=λU=>(t U).bind λ(b,U1)=>if b then fa U1 else fb U1
def zlI(hc:ST X mp c ta)(ha:SE X mp a fa)(hb:SE X mp b fb):SE X mp (.IfExp c a b pos) (fIf ta fa fb):=λM0 F U Z O H Q rs hs hp=>
 (zfa Zh zF zF).wp (hc.run rs hs hp λF1 U1 H1 b rs1 s1 h1=>by
  cases b with
  |true=>erw[Ym (ha M0 F1 U1 Z O H1 Q rs1 hs h1)]
  |false=>exact Yl (hb M0 F1 U1 Z O H1 Q rs1 hs h1))
private def fChain(g g':PyData->PyData->Option Bool)(fa fb fc:EM FV):EM Bool:=λU=>(fa U).bind λ(u,U1)=>(fb U1).bind λ(w,U2)=>R.get (derf U2 u) λx=>R.get (derf U2 w) λy=>R.get (g x y) λt=>if t then (fc U2).bind λ(t,U3)=>R.get (derf U3 w) λy=>R.get (derf U3 t) λz=>R.get (g' y z) λk=>.ok (k,U3) else .ok (false,U2)
section
variable {M0:Ae}{F:Fp}{U:Gv}{Z:Nu}{O:St}{H:Hp}{β:Type}{P:Fp->Gv->Hp->β->Prop}
def v9{Q:VK}(ha:SE X mp a fa)(hb:SE X mp b fb)(hc:SE X mp c fc)(rs:RS M0 F U Z H)(hs:Sees mp Z O)(hp:EPost M0 F Z O H P ((fChain g g' fa fb fc U).bind k))
  (kk:∀ F2 U2 H2 z,RS M0 F2 U2 Z H2->EPost M0 F2 Z O H2 P (k (z,U2))->Q (.bl z) H2) :
  KO (λv u H Q=>∃ x y z,g x y=some z/\Rep qk H v x/\Rep qk H u y/\Q (.bl z) H) (λv u H Q=>∃ x y z,g' x y=some z/\Rep qk H v x/\Rep qk H u y/\Q (.bl z) H) (wpE X a) (wpE X b) (wpE X c) O H Q:=by
 unfold fChain at hp
 rw[R.bind_assoc]at hp
 erw[ha.run rs hs hp λF1 U1 H1 u v rs1 s1 o1 h1=>?_]
 dsimp only at h1
 rw[R.bind_assoc]at h1
 erw[hb.run rs1 hs h1 λF2 U2 H2 w v2 rs2 s2 o2 h2=>?_]
 dsimp only at h2
 rw[R.get_bind]at h2
 let(x,e1,h2):=R.got id h2
 rw[R.get_bind]at h2
 let(y,e2,h2):=R.got id h2
 rw[R.get_bind]at h2
 let(t,e3,h2):=R.got id h2
 refine#[x,y,t,e3,(o1.stp s2 rs1.al0).weak rs2 e1,o2.weak rs2 e2,t,rfl,?_]
 cases t with
 |false=>erw[Yl (kk F2 U2 H2 false rs2 h2)]
 |true=>
  rw[if_pos rfl,R.bind_assoc]at h2
  erw[Ym (hc.run rs2 hs h2 λF3 U3 H3 t v3 a7 s3 o3 h3=>?_)]
  dsimp only at h3
  rw[R.get_bind]at h3
  let(y',e4,h3):=R.got id h3
  rw[R.get_bind]at h3
  let(z,e5,h3):=R.got id h3
  rw[R.get_bind]at h3
  let(kz,e6,h3):=R.got id h3
  exact#[y',z,kz,e6,(o2.stp s3 rs2.al0).weak a7 e4,o3.weak a7 e5,kk F3 U3 H3 kz a7 h3]
end
def CY(ho:w9 X op g)(dg:w9 X op' g')(ha:SE X mp a fa)(hb:SE X mp b fb)(hc:SE X mp c fc)(hm:lastMarks [op,op'] [b,c]=false) :
  SE X mp (.Compare a [op,op'] [b,c] pos) (fB (fChain g g' fa fb fc)):=λM0 F U Z O H Q rs hs hp=>
 (ze4 (QI ho) (QI dg) zF zF zF hm).wp (v9 ha hb hc rs hs hp λF2 U2 H2 z rs2 h2=>h2 F2 H2 rs2 (.refl _ _) _ (Rep.bool z))
def zfQ(ho:w9 X op g)(dg:w9 X op' g')(ha:SE X mp a fa)(hb:SE X mp b fb)(hc:SE X mp c fc)(hm:lastMarks [op,op'] [b,c]=false) :
  ST X mp (.Compare a [op,op'] [b,c] pos) (fChain g g' fa fb fc):=λM0 F U Z O H Q rs hs hp=>
 (zfo (QI ho) (QI dg) zF zF zF hm).wp (v9 (k:=.ok) ha hb hc rs hs (by rw[R.bind_ok];exact hp) λF2 U2 H2 z rs2 h2=>#[z,rfl,h2 F2 H2 rs2 (.refl _ _)])
inductive FOks(M0:Ae)(F:Fp)(Z:Nu)(H:Hp):List V->List FV->Prop
 |nil:FOks M0 F Z H [] []
 |cons {v:V} {vs:List V} {u:FV} {us:List FV}:FOk M0 F Z H v u->FOks M0 F Z H vs us->FOks M0 F Z H (v::vs) (u::us)
def derSs(U:Gv):List FV->Option (Aa)
 |[]=>some []
 |u::us=>match derS U u,derSs U us with
  |some x,some xs=>some (x::xs)
  |_,_=>none
def FOks.strong{M0:Ae}{F:Fp}{U:Gv}{Z:Nu}{H:Hp}(rs:RS M0 F U Z H):∀{vs:List V}{us:List FV}{ds:Aa},FOks M0 F Z H vs us->derSs U us=some ds->RepL (MM M0 F) H vs ds
 |_,_,_,.nil,e=>by cases e;exact .nil
 |_,_,_,.cons h t,e=>by
  unfold derSs at e
  split at e
  next e1 e2=>
   cases e
   erw[.cons (h.strong rs e1) (FOks.strong rs t e2)]
  ·cases e
def FOks.length{M0:Ae}{F:Fp}{Z:Nu}{H:Hp}:∀{vs:List V}{us:List FV},FOks M0 F Z H vs us->vs.length=us.length
 |_,_,.nil=>rfl
 |_,_,.cons _ t=>by rw[xo,xo,FOks.length t]
def SL(X:Cx)(mp:Ac)(es:Ag)(f:EM (List FV)):Prop:=∀(M0:Ae)(F:Fp)(U:Gv)(Z:Nu)(O:St)(H:Hp)(Q:List V->Hp->Prop),RS M0 F U Z H->Sees mp Z O ->
 EPost M0 F Z O H (λF' U' H' us=>∀ vs,FOks M0 F' Z H' vs us->Q vs H') (f U)->wpA X es O H Q
def SL.run{β:Type}{M0:Ae}{F:Fp}{U:Gv}{Z:Nu}{O:St}{H:Hp}{P:Fp->Gv->Hp->β->Prop}{fl:EM (List FV)}{Q:List V->Hp->Prop}{k:List FV×Gv->R (β×Gv)}(ha:SL X mp es fl)(rs:RS M0 F U Z H)(hs:Sees mp Z O)(h:EPost M0 F Z O H P ((fl U).bind k))
  (kk:∀ F1 U1 H1 us vs,RS M0 F1 U1 Z H1->Stp F H F1 H1->FOks M0 F1 Z H1 vs us->EPost M0 F1 Z O H1 P (k (us,U1))->Q vs H1):wpA X es O H Q :=
 ha M0 F U Z O H Q rs hs (h.seq.mono λF1 U1 H1 u rs1 s1 h1 v hv=>kk F1 U1 H1 u v rs1 s1 hv h1)
private def fNil:EM (List FV):=λU=>.ok ([],U)
private def fCons(fa:EM FV)(fl:EM (List FV)):EM (List FV):=λU=>(fa U).bind λ(u,U1)=>(fl U1).bind λ(us,U2)=>.ok (u::us,U2)
def zkw:SL X mp [] fNil:=λM0 F U Z O H Q rs hs hp=>pa_nil.wp (hp F H rs (.refl _ _) [] .nil)
def zhX{fl:EM (List FV)}(ha:SE X mp a fa)(hl:SL X mp es fl)(af:starEach (a::es) X.env=(false,eval a X.env)::starEach es X.env):SL X mp (a::es) (fCons fa fl):=λM0 F U Z O H Q rs hs hp=>
 (zX zF Zg af).wp (ha.run rs hs hp λF1 U1 H1 u v rs1 s1 o1 h1=>hl.run rs1 hs h1 λF2 U2 H2 us vs rs2 s2 o2 h2=>h2 F2 H2 rs2 (.refl _ _) _ (.cons (o1.stp s2 rs1.al0) o2))
def sz6{n:Nat}(h:n<=1000000):n<=sizeLine:=by have:=Xe;lia
private def fTup(fl:EM (List FV)):EM FV:=λU=>(fl U).bind λ(us,U1)=>R.get (derSs U1 us) λds=>if us.length<=1000000 then .ok (.dat (.tuple ds),U1) else .bad
private def fLst(fl:EM (List FV)):EM (Aa):=λU=>(fl U).bind λ(us,U1)=>R.get (derSs U1 us) λds=>if us.length<=1000000 then .ok (ds,U1) else .bad
def zkp{fl:EM (List FV)}{x1}(h:SL X mp es fl):SE X mp (.Tuple es x1 pos) (fTup fl):=λM0 F U Z O H Q rs hs hp=>
 (zfd Zg).wp (h.run rs hs hp λF1 U1 H1 us vs rs1 s1 o1 h1=>by
  let(ds,e,h1):=R.got id h1
  let(hz,h1):=R.gif id h1
  exact#[by rw[o1.length];exact sz6 hz,λp n=>h1 F1 _ (rs1.same (qg n)) (.same (qg n)) _ (Rep.tuple zK ((o1.strong rs1 e).grow (qg n).grow))])
def zkA{fl:EM (List FV)}(h:SL X mp es fl):SN X mp (.List es pos) (fLst fl):=λM0 F U Z O H Q rs hs hp=>
 (zfc Zg).wp (h.run rs hs hp λF1 U1 H1 us vs rs1 s1 o1 h1=>by
  let(ds,e,h1):=R.got id h1
  let(hz,h1):=R.gif id h1
  exact#[by rw[o1.length];exact sz6 hz,λp n=>h1 F1 H1 rs1 (.refl _ _) vs p (o1.strong rs1 e) n])
private def itemF(U:Gv)(u:FV)(i:Int):Option PyData:=match u with
 |.dat (.list xs)=>atI xs i
 |.dat (.tuple xs)=>atI xs i
 |.own k=>match U[k]? with
  |some (some (.l xs))=>match atI xs i with
   |some (.d x)=>some x
   |_=>none
  |some (@&(.list xs))=>atI xs i
  |_=>none
 |_=>none
def zgj{α:Type}{xs:List α}{i:Int}{x:α}(h:atI xs i=some x):∃ j,ixN xs.length i=some j/\xs[j]?=some x:=by
 unfold atI at h
 cases e:ixN xs.length i with
 |none=>rw[e]at h;cases h
 |some j=>rw[e]at h;exact#[j,rfl,h]
def ziZ{α:Type}{xs:List α}{i:Int}{x:α}{j:Nat}(h:ixN xs.length i=some j)(h2:xs[j]?=some x):atI xs i=some x:=by
 unfold atI;rw[h];exact h2
def FOk.item{M0:Ae}{F:Fp}{U:Gv}{Z:Nu}{H:Hp}{v:V}{u:FV}{i:Int}{x:PyData}{K:Ah}(h:FOk M0 F Z H v u)(rs:RS M0 F U Z H)(e:itemF U u i=some x) :
  ∃ l vs w,v=.ref l/\(SqL K H l vs∨SqT K H l vs)/\atI vs i=some w/\Rep (MM M0 F) H w x:=by
 unfold itemF at e
 split at e
 ·let(a,vs,rfl,e1,_,r):=Rep.lst_inv h
  let(w,ew,a6):=VV r e
  exact#[a,vs,w,rfl,.inl (SqL.of e1),ew,a6]
 ·let(a,vs,rfl,e1,r):=Rep.tup_inv h
  let(w,ew,a6):=VV r e
  exact#[a,vs,w,rfl,.inr (SqT.of e1),ew,a6]
 next k=>
  let h':=h
  split at e
  next q=>
   split at e
   next y eo=>
    cases e
    let(w,e1,r):=rs.at' k _ q
    rw[h']at e1;cases e1
    generalize F k=A at r
    cases r with
    |l ea qa=>
     let(j,ej,Fb):=zgj eo
     let(w,ew,r):=qa.get Fb
     rw[<- qa.length]at ej
     exact#[_,_,w,rfl,.inl (SqL.of ea),ziZ ej ew,r]
   ·cases e
  next q=>
   let(w,e1,r):=rs.at' k _ q
   rw[h']at e1;cases e1
   generalize F k=A at r
   cases r with
   |d r=>
    let(a,vs,rfl,e1,_,r):=Rep.lst_inv r
    let(w,ew,a6):=VV r e
    exact#[a,vs,w,rfl,.inl (SqL.of e1),ew,a6]
  ·cases e
 ·cases e
private def fIx(fa fb:EM FV):EM FV:=λU=>(fa U).bind λ(u,U1)=>(fb U1).bind λ(w,U2)=>match derf U2 w with
 |some (.int i)=>R.get (itemF U2 u i) λx=>.ok (.dat x,U2)
 |_=>.bad
def zlJ(ha:SE X mp a fa)(hb:SE X mp b fb)(hx:wU b):SE X mp (.Subscript a b pos) (fIx fa fb):=λM0 F U Z O H Q rs hs hp=>
 (zfb (ix_list.or zjv) zF zF hx).wp (ha.run rs hs hp λF1 U1 H1 u v rs1 s1 o1 h1=>hb.run rs1 hs h1 λF2 U2 H2 w v2 rs2 s2 o2 h2=>by
  delta h2 i e1
  let(x,e2,h2):=R.got id h2
  let(l,vs,z,rfl,hq,ez,rz):=(o1.stp s2 rs1.al0).item rs2 e2
  cases o2.weak rs2 e1
  rcases hq with hq | hq
  ·erw[.inl #[l,vs,i,z,rfl,rfl,hq,ez,h2 F2 H2 rs2 (.refl _ _) z rz]]
  ·exact .inr #[l,vs,i,z,rfl,rfl,hq,ez,h2 F2 H2 rs2 (.refl _ _) z rz])
def Jr{α:Type}(xs:List α)(lo hi:Option Int):List α:=(xs.drop (HT.sIx xs.length 0 lo)).take (HT.sIx xs.length xs.length hi-HT.sIx xs.length 0 lo)
def Yz(r:RepL M H vs ds)(lo hi:Option Int):RepL M H (JQ vs lo hi) (Jr ds lo hi):=by
 unfold JQ Jr
 rw[r.length]
 erw[(r.drop _).take _]
def SOp(X:Cx)(mp:Ac)(e:Option Expr)(f:EM (Option Int)):Prop:=∃ t:TO,PO X e t/\∀(M0:Ae)(F:Fp)(U:Gv)(Z:Nu)(O:St)(H:Hp)(Q:Option Int->Hp->Prop),RS M0 F U Z H->Sees mp Z O ->
 EPost M0 F Z O H (λF' U' H' b=>Q b H') (f U)->t O H Q
private def zem:EM (Option Int):=λU=>.ok (none,U)
private def zel(fa:EM FV):EM (Option Int):=λU=>(fa U).bind λ(u,U1)=>match derf U1 u with
 |some (.int i)=>.ok (some i,U1)
 |_=>.bad
def zh4:SOp X mp none zem:=#[_,yA,λM0 F U Z O H Q rs hs hp=>hp F H rs (.refl _ _)]
def zh5(ha:SE X mp a fa):SOp X mp (some a) (zel fa):=⟨_,yB zF,λM0 F U Z O H Q rs hs hp=>ha.run rs hs hp λF1 U1 H1 u v rs1 s1 o1 h1=>by
 dsimp only at h1
 split at h1
 next i e1=>
  cases o1.weak rs1 e1
  exact#[i,rfl,h1 F1 H1 rs1 (.refl _ _)]
 ·exact h1.elim⟩
private def zgK(fa:EM FV)(fl fh:EM (Option Int)):EM (Aa):=λU=>(fa U).bind λ(u,U1)=>(fl U1).bind λ(lo,U2)=>(fh U2).bind λ(hi,U3)=>R.get (derL U3 u) λds=>.ok (Jr ds lo hi,U3)
def zkz{lo hi:Option Expr}(ha:SE X mp a fa)(hl:SOp X mp lo fl)(hh:SOp X mp hi fh):SN X mp (.Subscript a (.Slice lo hi none p2) pos) (zgK fa fl fh):=by?
 let(tl,pl,kl):=hl
 let(th,ph,kh):=hh
 erw[(Jz yF zF pl ph).wp (ha.run rs hs hp λF1 U1 H1 u v rs1 s1 o1 h1=>?_)]
 erw[kl M0 F1 U1 Z O H1 _ rs1 hs (h1.seq.mono λF2 U2 H2 lo rs2 s2 h2=>?_)]
 erw[kh M0 F2 U2 Z O H2 _ rs2 hs (h2.seq.mono λF3 U3 H3 hi a7 s3 h3=>?_)]
 let(ds,e,h3):=R.got id h3
 let(l,vs,rfl,el,rl):=((o1.stp s2 rs1.al0).stp s3 rs2.al0).list a7 e
 exact#[l,vs,rfl,SqL.of el,λp n=>h3 F3 H3 a7 (.refl _ _) _ p (Yz rl lo hi) n]
private def zek(fa fb:EM FV):EM (Aa):=λU=>(fa U).bind λ(u,U1)=>(fb U1).bind λ(w,U2)=>R.get (derL U2 u) λxs=>R.get (derL U2 w) λys=>if xs.length+ys.length<=1000000 then .ok (xs++ys,U2) else .bad
def zky(ha:SE X mp a fa)(hb:SE X mp b fb):SN X mp (.BinOp a .Add b pos) (zek fa fb):=λM0 F U Z O H Q rs hs hp=>
 (WY zjM zF zF).wp (ha.run rs hs hp λF1 U1 H1 u v rs1 s1 o1 h1=>hb.run rs1 hs h1 λF2 U2 H2 w v2 rs2 s2 o2 h2=>by
  let(xs,e1,h2):=R.got id h2
  let(ys,e2,h2):=R.got id h2
  let(hz,h2):=R.gif id h2
  let(l,vs,rfl,el,rl):=(o1.stp s2 rs1.al0).list rs2 e1
  let(l2,Au,rfl,el2,B0):=o2.list rs2 e2
  exact#[l,l2,vs,Au,rfl,rfl,el,el2,by rw[rl.length,B0.length];exact sz6 hz,λp n=>h2 F2 H2 rs2 (.refl _ _) _ p (rl.append B0) n])
structure BiK(X:Cx)(x:Str)(val:Aj):Prop where
 gl:Gl X x
 mg:X.mg x=none
 bt:bootBuiltins x=some val
 n:x≠ "__name__"
 d:(↥x)
def lenD:PyData->Option Nat
 |.list xs=>some xs.length
 |.tuple xs=>some xs.length
 |_=>none
private def f1(g:PyData->Option PyData)(fa:EM FV):EM FV:=λU=>(fa U).bind λ(u,U1)=>R.get (derf U1 u) λx=>R.get (g x) λy=>.ok (.dat y,U1)
def J9(X:Cx)(f:Aj)(g:PyData->Option PyData):Prop:=∀ x z,g x=some z->noL z=true/\∃ r,jT X f r/\∀(H:Hp)(v:V)(Q:VK),
 Rep qk H v x->(∀ w,Rep qk H w z->Q w H)->r [v] H Q
def yV(ho:J9 X f g):jT X f (λvs H Q=>∃ v x z,vs= [v]/\g x=some z/\Rep qk H v x/\∀ w,Rep qk H w z->Q w H):=by
 rintro pins s O H xs us Q I r ⟨v,x,z,rfl,e,rv,k⟩
 let(_,r',hr,hh):=ho x z e
 erw[hr pins s O H [v] us Q I r (hh H v Q rv k)]
def zei{Q:VK}(hz:∀ x z,g x=some z->noL z=true)(ha:SE X mp a fa)(rs:RS M0 F U Z H)(hs:Sees mp Z O)(af:a⁻¹)
  (hp:EPost M0 F Z O H (λF' U' H' u=>∀ v,FOk M0 F' Z H' v u->Q v H') (f1 g fa U)):wpA X [a] O H λvs H1=>∃ v x z,vs= [v]/\g x=some z/\Rep qk H1 v x/\∀ w,Rep qk H1 w z->Q w H1 :=
 (zX zF pa_nil af).wp (ha.run rs hs hp λF1 U1 H1 u v rs1 s1 o1 h1=>by
  let(x,ex,h1):=R.got id h1
  let(y,ey,h1):=R.got id h1
  exact#[v,x,y,rfl,ey,o1.weak rs1 ex,λw a6=>h1 F1 H1 rs1 (.refl _ _) w (Rep.free (hz x y ey) a6)])
def zay{id:String}(ho:J9 X (.builtin id) g)(B:BiK X x (.builtin id))(ha:SE X mp a fa)(af:a⁻¹):SE X mp (.Call (.Name x p) [a] [] pos) (f1 g fa):=λM0 F U Z O H Q rs hs hp=>
 (ZO (yV ho) B.gl B.mg B.bt Zg B.n B.d af rfl).wp (zei (λx z e=>(ho x z e).1) ha rs hs af hp)
def zlL{id:String}(ho:J9 X (.type id) g)(B:BiK X x (.type id))(ha:SE X mp a fa)(af:a⁻¹):SE X mp (.Call (.Name x p) [a] [] pos) (f1 g fa):=λM0 F U Z O H Q rs hs hp=>
 (ZP (yV ho) B.gl B.mg B.bt Zg B.n B.d af rfl).wp (zei (λx z e=>(ho x z e).1) ha rs hs af hp)
def gLen(x:PyData):Option PyData:=(lenD x).map λn=>.int n
def zja:J9 X (.builtin "len") gLen:=λx z e=>by
 cases x with
 |list xs=>cases e;exact⟨rfl,_,ν4,λH v Q r k=>by
   let(l,vs,rfl,el,_,rl):=r.lst_inv
   exact#[l,vs,rfl,.inl (SqL.of el),by rw[rl.length];exact k _ (.int _)]⟩
 |tuple xs=>cases e;exact⟨rfl,_,ν4,λH v Q r k=>by
   let(l,vs,rfl,el,rl):=r.tup_inv
   exact#[l,vs,rfl,.inr (SqT.of el),by rw[rl.length];exact k _ (.int _)]⟩
 |_=>cases e
def gInt:PyData->Option PyData
 |.int i=>some (.int i)
 |.bool b=>some (.int (if b then 1 else 0))
 |_=>none
def zi9:J9 X (.type "int") gInt:=λx z e=>by
 cases x with
 |int i=>cases e;exact#[rfl,_,v8,λH v Q r k=>by cases r;exact .inl #[i,rfl,k _ (.int _)]]
 |bool b=>cases e;exact#[rfl,_,v8,λH v Q r k=>by cases r;exact .inr #[b,rfl,k _ (.int _)]]
 |_=>cases e
def qt:Aa->Option (List Bool)
 |[]=>some []
 |.bool b::r=>(qt r).map (b::·)
 |_=>none
def jM(bs:List Bool):qt (bs.map .bool)=some bs:=by
 induction bs with
 |nil=>rfl
 |cons b r ih=>simp[qt,ih]
def Q2:∀{ds:Aa}{bs:List Bool},qt ds=some bs->ds=bs.map .bool
 |[],bs,e=>by cases e;rfl
 |.bool b::r,bs,e=>by
  unfold qt at e
  cases q:qt r with
  |none=>rw[q]at e;cases e
  |some l=>rw[q]at e;cases e;rw[Q2 q];rfl
 |.none::r,bs,e=>by cases e
 |.int _::r,bs,e=>by cases e
 |.str _::r,bs,e=>by cases e
 |.list _::r,bs,e=>by cases e
 |.tuple _::r,bs,e=>by cases e
 |.dict _::r,bs,e=>by cases e
def gAll:PyData->Option PyData
 |.list xs=>(qt xs).map λbs=>.bool (bs.all id)
 |_=>none
def gAny:PyData->Option PyData
 |.list xs=>(qt xs).map λbs=>.bool (bs.any id)
 |_=>none
def zi7 (hc:X.calm=true):J9 X (.builtin "all") gAll:=λx z e=>by
 cases x with
 |list xs=>
  dsimp only [gAll]at e
  cases q:qt xs with
  |none=>rw[q]at e;cases e
  |some bs=>
   rw[q]at e;cases e
   exact⟨rfl,_,zaX hc,λH v Q r k=>by
    let(l,vs,rfl,el,_,rl):=r.lst_inv
    rw[Q2 q]at rl
    rw[rl.bls]at el
    exact#[l,bs,rfl,SqL.of el,k _ (.bool _)]⟩
 |_=>cases e
def zi8 (hc:X.calm=true):J9 X (.builtin "any") gAny:=λx z e=>by
 cases x with
 |list xs=>
  dsimp only [gAny]at e
  cases q:qt xs with
  |none=>rw[q]at e;cases e
  |some bs=>
   rw[q]at e;cases e
   exact⟨rfl,_,zaY hc,λH v Q r k=>by
    let(l,vs,rfl,el,_,rl):=r.lst_inv
    rw[Q2 q]at rl
    rw[rl.bls]at el
    exact#[l,bs,rfl,SqL.of el,k _ (.bool _)]⟩
 |_=>cases e
def q8(U:Gv)(u:FV):Option (Aa):=match u with
 |.dat (.tuple xs)=>some xs
 |u=>derL U u
def FOk.seq{K:Ah}(h:FOk M0 F Z H v u)(rs:RS M0 F U Z H)(e:q8 U u=some ds) :
  ∃ l vs,v=.ref l/\(SqL K H l vs∨SqT K H l vs)/\RepL (MM M0 F) H vs ds:=by
 unfold q8 at e
 split at e
 ·cases e
  let(a,vs,rfl,e1,r):=Rep.tup_inv h
  exact#[a,vs,rfl,.inr (SqT.of e1),r]
 ·let(a,vs,rfl,e1,r):=h.list rs e
  exact#[a,vs,rfl,.inl (SqL.of e1),r]
private def fListC(fa:EM FV):EM (Aa):=λU=>(fa U).bind λ(u,U1)=>R.get (q8 U1 u) λds=>.ok (ds,U1)
def zhZ (B:BiK X x (.type "list")) (ha:SE X mp a fa) (af:a⁻¹):SN X mp (.Call (.Name x p) [a] [] pos) (fListC fa):=λM0 F U Z O H Q rs hs hp=>
 (ZP Jp B.gl B.mg B.bt (zX zF pa_nil af) B.n B.d af rfl).wp (ha.run rs hs hp λF1 U1 H1 u v rs1 s1 o1 h1=>by
  let(ds,e,h1):=R.got id h1
  let(l,vs,rfl,hq,r):=o1.seq rs1 e
  exact#[l,vs,rfl,hq,λp n=>h1 F1 H1 rs1 (.refl _ _) vs p r n])
private def fTupC(fa:EM FV):EM FV:=λU=>(fa U).bind λ(u,U1)=>R.get (derL U1 u) λds=>.ok (.dat (.tuple ds),U1)
def zfz (B:BiK X x (.type "tuple")) (ha:SE X mp a fa) (af:a⁻¹):SE X mp (.Call (.Name x p) [a] [] pos) (fTupC fa):=λM0 F U Z O H Q rs hs hp=>
 (ZP vt B.gl B.mg B.bt (zX zF pa_nil af) B.n B.d af rfl).wp (ha.run rs hs hp λF1 U1 H1 u v rs1 s1 o1 h1=>by
  let(ds,e,h1):=R.got id h1
  let(l,vs,rfl,el,r):=o1.list rs1 e
  exact#[l,vs,rfl,.inl #[SqL.of el,λp n=>h1 F1 _ (rs1.same (qg n)) (.same (qg n)) _ (Rep.tuple zK (r.grow (qg n).grow))]])
def isiB (a T:String):Option Bool:=if (T= "int" ∨T= "bool" ∨T= "list" ∨T= "tuple" ∨T= "str")/\¬ a= "dict" then some (a==T||(a== "bool" &&T== "int")) else none
def zjs{K:Ah}(h:isiB (tyD x) T=some k):PySem.W.kitOne K (.type (tyD x)) (.type T)=some k:=by
 unfold isiB at h
 split at h
 next hT=>
  cases h
  rcases hT.1 with rfl | rfl | rfl | rfl | rfl<;>cases x<;>kernel_rfl
 ·cases h
def zjr (h:isiB (tyD x) T=some k):tyD x≠ "dict" :=by
 unfold isiB at h
 split at h
 ·rename_i hT;exact hT.2
 ·cases h
private def fIsi(T:String)(fa:EM FV):EM FV:=λU=>(fa U).bind λ(u,U1)=>R.get (derf U1 u) λx=>R.get (isiB (tyD x) T) λk=>.ok (.dat (.bool k),U1)
def zkk (B:BiK X x (.builtin "isinstance")) (BT:BiK X y (.type T)) (ha:SE X mp a fa) (af:starEach [a,.Name y p2] X.env=(false,eval a X.env)::starEach [.Name y p2] X.env) :
  SE X mp (.Call (.Name x p) [a,.Name y p2] [] pos) (fIsi T fa):=λM0 F U Z O H Q rs hs hp=>
 (ZO zdh B.gl B.mg B.bt (zX zF (zX (zhf (v:=.ty T) BT.gl BT.mg BT.bt rfl BT.n BT.d) pa_nil rfl) af) B.n B.d af rfl).wp (ha.run rs hs hp λF1 U1 H1 u v rs1 s1 o1 h1=>by
  let(z,ex,h1):=R.got id h1
  let(k,ek,h1):=R.got id h1
  exact#[v,T,_,k,rfl,(o1.weak rs1 ex).ty (zjr ek),zjs ek,h1 F1 H1 rs1 (.refl _ _) _ (Rep.bool k)])
private def f2(g:PyData->PyData->Option PyData)(fa fb:EM FV):EM FV:=λU=>(fa U).bind λ(u,U1)=>(fb U1).bind λ(w,U2)=>R.get (derf U2 u) λx=>R.get (derf U2 w) λy=>R.get (g x y) λz=>.ok (.dat z,U2)
def gMin:PyData->PyData->Option PyData
 |.int i,.int j=>some (.int (if j<i then j else i))
 |_,_=>none
def gMax:PyData->PyData->Option PyData
 |.int i,.int j=>some (.int (if j>i then j else i))
 |_,_=>none
def zes(h:gMin x y=some z):∃ i j,x=.int i/\y=.int j/\z=.int (if j<i then j else i):=by
 cases x<;>cases y<;>cases h
 exact#[_,_,rfl,rfl,rfl]
def zer(h:gMax x y=some z):∃ i j,x=.int i/\y=.int j/\z=.int (if j>i then j else i):=by
 cases x<;>cases y<;>cases h
 exact#[_,_,rfl,rfl,rfl]
def zhO (hc:X.calm=true) (B:BiK X x (.builtin "min")) (ha:SE X mp a fa) (hb:SE X mp b fb) (af:starEach [a,b] X.env=(false,eval a X.env)::starEach [b] X.env) (br:b⁻¹) :
  SE X mp (.Call (.Name x p) [a,b] [] pos) (f2 gMin fa fb):=λM0 F U Z O H Q rs hs hp=>
 (ZO (za1 hc) B.gl B.mg B.bt (zX zF (zX zF pa_nil br) af) B.n B.d af (by rw[br];rfl)).wp (ha.run rs hs hp λF1 U1 H1 u v rs1 s1 o1 h1=>hb.run rs1 hs h1 λF2 U2 H2 w v2 rs2 s2 o2 h2=>by
  let(x,e1,h2):=R.got id h2
  let(y,e2,h2):=R.got id h2
  let(z,e3,h2):=R.got id h2
  let(i,j,rfl,rfl,rfl):=zes e3
  cases (o1.stp s2 rs1.al0).weak rs2 e1
  cases o2.weak rs2 e2
  exact#[i,j,rfl,h2 F2 H2 rs2 (.refl _ _) _ (Rep.int _)])
def zhN (hc:X.calm=true) (B:BiK X x (.builtin "max")) (ha:SE X mp a fa) (hb:SE X mp b fb) (af:starEach [a,b] X.env=(false,eval a X.env)::starEach [b] X.env) (br:b⁻¹) :
  SE X mp (.Call (.Name x p) [a,b] [] pos) (f2 gMax fa fb):=λM0 F U Z O H Q rs hs hp=>
 (ZO (za0 hc) B.gl B.mg B.bt (zX zF (zX zF pa_nil br) af) B.n B.d af (by rw[br];rfl)).wp (ha.run rs hs hp λF1 U1 H1 u v rs1 s1 o1 h1=>hb.run rs1 hs h1 λF2 U2 H2 w v2 rs2 s2 o2 h2=>by
  let(x,e1,h2):=R.got id h2
  let(y,e2,h2):=R.got id h2
  let(z,e3,h2):=R.got id h2
  let(i,j,rfl,rfl,rfl):=zer e3
  cases (o1.stp s2 rs1.al0).weak rs2 e1
  cases o2.weak rs2 e2
  exact#[i,j,rfl,h2 F2 H2 rs2 (.refl _ _) _ (Rep.int _)])
def gNeg:PyData->Option PyData
 |.int i=>some (.int (-i))
 |_=>none
def zkl(ha:SE X mp a fa):SE X mp (.UnaryOp .USub a pos) (f1 gNeg fa):=λM0 F U Z O H Q rs hs hp=>
 (zfe zf1 zF).wp (ha.run rs hs hp λF1 U1 H1 u v rs1 s1 o1 h1=>by
  let(x,ex,h1):=R.got id h1
  let(y,ey,h1):=R.got id h1
  cases x with
  |int i=>
   cases ey
   cases o1.weak rs1 ex
   exact#[i,rfl,h1 F1 H1 rs1 (.refl _ _) _ (Rep.int _)]
  |_=>cases ey)
open Classical in
def binD(op:Operator)(x y:PyData):Option PyData:=match op with
 |.Add=>match x,y with
  |.int i,.int j=>some (.int (i+j))
  |.tuple a,.tuple b=>if a.length+b.length<=1000000 then some (.tuple (a++b)) else none
  |_,_=>none
 |.Sub=>match x,y with
  |.int i,.int j=>some (.int (i-j))
  |_,_=>none
 |.Mult=>match x,y with
  |.int i,.int j=>if (-(2 ^ 64)<i/\i<2 ^ 64)∨(-(2 ^ 64)<j/\j<2 ^ 64) then some (.int (i*j)) else none
  |.tuple a,.int n=>if 0<=n/\n<1000000/\a.length*n.toNat<=1000000 then some (.tuple (List.replicate n.toNat a).flatten) else none
  |_,_=>none
 |.Mod=>match x,y with
  |.int i,.int j=>if 0<j then some (.int (i % j)) else none
  |_,_=>none
 |.FloorDiv=>match x,y with
  |.int i,.int j=>if 0<j/\j<1073741824 then some (.int (i / j)) else none
  |_,_=>none
 |.Pow=>match x,y with
  |.int i,.int j=>if 0<=j/\j<=1000000/\i.natAbs<2 ^ 64 then some (.int (i ^ j.toNat)) else none
  |_,_=>none
 |.LShift=>match x,y with
  |.int i,.int j=>if 0<=j/\j<=1000000/\i.natAbs<2 ^ 64 then some (.int (i*2 ^ j.toNat)) else none
  |_,_=>none
 |.RShift=>match x,y with
  |.int i,.int j=>if 0<=j then some (.int (i / 2 ^ j.toNat)) else none
  |_,_=>none
 |.BitAnd=>match x,y with
  |.int i,.int j=>some (.int (Builtin.bitAnd i j))
  |_,_=>none
 |_=>none
def Q9{x y z:PyData}{f:Int->Int->Option PyData}(e:(match x,y with
  |.int i,.int j=>f i j
  |_,_=>none)=some z):∃ i j,x=.int i/\y=.int j/\f i j=some z:=by
 split at e
 ·exact#[_,_,rfl,rfl,e]
 ·cases e
def jt{α:Type}{c:Prop}{_:Decidable c}{x z:α}(e:(if c then some x else none)=some z):c/\x=z:=by
 grind
def zgT{op:Operator}{x y z:PyData}{i j k:Int}{C:Int->Int->Prop}{f:Int->Int->Int}(hc:C i j)(ho:OpR X (binaryOp op) (rI C λi j=>.int (f i j))) :
  ∃ r:R2,OpR X (binaryOp op) r/\∀(M:Ae)(H:Hp)(v u:V)(Q:VK),Al M H->Rep M H v (.int i)->Rep M H u (.int j)->(∀ w H',Same H H'->Rep M H' w (.int (f i j))->Q w H')->r v u H Q :=
 #[_,ho,λM H v u Q _ r1 r2 k=>by cases r1;cases r2;exact#[i,j,rfl,rfl,hc,k _ H (Same.refl H) (.int _)]]
def WM{op:Operator}{i j:Int}{f:Int->Int->Int}(ho:OpR X (binaryOp op) (rI0 λi j=>.int (f i j))) :
  ∃ r:R2,OpR X (binaryOp op) r/\∀(M:Ae)(H:Hp)(v u:V)(Q:VK),Al M H->Rep M H v (.int i)->Rep M H u (.int j)->(∀ w H',Same H H'->Rep M H' w (.int (f i j))->Q w H')->r v u H Q :=
 #[_,ho,λM H v u Q _ r1 r2 k=>by cases r1;cases r2;exact#[i,j,rfl,rfl,k _ H (Same.refl H) (.int _)]]
def zi3(op:Operator):OpS X (binaryOp op) (binD op):=λx y z e=>by
 let ii:∀{f:Int->Int->Int}{C:Int->Int->Prop}(_:OpR X (binaryOp op) (rI C λi j=>.int (f i j))),(∃ i j,x=.int i/\y=.int j/\C i j/\PyData.int (f i j)=z)->∃ r:R2,OpR X (binaryOp op) r/\∀(M:Ae)(H:Hp)(v u:V)(Q:VK),Al M H->Rep M H v x->Rep M H u y->(∀ w H',Same H H'->Rep M H' w z->Q w H')->r v u H Q:=λho ⟨i,j,e1,e2,h,e3⟩=>by
  subst e1 e2 e3
  erw[zgT (x:=.none) (y:=.none) (z:=.none) (k:=0) h ho]
 cases op with
 |Add=>
  dsimp only [binD]at e
  split at e
  ·cases e;exact WM KA
  ·let(h,rfl):=jt e
   exact⟨_,zeZ,λM H v u Q _ q1 q2 k=>by
    let(l,vs,rfl,e,r):=q1.tup_inv
    let(l2,Au,rfl,e2,r2):=q2.tup_inv
    refine#[l,l2,vs,Au,rfl,rfl,SqT.of e,SqT.of e2,by rw[r.length,r2.length];exact sz6 h,λz=>k _ H (Same.refl H) ?_,λz=>k _ H (Same.refl H) ?_,λp np=>k _ _ (qg np) (.tuple zK ((r.append r2).grow (qg np).grow))]
    ·subst z
     cases r
     erw[q2]
    ·subst z
     cases r2
     rw[xX];exact q1⟩
  ·cases e
 |Sub=>
  let(i,j,rfl,rfl,e):=Q9 e
  cases e;exact WM zjT
 |Mult=>
  dsimp only [binD]at e
  split at e
  ·erw[ii ze2 #[_,_,rfl,rfl,(jt e :)]]
  next n=>
   let(h,rfl):=jt e
   exact⟨_,zhe,λM H v u Q _ q1 q2 k=>by
    let(l,vs,rfl,e,r):=q1.tup_inv
    cases q2
    refine#[l,_,vs,rfl,rfl,SqT.of e,by lia,by lia,by rw[r.length];exact sz6 h.2.2,λhs=>k _ H (Same.refl H) ?_,λp np=>k _ _ (qg np) (.tuple zK ((r.rep _).grow (qg np).grow))]
    rcases hs with z | z
    ·subst z
     cases r
     have:(List.replicate n.toNat ([]:Aa)).flatten= []:=by simp
     rw[this];exact q1
    ·subst z
     grind⟩
  ·cases e
 |Mod=>exact ii ze1 (let #[i,j,a,b,e]:=Q9 e;#[i,j,a,b,(jt e :)])
 |FloorDiv=>exact ii zhb (let #[i,j,a,b,e]:=Q9 e;#[i,j,a,b,(jt e :)])
 |Pow=>exact ii zjP (let #[i,j,a,b,e]:=Q9 e;#[i,j,a,b,(jt e :)])
 |LShift=>exact ii zjQ (let #[i,j,a,b,e]:=Q9 e;#[i,j,a,b,(jt e :)])
 |RShift=>exact ii zjR (let #[i,j,a,b,e]:=Q9 e;#[i,j,a,b,(jt e :)])
 |BitAnd=>
  let(i,j,rfl,rfl,e):=Q9 e
  cases e;exact WM zjL
 |_=>cases e
def lay:Nat->PyData->Bool
 |_,.none=>true
 |_,.bool _=>true
 |_,.int _=>true
 |_,.str x=>PyData.strOk x
 |n+1,.list xs=>xs.all (lay n)
 |n+1,.tuple xs=>xs.all (lay n)
 |_,_=>false
def ν8(ih:∀ d,lay n d=true->d.canLay0=true/\d.depth<=n):∀ xs:Aa,xs.all (lay n)=true->PyData.canLayAll0 xs=true/\PyData.depthAll xs<=n
 |[],_=>#[rfl,xS _]
 |x::r,h=>by
  rw[uc,xi]at h
  let(a,b):=ih x h.1
  let(c,d):=ν8 ih r h.2
  exact#[by simp[PyData.canLayAll0,a,c],by simp only[PyData.depthAll];lia]
def je:∀(n:Nat)(d:PyData),lay n d=true->d.canLay0=true/\d.depth<=n
 |n,.none,_=>#[rfl,xS _]
 |n,.bool _,_=>#[rfl,xS _]
 |n,.int _,_=>#[rfl,xS _]
 |n,.str _,h=>#[by simpa [PyData.canLay0,lay] using h,xS _]
 |n+1,.list xs,h=>by
  let(a,b):=ν8 (je n) xs (by simpa [lay] using h)
  exact#[by simpa [PyData.canLay0] using a,by simp only[PyData.depth];lia]
 |n+1,.tuple xs,h=>by
  let(a,b):=ν8 (je n) xs (by simpa [lay] using h)
  exact#[by simpa [PyData.canLay0] using a,by simp only[PyData.depth];lia]
 |0,.list _,h=>by simp[lay]at h
 |0,.tuple _,h=>by simp[lay]at h
 |0,.dict _,h=>by simp[lay]at h
 |n+1,.dict _,h=>by simp[lay]at h
def isN:PyData->Bool
 |.none=>true
 |_=>false
def inD(x:PyData)(ys:Aa):Bool:=ys.any λy=>PyData.eqv y x
def cmpD(op:CmpOp)(x y:PyData):Option Bool:=match op with
 |.Eq=>if lay 20 x&&lay 20 y then some (PyData.eqv x y) else none
 |.NotEq=>if lay 20 x&&lay 20 y then some (!PyData.eqv x y) else none
 |.Lt=>match x,y with
  |.int i,.int j=>some (decide (i<j))
  |_,_=>none
 |.LtE=>match x,y with
  |.int i,.int j=>some (decide (i<=j))
  |_,_=>none
 |.Gt=>match x,y with
  |.int i,.int j=>some (decide (j<i))
  |_,_=>none
 |.GtE=>match x,y with
  |.int i,.int j=>some (decide (j<=i))
  |_,_=>none
 |.In=>match y with
  |.list ys=>if lay 20 x&&ys.all (lay 20) then some (inD x ys) else none
  |.tuple ys=>if lay 20 x&&ys.all (lay 20) then some (inD x ys) else none
  |_=>none
 |.NotIn=>match y with
  |.list ys=>if lay 20 x&&ys.all (lay 20) then some (!inD x ys) else none
  |.tuple ys=>if lay 20 x&&ys.all (lay 20) then some (!inD x ys) else none
  |_=>none
 |.Is=>match y with
  |.none=>some (isN x)
  |_=>none
 |.IsNot=>match y with
  |.none=>some (!isN x)
  |_=>none
end
section
variable {X:Cx}
open Classical in
noncomputable def eqW(h:Heap)(dx:PyData)(w:Aj):Bool:=if ∃ d as,Reads h w d as/\d.canLay0=true/\PyData.eqv d dx=true then true else false
def zeh(r:Reads h w d as)(hl:d.canLay0=true):eqW h dx w=PyData.eqv d dx:=by
 unfold eqW
 cases e:PyData.eqv d dx with
 |true=>rw[if_pos #[d,as,r,hl,e]]
 |false=>
  rw[if_neg]
  rintro⟨d',Fi,r',dv,e'⟩
  have:=SeqAt.Reads.unique d d' w as Fi hl r r'
  rw[<- this,e]at e';cases e'
def Jn:∀{us:An}{ys:Aa}{as:List Ap},ReadsAll h us ys as->ys.all (lay 20)=true->us.any (eqW h dx)=inD dx ys
 |_,_,_,.nil,_=>rfl
 |_,_,_,.cons r t,hl=>by
  rw[uc,xi]at hl
  unfold inD
  rw[xT,xT,zeh r (je 20 _ hl.1).1,Jn t hl.2];rfl
def Jw(rx:Reads s.heap v dx bs)(hx:lay 20 dx=true)(hu:∀ n,n<=60->A.units+n<cLine):∀{us:An}{ys:Aa}{as:List Ap},ReadsAll s.heap us ys as->ys.all (lay 20)=true->∀ u∈us,SeqAt.EqAt A s u v (eqW s.heap dx u)
 |_,_,_,.nil,_=>λu hu=>by cases hu
 |_,_,_,.cons r t,hl=>λu' AI=>by
  rw[uc,xi]at hl
  rcases xC.mp AI with rfl | AI
  ·rw[zeh r (je 20 _ hl.1).1]
   let h1:=je 20 _ hl.1
   let h2:=je 20 _ hx
   exact SeqAt.eqAt_reads _ _ _ _ _ _ _ _ r rx h1.1 h2.1 (hu _ (xD (Nat.min_le_left _ _) (by lia)))
  ·erw[Jw rx hx hu t hl.2 u' AI]
def zlz(K:Ah)(neg:Bool):R2:=λx y H Q=>∃ M M' dx ys p vs,Rep M H x dx/\y=.ref p/\(SqL K H p vs∨SqT K H p vs)/\RepL M' H vs ys/\lay 20 dx=true/\ys.all (lay 20)=true/\Q (.bl (if neg then !inD dx ys else inD dx ys)) H
def ze0(hr:Room 1 X.A):OpR X (compareOp .In) (zlz X.K false):=by
 intro pins s O H x y v u Q I rx ry h
 let(M,M',dx,ys,p,vs,r1,rfl,hq,r2,l1,l2,q):=h
 cases ry
 let(bs,z1):=r1.reads I.hok (je 20 _ l1).1 rx
 let hu:=(hr.in1).u60
 rcases hq with hq | hq
 ·let(ab,r,pl,hz):=I.list hq
  let(as,z2):=r2.reads I.hok (ν8 (je 20) _ l2).1 r
  refine SeqAt.in_listAt (eqW s.heap dx) pl.isList (λw hw=>Jw z1 l1 hu z2 l2 w (~~~hw)) #[.bl _,H,I,rfl,?_]
  rw[show ab.toArray.any (eqW s.heap dx)=ab.any (eqW s.heap dx) by simp,Jn z2 l2]
  erw[q]
 ·let(ab,r,pl,hz):=I.tuple hq
  let(as,z2):=r2.reads I.hok (ν8 (je 20) _ l2).1 r
  refine SeqAt.in_tupleAt (eqW s.heap dx) pl (λw hw=>Jw z1 l1 hu z2 l2 w (~~~hw)) #[.bl _,H,I,rfl,?_]
  rw[show ab.toArray.any (eqW s.heap dx)=ab.any (eqW s.heap dx) by simp,Jn z2 l2]
  erw[q]
def Vs(hr:Room 1 X.A):OpR X (compareOp .NotIn) (zlz X.K true):=by
 intro pins s O H x y v u Q I rx ry h
 let(M,M',dx,ys,p,vs,r1,rfl,hq,r2,l1,l2,q):=h
 cases ry
 let(bs,z1):=r1.reads I.hok (je 20 _ l1).1 rx
 let hu:=(hr.in1).u60
 rcases hq with hq | hq
 ·let(ab,r,pl,hz):=I.list hq
  let(as,z2):=r2.reads I.hok (ν8 (je 20) _ l2).1 r
  refine SeqAt.notIn_listAt (eqW s.heap dx) pl.isList (λw hw=>Jw z1 l1 hu z2 l2 w (~~~hw)) #[.bl _,H,I,rfl,?_]
  rw[show ab.toArray.any (eqW s.heap dx)=ab.any (eqW s.heap dx) by simp,Jn z2 l2]
  erw[q]
 ·let(ab,r,pl,hz):=I.tuple hq
  let(as,z2):=r2.reads I.hok (ν8 (je 20) _ l2).1 r
  refine SeqAt.notIn_tupleAt (eqW s.heap dx) pl (λw hw=>Jw z1 l1 hu z2 l2 w (~~~hw)) #[.bl _,H,I,rfl,?_]
  rw[show ab.toArray.any (eqW s.heap dx)=ab.any (eqW s.heap dx) by simp,Jn z2 l2]
  erw[q]
def W9(r:Rep M H v x):decide (v=.non)=isN x:=by
 cases r<;>rfl
def JP(hr:Room 1 X.A)(op:CmpOp):w9 X op (cmpD op):=λx y z e=>by
 let h60:=hr.u60
 let ly:∀{w},(if lay 20 x&&lay 20 y then some w else none)=some z->x.canLay0=true/\y.canLay0=true/\min x.depth y.depth<=60/\w=z:=λe=>by
  let(h,e):=jt e
  rw[xi]at h
  let h1:=je 20 _ h.1
  exact#[h1.1,(je 20 _ h.2).1,xD (Nat.min_le_left _ _) (by lia),e]
 cases op with
 |Eq=>
  let(h1,h2,h3,rfl):=ly e
  exact#[_,zcg h60,λH v u Q r1 r2 k=>#[_,_,_,_,r1,r2,h1,h2,h3,k]]
 |NotEq=>
  let(h1,h2,h3,rfl):=ly e
  exact#[_,zch h60,λH v u Q r1 r2 k=>#[_,_,_,_,r1,r2,h1,h2,h3,k]]
 |Lt=>
  dsimp only [cmpD]at e
  split at e
  ·cases e;exact⟨_,zlt,λH v u Q r1 r2 k=>by cases r1;cases r2;exact⟨_,_,rfl,rfl,k⟩⟩
  ·cases e
 |LtE=>
  dsimp only [cmpD]at e
  split at e
  ·cases e;exact⟨_,zls,λH v u Q r1 r2 k=>by cases r1;cases r2;exact⟨_,_,rfl,rfl,k⟩⟩
  ·cases e
 |Gt=>
  dsimp only [cmpD]at e
  split at e
  ·cases e;exact⟨_,zlr,λH v u Q r1 r2 k=>by cases r1;cases r2;exact⟨_,_,rfl,rfl,k⟩⟩
  ·cases e
 |GtE=>
  dsimp only [cmpD]at e
  split at e
  ·cases e;exact⟨_,zlq,λH v u Q r1 r2 k=>by cases r1;cases r2;exact⟨_,_,rfl,rfl,k⟩⟩
  ·cases e
 |In=>
  dsimp only [cmpD]at e
  split at e
  ·let(h,rfl):=jt e
   rw[xi]at h
   exact⟨_,ze0 hr,λH v u Q r1 r2 k=>by
    let(l,vs,rfl,el,_,rl):=r2.lst_inv
    exact#[_,_,_,_,l,vs,r1,rfl,.inl (SqL.of el),rl,h.1,h.2,k]⟩
  ·let(h,rfl):=jt e
   rw[xi]at h
   exact⟨_,ze0 hr,λH v u Q r1 r2 k=>by
    let(l,vs,rfl,el,rl):=r2.tup_inv
    exact#[_,_,_,_,l,vs,r1,rfl,.inr (SqT.of el),rl,h.1,h.2,k]⟩
  ·cases e
 |NotIn=>
  dsimp only [cmpD]at e
  split at e
  ·let(h,rfl):=jt e
   rw[xi]at h
   exact⟨_,Vs hr,λH v u Q r1 r2 k=>by
    let(l,vs,rfl,el,_,rl):=r2.lst_inv
    exact#[_,_,_,_,l,vs,r1,rfl,.inl (SqL.of el),rl,h.1,h.2,k]⟩
  ·let(h,rfl):=jt e
   rw[xi]at h
   exact⟨_,Vs hr,λH v u Q r1 r2 k=>by
    let(l,vs,rfl,el,rl):=r2.tup_inv
    exact#[_,_,_,_,l,vs,r1,rfl,.inr (SqT.of el),rl,h.1,h.2,k]⟩
  ·cases e
 |Is=>
  dsimp only [cmpD]at e
  split at e
  ·cases e
   exact#[_,zjO,λH v u Q r1 r2 k=>by cases r2;exact#[rfl,by rw[W9 r1];exact k]]
  ·cases e
 |IsNot=>
  dsimp only [cmpD]at e
  split at e
  ·cases e
   exact⟨_,zhd,λH v u Q r1 r2 k=>by
    cases r2
    refine#[rfl,?_]
    rw[W9 r1];exact k⟩
  ·cases e
end
mutual
inductive IT where
 |nm (s i:Nat)
 |tp (ts:ITs)
inductive ITs where
 |nil
 |cons (t:IT) (ts:ITs)
end
mutual
noncomputable def tgF:IT->PyData->Gv->Option Gv
 |.nm _ i,x,U=>if i<U.length then some (U.set i (@&x)) else none
 |.tp ts,.tuple xs,U=>tgFs ts xs U
 |.tp ts,.list xs,U=>tgFs ts xs U
 |_,_,_=>none
noncomputable def tgFs:ITs->Aa->Gv->Option Gv
 |.nil,[],U=>some U
 |.cons t ts,x::xs,U=>(tgF t x U).bind λU=>tgFs ts xs U
 |_,_,_=>none
end
def ITs.len:ITs->Nat
 |.nil=>0
 |.cons _ ts=>ts.len+1
def vn:∀{ts:ITs}{ds:Aa}{U U':Gv},tgFs ts ds U=some U'->ds.length=ts.len
 |.nil,[],_,_,_=>rfl
 |.nil,_::_,_,_,e=>by simp[tgFs]at e
 |.cons t ts,[],_,_,e=>by simp[tgFs]at e
 |.cons t ts,d::ds,U,U',e=>by
  rw[tgFs]at e
  cases q:tgF t d U with
  |none=>rw[q]at e;cases e
  |some U1=>rw[q]at e;rw[xo,vn e];rfl
def KQ(t:IT):∀(d:PyData)(U U':Gv),tgF t d U=some U'->U'.length=U.length:=by
 erw[IT.rec (motive_1:=λt=>∀(d:PyData)(U U':Gv),tgF t d U=some U'->U'.length=U.length) (motive_2:=λts=>∀(ds:Aa)(U U':Gv),tgFs ts ds U=some U'->U'.length=U.length) ?_ ?_ ?_ ?_ t]
 ·intro s i d U U' e
  rw[tgF]at e
  grind
 ·intro ts ih d U U' e
  cases d with
  |tuple xs=>rw[tgF]at e;exact ih _ _ _ e
  |list xs=>rw[tgF]at e;exact ih _ _ _ e
  |_=>simp[tgF]at e
 ·intro ds U U' e
  cases ds with
  |nil=>simp[tgFs]at e;rw[e]
  |cons=>simp[tgFs]at e
 ·intro t ts ih1 DT ds U U' e
  cases ds with
  |nil=>simp[tgFs]at e
  |cons d ds=>
   rw[tgFs]at e
   cases q:tgF t d U with
   |none=>rw[q]at e;cases e
   |some U1=>rw[q]at e;rw[DT _ _ _ e,ih1 _ _ _ q]
def SG(X:Cx)(mp:Ac)(kp:Nat->Prop)(tg:Expr)(t:IT):Prop:=∀(M0:Ae)(F:Fp)(U U':Gv)(Z:Nu)(O:St)(H:Hp)(v:V)(d:PyData)(Q:St->Hp->Prop),RS M0 F U Z H->Sees mp Z O->O.length=X.N.length->Rep (MM M0 F) H v d ->
 tgF t d U=some U'->(∀ F' Z' O',RS M0 F' U' Z' H->Stp F H F' H->Sees mp Z' O'->O'.length=X.N.length->(∀ i:Nat,kp i->Z'[i]?=Z[i]?)->(∀ s i:Nat,mp[s]?=some i->kp i->O'[s]?=O[s]?)->Q O' H)->wpG X tg v O H Q
def SGs(X:Cx)(mp:Ac)(kp:Nat->Prop)(fg:Ag)(ts:ITs):Prop:=∀(M0:Ae)(F:Fp)(U U':Gv)(Z:Nu)(O:St)(H:Hp)(vs:List V)(ds:Aa)(Q:St->Hp->Prop),RS M0 F U Z H->Sees mp Z O->O.length=X.N.length->RepL (MM M0 F) H vs ds ->
 tgFs ts ds U=some U'->(∀ F' Z' O',RS M0 F' U' Z' H->Stp F H F' H->Sees mp Z' O'->O'.length=X.N.length->(∀ i:Nat,kp i->Z'[i]?=Z[i]?)->(∀ s i:Nat,mp[s]?=some i->kp i->O'[s]?=O[s]?)->Q O' H)->zkT X fg vs O H Q
section
variable {X:Cx}{mp:Ac}{kp:Nat->Prop}{tg:Expr}{fg:Ag}{t:IT}{ts:ITs}{pos:Pos}
def Sees.set(h:Sees mp Z O)(hn:mp.Nodup)(hm:mp[s]?=some i)(hs:s<O.length):Sees mp (Z.set i (some v)) (O.set s (some v)):=λs' j w e1 e2=>by
 by_cases hj:i=j
 ·subst hj
  have:s'=s:=by
   let h1:=(xa.mp e1).1
   let h2:=(xa.mp hm).1
   exact (List.getElem?_inj h1 hn).mp (by rw[e1,hm])
  subst this
  rw[xn hs]
  by_cases hl:i<Z.length
  ·rw[xn hl]at e2;rw[e2]
  ·rw[xE (~~~hl)]at e2;cases e2
 ·rw[xg hj]at e2
  have:s'≠s:=λz=>hj (by grind)
  rw[xg (Ne.symm this)]
  erw[h s' j w e1 e2]
def zhS(hN:X.N.Nodup)(hn:mp.Nodup)(hi:X.N[s]?=some x)(hm:mp[s]?=some i)(Bc:¬ kp i)(hx:Loc X.env.scope x)(hf:X.fn x=true∨X.env.scope.names.lookup x=some .local):SG X mp kp (.Name x pos) (.nm s i) :=
 λM0 F U U' Z O H v d Q rs hs hl r e k=>by
  rw[tgF]at e
  split at e
  next bx=>
   cases e
   let hsl:s<O.length:=by rw[hl];exact (xa.mp hi).1
   let(F',cq,s'):=rs.setD r bx
   refine (zat hN hi hx hf).wp (k F' _ _ cq s' (hs.set hn hm hsl) (~~~hl) (λj hj=>?_) (λs2 j e2 hj=>?_))
   ·rw[xg (λz=>Bc (by rw[z];exact hj))]
   ·rw[xg]
    intro z
    subst z
    rw[hm]at e2
    cases e2
    erw[Bc hj]
  ·cases e
def zhT:SGs X mp kp [] .nil:=λM0 F U U' Z O H vs ds Q rs hs hl r e k=>by
 cases r with
 |nil=>
  simp[tgFs]at e
  subst e
  erw[pgs_nil.wp #[rfl,k F Z O rs (.refl _ _) hs hl (λ_ _=>rfl) (λ_ _ _ _=>rfl)]]
 |cons r rr=>simp[tgFs]at e
def zfD(h1:SG X mp kp tg t)(h2:SGs X mp kp fg ts)(af:(assignEach (tg::fg) X.env).map (·.2)=assign tg X.env::(assignEach fg X.env).map (·.2)):SGs X mp kp (tg::fg) (.cons t ts):=λM0 F U U' Z O H vs ds Q rs hs hl r e k=>by
 cases r with
 |nil=>simp[tgFs]at e
 |cons r rr=>
  rename_i v vs d ds
  rw[tgFs]at e
  cases e1:tgF t d U with
  |none=>rw[e1]at e;cases e
  |some U1=>
   rw[e1]at e
   erw[(zfh yy WZ af).wp #[v,vs,rfl,h1 M0 F U U1 Z O H v d _ rs hs hl r e1 λF1 Z1 O1 rs1 s1 g6 hl1 n1 m1=>?_]]
   erw[h2 M0 F1 U1 U' Z1 O1 H vs ds _ rs1 g6 hl1 (W8 s1 rs.al0 rr) e λF2 Z2 O2 rs2 s2 cz hl2 n2 m2=>k F2 Z2 O2 rs2 (s1.trans s2) cz hl2 (λi hi=>(n2 i hi).trans (n1 i hi)) (λs i e hi=>(m2 s i e hi).trans (m1 s i e hi))]
def zkt(hc:X.calm=true)(h:SGs X mp kp fg ts)(hl:ts.len=(assignEach fg X.env).length)(af:(assignEach fg X.env).findIdx? (·.1)=none):SG X mp kp (.Tuple fg n pos) (.tp ts):=λM0 F U U' Z O H v d Q rs hs dv r e k=>by
 cases d with
 |tuple ds=>
  rw[tgF]at e
  let(a,vs,rfl,ea,rr):=r.tup_inv
  exact (zjZ hc WZ rfl af).wp #[a,vs,rfl,SqT.of ea,by rw[rr.length,vn e,hl],h M0 F U U' Z O H vs ds Q rs hs dv rr e k]
 |list ds=>
  rw[tgF]at e
  let(a,vs,rfl,ea,_,rr):=r.lst_inv
  exact (zhm hc WZ rfl af).wp #[a,vs,rfl,SqL.of ea,by rw[rr.length,vn e,hl],h M0 F U U' Z O H vs ds Q rs hs dv rr e k]
 |_=>simp[tgF]at e
end
def JI(M0:Ae)(F:Fp)(J:It)(ds:Aa)(H1:Hp):Prop:=∀(i:Nat)(F':Fp)(H':Hp),Stp F H1 F' H'->(∀ a,M0 a->H1 a≠none) ->
 (∀ d,ds[i]?=some d->J.go i H'/\∀ x H2,J.yld i H' x H2->Same H' H2/\Rep (MM M0 F') H2 x d)/\(ds.length<=i->J.stop i H')
def SI(X:Cx)(mp:Ac)(tg iter:Expr)(f:EM (Aa)):Prop:=∀(M0:Ae)(F:Fp)(U:Gv)(Z:Nu)(O:St)(H:Hp)(R:It->Hp->Prop),RS M0 F U Z H->Sees mp Z O ->
 EPost M0 F Z O H (λF' U' H' ds=>∀ J,JI M0 F' J ds H'->R J H') (f U)->wpI X tg iter O H R
section
variable {X:Cx}{mp:Ac}{a b c e tg iter:Expr}{ifs:Ag}{pos p:Pos}{fa:EM FV}{ta:EM Bool}
private def fSeqL(fa:EM FV):EM (Aa):=λU=>(fa U).bind λ(u,U1)=>match derS U1 u with
 |some (.list ds)=>.ok (ds,U1)
 |_=>.bad
private def fSeqT(fa:EM FV):EM (Aa):=λU=>(fa U).bind λ(u,U1)=>match derS U1 u with
 |some (.tuple ds)=>.ok (ds,U1)
 |_=>.bad
def zeD{F:Fp}{K:Ah}{H1:Hp}{l:Ap}(e:H1 l=some (.lst vs))(n:∀ j,l∉F j)(r:RepL (MM M0 F) H1 vs ds):JI M0 F (Itl K l) ds H1:=λi F' H' s h0=>by
 let e':=(s.keep l _ e n).1
 refine#[λd hd=>?_,λhl=>#[vs,SqL.of e',by rw[r.length];exact hl]]
 let(v,hv,rv):=r.get' hd
 exact⟨⟨vs,v,SqL.of e',hv⟩,λx H2 ⟨e2,y⟩=>by
  subst e2
  have:=y vs (SqL.of e')
  rw[hv]at this;cases this
  exact#[Same.refl _,qf s h0 rv]⟩
def zgW{F:Fp}{K:Ah}{H1:Hp}{l:Ap}(e:H1 l=some (.lst vs))(n:¬ MM M0 F l)(r:RepL (MM M0 F) H1 vs ds):JI M0 F (Itl K l) ds H1:=zeD e (λj hj=>n (.inr #[j,hj])) r
def zjw{F:Fp}{K:Ah}{H1:Hp}{l:Ap}(e:H1 l=some (.tup vs))(r:RepL (MM M0 F) H1 vs ds):JI M0 F (Itt K l) ds H1:=λi F' H' s h0=>by
 let e':=s.tups l _ e
 refine#[λd hd=>?_,λhl=>#[vs,SqT.of e',by rw[r.length];exact hl]]
 let(v,hv,rv):=r.get' hd
 exact⟨⟨vs,v,SqT.of e',hv⟩,λx H2 ⟨e2,y⟩=>by
  subst e2
  have:=y vs (SqT.of e')
  rw[hv]at this;cases this
  exact#[Same.refl _,qf s h0 rv]⟩
def zhV(ha:SE X mp iter fa):SI X mp tg iter (fSeqL fa):=λM0 F U Z O H R rs hs hp=>
 (zau zF).wp (ha.run rs hs hp λF1 U1 H1 u v rs1 s1 o1 h1=>by
  delta h1 ds eu
  let(l,vs,rfl,e,n,r):=(o1.strong rs1 eu).lst_inv
  exact#[l,rfl,#[vs,SqL.of e],h1 F1 H1 rs1 (.refl _ _) _ (zgW e n r)])
def zkv(ha:SE X mp iter fa):SI X mp tg iter (fSeqT fa):=λM0 F U Z O H R rs hs hp=>
 (zj0 zF).wp (ha.run rs hs hp λF1 U1 H1 u v rs1 s1 o1 h1=>by
  delta h1 ds eu
  let(l,vs,rfl,e,r):=(o1.strong rs1 eu).tup_inv
  exact#[l,rfl,#[vs,SqT.of e],h1 F1 H1 rs1 (.refl _ _) _ (zjw e r)])
private def zej(f g:EM (Aa)):EM (Aa):=λU=>match f U with
 |.bad=>g U
 |r=>r
def zku{f g:EM (Aa)}(hf:SI X mp tg iter f)(hg:SI X mp tg iter g):SI X mp tg iter (zej f g):=λM0 F U Z O H R rs hs hp=>by
 unfold zej at hp
 cases e:f U with
 |bad=>rw[e]at hp;exact hg M0 F U Z O H R rs hs hp
 |ok r=>rw[e]at hp;exact hf M0 F U Z O H R rs hs (by rw[e];exact hp)
private def fRange(fa:EM FV):EM (Aa):=λU=>(fa U).bind λ(u,U1)=>match derf U1 u with
 |some (.int n)=>if -1000000<=n/\n<=1000000 then .ok (zV n.toNat,U1) else .bad
 |_=>.bad
def zeE(n:Nat)(H1:Hp):JI M0 F (Itr 0 n) (zV n) H1:=λi F' H' s h0=>by
 refine#[λd hd=>?_,λhl=>?_]
 ·let(hi,rfl):=jf hd
  exact#[hi,λx H2 ⟨e,y⟩=>by subst e y;exact#[Same.refl _,by rw[show (0:Int)+(i:Int)=i by lia];exact .int _]]
 ·show n<=i
  simpa [zC] using hl
def zfF (B:BiK X x (.type "range")) (ex:x= "range") (ha:SE X mp a fa) (af:a⁻¹):SI X mp tg (.Call (.Name x p) [a] [] pos) (fRange fa):=λM0 F U Z O H R rs hs hp=>by
 subst ex
 exact (zcm B.gl B.mg (zX zF pa_nil af) af).wp (ha.run rs hs hp λF1 U1 H1 u v rs1 s1 o1 h1=>by
  delta h1 n eu
  delta h1 hn
  cases o1.weak rs1 eu
  exact#[n,rfl,by lia,by lia,h1 F1 H1 rs1 (.refl _ _) _ (zeE n.toNat H1)])
def SF(X:Cx)(mp:Ac)(ifs:Ag)(f:EM Bool):Prop:=∀(M0:Ae)(F:Fp)(U:Gv)(Z:Nu)(O:St)(H:Hp)(Q:Bool->Hp->Prop),RS M0 F U Z H->Sees mp Z O ->
 EPost M0 F Z O H (λF' U' H' b=>Q b H') (f U)->wpF X ifs O H Q
private def fYes:EM Bool:=λU=>.ok (true,U)
def zkr:SF X mp [] fYes:=λM0 F U Z O H Q rs hs hp=>pf_nil.wp (hp F H rs (.refl _ _))
def zks(h:ST X mp c ta):SF X mp [c] ta:=λM0 F U Z O H Q rs hs hp=>(zjX Zh).wp (h M0 F U Z O H Q rs hs hp)
def mpC(mp:Ac)(n k:Nat)(ix:Ac):Ac:=(List.range k).map (n+·)++ix.map λi=>mp.getD i 0
def zjD(h:s<k):(mpC mp n k ix)[s]?=some (n+s):=by
 unfold mpC
 rw[xc (~~~h),xf,um h];rfl
def zeU:(mpC mp n k ix)[k+j]?=(ix[j]?).map λi=>mp.getD i 0:=by
 unfold mpC
 rw[xp (by simp),xf]
 simp
def SNt(mp:Ac)(t:TE)(f:EM (Aa)):Prop:=∀(M0:Ae)(F:Fp)(U:Gv)(Z:Nu)(O:St)(H:Hp)(Q:VK),RS M0 F U Z H->Sees mp Z O ->
 EPost M0 F Z O H (λF' U' H' ds=>∀ vs p,RepL (MM M0 F') H' vs ds->H' p=none->Q (.ref p) (upd H' p (.lst vs))) (f U)->t O H Q
end
inductive AV where
 |v (u:FV)
 |io (i:Nat)
inductive AOks(M0:Ae)(F:Fp)(Z:Nu)(H:Hp):List V->List AV->Prop
 |nil:AOks M0 F Z H [] []
 |v {v:V} {vs:List V} {u:FV} {as:List AV}:FOk M0 F Z H v u->AOks M0 F Z H vs as->AOks M0 F Z H (v::vs) (.v u::as)
 |io {v:V} {vs:List V} {i:Nat} {as:List AV}:Z[i]?=some (some v)->AOks M0 F Z H vs as->AOks M0 F Z H (v::vs) (.io i::as)
def APost(M0:Ae)(F:Fp)(Z:Nu)(O:St)(H:Hp)(P:Fp->Gv->Nu->Hp->List AV->Prop)(r:R (List AV×Gv)):Prop:=match r with
 |.ok (as,U')=>∀ F' Z' H',RS M0 F' U' Z' H'->Z <+: Z'->Stp F H F' H'->P F' U' Z' H' as
 |.bad=>False
def OPost(M0:Ae)(F:Fp)(Z:Nu)(O:St)(H:Hp)(P:Fp->Gv->Hp->OV->V->Prop)(r:R (OV×Gv)):Prop:=match r with
 |.ok (o,U')=>∀ F' H' v,RS M0 F' (U'++ [some o]) (Z++ [some v]) H'->Stp F H F' H'->P F' U' H' o v
 |.bad=>False
def SA(X:Cx)(mp:Ac)(es:Ag)(f:EM (List AV)):Prop:=∀(M0:Ae)(F:Fp)(U:Gv)(Z:Nu)(O:St)(H:Hp)(Q:List V->Hp->Prop),RS M0 F U Z H->Sees mp Z O ->
 APost M0 F Z O H (λF' U' Z' H' as=>∀ vs,AOks M0 F' Z' H' vs as->Q vs H') (f U)->wpA X es O H Q
def SO(X:Cx)(mp:Ac)(e:Expr)(f:EM OV):Prop:=∀(M0:Ae)(F:Fp)(U:Gv)(Z:Nu)(O:St)(H:Hp)(Q:VK),RS M0 F U Z H->Sees mp Z O ->
 OPost M0 F Z O H (λF' U' H' o v=>Q v H') (f U)->wpE X e O H Q
section
variable {M0:Ae}{F:Fp}{Z:Nu}{O:St}{H:Hp}{α:Type}
def APost.seq{r:R (α×Gv)}(h:APost M0 F Z O H P (r.bind k)):EPost M0 F Z O H (λF1 U1 H1 a=>APost M0 F1 Z O H1 P (k (a,U1))) r:=by
 cases r with
 |ok a=>
  let(a,U1):=a
  intro F1 H1 rs1 s1
  let h':APost M0 F Z O H P (k (a,U1)):=h
  revert h'
  generalize k (a,U1)=r2
  intro h'
  cases r2 with
  |ok b=>erw[λF' Z' H' rs hn s=>h' F' Z' H' rs hn (s1.trans s)]
  |bad=>erw[h']
 |bad=>erw[h]
def APost.mono(h:APost M0 F Z O H P r)(k:∀ F' U' Z' H' as,RS M0 F' U' Z' H'->Z <+: Z'->Stp F H F' H'->P F' U' Z' H' as->P' F' U' Z' H' as):APost M0 F Z O H P' r:=by
 cases r with
 |ok a=>erw[λF' Z' H' rs hn s=>k F' _ Z' H' _ rs hn s (h F' Z' H' rs hn s)]
 |bad=>erw[h]
def OPost.seq{r:R (α×Gv)}(h:OPost M0 F Z O H P (r.bind k)):EPost M0 F Z O H (λF1 U1 H1 a=>OPost M0 F1 Z O H1 P (k (a,U1))) r:=by
 cases r with
 |ok a=>
  let(a,U1):=a
  intro F1 H1 rs1 s1
  let h':OPost M0 F Z O H P (k (a,U1)):=h
  revert h'
  generalize k (a,U1)=r2
  intro h'
  cases r2 with
  |ok b=>erw[λF' H' v rs s=>h' F' H' v rs (s1.trans s)]
  |bad=>erw[h']
 |bad=>erw[h]
def OPost.mono(h:OPost M0 F Z O H P r)(k:∀ F' U' H' o v,RS M0 F' (U'++ [some o]) (Z++ [some v]) H'->Stp F H F' H'->P F' U' H' o v->P' F' U' H' o v):OPost M0 F Z O H P' r:=by
 cases r with
 |ok a=>erw[λF' H' v rs s=>k F' _ H' _ v rs s (h F' H' v rs s)]
 |bad=>erw[h]
end
section
variable {X:Cx}{mp:Ac}{a b c e:Expr}{es:Ag}{pos p p2:Pos}{fa:EM FV}{na nb:EM (Aa)}{fl:EM (List AV)}{fo:EM OV}
private def fOwn(n:EM (Aa)):EM OV:=λU=>(n U).bind λ(ds,U1)=>.ok (.l (ds.map .d),U1)
def SN.so(h:SN X mp a na):SO X mp a (fOwn na):=λM0 F U Z O H Q rs hs hp=>
 h M0 F U Z O H Q rs hs (hp.seq.mono λF1 U1 H1 ds rs1 s1 h1 vs p r n=>by
  let(r2,s2):=rs1.newO n r
  exact h1 _ _ _ r2 s2)
private def fOD(f:EM OV):EM FV:=λU=>(f U).bind λ(o,U1)=>.ok (.dat o.view,U1)
def SO.se(h:SO X mp a fo):SE X mp a (fOD fo):=λM0 F U Z O H Q rs hs hp=>
 h M0 F U Z O H Q rs hs (by
  let au:EPost M0 F Z O H (λF' U' H' u=>∀ v,FOk M0 F' Z H' v u->Q v H') ((fo U).bind λ(o,U1)=>.ok (.dat o.view,U1)):=hp
  revert au
  generalize fo U=r
  intro au
  cases r with
  |ok z=>
   let(o,U1):=z
   intro F' H' v cq s'
   let(F2,rs2,s2,r2):=cq.dropD
   erw[au F2 H' rs2 (s'.trans s2) v r2]
  |bad=>exact au)
def FOk.ext(h:FOk M0 F Z H v u)(hn:Z <+: Z'):FOk M0 F Z' H v u:=by
 cases u with
 |dat x=>erw[h]
 |own i=>
  let h':=h
  let(t,rfl):=hn
  show (Z++t)[i]?=_
  rw[xc (xa.mp h').1];exact h'
private def aNil:EM (List AV):=λU=>.ok ([],U)
private def aCons(fa:EM FV)(fl:EM (List AV)):EM (List AV):=λU=>(fa U).bind λ(u,U1)=>(fl U1).bind λ(as,U2)=>.ok (.v u::as,U2)
private def aIo(i:Nat)(fl:EM (List AV)):EM (List AV):=λU=>match U[i]? with
 |some (some _)=>(fl U).bind λ(as,U2)=>.ok (.io i::as,U2)
 |_=>.bad
def zkc:SA X mp [] aNil:=λM0 F U Z O H Q rs hs hp=>pa_nil.wp (hp F Z H rs (uM _) (.refl _ _) [] .nil)
def APost.tail{F:Fp}{Z:Nu}{O:St}{H:Hp}{f:List AV->List AV}(h:APost M0 F Z O H P (r.bind λ(as,U2)=>.ok (f as,U2))) :
  APost M0 F Z O H (λF' U' Z' H' as=>P F' U' Z' H' (f as)) r:=by
 cases r with
 |ok a=>erw[h]
 |bad=>erw[h]
def zhx(ha:SE X mp a fa)(hl:SA X mp es fl)(af:starEach (a::es) X.env=(false,eval a X.env)::starEach es X.env):SA X mp (a::es) (aCons fa fl):=λM0 F U Z O H Q rs hs hp=>
 (zX zF Zg af).wp (ha M0 F U Z O H _ rs hs (hp.seq.mono λF1 U1 H1 u rs1 s1 h1 v o1=>
  hl M0 F1 U1 Z O H1 _ rs1 hs (h1.tail.mono λF2 U2 Z2 H2 as rs2 hn s2 h2 vs oks=>h2 (v::vs) (.v ((o1.stp s2 rs1.al0).ext hn) oks))))
def zlH {s i:Nat}(hN:X.N[s]?=some x) (hv:Vis X.env.scope x) (hm:mp[s]?=some i) (hd:(↥x)) (hcd:(x==("__classdict__" :Str))=false) (hl:SA X mp es fl) (af:starEach (.Name x pos::es) X.env=(false,eval (.Name x pos) X.env)::starEach es X.env) :
  SA X mp (.Name x pos::es) (aIo i fl):=by?
 unfold aIo at hp
 delta hp o q
 let(v,e1,r):=rs.at' i _ q
 exact (zX (qG hN hv hd hcd) Zg af).wp ⟨v,hs s i v hm e1,hl M0 F U Z O H _ rs hs (hp.tail.mono λF2 U2 Z2 H2 as rs2 hn s2 h2 vs oks=>h2 (v::vs) (.io (by
  let(t,rfl):=hn
  rw[xc (xa.mp e1).1];exact e1) oks))⟩
inductive RF where
 |ok (r:OV) (outs:List (Option OV))
 |bad
def spX(n:Nat)(run:List OV->RF):Sp:=λvs H Q E=>vs.length=n/\∃(M0:Ae)(F:Fp)(args:List OV),RS M0 F (args.map some) (vs.map some) H/\match run args with
 |.ok r outs=>∀ F' v H',RS M0 F' (outs++ [some r]) (vs.map some++ [some v]) H'->Stp F H F' H'->Q v H'
 |.bad=>False
def Ran(n:Nat)(run:List OV->RF):Prop:=∀ args,run args≠ .bad->args.length=n
def toArg(U:Gv):AV->Option OV
 |.v u=>(derS U u).map .d
 |.io i=>match U[i]? with
  |some (some o)=>some o
  |_=>none
def toArgs(U:Gv):List AV->Option (List OV)
 |[]=>some []
 |a::as=>match toArg U a,toArgs U as with
  |some o,some os=>some (o::os)
  |_,_=>none
def ios:List AV->Ac
 |[]=> []
 |.v _::as=>ios as
 |.io i::as=>i::ios as
def putBack:List AV->List (Option OV)->Gv->Option Gv
 |[],_,U=>some U
 |.v _::as,_::os,U=>putBack as os U
 |.io i::as,some o::os,U=>if i<U.length then putBack as os (U.set i (some o)) else none
 |_,_,_=>none
def mem_ios:i∈ios as↔∃ j:Nat,as[j]?=some (.io i):=by
 induction as with
 |nil=>simp[ios]
 |cons a as ih=>
  cases a with
  |v u=>
   rw[ios,ih]
   constructor
   ·rintro⟨j,h⟩;exact⟨j+1,~~~h⟩
   ·rintro⟨j,h⟩
    cases j with
    |zero=>simp at h
    |succ j=>exact#[j,~~~h]
  |io k=>
   rw[ios,xC,ih]
   constructor
   ·rintro (rfl | ⟨j,h⟩)
    ·exact#[0,rfl]
    ·exact#[j+1,~~~h]
   ·rintro⟨j,h⟩
    cases j with
    |zero=>simp at h;exact .inl h.symm
    |succ j=>exact .inr #[j,~~~h]
def wW:∀{as:List AV}{i j k:Nat},(ios as).Nodup->as[j]?=some (.io i)->as[k]?=some (.io i)->j=k
 |[],_,_,_,_,h,_=>by simp at h
 |.v u::as,i,j,k,nd,h1,h2=>by
  cases j with
  |zero=>simp at h1
  |succ j=>
   cases k with
   |zero=>simp at h2
   |succ k=>exact congrArg (·+1) (wW (by rw[ios]at nd;exact nd) (~~~h1) (~~~h2))
 |.io m::as,i,j,k,nd,h1,h2=>by
  rw[ios,xB]at nd
  cases j with
  |zero=>
   cases k with
   |zero=>rfl
   |succ k=>
    simp at h1;subst h1
    exact absurd (mem_ios.mpr #[k,~~~h2]) nd.1
  |succ j=>
   cases k with
   |zero=>
    simp at h2;subst h2
    exact absurd (mem_ios.mpr #[j,~~~h1]) nd.1
   |succ k=>exact congrArg (·+1) (wW nd.2 (~~~h1) (~~~h2))
section
variable {M0:Ae}{F:Fp}{U:Gv}{Z:Nu}{H:Hp}
def AOks.get:∀{vs:List V}{as:List AV}{args:List OV}{j:Nat}{o:OV},AOks M0 F Z H vs as->toArgs U as=some args->args[j]?=some o ->
  ∃ v,vs[j]?=some v/\((∃ u x,as[j]?=some (.v u)/\derS U u=some x/\o=.d x/\FOk M0 F Z H v u)∨∃ i,as[j]?=some (.io i)/\Z[i]?=some (some v)/\U[i]?=some (some o))
 |_,_,_,j,o,.nil,e,h=>by cases e;simp at h
 |_,_,_,j,o,.v (u:=u) h1 t,e,h=>by
  unfold toArgs at e
  split at e
  next o' os e1 e2=>
   cases e
   cases j with
   |zero=>
    simp at h;subst h
    simp only[toArg,uJ]at e1
    let(x,ex,rfl):=e1
    exact#[_,rfl,.inl #[u,x,rfl,ex,rfl,h1]]
   |succ j=>
    let(v,ev,q):=AOks.get (j:=j) t e2 (~~~h)
    exact#[v,~~~ev,~~~q]
  ·cases e
 |_,_,_,j,o,.io (i:=i) h1 t,e,h=>by
  unfold toArgs at e
  split at e
  next o' os e1 e2=>
   cases e
   cases j with
   |zero=>
    simp at h;subst h
    simp only[toArg]at e1
    split at e1
    next q=>
     cases e1
     exact#[_,rfl,.inr #[i,rfl,h1,q]]
    ·cases e1
   |succ j=>
    let(v,ev,q):=AOks.get (j:=j) t e2 (~~~h)
    exact#[v,~~~ev,~~~q]
  ·cases e
def AOks.len:∀{vs:List V}{as:List AV},AOks M0 F Z H vs as->vs.length=as.length
 |_,_,.nil=>rfl
 |_,_,.v _ t=>by rw[xo,xo,AOks.len t]
 |_,_,.io _ t=>by rw[xo,xo,AOks.len t]
def jz:∀{as:List AV}{args:List OV},toArgs U as=some args->args.length=as.length
 |[],_,e=>by cases e;rfl
 |a::as,_,e=>by
  unfold toArgs at e
  split at e
  next e1 e2=>
   cases e
   rw[xo,xo,jz e2]
  ·cases e
def cM(M0:Ae)(F:Fp)(as:List AV):Ae:=λa=>M0 a∨∃ i,i∉ios as/\a∈F i
def cF(F:Fp)(as:List AV):Fp:=λj=>match as[j]? with
 |some (.io i)=>F i
 |_=> []
def ziG(h:as[j]?=some (.io i)):cF F as j=F i:=by unfold cF;rw[h]
def JO{a:Ap}(h:a∈cF F as j):∃ i,as[j]?=some (.io i)/\a∈F i:=by
 unfold cF at h
 split at h
 ·rename_i i e;exact⟨i,e,h⟩
 ·cases h
def cMM:MM (cM M0 F as) (cF F as)=MM M0 F:=by
 funext a
 apply propext
 constructor
 ·rintro ((h | ⟨i,_,h⟩) | ⟨j,h⟩)
  ·erw[.inl h]
  ·erw[.inr #[i,h]]
  ·let(i,_,h):=JO h;exact .inr #[i,h]
 ·rintro (h | ⟨i,h⟩)
  ·erw[.inl (.inl h)]
  ·by_cases hi:i∈ios as
   ·let(j,hj):=mem_ios.mp hi
    exact .inr #[j,by rw[ziG hj];exact h]
   ·erw[.inl (.inr #[i,hi,h])]
def Wn{as:List AV}(rs:RS M0 F U Z H)(oks:AOks M0 F Z H vs as)(e:toArgs U as=some args)(nd:(ios as).Nodup):RS (cM M0 F as) (cF F as) (args.map some) (vs.map some) H where
 al0 a h:=by
  rcases h with h | ⟨i,_,h⟩
  ·erw[rs.al0 a h]
  ·erw[rs.al a (.inr #[i,h])]
 dis0 j a h:=by
  let(i,hi,ha):=JO h
  rintro (h0 | ⟨i',bx,rf⟩)
  ·erw[rs.dis0 i a ha h0]
  ·have:=rs.dis _ _ a ha rf
   subst this
   erw[bx (mem_ios.mpr #[j,hi])]
 nd j:=by
  unfold cF
  split
  ·erw[rs.nd _]
  ·erw[.nil]
 dis j k a h1 h2:=by
  let(i,hi,ha):=JO h1
  let(i',bx,rf):=JO h2
  have:=rs.dis _ _ a ha rf
  subst this
  erw[wW nd hi bx]
 at' j o ej:=by
  rw[xf]at ej
  cases q:args[j]? with
  |none=>rw[q]at ej;cases ej
  |some o'=>
   rw[q]at ej
   let eo:o'=o:= ~~~ej
   subst eo
   let(v,ev,h):=oks.get e q
   refine#[v,by rw[xf,ev];rfl,?_]
   rw[cMM]
   rcases h with ⟨u,x,ea,ex,rfl,ok⟩ | ⟨i,ea,en,eg⟩
   ·have:cF F as j= []:=by unfold cF;rw[ea]
    rw[this]
    erw[.d (ok.strong rs ex)]
   ·rw[ziG ea]
    let(v',dm,r):=rs.at' i o' eg
    grind
 emp j h:=by
  unfold cF
  split
  next i ea=>
   exfalso
   let hj:j<args.length:=by rw[jz e];exact (xa.mp ea).1
   exact h args[j] (by rw[xf,xb hj];rfl)
  ·rfl
 len:=by rw[xl,xl,oks.len,jz e]
def Zi:∀{as:List AV}{outs:List (Option OV)}{U U2:Gv},putBack as outs U=some U2->(ios as).Nodup->U2.length=U.length/\(∀ i:Nat,i∉ios as->U2[i]?=U[i]?)/\∀ j i:Nat,as[j]?=some (.io i)->∃ o,outs[j]?=some (some o)/\U2[i]?=some (some o)/\i<U.length
 |[],_,U,_,e,_=>by
  have:some U=some _:=e
  cases this
  exact#[rfl,λ_ _=>rfl,λj i h=>by simp at h]
 |.v u::as,[],U,_,e,_=>by cases e
 |.v u::as,x::os,U,U2,e,nd=>by
  let(h0,h1,h2):=Zi (as:=as) (U:=U) (U2:=U2) e (by rw[ios]at nd;exact nd)
  refine#[h0,λi hi=>h1 i (by rw[ios]at hi;exact hi),λj i hj=>?_]
  cases j with
  |zero=>simp at hj
  |succ j=>
   let(o,a,b):=h2 j i (~~~hj)
   exact#[o,~~~a,b]
 |.io k::as,[],U,_,e,_=>by cases e
 |.io k::as,none::os,U,_,e,_=>by cases e
 |.io k::as,some o::os,U,U2,e,nd=>by
  rw[putBack]at e
  split at e
  next hk=>
   rw[ios,xB]at nd
   let(h0,h1,h2):=Zi e nd.2
   rw[xK]at h0
   refine#[h0,λi hi=>?_,λj i hj=>?_]
   ·rw[ios,xC]at hi
    rw[h1 i (λz=>hi (.inr z)),xg (λz=>hi (.inl z.symm))]
   ·cases j with
    |zero=>
     have:k=i:= ~~~hj
     subst this
     refine#[o,rfl,?_,hk]
     rw[h1 k nd.1,xn hk]
    |succ j=>
     let(o',a,b,c):=h2 j i (~~~hj)
     exact#[o',~~~a,b,~~~c]
  ·cases e
open Classical in
def v7{as:List AV}{outs:List (Option OV)}{r:OV}{v:V}{U2:Gv}{Z0:Nu}{gp:Fp}{H':Hp}{n:Nat}(rs:RS M0 F U Z H)(oks:AOks M0 F Z H vs as)(e:toArgs U as=some args)(nd:(ios as).Nodup)
  (rc:RS (cM M0 F as) gp (outs++ [some r]) (vs.map some++ [some v]) H') (sc:Stp (cF F as) H gp H') (pb:putBack as outs U=some U2) (hν:Z0 <+: Z) (hn:Z0.length=n) :
  ∃ F',RS M0 F' (U2.take n++ [some r]) (Z0++ [some v]) H'/\Stp F H F' H':=by
 classical
 let(p0,p1,p2):=Zi pb nd
 let i6:outs.length=as.length:=by have:=rc.len;simp[oks.len]at this;lia
 let(tl,rfl):=hν
 let tq:n<=U.length:=by have:=rs.len;simp at this;lia
 let oh:(U2.take n).length=n:=by rw[xJ];lia
 obtain⟨B,f3,f1,f2⟩:∃ B:Fp,B n=gp as.length/\(∀ i j:Nat,i≠n->as[j]?=some (.io i)->B i=gp j)/\∀ i,i≠n->i∉ios as->B i=F i :=
  ⟨λi=>if i=n then gp as.length else if h:∃ j:Nat,as[j]?=some (.io i) then gp h.choose else F i,if_pos rfl,λi j hi hj=>by
   let hex:∃ j:Nat,as[j]?=some (.io i):=#[j,hj]
   dsimp only;rw[if_neg hi,dif_pos hex,wW nd hex.choose_spec hj],λi hi hj=>by dsimp only;rw[if_neg hi,dif_neg λh=>hj (mem_ios.mpr h)]⟩
 let cls:∀ i,(∃ j:Nat,B i=gp j/\(i=n/\j=as.length∨i≠n/\as[j]?=some (.io i)))∨i≠n/\i∉ios as/\B i=F i:=λi=>by
  by_cases hi:i=n
  ·erw[.inl #[_,hi ▸ f3,.inl #[hi,rfl]]]
  ·by_cases hj:i∈ios as
   ·let(j,hj):=mem_ios.mp hj
    erw[.inl #[j,f1 i j hi hj,.inr #[hi,hj]]]
   ·erw[.inr #[hi,hj,f2 i hi hj]]
 let out:∀{j:Nat}{a:Ap},a∈gp j->¬ M0 a/\∀ i,i∉ios as->a∉F i:=λ{j a} ha=>
  #[λz=>rc.dis0 j a ha (.inl z),λi hi z=>rc.dis0 j a ha (.inr #[i,hi,z])]
 refine rs.of B (λF' hF=>#[λb o eb nb=>?_,sc.tups,sc.stay]) (λi a ha=>?_) (λi=>?_) (λi k _ _ a _ _ h1 h2=>?_) (λF' hF st i o ei=>?_) (by simp[oh,hn])
 ·let(e1,n1):=sc.keep b o eb λj hj=>let #[i,_,ha]:=JO hj;nb i ha
  refine#[e1,λi hi=>?_]
  let h:=hF i b hi
  rcases cls i with ⟨j,q,_⟩ | ⟨_,_,q⟩<;>rw[q]at h
  ·erw[n1 j h]
  ·erw[nb i h]
 ·rcases cls i with ⟨j,q,_⟩ | ⟨_,_,q⟩<;>rw[q]at ha
  ·erw[(out ha).1]
  ·erw[rs.dis0 i a ha]
 ·rcases cls i with ⟨j,q,_⟩ | ⟨_,_,q⟩<;>rw[q]
  ·erw[rc.nd j]
  ·erw[rs.nd i]
 ·rcases cls i with ⟨j,q,c⟩ | ⟨_,c,q⟩<;>rcases cls k with ⟨j',q',c'⟩ | ⟨_,c',q'⟩<;>rw[q]at h1<;>rw[q']at h2
  ·cases rc.dis _ _ a h1 h2
   rcases c with ⟨rfl,rfl⟩ | ⟨_,c⟩<;>rcases c' with ⟨rfl,z⟩ | ⟨_,c'⟩<;>simp_all
  ·erw[absurd h2 ((out h1).2 k c')]
  ·erw[absurd h1 ((out h2).2 i c)]
  ·erw[rs.dis _ _ a h1 h2]
 ·let conv:∀{w:V}{o:OV}{A:List Ap},OR (MM (cM M0 F as) gp) H' w o A->OR (MM M0 F') H' w o A:=λ{w o A} q=>q.go (λv d x=>x.less λb hb _=>by
   rcases hb with hb | ⟨i,hb⟩
   ·erw[.inl (.inl hb)]
   ·let h:=hF i b hb
    rcases cls i with ⟨j,q,_⟩ | ⟨_,c,q⟩<;>rw[q]at h
    ·erw[.inr #[j,h]]
    ·exact .inl (.inr #[i,c,h])) (λ_ _ e=>e) λ_ _=>rfl
  let hil:=(xa.mp ei).1
  simp[oh]at hil
  by_cases hi:i=n
  ·subst hi
   rw[xp (by lia),oh]at ei
   have:r=o:= ~~~ei
   subst this
   let(w,ew,q):=rc.at' as.length r (by rw[<- i6];simp)
   rw[<- oks.len]at ew
   have:v=w:= ~~~ew
   subst this
   exact#[v,by simp[<- hn],f3 ▸ conv q]
  ·rw[xc (by lia),xW (by lia)]at ei
   rw[xc (by lia)]
   by_cases hj:i∈ios as
   ·let(j,hj):=mem_ios.mp hj
    let(o',eo,eg,_):=p2 j i hj
    rw[eg]at ei
    have:o'=o:= ~~~ei
    subst this
    let hjl:=(xa.mp hj).1
    let(w,ew,q):=rc.at' j o' (by rw[xc (by lia)];exact eo)
    rw[xc (by rw[xl,oks.len];exact hjl),xf]at ew
    let(v',dm,hh):=oks.get e (xb (by rw[jz e];exact hjl))
    rw[dm]at ew
    cases (by simpa using ew:v'=w)
    rcases hh with ⟨u,x,ea,_⟩ | ⟨i',ea,en,_⟩<;>rw[hj]at ea<;>cases ea
    rw[xc (by lia)]at en
    exact#[_,en,f1 i j hi hj ▸ conv q]
   ·rw[p1 i hj]at ei
    let(w,ew,q):=rs.at' i o ei
    rw[xc (by lia)]at ew
    refine#[w,ew,f2 i hi hj ▸ q.go (λv d x=>qf st rs.al0 x) st.tups λa ha=>?_]
    let(us,ea):=rs.laidF ha
    rw[ea]
    erw[(sc.keep a _ ea λj hk=>?_).1]
    let(i',bx,rf):=JO hk
    cases rs.dis _ _ a ha rf
    erw[hj (mem_ios.mpr #[j,bx])]
end
private def fCall(run:List OV->RF)(fl:EM (List AV)):EM OV:=λU=>(fl U).bind λ(as,U1)=>match toArgs U1 as with
 |none=>.bad
 |some args=>if (ios as).Nodup then match run args with
  |.ok r outs=>match putBack as outs U1 with
   |some U2=>.ok (r,U2.take U.length)
   |none=>.bad
  |.bad=>.bad
  else .bad
def QH{F:Fp}{U:Gv}{Z:Nu}{O:St}{run:List OV->RF}{Q:VK}(rs:RS M0 F U Z H)(ak:Ran n run)
  (hp:OPost M0 F Z O H (λF' U' H' o v=>Q v H') (fCall run fl U)):APost M0 F Z O H (λF1 U1 Z1 H1 as=>∀ vs,AOks M0 F1 Z1 H1 vs as->spX n run vs H1 Q E0) (fl U):=by
 unfold fCall at hp
 generalize fl U=ra at hp
 cases ra with
 |bad=>erw[hp]
 |ok z=>
  let(as,U1):=z
  intro F1 Z1 H1 rs1 hn s1 vs oks
  simp only[R.bind]at hp
  split at hp
  ·erw[hp.elim]
  next args ea=>
   delta hp nd
   let hl:vs.length=n:=by
    rw[oks.len,<- jz ea]
    erw[ak args λz=>?_]
    rw[z]at hp;exact hp.elim
   refine#[hl,cM M0 F1 as,cF F1 as,args,Wn rs1 oks ea nd,?_]
   delta hp r outs er
   delta hp U2 eb
   intro F' v H' rc sc
   let(F2,rs2,s2):=v7 rs1 oks ea nd rc sc eb hn rs.len
   erw[hp F2 H' v rs2 (s1.trans s2)]
def zh0{run:List OV->RF}(kn:Kn X.prog X.w X.K X.mg X.base CX0 x k (spX n run))(hr:Room k X.A)(hg:Gl X x)(ak:Ran n run)(hl:SA X mp (a::es) fl)
  (bq:(↥x)) (he:starEach (a::es) X.env=(false,eval a X.env)::starEach es X.env) (hpl:(backTo pos (starEach es X.env)).any (·.1)=false):SO X mp (.Call (.Name x p) (a::es) [] pos) (fCall run fl):=λM0 F U Z O H Q rs hs hp=>
 YR kn hr hg (hl M0 F U Z O H _ rs hs (QH rs ak hp)) bq he hpl
def zfJ{run:List OV->RF}(kn:Kn X.prog X.w X.K X.mg X.base CX0 x k (spX n run))(hr:Room k X.A)(hg:Gl X x)(ak:Ran n run)
  (bq:(↥x)):SO X mp (.Call (.Name x p) [] [] pos) (fCall run aNil):=by?
 let h:=QH rs ak hp F Z H rs (uM _) (.refl _ _) [] .nil
 erw[zcL kn hr hg h bq]
end
inductive FL where
 |next
 |ret (o:OV)
 |brk
 |cnt
abbrev SM:=Gv->R (FL×Gv)
def SPost(M0:Ae)(F:Fp)(Z:Nu)(H:Hp)(mp:Ac)(N:Nat)(io:Ac)(D:Ji)(r:R (FL×Gv)):Prop:=match r with
 |.ok (.next,U')=>∀ F' Z' O' H',RS M0 F' U' Z' H'->Stp F H F' H'->Sees mp Z' O'->O'.length=N->(∀ i∈io,Z'[i]?=Z[i]?)->D.nx O' H'
 |.ok (.brk,U')=>∀ F' Z' O' H',RS M0 F' U' Z' H'->Stp F H F' H'->Sees mp Z' O'->O'.length=N->(∀ i∈io,Z'[i]?=Z[i]?)->D.bk O' H'
 |.ok (.cnt,U')=>∀ F' Z' O' H',RS M0 F' U' Z' H'->Stp F H F' H'->Sees mp Z' O'->O'.length=N->(∀ i∈io,Z'[i]?=Z[i]?)->D.ct O' H'
 |.ok (.ret o,U')=>∀ F' Z' v H',RS M0 F' (U'++ [some o]) (Z'++ [some v]) H'->Stp F H F' H'->(∀ i∈io,Z'[i]?=Z[i]?)->D.rt v H'
 |.bad=>False
def SS(X:Cx)(mp:Ac)(io:Ac)(st:Stmt)(f:SM):Prop:=∀(M0:Ae)(F:Fp)(U:Gv)(Z:Nu)(O:St)(H:Hp)(D:Ji),RS M0 F U Z H->Sees mp Z O->O.length=X.N.length ->
 SPost M0 F Z H mp X.N.length io D (f U)->wpS X st D O H
def SB(X:Cx)(mp:Ac)(io:Ac)(c7:List Stmt)(f:SM):Prop:=∀(M0:Ae)(F:Fp)(U:Gv)(Z:Nu)(O:St)(H:Hp)(D:Ji),RS M0 F U Z H->Sees mp Z O->O.length=X.N.length ->
 SPost M0 F Z H mp X.N.length io D (f U)->wpB X c7 D O H
section
variable {M0:Ae}{F F1:Fp}{Z Z1:Nu}{O:St}{H H1:Hp}{mp:Ac}{N:Nat}{io:Ac}{D:Ji}{r:R (FL×Gv)}
def SPost.step(h:SPost M0 F Z H mp N io D r)(s1:Stp F H F1 H1)(hn:∀ i∈io,Z1[i]?=Z[i]?):SPost M0 F1 Z1 H1 mp N io D r:=by
 cases r with
 |ok z=>
  let(fl,U'):=z
  cases fl with
  |next=>erw[λF' Z' O' H' a b c d e=>h F' Z' O' H' a (s1.trans b) c d λi hi=>(e i hi).trans (hn i hi)]
  |brk=>erw[λF' Z' O' H' a b c d e=>h F' Z' O' H' a (s1.trans b) c d λi hi=>(e i hi).trans (hn i hi)]
  |cnt=>erw[λF' Z' O' H' a b c d e=>h F' Z' O' H' a (s1.trans b) c d λi hi=>(e i hi).trans (hn i hi)]
  |ret o=>erw[λF' Z' v H' a b e=>h F' Z' v H' a (s1.trans b) λi hi=>(e i hi).trans (hn i hi)]
 |bad=>erw[h]
def SPost.seq{α:Type}{r:R (α×Gv)}{k:α×Gv->R (FL×Gv)}(hs:Sees mp Z O)(hl:O.length=N)(h:SPost M0 F Z H mp N io D (r.bind k)):EPost M0 F Z O H (λF1 U1 H1 a=>SPost M0 F1 Z H1 mp N io D (k (a,U1))) r:=by
 cases r with
 |ok z=>
  let(a,U1):=z
  intro F1 H1 rs1 s1
  let h':=h
  erw[h'.step s1 λ_ _=>rfl]
 |bad=>erw[h]
def SPost.seqO{r:R (OV×Gv)}(hs:Sees mp Z O)(hl:O.length=N)(h:SPost M0 F Z H mp N io D (r.bind k)):OPost M0 F Z O H (λF1 U1 H1 o v=>SPost M0 F1 Z H1 mp N io D (k (o,U1))) r:=by
 cases r with
 |ok z=>
  let(a,U1):=z
  intro F1 H1 v rs1 s1
  let h':=h
  erw[h'.step s1 λ_ _=>rfl]
 |bad=>erw[h]
end
private def sNext:SM:=λU=>.ok (.next,U)
private def sSeq(f g:SM):SM:=λU=>match f U with
 |.ok (.next,U1)=>g U1
 |r=>r
section
variable {X:Cx}{mp io:Ac}{a b c e tg iter:Expr}{es:Ag}{pos p p2 pos':Pos}{fa fb:EM FV}{ta:EM Bool}{na:EM (Aa)}{fo:EM OV}{st:Stmt}{c7 body u3:List Stmt}{f g:SM}
def zkd:SB X mp io [] sNext:=λM0 F U Z O H D rs hs hl hp=>pss_nil.wp (hp F Z O H rs (.refl _ _) hs hl λ_ _=>rfl)
def zfB{nx:St->Hp->Prop}(hp:SPost M0 F Z H mp N io D (sSeq f g U))
  (hn:∀ F1 U1 Z1 O1 H1,RS M0 F1 U1 Z1 H1->Sees mp Z1 O1->O1.length=N->SPost M0 F1 Z1 H1 mp N io D (g U1)->nx O1 H1):SPost M0 F Z H mp N io { D with nx:=nx } (f U):=by
 unfold sSeq at hp
 generalize f U=r at hp
 cases r with
 |ok z=>
  let(fl,U'):=z
  cases fl with
  |next=>erw[λF' Z' O' H' a b c d e=>hn F' U' Z' O' H' a c d (hp.step b e)]
  |brk=>erw[hp]
  |cnt=>erw[hp]
  |ret o=>erw[hp]
 |bad=>erw[hp]
def zhy(h1:SS X mp io st f)(h2:SB X mp io c7 g):SB X mp io (st::c7) (sSeq f g):=λM0 F U Z O H D rs hs hl hp=>
 (Qz zaw jQ).wp (h1 M0 F U Z O H _ rs hs hl (zfB hp λF1 U1 Z1 O1 H1 rs1 g6 hl1 h=>h2 M0 F1 U1 Z1 O1 H1 D rs1 g6 hl1 h))
private def zka:SM:=λ_=>.bad
def zfP:SS X mp io st zka:=λM0 F U Z O H D rs hs hl hp=>hp.elim
private def fD(fa:EM FV):EM OV:=λU=>(fa U).bind λ(u,U1)=>match derS U1 u with
 |some x=>.ok (.d x,U1)
 |none=>.bad
def RS.newD(r:RS M0 F U Z H)(q:Rep (MM M0 F) H v x):RS M0 F (U++ [@&x]) (Z++ [some v]) H:=by
 let he:=r.emp _ λo e=>by
  rw[xE (xh _)]at e;cases e
 refine#[r.al0,r.dis0,r.nd,r.dis,λj o e=>?_,λj h=>?_,by simp[r.len]]
 ·by_cases hj:j<U.length
  ·rw[xc hj]at e
   let(w,e1,z):=r.at' j o e
   exact#[w,by rw[xc (by rw[r.len];exact hj)];exact e1,z]
  ·let Eo:j=U.length:=by
    have:=(xa.mp e).1
    simp at this;lia
   subst Eo
   rw[xp (xh _)]at e
   have:(OV.d x)=o:= ~~~e
   subst this
   refine#[v,by rw[xp (by rw[r.len];exact xh _),r.len];simp,?_]
   rw[he];exact .d q
 ·refine r.emp j λo e=>h o ?_
  rw[xc (xa.mp e).1];exact e
def SE.so(h:SE X mp a fa):SO X mp a (fD fa):=λM0 F U Z O H Q rs hs hp=>
 h M0 F U Z O H Q rs hs (hp.seq.mono λF1 U1 H1 u rs1 s1 h1 v hv=>by
  delta h1 x e
  exact h1 F1 H1 v (rs1.newD (hv.strong rs1 e)) (.refl _ _))
private def fMove(i:Nat):EM OV:=λU=>match U[i]? with
 |some (some o)=>.ok (o,U.set i none)
 |_=>.bad
def RS.take{M0:Ae}{F:Fp}{U:Gv}{Z:Nu}{H:Hp}{i:Nat}{o:OV}(r:RS M0 F U Z H)(e:U[i]?=some (some o)):∃ F' v,Z[i]?=some (some v)/\RS M0 F' (U.set i none++ [some o]) (Z++ [some v]) H/\Stp F H F' H:=by
 let(v,ev,_):=r.at' i o e
 let hl:=r.len
 let hi:=(xa.mp e).1
 let lt:∀{j p},(U.set i none++ [some o])[j]?=some (some p)->j≠U.length->j≠i/\j<U.length/\U[j]?=some (some p):=λ{j p} ej hj=>by
  let h1:=(xa.mp ej).1
  simp at h1
  rw[xc (by simp;lia)]at ej
  have:j≠i:=λz=>by subst z;simp[hi]at ej
  rw[xg (Ne.symm this)]at ej
  exact#[this,by lia,ej]
 let(F',r'):=r.map (U':=U.set i none++ [some o]) (Z':=Z++ [some v]) (λj=>if j=U.length then i else j) (λj p ej=>by
  split
  ·subst j
   simp at ej
   subst ej
   exact#[e,by simp[<- hl,ev]]
  next hj=>
   let(_,h1,h2):=lt ej hj
   exact#[h2,xc (by lia)]) (λj k o p e1 e2=>by
  let h1:=@lt _ _ e1
  let h2:=@lt _ _ e2
  split<;>split<;>lia) (by simp[hl])
 exact#[F',v,ev,r']
def zh3 {s i:Nat}(hN:X.N[s]?=some x) (hv:Vis X.env.scope x) (hm:mp[s]?=some i) (hd:(↥x)) (hcd:(x==("__classdict__" :Str))=false) :
  SO X mp (.Name x pos) (fMove i):=by?
 unfold fMove at hp
 delta hp o q
 let(F',v,e1,rs1,s1):=rs.take q
 erw[(qG hN hv hd hcd).wp #[v,hs s i v hm e1,hp F' H v rs1 s1]]
private def sRet(fo:EM OV):SM:=λU=>(fo U).bind λ(o,U1)=>.ok (.ret o,U1)
def zkH(h:SO X mp e fo):SS X mp io (.Return (some e) pos) (sRet fo):=λM0 F U Z O H D rs hs hl hp=>
 (KH zF).wp (h M0 F U Z O H _ rs hs ((SPost.seqO hs hl hp).mono λF1 U1 H1 o v rs1 s1 h1=>h1 F1 Z v H1 rs1 (.refl _ _) λ_ _=>rfl))
def SOt(mp:Ac)(t:TE)(f:EM OV):Prop:=∀(M0:Ae)(F:Fp)(U:Gv)(Z:Nu)(O:St)(H:Hp)(Q:VK),RS M0 F U Z H->Sees mp Z O ->
 OPost M0 F Z O H (λF' U' H' o v=>Q v H') (f U)->t O H Q
def SNt.so(h:SNt mp t na):SOt mp t (fOwn na):=λM0 F U Z O H Q rs hs hp=>
 h M0 F U Z O H Q rs hs (hp.seq.mono λF1 U1 H1 ds rs1 s1 h1 vs p r n=>by
  let(r2,s2):=rs1.newO n r
  exact h1 _ _ _ r2 s2)
def SNt.sd(h:SNt mp t na):SOt mp t (fD (fNew na)):=λM0 F U Z O H Q rs hs hp=>
 h M0 F U Z O H Q rs hs (by
  let au:OPost M0 F Z O H (λF' U' H' o v=>Q v H') ((na U).bind λ(ds,U1)=>.ok (.d (.list ds),U1)):=by
   let e:fD (fNew na) U=(na U).bind λ(ds,U1)=>.ok (.d (.list ds),U1):=by
    unfold fD fNew
    cases na U<;>rfl
   rw[<- e];exact hp
  exact au.seq.mono λF1 U1 H1 ds rs1 s1 h1 vs p r n=>by
   let s2:Same H1 (upd H1 p (.lst vs)):=qg n
   exact h1 F1 _ _ ((rs1.same s2).newD (Rep.list zK (λz=>rs1.al p z n) (r.grow s2.grow))) (.same s2))
private def sAsg(io:Ac)(i:Nat)(fo:EM OV):SM:=λU=>(fo U).bind λ(o,U1)=>if i<U1.length/\i∉io then .ok (.next,U1.set i (some o)) else .bad
def yI{t:TE}(fm:PS X st (yL t (WH s)))(hn:mp.Nodup)(hm:mp[s]?=some i)(hsl:s<X.N.length)(h:SOt mp t fo):SS X mp io st (sAsg io i fo):=λM0 F U Z O H D rs hs hl hp=>
 fm.wp (h M0 F U Z O H _ rs hs ((SPost.seqO hs hl hp).mono λF1 U1 H1 o v rs1 s1 h1=>by
  delta h1 hh
  let(F2,rs2,s2):=rs1.move hh.1
  exact h1 F2 _ _ H1 rs2 s2 (hs.set hn hm (by rw[hl];exact hsl)) (~~~hl) λj hj=>by
   rw[xg (λz=>hh.2 (by rw[z];exact hj))]))
def KK{s i:Nat}(hN:X.N.Nodup)(hi:X.N[s]?=some x)(hx:Loc X.env.scope x)(hf:X.fn x=true∨X.env.scope.names.lookup x=some .local)(hn:mp.Nodup)(hm:mp[s]?=some i)(h:SO X mp e fo)
  (b8:swapsWith e (some (.Name x pos')) pos.line X.env=pure false):SS X mp io (.Assign [.Name x pos'] e pos) (sAsg io i fo) :=
 yI (W5 hN hi hx zF b8 hf) hn hm (xa.mp hi).1 h
private def sAsgT(t:IT)(fa:EM FV):SM:=λU=>(fa U).bind λ(u,U1)=>match derS U1 u with
 |some x=>match tgF t x U1 with
  |some U2=>.ok (.next,U2)
  |none=>.bad
 |none=>.bad
def zfO{t:IT}(ha:SE X mp e fa)(hg:SG X mp (·∈io) tg t)(b8:swapsWithSole [tg] e pos.line X.env=pure false)(hw:swappedStores [tg] e X.env=pure none)
  (fm:PS X (.Assign [tg] e pos) (yL (wpE X e) (wpG X tg))):SS X mp io (.Assign [tg] e pos) (sAsgT t fa):=λM0 F U Z O H D rs hs hl hp=>
 fm.wp (ha M0 F U Z O H _ rs hs ((SPost.seq hs hl hp).mono λF1 U1 H1 u rs1 s1 h1 v hv=>by
  delta h1 x ex
  delta h1 U2 et
  exact hg M0 F1 U1 U2 Z O H1 v x _ rs1 hs hl (hv.strong rs1 ex) et λF2 Z2 O2 rs2 s2 cz hl2 n2 m2=>h1 F2 Z2 O2 H1 rs2 s2 cz hl2 n2))
private def sExpr(fa:EM FV):SM:=λU=>(fa U).bind λ(_,U1)=>.ok (.next,U1)
def zh9(ha:SE X mp e fa)(b8:swapsWith e none pos.line X.env=pure false):SS X mp io (.Expr e pos) (sExpr fa):=λM0 F U Z O H D rs hs hl hp=>
 (Qe zF b8).wp (ha M0 F U Z O H _ rs hs ((SPost.seq hs hl hp).mono λF1 U1 H1 u rs1 s1 h1 v hv=>h1 F1 Z O H1 rs1 (.refl _ _) hs hl λ_ _=>rfl))
private def sIf(t:EM Bool)(f g:SM):SM:=λU=>(t U).bind λ(b,U1)=>if b then f U1 else g U1
def zlO(hc:ST X mp c ta)(ha:SB X mp io body f)(hb:SB X mp io u3 g):SS X mp io (.If c body u3 pos) (sIf ta f g):=λM0 F U Z O H D rs hs hl hp=>
 (zlx Zh jQ jQ).wp (hc M0 F U Z O H _ rs hs ((SPost.seq hs hl hp).mono λF1 U1 H1 b rs1 s1 h1=>by
  cases b with
  |true=>erw[Ym (ha M0 F1 U1 Z O H1 D rs1 hs hl h1)]
  |false=>exact Yl (hb M0 F1 U1 Z O H1 D rs1 hs hl h1)))
def jp(t:IT)(body:SM):Aa->Gv->R (FL×Gv)
 |[],U=>.ok (.next,U)
 |d::ds,U=>match tgF t d U with
  |none=>.bad
  |some U1=>match body U1 with
   |.ok (.next,U2)=>jp t body ds U2
   |.ok (.cnt,U2)=>jp t body ds U2
   |.ok (.brk,U2)=>.ok (.next,U2)
   |r=>r
private def sFor(t:IT)(src:EM (Aa))(body:SM):SM:=λU=>(src U).bind λ(ds,U1)=>jp t body ds U1
def zkF{t:IT}{src:EM (Aa)}(mz:PassesOwn (model X.prog X.w) X.A X.env X.xe)(hc:X.calm=true)(hi:SI X mp tg iter src)(hg:SG X mp (·∈io) tg t)(hb:SB X mp io body f)
  (hf:∀ x,foldedSetIterable iter X.env x=pure x):SS X mp io (.For tg iter body [] pos) (sFor t src f):=λM0 F U Z O H D rs hs hl hp=>by
 erw[(zfl mz hc JA yy jQ hf).wp (hi M0 F U Z O H _ rs hs ((SPost.seq hs hl hp).mono λF1 U1 H1 ds rs1 s1 h1 J hJ=>?_))]
 dsimp only at h1
 refine#[λi m O' H'=>m=ds.length-i/\i<=ds.length/\∃ F' U' Z',RS M0 F' U' Z' H'/\Stp F1 H1 F' H'/\Sees mp Z' O'/\O'.length=X.N.length/\SPost M0 F' Z' H' mp X.N.length io D (jp t f (ds.drop i) U'),#[ds.length,by simp,xS _,F1,U1,Z,rs1,.refl _ _,hs,hl,h1],?_]
 rintro i m O' H' ⟨rfl,hil,F',U',Z',cq,bz,d5,dv,au⟩
 let(s9,sy):=hJ i F' H' bz rs1.al0
 by_cases hlt:i<ds.length
 ·let(go,yl):=s9 ds[i] (by simp[hlt])
  rw[List.drop_eq_getElem_cons hlt,jp]at au
  refine .inr #[go,λO2 H2=>∃ F2 U2 Z2,RS M0 F2 U2 Z2 H2/\Stp F1 H1 F2 H2/\Sees mp Z2 O2/\O2.length=X.N.length/\SPost M0 F2 Z2 H2 mp X.N.length io D (jp t f (ds.drop (i+1)) U2),λO2 H2 h=>#[ds.length-(i+1),by lia,rfl,hlt,h],λx H2 hy=>?_]
  let(s2,rx):=yl x H2 hy
  cases et:tgF t ds[i] U' with
  |none=>rw[et]at au;exact au.elim
  |some U2=>
   rw[et]at au
   dsimp only at au
   erw[hg M0 F' U' U2 Z' O' H2 x ds[i] _ (cq.same s2) d5 dv rx et λF3 Z3 O3 a7 s3 hs3 hl3 n3 m3=>?_]
   let sA:=(Stp.same s2).trans s3
   erw[hb M0 F3 U2 Z3 O3 H2 _ a7 hs3 hl3 ?_]
   cases ef:f U2 with
   |bad=>rw[ef]at au;exact au.elim
   |ok z=>
    let(fl,U4):=z
    rw[ef]at au
    cases fl with
    |next=>erw[λF4 Z4 O4 H4 a b c d e=>⟨F4,U4,Z4,a,(bz.trans sA).trans b,c,d,au.step (sA.trans b) λi hi=>(e i hi).trans (n3 i hi)⟩]
    |cnt=>erw[λF4 Z4 O4 H4 a b c d e=>#[F4,U4,Z4,a,(bz.trans sA).trans b,c,d,au.step (sA.trans b) λi hi=>(e i hi).trans (n3 i hi)]]
    |brk=>erw[λF4 Z4 O4 H4 a b c d e=>au F4 Z4 O4 H4 a (sA.trans b) c d λi hi=>(e i hi).trans (n3 i hi)]
    |ret o=>erw[λF4 Z4 v4 H4 a b e=>au F4 Z4 v4 H4 a (sA.trans b) λi hi=>(e i hi).trans (n3 i hi)]
 ·let e:i=ds.length:=by lia
  subst e
  rw[uL,jp]at au
  erw[.inl #[sy (xh _),au F' Z' O' H' cq (.refl _ _) d5 dv λ_ _=>rfl]]
def Zs{M0:Ae}{F:Fp}{U:Gv}{Z:Nu}{H:Hp}{i:Nat}{xs:List OV}(rs:RS M0 F U Z H)(e:U[i]?=some (some (.l xs))):∃ a vs A,Z[i]?=some (some (.ref a))/\H a=some (.lst vs)/\ORL (MM M0 F) H vs xs A/\F i=a::A/\A.Nodup:=by
 let(v,ev,q):=rs.at' i _ e
 let nd:=rs.nd i
 generalize hA:F i=A at q
 rw[hA]at nd
 cases q with
 |l ea qa=>exact#[_,_,_,ev,ea,qa,rfl,(xB.mp nd).2]
def yu{M0:Ae}{F:Fp}{U:Gv}{Z:Nu}{H:Hp}{i:Nat}{xs xs':List OV}{a:Ap}{vs vs':List V}(rs:RS M0 F U Z H)(e:U[i]?=some (some (.l xs)))(en:Z[i]?=some (some (.ref a)))(eh:H a=some (.lst vs))
  (h:∀ A,ORL (MM M0 F) H vs xs A->ORL (MM M0 F) H vs' xs' A):∃ F',RS M0 F' (U.set i (some (.l xs'))) Z (upd H a (.lst vs'))/\Stp F H F' (upd H a (.lst vs')) :=
 rs.mut e en λus A eu qa eF=>by
  rw[eh]at eu;cases eu
  let nd:=rs.nd i
  rw[eF]at nd
  exact#[A,λ_ h=>h,(xB.mp nd).2,h A qa]
def isOwn(U:Gv)(i:Nat):Bool:=match U[i]? with
 |some (some (.l _))=>true
 |_=>false
def Qu{U:Gv}{i:Nat}(h:isOwn U i=true):∃ xs,U[i]?=some (some (.l xs)):=by
 unfold isOwn at h
 split at h
 ·rename_i xs e;exact⟨xs,e⟩
 ·cases h
structure NmK(X:Cx)(mp:Ac)(s i:Nat)(x:Str):Prop where
 hN:X.N[s]?=some x
 hv:Vis X.env.scope x
 hm:mp[s]?=some i
 hd:(↥x)
 hcd:(x==("__classdict__" :Str))=false
private def sApp(i:Nat)(fa:EM FV):SM:=λU=>if isOwn U i then (fa U).bind λ(u,U1)=>match derS U1 u,U1[i]? with
 |some x,some (some (.l xs))=>if xs.length<1000000 then .ok (.next,U1.set i (some (.l (xs++ [.d x])))) else .bad
 |_,_=>.bad
 else .bad
def zkC{s i:Nat}{x:Str}(n:NmK X mp s i x)(ha:SE X mp a fa)(af:a⁻¹)(ah:(p2.endLine==pos.line)=true) :
  SS X mp io (.Expr (.Call (.Attribute (.Name x p) "append" p2) [a] [] pos) pos') (sApp i fa):=λM0 F U Z O H D rs hs hl hp=>by
 unfold sApp at hp
 delta hp hw
 let(sj,e0):=Qu hw
 let(a0,gq,A0,cp,ig,q0,_,_):=Zs rs e0
 refine (Qe (zar PySem.F.plainAttrs_list PySem.F.slot_list_append PySem.F.type_list_append Vr (qG n.hN n.hv n.hd n.hcd) (zX zF pa_nil af) rfl (by rw[af];rfl) ah af rfl) rfl).wp #[.ref a0,hs s i _ n.hm cp,.inl #[rfl,_,SqL.of ig],?_]
 erw[ha M0 F U Z O H _ rs hs ((SPost.seq hs hl hp).mono λF1 U1 H1 u rs1 s1 h1 v hv=>?_)]
 delta h1 y xs ey ex
 delta h1 hz
 let(a1,d3,A1,d9,ff,q1,_,_):=Zs rs1 ex
 rw[cp]at d9
 cases d9
 refine#[a0,d3,v,rfl,rfl,ff,by have:=Xe;rw[q1.length];lia,?_]
 let(F2,rs2,s2):=yu rs1 ex cp ff λA qa=>qa.snoc (hv.strong rs1 ey)
 erw[h1 F2 Z O _ rs2 s2 hs hl λ_ _=>rfl]
private def sSet(i:Nat)(fi fv:EM FV):SM:=λU=>(fv U).bind λ(u,U1)=>if isOwn U1 i then (fi U1).bind λ(w,U2)=>match derS U2 u,derf U2 w,U2[i]? with
 |some x,some (.int k),some (some (.l xs))=>match ixN xs.length k with
  |some j=>match xs[j]? with
   |some (.d _)=>.ok (.next,U2.set i (some (.l (xs.set j (.d x)))))
   |_=>.bad
  |none=>.bad
 |_,_,_=>.bad
 else .bad
def zkI{s i:Nat}{x:Str}(n:NmK X mp s i x)(hi:SE X mp b fb)(hv:SE X mp a fa)(b8:swapsWithSole [.Subscript (.Name x p) b p2] a pos.line X.env=pure false)(hw:swappedStores [.Subscript (.Name x p) b p2] a X.env=pure none)
  (fm:∀{te:TE}{g:TG},PE X a te->PG X (.Subscript (.Name x p) b p2) g->PS X (.Assign [.Subscript (.Name x p) b p2] a pos) (yL te g)) (D7:∀{to ti:TE}{t:zgf},PE X (.Name x p) to->PE X b ti->ziW X t->PG X (.Subscript (.Name x p) b p2) (zlg to ti t)) :
  SS X mp io (.Assign [.Subscript (.Name x p) b p2] a pos) (sSet i fb fa):=λM0 F U Z O H D rs hs hl hp=>by
 erw[(fm zF (D7 (qG n.hN n.hv n.hd n.hcd) zF zfC)).wp (hv M0 F U Z O H _ rs hs ((SPost.seq hs hl hp).mono λF1 U1 H1 u rs1 s1 h1 v ov=>?_))]
 delta h1 hw
 let(sj,e0):=Qu hw
 let(a0,gq,A0,cp,ig,q0,_,_):=Zs rs1 e0
 refine#[.ref a0,hs s i _ n.hm cp,?_]
 erw[hi M0 F1 U1 Z O H1 _ rs1 hs ((SPost.seq hs hl h1).mono λF2 U2 H2 w rs2 s2 h2 vi oi=>?_)]
 delta h2 y k xs ey ek ex
 delta h2 j ej
 delta h2 z ez
 let(a1,d3,A1,d9,ff,q1,_,_):=Zs rs2 ex
 rw[cp]at d9
 cases d9
 cases oi.weak rs2 ek
 refine#[a0,d3,k,j,rfl,rfl,ff,by rw[q1.length];exact ej,?_]
 let(F3,a7,s3):=yu rs2 ex cp ff λA qa=>qa.setD ((ov.stp s2 rs1.al0).strong rs2 ey) ez
 erw[h2 F3 Z O _ a7 s3 hs hl λ_ _=>rfl]
def vH(n:Nat)(x:Int):Nat:=if x<0 then (x+(n:Int)).toNat else min x.toNat n
def rIns:V->List V->Hp->VK->Prop:=λx vs H Q=>∃ l xs i y,x=.ref l/\vs= [.int i,y]/\H l=some (.lst xs)/\ -(2 ^ 63)<=i/\i<2 ^ 63/\xs.length<sizeLine/\Q .non (upd H l (.lst (xs.take (vH xs.length i)++y::xs.drop (vH xs.length i))))
def zcc:MtM X "list.insert" rIns:=by
 intro pins s O H x vs v us Q I rx rv h
 let(l,xs,i,y,rfl,rfl,hH,h1,h2,hz,q):=h
 cases rx
 let(u,w',rfl,ru,a6):=zaC rv
 let(t,rfl):=ru
 let(z,ab,n,r,hl,e):=I.lstM hH
 let hf:Builtin.List.listFitsIndex i=true:=by
  unfold Builtin.List.listFitsIndex
  simp only[xi,x0]
  exact#[h1,h2]
 refine call_meets PySem.F.slot_list_insert #[_,e,rfl] PySem.F.entry_list_insert (PySem.F.args_list_insert_3 _ _ _) (PySem.AutoSeq1.list_insert_list_int_val_1 l ab.toArray n i t w' (by simp[hf]) (by rw[xk];lia)) #[e,?_]
 refine#[.non,_,I.lset hH e ?_ ((r.take _).append (.cons a6 (r.drop _))) ?_,rfl,q]
 ·show (ab.toArray.extract 0 (if i<0 then (i+(ab.toArray.size:Int)).toNat else min i.toNat ab.toArray.size)).push w'++ab.toArray.extract (if i<0 then (i+(ab.toArray.size:Int)).toNat else min i.toNat ab.toArray.size)=_
  rw[xk,<- hl]
  show (ab.toArray.extract 0 (vH xs.length i)).push w'++ab.toArray.extract (vH xs.length i) xs.length=_
  apply Array.ext'
  simp
  exact uo (by rw[uy];lia)
 ·simp only[xm,xo,xJ,uy]
  lia
private def zcv(i:Nat)(fi fv:EM FV):SM:=λU=>if isOwn U i then (fi U).bind λ(w,U1)=>(fv U1).bind λ(u,U2)=>match derS U2 u,derf U2 w,U2[i]? with
 |some x,some (.int k),some (some (.l xs))=>if xs.length<1000000/\ -1000000<=k/\k<=1000000 then .ok (.next,U2.set i (some (.l (xs.take (vH xs.length k)++.d x::xs.drop (vH xs.length k))))) else .bad
 |_,_,_=>.bad
 else .bad
def zkG{s i:Nat}{x:Str}(n:NmK X mp s i x)(hi:SE X mp b fb)(ha:SE X mp a fa)(af:starEach [b,a] X.env=(false,eval b X.env)::starEach [a] X.env)(br:a⁻¹)(ah:(p2.endLine==pos.line)=true) :
  SS X mp io (.Expr (.Call (.Attribute (.Name x p) "insert" p2) [b,a] [] pos) pos') (zcv i fb fa):=λM0 F U Z O H D rs hs hl hp=>by
 unfold zcv at hp
 delta hp hw
 let(sj,e0):=Qu hw
 let(a0,gq,A0,cp,ig,q0,_,_):=Zs rs e0
 refine (Qe (zar PySem.F.plainAttrs_list PySem.F.slot_list_insert PySem.F.type_list_insert zcc (qG n.hN n.hv n.hd n.hcd) (zX zF (zX zF pa_nil br) af) rfl (by rw[af,br];rfl) ah af (by rw[br];rfl)) rfl).wp #[.ref a0,hs s i _ n.hm cp,.inl #[rfl,_,SqL.of ig],?_]
 erw[hi M0 F U Z O H _ rs hs ((SPost.seq hs hl hp).mono λF1 U1 H1 w rs1 s1 h1 vi oi=>?_)]
 erw[ha M0 F1 U1 Z O H1 _ rs1 hs ((SPost.seq hs hl h1).mono λF2 U2 H2 u rs2 s2 h2 v ov=>?_)]
 delta h2 y k xs ey ek ex
 delta h2 hz
 let(a1,d3,A1,d9,ff,q1,_,_):=Zs rs2 ex
 rw[cp]at d9
 cases d9
 cases (oi.stp s2 rs1.al0).weak rs2 ek
 refine#[a0,d3,k,v,rfl,rfl,ff,by lia,by lia,by have:=Xe;rw[q1.length];lia,?_]
 let(F3,a7,s3):=yu (vs':=d3.take (vH d3.length k)++v::d3.drop (vH d3.length k)) rs2 ex cp ff λA qa=>by
  rw[q1.length];exact qa.insD (ov.strong rs2 ey) _
 erw[h2 F3 Z O _ a7 s3 hs hl λ_ _=>rfl]
def derfs(U:Gv):List FV->Option (Aa)
 |[]=>some []
 |u::us=>match derf U u,derfs U us with
  |some x,some xs=>some (x::xs)
  |_,_=>none
def FOks.weak{M0:Ae}{F:Fp}{U:Gv}{Z:Nu}{H:Hp}(rs:RS M0 F U Z H):∀{vs:List V}{us:List FV}{ds:Aa},FOks M0 F Z H vs us->derfs U us=some ds->RepL qk H vs ds
 |_,_,_,.nil,e=>by cases e;exact .nil
 |_,_,_,.cons h t,e=>by
  unfold derfs at e
  split at e
  next e1 e2=>
   cases e
   erw[.cons (h.weak rs e1) (FOks.weak rs t e2)]
  ·cases e
private def fCallW(run:List OV->RF)(fl:EM (List FV)):EM FV:=λU=>(fl U).bind λ(us,U1)=>match derfs U1 us with
 |none=>.bad
 |some ds=>match run (ds.map .d) with
  |.ok (.d x) _=>if noL x then .ok (.dat x,U1) else .bad
  |_=>.bad
def zjm(r:RepL qk H vs ds):RS qk (λ_=> []) ((ds.map OV.d).map some) (vs.map some) H where
 al0 a h:=h.elim
 dis0 i a h:=by cases h
 nd i:=.nil
 dis i j a h:=by cases h
 at' j o e:=by
  rw[xf,xf]at e
  cases q:ds[j]? with
  |none=>rw[q]at e;cases e
  |some x=>
   rw[q]at e
   let eo:OV.d x=o:= ~~~e
   subst eo
   let(v,ev,rv):=r.get' q
   refine#[v,by rw[xf,ev];rfl,.d (rv.less λb hb _=>?_)]
   rcases hb with hb | ⟨i,hb⟩
   ·erw[hb]
   ·cases hb
 emp i h:=rfl
 len:=by simp[r.length]
def zfu{run:List OV->RF}(kn:Kn X.prog X.w X.K X.mg X.base CX0 x k (spX n run))(hr:Room k X.A)(hg:Gl X x)(ak:Ran n run)(pf:SL X mp (a::es) fl)
  (bq:(↥x)) (he:starEach (a::es) X.env=(false,eval a X.env)::starEach es X.env) (hpl:(backTo pos (starEach es X.env)).any (·.1)=false):SE X mp (.Call (.Name x p) (a::es) [] pos) (fCallW run fl):=λM0 F U Z O H Q rs hs hp=>
 YR kn hr hg (pf M0 F U Z O H _ rs hs (hp.seq.mono λF1 U1 H1 us rs1 s1 h1 vs oks=>by
  dsimp only at h1
  split at h1
  ·erw[h1.elim]
  next ds ed=>
   let rw0:=oks.weak rs1 ed
   split at h1
   next y outs er=>
    delta h1 hz
    let hl:=ak (ds.map .d) (by rw[er];exact λz=>nomatch z)
    refine#[by rw[rw0.length,<- hl];simp,qk,λ_=> [],ds.map .d,zjm rw0,?_]
    rw[er]
    intro F' v H' rc sc
    let sm:Same H1 H':=λb o e=>(sc.keep b o e λ_ h=>nomatch h).1
    erw[h1 F1 H' (rs1.same sm) (.same sm) v ?_]
    let hlen:=rc.len
    let(w,ew,q):=rc.at' outs.length (.d y) (by grind)
    let i6:outs.length=(vs.map some).length:=by simp at hlen |-;lia
    rw[i6,xp (xh _)]at ew
    have:v=w:= ~~~ew
    subst this
    generalize F' outs.length=A at q
    cases q with
    |d q=>erw[Rep.free hz q]
   ·exact h1.elim)) bq he hpl
end
end L3
namespace L3
open PySem PySem.Spec PyProof.Rows L2
variable [Cs]
section
variable {X:Cx}{mp:Ac}{p p2 pos pos':Pos}
def rClr:V->List V->Hp->VK->Prop:=λx vs H Q=>∃ l xs,x=.ref l/\vs= []/\H l=some (.lst xs)/\Q .non (upd H l (.lst []))
def zjE:MtM X "list.clear" rClr:=by
 intro pins s O H x vs v us Q I rx rv h
 let(l,xs,rfl,rfl,hH,q):=h
 cases rx
 let hus:=rv.zero
 subst hus
 let(z,ab,n,r,hl,e):=I.lstM hH
 exact call_meets F.slot_list_clear #[_,e,rfl] F.entry_list_clear (F.args_list_clear_1 _) (AutoSeq1.list_clear_list_0 l ab.toArray n (by rw[xk];lia)) #[e,.non,_,I.lset hH e rfl .nil (by simp),rfl,q]
private def zfr(i:Nat):SM:=λU=>if isOwn U i then .ok (.next,U.set i (some (.l []))) else .bad
def zkE{s i:Nat}{x:Str}(n:NmK X mp s i x)(ah:(p2.endLine==pos.line)=true) :
  SS X mp io (.Expr (.Call (.Attribute (.Name x p) "clear" p2) [] [] pos) pos') (zfr i):=λM0 F U Z O H D rs hs hl hp=>by
 unfold zfr at hp
 delta hp hw
 let(sj,e0):=Qu hw
 let(a0,gq,A0,cp,ig,q0,_,_):=Zs rs e0
 erw[(Qe (zjV PySem.F.plainAttrs_list PySem.F.slot_list_clear PySem.F.type_list_clear zjE (qG n.hN n.hv n.hd n.hcd) rfl ah) rfl).wp #[.ref a0,hs s i _ n.hm cp,.inl #[rfl,_,SqL.of ig],a0,_,rfl,rfl,ig,?_]]
 let(F2,rs2,s2):=rs.mut (xs':= []) (vs:= []) e0 cp λus A eu qa eF=>#[[],(λb h=>nomatch h),.nil,.nil]
 erw[hp F2 Z O _ rs2 s2 hs hl λ_ _=>rfl]
end
end L3
namespace L2
open PySem PySem.Spec PyProof.Rows
variable [Cs]
section
variable {X:Cx}{pins:Ak}{O:List (Option V)}{H:Hp}{s:Am}{h':Heap}
def Inv.turnedL{ch:List Ap}(I:Inv X pins O H s)(k:∀ b o,b∉ch->s.heap.get? b=some o->h'.get? b=some o)(there:∀ b o,b∈ch->s.heap.get? b=some o->∃ o',h'.get? b=some o')(hf:∀ b∈ch,JK X pins H b):Inv X pins O H { s with heap:=h',toks:=t' }:=by
 let ny:∀ b u,H b=some u->b∉ch:=λb u e z=>by rw[(hf b z).1]at e;cases e
 refine I.step (λb hb=>?_) (λb o _ _ hc e _=>k b o hc e) (λb o _ _ hc e _=>#[o.slots,k b o hc e]) (λ_ _ _ _ n=>n)
  (λb o hc e=>#[o,k b o hc e]) (λ_ _ e=>e) (λ_ _ _ e=>e) (λb ps e=>#[(List.toArray []),by rw[e];simp]) (λm hm=>?_) (λb u e=>?_) I.bare
 ·let(f0,f1,f2,f3,f4,f5):=hf b hb
  exact#[f3,f1,f4,f5]
 ·let(o,es,ep,ho,r):=hm
  exact#[o,es,ep,k _ o (λz=>(hf _ z).2.1 rfl) ho,r]
 ·refine (I.hok b u e).stay (λc v hc q=>k c v ?_ q) (λ_ q=>q) λ_ _ q=>q
  rcases hc with z | z
  ·rw[z];exact ny b u e
  ·erw[ny c _ z]
end
def Ite(K:Ah)(a:Ap):It :=
 #[λi H=>∃ xs x,SqL K H a xs/\xs[i]?=some x,λi H x H'=>∃ p y,H p=none/\H'=upd H p (.tup [.int i,y])/\x=.ref p/\∀ xs,SqL K H a xs->xs[i]?=some y,λi H=>∃ xs,SqL K H a xs/\xs.length<=i]
def zcF{K:Ah}{elts:Ag}{x1:Nat}{pos:Pos}(a e it:Ap)(Cv:e≠it):Wj P w K (.Tuple elts x1 pos) (Ite K a) [e,it] e (λi h=>(∃ old,IsEnum h e it i old)/\h.IsListIter it a i) where
 mem:=by simp
 obj:=λi h st b hb=>by
  let((old,he),hit):=st
  rcases xC.mp hb with rfl | hb
  ·exact#[_,he,λv z=>by cases z]
  ·let eb:b=it:= ~~~hb
   subst eb
   let(o,e,c,d):=hit
   exact#[o,e,λv z=>by rw[d]at z;cases z]
 keep:=λi h h' st k=>by
  let((old,he),hit):=st
  exact#[#[old,k e (by simp) _ he],hit.at λo q=>k it (by simp) o q]
 item:=by
  intro X hP hw hK hc i pins s O H E I hf st hg
  subst hP hw hK
  let((old,he),hit):=st
  let(xs,x,hq,hx):=hg
  let(ab,rv,p,hz):=I.list hq
  let(u,hu,ru):=rv.get hx
  let Bo:e<⇑s:=x5 he
  let Er:it<⇑s:=by let(_,q,_):=hit;exact x5 q
  refine wpAny_pyNext_enum_item he hit p.isList (~~~hu) Cv λh1 ho Bj hT hsz hk=>#[.ref ⇑s,rfl,wpAny_letOwnedTupleGo_enum ho λh2 Cw cz=>?_]
  let n6:∀ b o,b≠e->b≠it->s.heap.get? b=some o->h2.get? b=some o:=λb o nh mf q=>(cz.2 b nh).trans (hk b o nh mf q)
  let d6:h2.IsListIter it a (i+1):=Bj.at λo q=>(cz.2 it (Ne.symm Cv)).trans q
  let I1:Inv X pins O H { s with heap:=h2,toks:=s.toks+1 }:=I.turnedL (λb o hb q=>n6 b o (λz=>hb (by simp[z])) (λz=>hb (by simp[z])) q) (λb o hb q=>by
   rcases xC.mp hb with rfl | hb
   ·exact#[_,Cw]
   ·let eb:b=it:= ~~~hb
    subst eb
    let(o',q',_):=d6
    exact#[o',q']) hf
  let CG:H ⇑s=none:=I.hok.fresh (xh _)
  let ES:h2.get? ⇑s=some { cls:=.type "tuple",data:=.seq (List.toArray [.int i s.toks,u]) }:=(cz.2 _ (uQ Bo)).trans hT
  let I2:Inv X pins O (upd H ⇑s (.tup [.int i,x])) { s with heap:=h2,toks:=s.toks+1 }:=I1.track I.sz CG (Ne.symm (xj I.lt)) (λy c q=>by
    let(v,ob,bu,_):=I.cell y c q
    exact xj (x5 bu)) (λq i4=>xj (x5 (I.pin q i4).1))
   #[by show 2<=sizeLine;decide,[.int i s.toks,u],.cons #[_,rfl] (.cons ru .nil),#[_,ES,rfl,_,rfl]]
  refine#[.ref ⇑s,_,I2,rfl,#[_,x,CG,rfl,rfl,λys hy=>by rw[I.list_inj hy hq];exact hx],#[#[u,~~~Cw],d6],λb hb=>?_]
  rw[zI]
  ·erw[(hf b hb).1]
  grind
 done:=by
  intro X hP hw hK hc i pins s O H E I hf st hg
  subst hP hw hK
  let((old,he),hit):=st
  let(xs,hq,hx):=hg
  let(ab,rv,p,hz):=I.list hq
  let(f0,f1,f2,f3,f4,f5):=hf it (by simp)
  let hl:=rv.length
  exact wpAny_pyNext_enum_end (I.ok.hd hc) he hit p.isList (by simp;lia) λh1 eb=>#[rfl,I.turned (λb o hb q=>eb b o hb q) f0 f1 f3 f4 f5]
 self:=λ_ _ _ _ _ st h=>by
  let((old,he),_):=st
  erw[wpAny_pyIter_enum he h]
def boot_enumW:bootBuiltins "enumerate" =some (.type "enumerate"):=by decide +kernel
section
variable {X:Cx}
def zli(K:Ah)(tl:TE):TI:=λO H R=>tl O H λx H1=>∃ a,x=.ref a/\(∃ xs,SqL K H1 a xs)/\R (Ite K a) H1
def zhn {elts:Ag}{x1:Nat}{pt:Pos}{l:Expr}{p pos:Pos}(hg:Gl X "enumerate") (hm:X.mg "enumerate" =none) (af:l⁻¹) :
  PI X (.Tuple elts x1 pt) (.Call (.Name "enumerate" p) [l] [] pos) (zli X.K (wpE X l)):=by
 intro pins s O H R I h
 let h':zfX (wpE X l) zkN O H (λvs H1=>∃ v,vs= [v]/\∃ a,v=.ref a/\(∃ xs,SqL X.K H1 a xs)/\R (Ite X.K a) H1):=wpE.mono h λv H1 q=>#[v,rfl,q]
 erw[Call_ (Jb I hg hm boot_enumW (PyProof.Rows.callWith_type1 (thn ((zX zF pa_nil af) pos pins s O H _ I h') λus s1 ⟨vs,H1,I1,r1,q1⟩=>?_) af rfl))]
 let(v,rfl,a,rfl,(xs,hq),q):=q1
 let(u,rfl,ru):=ZU r1
 cases ru
 let(ab,rv,pl,hz):=I1.list hq
 erw[call_enumerate_list pl.isList λh1 he hit hsz hk=>?_]
 erw[wpAny_pyIter_enum he ?_]
 let I2:Inv X pins O H1 { s1 with heap:=h1 }:=I1.kept hk
 refine#[⇑s1+1,[⇑s1+1,⇑s1],_,_,H1,rfl,I2,zcF a _ _ (Nat.succ_ne_self _),#[#[_,he],hit],λb hb=>?_,q]
 rcases xC.mp hb with rfl | hb
 ·erw[I1.fpOk (uN _) (I1.hok.fresh (uN _))]
 ·let eb:b=⇑s1:= ~~~hb
  subst eb
  erw[I1.fpOk (xh _) (I1.hok.fresh (xh _))]
end
end L2
namespace L3
open PySem PySem.Spec PyProof.Rows L2
variable [Cs]
def qS(ds:Aa):Aa:=ds.zipIdx.map λp=>PyData.tuple [.int p.2,p.1]
def ZJ{i:Nat}(h:(qS ds)[i]?=some d):∃ x,ds[i]?=some x/\d=.tuple [.int i,x]:=by
 unfold qS at h
 rw[xf,List.getElem?_zipIdx]at h
 cases e:ds[i]? with
 |none=>rw[e]at h;cases h
 |some x=>rw[e]at h;simp at h;exact#[x,rfl,h.symm]
def Vf(ds:Aa):(qS ds).length=ds.length:=by simp[qS]
private def fEnum(fa:EM FV):EM (Aa):=λU=>(fa U).bind λ(u,U1)=>match derS U1 u with
 |some (.list ds)=>.ok (qS ds,U1)
 |_=>.bad
def zgV{F:Fp}{K:Ah}{H1:Hp}{l:Ap}(e:H1 l=some (.lst vs))(n:¬ MM M0 F l)(r:RepL (MM M0 F) H1 vs ds):JI M0 F (Ite K l) (qS ds) H1:=λi F' H' s h0=>by
 let e':=(s.keep l _ e λj hj=>n (.inr #[j,hj])).1
 refine#[λd hd=>?_,λhl=>#[vs,SqL.of e',by rw[Vf]at hl;rw[r.length];exact hl]]
 let(x,hx,rfl):=ZJ hd
 let(v,hv,rv):=r.get' hx
 refine#[#[vs,v,SqL.of e',hv],λz H2 ⟨p,y,np,e2,ez,hy⟩=>?_]
 subst e2 ez
 have:=hy vs (SqL.of e')
 rw[hv]at this;cases this
 exact#[qg np,.tuple zK (.cons (.int _) (.cons ((qf s h0 rv).grow (qg np).grow) .nil))]
section
variable {X:Cx}{mp:Ac}{a:Expr}{p pos:Pos}{fa:EM FV}
def zhU (B:BiK X x (.type "enumerate")) (ex:x= "enumerate") (ha:SE X mp a fa) (af:a⁻¹):SI X mp (.Tuple elts x1 pt) (.Call (.Name x p) [a] [] pos) (fEnum fa):=λM0 F U Z O H R rs hs hp=>by
 subst ex
 exact (zhn B.gl B.mg af).wp (ha.run rs hs hp λF1 U1 H1 u v rs1 s1 o1 h1=>by
  delta h1 ds eu
  let(l,vs,rfl,e,n,r):=(o1.strong rs1 eu).lst_inv
  exact#[l,rfl,#[vs,SqL.of e],h1 F1 H1 rs1 (.refl _ _) _ (zgV e n r)])
end
end L3
namespace L2
open PySem PySem.Spec PyProof.Rows
variable [Cs]
structure zkV(M:Ae)(H:Hp)(b c:Ap)(cells:List Int)(i l t s:Int):Prop where
 mb:M b
 hb:H b=some (.lst [.ref c,.int i,.int l,.int t,.int s])
 hc:Rep M H (.ref c) (.list (cells.map PyData.int))
 hi:0<=i
def BoxAt(M:Ae)(H:Hp)(b:Ap):Prop:=∃ c cells i l t s,zkV M H b c cells i l t s
def BoxAt.lst(B:BoxAt M H b):∃ xs,H b=some (.lst xs):=let #[_,_,_,_,_,_,B]:=B;#[_,B.hb]
def zfN(K:Ah):Sp:=λvs H Q _=>∃(a:Ap)(ns:List Int),vs= [.ref a]/\SqL K H a (ns.map V.int)/\ns.length<=63/\∀ b H',Same H H'->H b=none->H' b≠none->BoxAt (λa=>a=b) H' b->Q (.ref b) H'
section
end
def vY{n i:Nat}(e:(List.replicate n none:Ge)[i]?=some (some z)):False:=by
 rw[xN]at e
 split at e
 ·cases e
 ·cases e
def RS.blank{M:Ae}(n:Nat)(al:Al M H):RS M (List.replicate n none) O H:=#[al,λi d e=>(vY e).elim,λi d e=>(vY e).elim]
section
variable {X:Cx}{H:Hp}{D:Ji}{c7:List Stmt}{p pos pos' p2:Pos}{x:Str}{k:Nat}{Q:VK}
def zkS {ns:List Int}{N:Ab}(hN:X.N.Nodup) (kb:Kn X.prog X.w X.K X.mg X.base CX0 "_law_box" k (zfN X.K)) (hr:Room k X.A) (hS:SqL X.K H a (ns.map V.int)) (hlen:ns.length<=63)
  (kk:∀ b O' H',Same H H'->H b=none->BoxAt (λa=>a=b) H' b->RS (λa=>a=b) ((List.replicate X.N.length none).set 1 (some (.v (.ref b)))) O' H'->O'.length=X.N.length->wpB X c7 D O' H')
  (Bz:X.N=N) (h0:N[0]?=some ("_law_script" :Str)) (hi:X.N[1]?=some x:=by rfl) (AH:Vis X.env.scope "_law_script" :=by first | exact Or.inl rfl | exact Or.inr (Or.inl rfl) | exact Or.inr (Or.inr rfl)) (hx:Loc X.env.scope x:=by first | exact Or.inl rfl | exact Or.inr rfl)
  (hf:X.fn x=true∨X.env.scope.names.lookup x=some .local:=by first | exact .inl rfl | exact .inr rfl | assumption) (hg:Gl X "_law_box" :=by rfl)
  (hs:starEach [.Name "_law_script" p2] X.env= [(false,eval (.Name "_law_script" p2) X.env)]:=by rfl) (hpl:(backTo p (starEach [] X.env)).any (·.1)=false:=by rfl) {p3:Pos} :
  wpB X (.Assign [.Name x pos'] (.Call (.Name "_law_box" p3) [.Name "_law_script" p2] [] p) pos::c7) D (start N [.ref a]) H:=by
 let hl:1<N.length:=by rw[<- Bz];exact (xa.mp hi).1
 let af:(start N [V.ref a]).length=N.length:=yK (by simp;lia)
 refine zl9 1 (Q:=λv H'=>∃ b,v=.ref b/\Same H H'/\H b=none/\BoxAt (λa=>a=b) H' b) hN (ziC kb hr hg zlv ((zX (qG (by rw[Bz];exact h0) AH) pa_nil hs).wp #[.ref a,by simp[start],a,ns,rfl,hS,hlen,λb H' s' nb _ hB=>#[b,rfl,s',nb,hB]]) (by decide) hs hpl) (λv H1 ⟨b,ev,s1,nb,hB⟩=>?_) hi hx rfl hf
 subst ev
 refine kk b _ H1 s1 nb hB ((RS.blank X.N.length (λc hc=>?_)).setV (by rw[af];exact hl)) (by rw[xK,af,Bz])
 subst hc
 let(xs,hx):=hB.lst
 rw[hx]
 erw[λz=>nomatch z]
end
section
end
end L2
namespace L3
open PySem PySem.Spec PyProof.Rows L2
variable [Cs]
def Ja:Aa->Option (List Int)
 |[]=>some []
 |.int b::r=>(Ja r).map (b::·)
 |_=>none
def Kk(ns:List Int):Ja (ns.map .int)=some ns:=by
 induction ns with
 |nil=>rfl
 |cons b r ih=>simp[Ja,ih]
section
end
section
variable {X:Cx}{mp:Ac}{a:Expr}{p2 pos:Pos}{fa:EM FV}
private def zal(fa:EM FV)(fl fh:EM (Option Int)):EM FV:=λU=>(fa U).bind λ(u,U1)=>(fl U1).bind λ(lo,U2)=>(fh U2).bind λ(hi,U3)=>match derS U3 u with
 |some (.tuple ds)=>if HT.sIx ds.length 0 lo=0/\HT.sIx ds.length ds.length hi=ds.length then .bad else .ok (.dat (.tuple (Jr ds lo hi)),U3)
 |_=>.bad
def zhE{lo hi:Option Expr}(ha:SE X mp a fa)(hl:SOp X mp lo fl)(hh:SOp X mp hi fh):SE X mp (.Subscript a (.Slice lo hi none p2) pos) (zal fa fl fh):=by?
 let(tl,pl,kl):=hl
 let(th,ph,kh):=hh
 erw[(Jz zkx zF pl ph).wp (ha.run rs hs hp λF1 U1 H1 u v rs1 s1 o1 h1=>?_)]
 erw[kl M0 F1 U1 Z O H1 _ rs1 hs (h1.seq.mono λF2 U2 H2 lo rs2 s2 h2=>?_)]
 erw[kh M0 F2 U2 Z O H2 _ rs2 hs (h2.seq.mono λF3 U3 H3 hi a7 s3 h3=>?_)]
 delta h3 ds e
 split at h3
 ·erw[h3.elim]
 next hw=>
  let o3:=((o1.stp s2 rs1.al0).stp s3 rs2.al0)
  let(l,vs,rfl,el,rl):=(o3.strong a7 e).tup_inv
  exact#[l,vs,rfl,SqT.of el,by rw[rl.length];exact hw,λp n=>h3 F3 _ (a7.same (qg n)) (.same (qg n)) _ (Rep.tuple zK ((Yz rl lo hi).grow (qg n).grow))]
end
end L3
namespace Tab
open PySem PySem.SetTable
section
variable {prog:Ar}{w:World}
inductive Keys(prog:Ar)(w:World):List (Int×Value)->List Int->Prop
 |nil:Keys prog w [] []
 |cons {k:Int} {t:Tok} {es ks}:Keys prog w es ks->Keys prog w (((intKind prog w).hash k,.int k t)::es) (k::ks)
def Keys.length{es:List (Int×Value)}{ks:List Int}(h:Keys prog w es ks):es.length=ks.length:=by
 induction h with
 |nil=>rfl
 |cons _ ih=>simp[ih]
def dedup{K:Type}[DecidableEq K](ks:List K):List K:=ks.foldl PyProof.Rows.step_dedup []
section
variable {K:Type}[DecidableEq K]
def zcC(O:List K)(v k:K):(PyProof.Rows.step_dedup O v).any (·==k)=(O.any (·==k)||decide (k=v)):=by
 unfold PyProof.Rows.step_dedup
 by_cases e:k=v
 ·subst e;split<;>simp_all
 ·have:(v==k)=false:=by grind
  split<;>simp[this,e]
def JF(O:List K)(v:K):(PyProof.Rows.step_dedup O v).length=if O.any (·==v) then O.length else O.length+1:=by
 unfold PyProof.Rows.step_dedup;split<;>simp
def WA{ks:List K}{i:Nat}{k:K}(h:ks[i]?=some k):dedup (ks.take (i+1))=PyProof.Rows.step_dedup (dedup (ks.take i)) k:=by
 unfold dedup
 rw[xZ,h,List.foldl_append];rfl
def dedup_len(l:List K):(dedup l).length<=l.length:=by
 suffices H:∀(l acc:List K),(l.foldl PyProof.Rows.step_dedup acc).length<=acc.length+l.length by simpa [dedup] using H l []
 intro l
 induction l with
 |nil=>simp
 |cons x l ih=>
  intro acc
  have:=ih (PyProof.Rows.step_dedup acc x)
  rw[JF]at this
  rw[List.foldl_cons,xo]
  split at this<;>lia
end
end
section
end
section
end
section
end
end Tab
namespace L2
open PySem PySem.Spec PyProof.Rows
variable [Cs]
section
end
end L2
namespace L3
open PySem PySem.Spec PyProof.Rows L2
variable [Cs]
section
end
end L3
namespace L2
open PySem PySem.Spec PyProof.Rows
section
end
variable [Cs]
section
end
end L2
namespace L3
open PySem PySem.Spec PyProof.Rows L2
variable [Cs]
section
end
section
end
section
end
def ORL.snocO(q:OR M H v o B):∀{vs:List V}{os:List OV}{A:List Ap},ORL M H vs os A->ORL M H (vs++ [v]) (os++ [o]) (A++B)
 |_,_,_,.nil=>by simpa using ORL.cons q .nil
 |_,_,_,.cons r t=>by rw[uw];exact .cons r (ORL.snocO q t)
section
end
section
end
section
end
inductive IW where
 |v (s i:Nat)
 |c (n:Int)
def wD(U:Gv):IW->Option PyData
 |.v _ i=>match U[i]? with
  |some (@&x)=>some x
  |_=>none
 |.c n=>some (.int n)
def WOk(X:Cx)(mp:Ac)(a:Expr)(w:IW):Prop:=∀(M0:Ae)(F:Fp)(U:Gv)(Z:Nu)(O:St)(H:Hp)(x:PyData),RS M0 F U Z H->Sees mp Z O->wD U w=some x->∃ v,Rep (MM M0 F) H v x/\∀ Q:VK,Q v H->wpE X a O H Q
section
variable {X:Cx}{mp:Ac}{c e:Expr}{p:Pos}
def zmc(n:NmK X mp s i x):WOk X mp (.Name x p) (.v s i):=λM0 F U Z O H y rs hs e=>by
 dsimp only [wD]at e
 split at e
 next z q=>
  cases e
  let(v,e1,r):=rs.at' i _ q
  generalize F i=A at r
  cases r with
  |d r=>exact#[v,r,λQ hq=>(qG n.hN n.hv n.hd n.hcd).wp #[v,hs s i v n.hm e1,hq]]
 ·cases e
def zmb:WOk X mp (.Constant (.int n) j p) (.c n):=λM0 F U Z O H y rs hs e=>by
 cases e
 exact#[.int n,.int n,λQ hq=>pe_int.wp hq]
end
private def sRaise(_:Str):SM:=λ_=>.bad
end L3
namespace Tab
open PySem PySem.Spec PyProof.Rows
abbrev newSet (led:Bool):Obj:={ cls:=.type "set",dict:=none,data:=.set (List.toArray []) 0 (.fresh 0 0 led) }
section
variable {prog:Ar}{w:World}{K:Type}[DecidableEq K]{knd:KeyKind prog w K}{A:Around}{R:Result->Am->Prop}{I:Ap}{fp wr:List Ap}{G:Array GenState->Array GenState->Prop}{n:Nat}{P:Nat->Aj->Prop}{St:Nat->Am->Prop}
abbrev zaG(knd:KeyKind prog w K)(h:Heap)(S:Ap)(ks:List K):Prop:=h.SetOf knd S (λz=>(dedup ks).any (·==z)) (dedup ks).length
def Vx(W:WalksS prog w A.in1 I fp wr G n P St)(S:Ap)(CH:S∉fp){ks:List K}(hl:ks.length=n)(AG:∀ i v,P i v->∃ k,ks[i]?=some k/\knd.is k v=true/\v.scannable=true)(hb:n+1<scanBound) :
  ∀(m i:Nat)(s:Am),n-i=m->i<=n->St i s->zaG knd s.heap S (ks.take i) ->
   (∀ s',Moved (S::wr) G s s'->zaG knd s'.heap S ks->R (.ok (.ret .none)) s') ->
   codeAny (model prog w) A (.builtin "set.update.loop" #[[.ref S,.ref I],[]]) R s:=by
 let n0:S∉wr:=λh=>CH (W.sub _ h)
 let n1:∀ b∈wr,b∈S::wr:=λb hb=>xt _ hb
 intro m
 induction m with
 |zero=>
  intro i s hk hi af hS hR
  let hin:i=n:=by lia
  subst hin
  rw[<- hl,uz]at hS
  erw[codeAny_builtin F.entry_set_update_loop ?_]
  rw[Around.under_plainId F.plain_set_update_loop _]
  show wpAny _ A.in1 (pyNext (.ref I) >>= _) _ _ s
  erw[x3 (W.done s _ _ af λs' hm=>?_)]
  show wpAny _ A.in1 (ret Value.none) _ _ s'
  let(o,es,ep,t,ho,rest):=hS
  erw[x6 (hR s' (hm.mono n1) #[o,es,ep,t,hm.heap S _ n0 ho,rest])]
 |succ m ih=>
  intro i s hk hi af hS hR
  let hlt:i<n:=by lia
  erw[codeAny_builtin F.entry_set_update_loop ?_]
  rw[Around.under_plainId F.plain_set_update_loop _]
  show wpAny _ A.in1 (pyNext (.ref I) >>= _) _ _ s
  erw[x3 (W.item i s _ _ hlt af λv s' hP AM hm=>?_)]
  let(k,ek,ik,sk):=AG i v hP
  let h2:zaG knd s'.heap S (ks.take i):=by
   let(o,es,ep,tb,ho,rest):=hS
   exact#[o,es,ep,tb,hm.heap S _ n0 ho,rest]
  show wpAny _ A.in1 (holding [v] (setAdd S v) >>= _) _ _ s'
  erw[x3 (Xb ?_)]
  unfold setAdd
  erw[Xb ?_]
  erw[x3 (knd.pyHash ik ?_)]
  let oq:(dedup (ks.take i)).length+1<scanBound:=by
   have:=dedup_len (ks.take i)
   rw[xJ]at this;lia
  erw[wpAny_setAddHashed_of (s:={ s' with toks:=s'.toks+1 }) ik sk h2 oq λh' AO h3=>?_]
  let EU:zaG knd h' S (ks.take (i+1)):=SetOf_congr h3 (λz=>by rw[WA ek,zcC]) (by rw[WA ek,JF])
  refine x6 #[plainId_quiet F.plain_set_update_loop _,ih (i+1) _ (by lia) hlt (W.frame _ s' _ _ AM (uN _) λb hb o e=>?_) EU λnr Bb By=>?_]
  ·rw[AO.2 b (λh:b=S=>CH (by rw[<- h];exact hb))];exact e
  ·refine hR nr (Moved.trans W.gtrans ((hm.mono n1).then_heap (uN _) λb o hb e=>?_) Bb) By
   rw[AO.2 b (λh:b=S=>hb (by rw[h];exact xA))];exact e
end
section
variable {prog:Ar}{w:World}{K:Type}[DecidableEq K]{knd:KeyKind prog w K}{A:Around}{E:Af}{s:Am}
def set_tupleT{a:Ap}{vs:Array Aj}{ks:List K}{Q:Af}(hd:A.handled=none)(ht:s.heap.IsTuple a vs∨s.heap.IsList a vs)(hl:ks.length=vs.size)(hv:∀(i:Nat)(v:Aj),vs[i]?=some v->∃ k,ks[i]?=some k/\knd.is k v=true/\v.scannable=true)(hsz:vs.size+1<scanBound)
    (k:∀(h2:Heap)(tk:Nat),zaG knd h2 ⇑s ks->(∀ b o,b<⇑s->s.heap.get? b=some o->h2.get? b=some o)->Q (.ref ⇑s) { s with heap:=h2,toks:=tk }) :
    wpAny (model prog w) A (call (.type "set") [.ref a]) Q E s:=by
  let(c0,t0,m0):=F.called_set.mro
  let m1:=F.called_set.made
  let m2:=F.called_set.sub
  let m3:=F.called_set.notType
  let m4:=F.called_set.canCreate
  let m5:=F.typeCall_set_1 (.ref a)
  erw[wpAny_call (codeAny_of_tree ?_)]
  show wpAny _ _ (callAny (.type "set") #[[.ref a],[]]) _ _ s
  refine x6 #[Code.quiet_builtin _ (by decide +kernel),codeAny_builtin F.entry_type_call ?_]
  rw[Around.under_plain (weight_type_call_type "set" [.ref a] []) rfl]
  repeat (any_goals (first | assumption | wp_step))
  erw[Xj (code_set_new_1 (.ref a) (E:=E) (Q₁:=λz z1=>∃ led:Bool,z=.ref ⇑s/\z1={ s with heap:=s.heap.push (newSet led) }) λled=>#[led,rfl,rfl]) λr z1 hr=>?_]
  cases r with
  |error e=>erw[hr]
  |ok fl=>
    cases fl with
    |next=>erw[hr.elim]
    |brk=>erw[hr.elim]
    |cont=>erw[hr.elim]
    |ret z=>
      let(led,rfl,rfl):=hr
      let g0:(s.heap.push (newSet led)).get? ⇑s=some (newSet led):=x8 _ rfl
      let g1:Shared.TypeIs { s with heap:=s.heap.push (newSet led) } (.ref ⇑s) "set" :=#[_,g0,rfl]
      let g2:=F.called_set.init.lookup
      let g3:=F.called_set.init.bind (.ref ⇑s)
      repeat (any_goals (first | assumption | wp_step))
      refine Xj (codeAny_call_builtin (R:=wants (λr z2=>r=.none/\∃ h2 tk,z2={ s with heap:=h2,toks:=tk }/\zaG knd h2 ⇑s ks /\
          ∀ b o,b<⇑s->s.heap.get? b=some o->h2.get? b=some o) E) F.called_set.init.plain F.entry_set_init (check_set_init_1 g1 ?_)) λr2 z2 ou=>?_
      · rcases ht with ht | ht <;>
        (have ht1:=ht.push (newSet led)
         let(ot,e1,e2,nt,e3):=ht
         let hlt:=x5 e1
         cases ot with
         |mk oc od odt gc=>
           dsimp only at e2 e3
           subst e2 e3
           let e1':=x4 (newSet led) e1
           let f1:=F.sub_tuple_set
           let f4:=F.sub_list_set
           let f2:=F.sub_tuple_frozenset
           let f5:=F.sub_list_frozenset
           let f6:(Value.type "list" ==Value.type "dict")=false:=by decide
           let f3:(Value.type "tuple" ==Value.type "dict")=false:=by decide
           unfold Builtin.«set.__init__» noKeywords Builtin.Frozenset.updateFrom
           generalize hpi:pyIter=pI
           wp_walk
           subst hpi
           first | refine wpAny_pyIter_tuple ht1 (x3 (wpAny_runValue ?_)) | refine wpAny_pyIter_list ht1 (x3 (wpAny_runValue ?_))
           let Av:(s.heap.push (newSet led)).objs.size=⇑s+1:=Heap.size_push ..
           let n1:a≠(s.heap.push (newSet led)).objs.size:=by rw[Av];exact xj (Nat.lt_succ_of_lt hlt)
           let n2:⇑s∉ [(s.heap.push (newSet led)).objs.size,a]:=λz=>by
             rcases xC.mp z with z | z
             · rw[Av]at z;exact absurd z (xj (uK _))
             · have : ⇑s = a := by simpa using z
               erw[absurd this.symm (xj hlt)]
           let n3:A.in1.in1.in1.handled=none:=by simp[hd]
           first | refine Vx ((Walks.tuple n3 _ a n1 vs).toS) ⇑s n2 hl hv hsz (vs.size-0) 0 _ rfl (xS _) #[#[_,x8 _ rfl,rfl,rfl],ht1.push _] ?u ?v | refine Vx ((Walks.list n3 _ a n1 vs).toS) ⇑s n2 hl hv hsz (vs.size-0) 0 _ rfl (xS _) #[#[_,x8 _ rfl,rfl,rfl],ht1.push _] ?u ?v
           case u=>
             let g4:=λo=>x4 (h:=s.heap.push (newSet led)) o g0
             exact SetOf_congr ((setObjOf_fresh (knd:=knd) led).setOf (g4 _) (by unfold scanBound;lia)) (λ_=>rfl) rfl
           case v=>
             intro z2 hm hS
             let q1:=hm.gens
             let q2:=hm.drawn
             let q3:=hm.os
             let q4:=hm.heap
             cases z2 with
             |mk h2 gg gd gt go=>
               dsimp only at q1 q2 q3 q4 hS
               subst q1 q2 q3
               show wpAny _ _ _ _ _ _
               erw[x6 ?_]
               show wpAny _ _ (ret Value.none) _ _ _
               erw[x6 #[rfl,h2,gt,rfl,hS,λb o hb e=>q4 b o (λz=>?_) (x4 _ (x4 _ e))]]
               rcases xC.mp z with z | z
               · exact absurd z (xj hb)
               · have : b = (s.heap.push (newSet led)).objs.size := by simpa using z
                 rw[Av]at this;lia)
      · cases r2 with
        |error e=>erw[ou]
        |ok fl2=>
          cases fl2 with
          |next=>erw[ou.elim]
          |brk=>erw[ou.elim]
          |cont=>erw[ou.elim]
          |ret r=>
            let(rfl,h2,tk,rfl,hS,hk):=ou
            repeat (any_goals (first | assumption | wp_step))
            erw[k h2 tk hS hk]
end
end Tab
namespace L2
open PySem PySem.Spec PyProof.Rows
variable [Cs]
section
variable {X:Cx}
def Vu {K:Type} [DecidableEq K] (knd:KeyKind X.prog X.w K) (f:K->V) (hf:∀ k u,RelV (f k) u->knd.is k u=true/\u.scannable=true){a:Expr}{p1 p2 q1 q2:Pos}(hc:X.calm=true) (lj:Gl X "len") (aq:X.mg "len" =none) (hg:Gl X "set") (hm:X.mg "set" =none) (af:a⁻¹) :
  PE X (.Call (.Name "len" p1) [.Call (.Name "set" p2) [a] [] q2] [] q1) (λO H Q=>wpE X a O H λv H1=>∃ l ns,v=.ref l/\(SqT X.K H1 l (List.map f ns)∨SqL X.K H1 l (List.map f ns))/\ns.length<=60/\Q (.int (Tab.dedup ns).length) H1):=by
 cbv
 erw[Xi (Jb I lj aq PySem.boot_len ?_)]
 erw[PyProof.Rows.callWith_builtin1 (E:=X.xe) ?_ rfl rfl]
 show wpAny _ _ (spliced ((false,eval (.Call (.Name "set" p2) [a] [] q2) X.env)::backTo q1 (starEach [] X.env))) _ _ s
 erw[Calls.spliced_cons ?_]
 let h':zfX (wpE X a) zkN O H (λvs H1=>∃ v,vs= [v]/\∃ l ns,v=.ref l/\(SqT X.K H1 l (List.map f ns)∨SqL X.K H1 l (List.map f ns))/\ns.length<=60/\Q (.int (Tab.dedup ns).length) H1):=wpE.mono h λv H1 q=>#[v,rfl,q]
 erw[Call_ (Jb I hg hm JN (PyProof.Rows.callWith_type1 (thn ((zX zF pa_nil af) q2 pins s O H _ I h') λus s1 ⟨vs,H1,I1,r1,z⟩=>?_) af rfl))]
 let(v,rfl,l,ns,rfl,hq,hn,q):=z
 let(u,rfl,ru):=ZU r1
 cases ru
 obtain⟨ab,rv,pl⟩:∃ ab,Vals (List.map f ns) ab/\(s1.heap.IsTuple l ab.toArray∨s1.heap.IsList l ab.toArray):=hq.elim (λhq=>let #[ab,rv,pl,_]:=I1.tuple hq;#[ab,rv,.inl pl]) λhq=>let #[ab,rv,pl,_]:=I1.list hq;#[ab,rv,.inr pl.isList]
 let hlen:=rv.length
 rw[xl]at hlen
 let hsz:ab.toArray.size=ns.length:=by rw[xk];exact hlen.symm
 let AO:scanBound=4096:=rfl
 refine Tab.set_tupleT (I1.ok.hd hc) pl hsz.symm (knd:=knd) (λi v e=>?_) (by lia) λh2 tk hS hk=>?_
 ·let hi:=(Array.getElem?_eq_some_iff.mp e).1
  let(u,hu,ru):=rv.get (i:=i) (x:=f (ns[i]'(by lia))) (by rw[xf,xb (by lia)];rfl)
  rw[<- Array.getElem?_toList,List.toList_toArray]at e
  cases hu.symm.trans e
  exact#[_,xb (by lia),hf _ _ ru]
 erw[Calls.spliced_nil ?_]
 let(o3,FE,FH,t3,Ew,mx,EE,_,_,bh,EB,Ee):=hS
 let hdl:=Tab.dedup_len ns
 let I2:Inv X pins O H1 { s1 with heap:=h2,toks:=tk }:=I1.kept (t':=tk) λb o e=>hk b o (x5 e) e
 refine call_len_set Ew mx EE EB (by lia) ?_
 refine#[.int (Tab.dedup ns).length,H1,I2.kept (t':=tk+1+1) λb o e=>e,#[tk+1,?_],q]
 rw[Ee]
end
end L2
namespace L3
open PySem PySem.Spec PyProof.Rows L2
variable [Cs]
section
variable {X:Cx}{mp:Ac}{a:Expr}{p1 p2 q1 q2:Pos}{fa:EM FV}
private def Ye(fa:EM FV):EM FV:=λU=>(fa U).bind λ(u,U1)=>match derS U1 u with
 |some (.tuple ds)=>R.get (Ja ds) λns=>if ns.length<=60 then .ok (.dat (.int (Tab.dedup ns).length),U1) else .bad
 |_=>.bad
def ZV{M:Ae}{H:Hp}:∀{vs:List V}{ds:Aa}{ns:List Int},RepL M H vs ds->Ja ds=some ns->vs=ns.map V.int
 |_,_,_,.nil,e=>by cases e;rfl
 |_,_,_,.cons (ds:=ds) (d:=d) r t,e=>by
  cases d with
  |int i=>
   unfold Ja at e
   cases q:Ja ds with
   |none=>rw[q]at e;cases e
   |some ms=>
    rw[q]at e
    cases e
    cases r
    rw[xr,ZV t q]
  |_=>cases e
def zhM (hc:X.calm=true) (lj:Gl X "len") (aq:X.mg "len" =none) (gk:Gl X "set") (tw:X.mg "set" =none) (ha:SE X mp a fa) (AQ:a⁻¹) :
  SE X mp (.Call (.Name "len" p1) [.Call (.Name "set" p2) [a] [] q2] [] q1) (Ye fa):=by?
 erw[(Vu (intKind _ _) V.int (λk u ⟨t,e⟩=>e ▸ #[intKind_is ..,rfl]) hc lj aq gk tw AQ).wp (ha.run rs hs hp λF1 U1 H1 u v rs1 s1 o1 h1=>?_)]
 delta h1 ds ed
 let(ns,en,h1):=R.got id h1
 let(hn,h1):=R.gif id h1
 let(l,vs,rfl,el,r):=(o1.strong rs1 ed).tup_inv
 let hv:=ZV r en
 subst hv
 exact#[l,ns,rfl,.inl (SqT.of el),hn,h1 F1 H1 rs1 (.refl _ _) _ (Rep.int _)]
end
end L3
namespace L2
open PySem PySem.Spec PyProof.Rows
variable [Cs]
section
end
end L2
namespace L3
open PySem PySem.Spec PyProof.Rows L2
variable [Cs]
def ORL.appD{M:Ae}{H:Hp}:∀{zs:List V}{ds:Aa}{vs:List V}{os:List OV}{A:List Ap},RepL M H zs ds->ORL M H vs os A->ORL M H (vs++zs) (os++ds.map .d) A
 |_,_,_,_,_,.nil,h=>by simpa using h
 |_,_,vs,os,A,.cons (v:=v) (vs:=zs) (d:=d) (ds:=ds) r t,h=>by
  have:=ORL.appD t (ORL.snoc r h)
  simpa using this
section
variable {X:Cx}{mp io:Ac}{a e:Expr}{p q1 pos px py ps:Pos}{fa:EM FV}
private def zcu(i:Nat)(fa:EM FV):SM:=λU=>if isOwn U i then (fa U).bind λ(u,U1)=>match derS U1 u,U1[i]? with
 |some (.list ds),some (some (.l xs))=>if xs.length+ds.length<=1000000 then .ok (.next,U1.set i (some (.l (xs++ds.map .d)))) else .bad
 |_,_=>.bad
 else .bad
def Sees.again{Z:Nu}{O:St}{s i:Nat}{v:V}(h:Sees mp Z O)(hm:mp[s]?=some i)(hv:Z[i]?=some (some v))(hs:s<O.length):Sees mp Z (O.set s (some v)):=λs' j w e1 e2=>by
 by_cases hj:s=s'
 ·grind
 ·rw[xg hj];exact h s' j w e1 e2
def zkD{s i:Nat}{x:Str}(n:NmK X mp s i x)(hN:X.N.Nodup)(hx:Loc X.env.scope x)(hf:X.fn x=true∨X.env.scope.names.lookup x=some .local)(ha:SE X mp a fa):SS X mp io (.AugAssign (.Name x p) .Add a pos) (zcu i fa):=λM0 F U Z O H D rs hs hl hp=>by
 unfold zcu at hp
 delta hp hw
 let(sj,e0):=Qu hw
 let(a0,gq,A0,cp,ig,q0,_,_):=Zs rs e0
 let hsl:s<O.length:=by rw[hl];exact (xa.mp n.hN).1
 erw[(zj3 hN n.hN hx zF zgU hf).wp #[.ref a0,hs s i _ n.hm cp,?_]]
 erw[ha M0 F U Z O H _ rs hs ((SPost.seq hs hl hp).mono λF1 U1 H1 u rs1 s1 h1 v hv=>?_)]
 delta h1 ds xs ed ex
 delta h1 hz
 let(a1,d3,A1,d9,ff,q1,_,_):=Zs rs1 ex
 rw[cp]at d9
 cases d9
 let(l,zs,rfl,el,_,r):=(hv.strong rs1 ed).lst_inv
 refine#[a0,l,d3,zs,rfl,rfl,ff,el,by have:=Xe;rw[q1.length,r.length];lia,?_]
 let(F2,rs2,s2):=yu rs1 ex cp ff λA qa=>ORL.appD r qa
 exact h1 F2 Z _ _ rs2 s2 (hs.again n.hm cp hsl) (~~~hl) λ_ _=>rfl
private def sStar(io:Ac)(i j:Nat)(fa:EM FV):SM:=λU=>(fa U).bind λ(u,U1)=>match derS U1 u with
 |some (.list (d::ds))=>if i<U1.length/\j<U1.length/\i∉io/\j∉io then .ok (.next,(U1.set i (@&d)).set j (@&(.list ds))) else .bad
 |some (.tuple (d::ds))=>if i<U1.length/\j<U1.length/\i∉io/\j∉io then .ok (.next,(U1.set i (@&d)).set j (@&(.list ds))) else .bad
 |_=>.bad
def zic{s i t j:Nat}{x y:Str}{k:Nat}(hc:X.calm=true)(hN:X.N.Nodup)(hn:mp.Nodup)(hi:X.N[s]?=some x)(hx:Loc X.env.scope x)(Bl:X.fn x=true∨X.env.scope.names.lookup x=some .local)(hm:mp[s]?=some i)(hj:X.N[t]?=some y)(hy:Loc X.env.scope y)(Bk:X.fn y=true∨X.env.scope.names.lookup y=some .local)(tu:mp[t]?=some j)
  (ha:SE X mp a fa) (b8:swapsWithSole [.Tuple [.Name x px,.Starred (.Name y py) ps] k p] a pos.line X.env=pure false) (hw:swappedStores [.Tuple [.Name x px,.Starred (.Name y py) ps] k p] a X.env=pure none) :
  SS X mp io (.Assign [.Tuple [.Name x px,.Starred (.Name y py) ps] k p] a pos) (sStar io i j fa):=λM0 F U Z O H D rs hs hl hp=>by
 let hsl:s<X.N.length:=(xa.mp hi).1
 let oh:t<X.N.length:=(xa.mp hj).1
 erw[(KG zF (zhl hc hN hi hx Bl hj hy Bk) b8 hw).wp (ha M0 F U Z O H _ rs hs ((SPost.seq hs hl hp).mono λF1 U1 H1 u rs1 s1 h1 v hv=>?_))]
 let go:∀(d:PyData)(ds:Aa)(l:Ap)(zs:List V),(SqL X.K H1 l zs∨SqT X.K H1 l zs)->v=.ref l->RepL (MM M0 F1) H1 zs (d::ds)->SPost M0 F1 Z H1 mp X.N.length io D (if i<U1.length/\j<U1.length/\i∉io/\j∉io then R.ok (FL.next,(U1.set i (@&d)).set j (@&(.list ds))) else .bad)->ziJ X.K s t v O H1 λO' H'=>D.nx O' H':=λd ds l zs hq hv r h1=>by
  subst hv
  delta h1 hh
  let(k1,k2,k3,k4):=hh
  cases r with
  |cons r1 r2=>
   rename_i w ws
   refine#[l,w,ws,rfl,hq,λq hq=>?_]
   let sm:Same H1 (upd H1 q (.lst ws)):=qg hq
   let(F2,rs2,s2):=(rs1.same sm).setD (i:=i) (r1.grow sm.grow) k1
   let g8:¬ MM M0 F1 q:=λz=>rs1.al q z hq
   let rl:Rep (MM M0 F1) (upd H1 q (.lst ws)) (.ref q) (.list ds):=Rep.list zK g8 (r2.grow sm.grow)
   let(F3,a7,s3):=rs2.setD (i:=j) (qf s2 (rs1.same sm).al0 rl) (~~~k2)
   refine h1 F3 _ _ _ a7 (((Stp.same sm).trans s2).trans s3) ((hs.set hn hm (by rw[hl];exact hsl)).set hn tu (by rw[xK,hl];exact oh)) (~~~hl) λz hz=>?_
   rw[xg (λe=>k4 (by rw[e];exact hz)),xg (λe=>k3 (by rw[e];exact hz))]
 dsimp only at h1
 split at h1
 next d ds ed=>
  let(l,zs,e,el,_,r):=(hv.strong rs1 ed).lst_inv
  erw[go d ds l zs (.inl (SqL.of el)) e r h1]
 next d ds ed=>
  let(l,zs,e,el,r):=(hv.strong rs1 ed).tup_inv
  erw[go d ds l zs (.inr (SqT.of el)) e r h1]
 ·erw[h1.elim]
end
end L3
namespace L2
open PySem PySem.Spec PyProof.Rows
variable [Cs]
section
variable {X:Cx}
def zjS:OpR X (compareOp .In) (λx y H Q=>∃ a b,x=.str a/\y=.str b/\Q (.bl (Txt.contains b a)) H):=by
 intro pins s O H x y v u Q I rx ry h
 let(a,b,rfl,rfl,q):=h
 let(t,rfl):=rx
 let(t2,rfl):=ry
 erw[SB.contains #[.bl _,H,I,rfl,q]]
def VY:jT X (.builtin "len") (λxs H Q=>∃ a,xs= [.str a]/\a.length<=sizeLine/\Q (.int a.length) H):=by
 intro pins s O H xs us Q I r h
 let(a,rfl,hz,q):=h
 let(u,rfl,t,rfl):=ZU r
 have:=Xe
 exact PyProof.Rows.len_str (by lia) #[.int a.length,H,I.tok _,#[_,rfl],q]
def vh:∀{xs:List V}{us:An}{ys:Ab},Vals xs us->xs=ys.map .str->StrsAre us ys
 |_,_,[],.nil,_=>.nil
 |_,_,_::_,.nil,e=>by cases e
 |_,_,[],.cons _ _,e=>by cases e
 |_,_,y::ys,.cons r t,e=>by
  rw[xr,List.cons.injEq]at e
  let(e1,e2):=e
  subst e1
  let(tk,rfl):=r
  erw[.cons y tk (vh t e2)]
def zg4:MtR X "str.join" (λx xs H Q=>∃ (a:Str) (p:Ap) (ys:Ab),x=.str a/\xs= [.ref p]/\(SqL X.K H p (ys.map .str)∨SqT X.K H p (ys.map .str))/\a.length<=16/\(ys.map (·.length)).sum+ys.length<=1048576/\Q (.str (Txt.join a ys)) H):=by
 intro pins s O H x xs v us Q I rx r h
 let(a,p,ys,rfl,rfl,hq,CM,hw,q):=h
 let(t,rfl):=rx
 let(u,rfl,ru):=ZU r
 cases ru
 rcases hq with hq | hq
 ·let(ab,r2,pl,hz):=I.list hq
  exact join_listW pl.isList (by simpa using vh r2 rfl) CM hw λt' k=>#[.str _,H,I.tok k,#[t',rfl],q]
 ·let(ab,r2,pl,hz):=I.tuple hq
  exact join_tupleW pl (by simpa using vh r2 rfl) CM hw λt' k=>#[.str _,H,I.tok k,#[t',rfl],q]
end
end L2
namespace L3
open PySem PySem.Spec PyProof.Rows L2
variable [Cs]
section
variable {X:Cx}{mp:Ac}{a b c e:Expr}{es:Ag}{pos p2:Pos}{fa fb:EM FV}
def Kf:PyData->PyData->Option Bool
 |.str x,.str y=>some (Txt.contains y x)
 |_,_=>none
def zfG:w9 X .In Kf:=λx y z e=>by
 unfold Kf at e
 split at e
 ·cases e
  exact⟨_,zjS,λH v u Q r1 r2 k=>by
   cases r1;cases r2
   exact#[_,_,rfl,rfl,k]⟩
 ·cases e
def Yg:PyData->Option PyData
 |.str x=>if x.length<=1000000 then some (.int x.length) else none
 |_=>none
def zgv:J9 X (.builtin "len") Yg:=λx z e=>by
 unfold Yg at e
 split at e
 ·split at e
  next h=>
   cases e
   exact#[rfl,_,VY,λH v Q r k=>by cases r;exact#[_,rfl,sz6 h,k _ (.int _)]]
  ·cases e
 ·cases e
private def zgL(fa fb:EM FV):EM FV:=λU=>(fa U).bind λ(u,U1)=>(fb U1).bind λ(w,U2)=>match derf U2 u,derf U2 w with
 |some (.str x),some (.int i)=>if x.length<=1000000 then match atI x.cps.toList i with
  |some c=>.ok (.dat (.str #[(List.toArray [c])]),U2)
  |none=>.bad
  else .bad
 |_,_=>.bad
def zkn(ha:SE X mp a fa)(hb:SE X mp b fb)(hx:wU b):SE X mp (.Subscript a b pos) (zgL fa fb):=λM0 F U Z O H Q rs hs hp=>
 (zfb zju zF zF hx).wp (ha.run rs hs hp λF1 U1 H1 u v rs1 s1 o1 h1=>hb.run rs1 hs h1 λF2 U2 H2 w v2 rs2 s2 o2 h2=>by
  delta h2 x i e1 e2
  delta h2 hz
  delta h2 cc ec
  let r1:=(o1.stp s2 rs1.al0).weak rs2 e1
  let r2:=o2.weak rs2 e2
  cases r1;cases r2
  exact#[_,_,cc,rfl,rfl,sz6 hz,ec,h2 F2 H2 rs2 (.refl _ _) _ (Rep.str _)])
def ZF:Aa->Option (Ab)
 |[]=>some []
 |.str x::r=>(ZF r).map (x::·)
 |_=>none
def vg(xs:Ab):ZF (xs.map .str)=some xs:=by
 induction xs with
 |nil=>rfl
 |cons b r ih=>simp[ZF,ih]
def ZT:∀{ds:Aa}{xs:Ab},ZF ds=some xs->ds=xs.map .str
 |[],xs,e=>by cases e;rfl
 |.str b::r,xs,e=>by
  unfold ZF at e
  cases q:ZF r with
  |none=>rw[q]at e;cases e
  |some l=>rw[q]at e;cases e;rw[ZT q];rfl
 |.none::r,xs,e=>by cases e
 |.bool _::r,xs,e=>by cases e
 |.int _::r,xs,e=>by cases e
 |.list _::r,xs,e=>by cases e
 |.tuple _::r,xs,e=>by cases e
 |.dict _::r,xs,e=>by cases e
def ZQ:∀{vs:List V}{xs:Ab},RepL M H vs (xs.map .str)->vs=xs.map .str
 |_,[],.nil=>rfl
 |_,x::xs,.cons r t=>by
  cases r
  rw[ZQ t];rfl
def WG(z:Str)(x:PyData):Option PyData:=match (match x with | .list ds=>ZF ds | .tuple ds=>ZF ds | _=>none) with
 |some ys=>if (ys.map (·.length)).sum+ys.length<=1000000/\z.length<=16 then some (.str (Txt.join z ys)) else none
 |none=>none
def zhL {name:Str}{z:Str}{j:Nat}{p1:Pos}(en:name= "join") (ha:SE X mp a fa) (af:a⁻¹) (hl:(p2.endLine==pos.line)=true) :
  SE X mp (.Call (.Attribute (.Constant (.str z) j p1) name p2) [a] [] pos) (f1 (WG z) fa):=by?
 subst en
 let lr:((backTo pos (starEach [a] X.env)).all (λx=> !x.1)&&(backToKw pos (keywordEach [] X.env)).all (λx=>x.1.isSome)&&decide ([a].length+([]:List Keyword).length+(if ([]:List Keyword).isEmpty then 0 else 1)<30))=true:=by rw[af];rfl
 erw[(zar PySem.F.plainAttrs_str PySem.F.slot_str_join PySem.F.type_str_join zg4 pe_str (zX zF pa_nil af) rfl lr hl af rfl).wp #[rfl,?_]]
 erw[ha.run rs hs hp λF1 U1 H1 u v rs1 s1 o1 h1=>?_]
 let(x,ex,h1):=R.got id h1
 let(y,ey,h2):=R.got id h1
 let ey:WG z x=some y:=ey
 unfold WG at ey
 split at ey
 next ys es=>
  split at ey
  next hh=>
   cases ey
   let r:=o1.weak rs1 ex
   cases x with
   |list ds=>
    let(l,vs,rfl,el,_,rl):=r.lst_inv
    rw[ZT es]at rl
    have:=ZQ rl
    subst this
    exact#[z,l,ys,rfl,rfl,.inl (SqL.of el),hh.2,by lia,h2 F1 H1 rs1 (.refl _ _) _ (Rep.str _)]
   |tuple ds=>
    let(l,vs,rfl,el,rl):=r.tup_inv
    rw[ZT es]at rl
    have:=ZQ rl
    subst this
    exact#[z,l,ys,rfl,rfl,.inr (SqT.of el),hh.2,by lia,h2 F1 H1 rs1 (.refl _ _) _ (Rep.str _)]
   |_=>cases es
  ·cases ey
 ·cases ey
end
end L3
namespace L2
open PySem PySem.Spec PyProof.Rows PySem.Builtin PySem.Builtin.Str
variable [Cs]
section
end
def Itc(x:Str):It:=#[λi _=>i<x.length,λi H v H'=>H'=H/\∃ c,x.cps[i]?=some c/\v=.str #[(List.toArray [c])],λi _=>x.length<=i]
def KT {K:Ah}(x:Str) (t:Tok) (it:Ap):Wj P w K tg (Itc x) [it] it (λi h=>h.IsStrIter it "str_ascii_iterator" x t i) where
 mem:=by simp
 obj:=λi h st b hb=>by
  let e:b=it:= ~~~hb
  subst e
  let(o,e,c,d):=st
  exact#[o,e,λv z=>by rw[d]at z;cases z]
 keep:=λi h h' st k=>by
  let(o,e,c,d):=st
  exact#[o,k it (by simp) o e,c,d]
 item:=by
  intro X hP hw hK hc i pins s O H E I hf st hg
  subst hP hw hK
  let hg:=hg
  let(f0,f1,f2,f3,f4,f5):=hf it (by simp)
  let hx:=Array.getElem?_eq_getElem hg
  erw[wpAny_pyNext_ascii_item st hx λh' bz sb=>?_]
  let I1:=I.turned (t':=s.toks+1) (λb o hb e=>(sb.2 b hb).trans e) f0 f1 f3 f4 f5
  let(o,e,c,d):=id bz
  exact#[_,rfl,Yh e c d (by decide) #[.str #[(List.toArray [x.cps[i]])],H,I1,#[_,rfl],#[rfl,_,hx,rfl],bz,λb hb=>(hf b hb).1]]
 done:=by
  intro X hP hw hK hc i pins s O H E I hf st hg
  subst hP hw hK
  let hg:=hg
  let(f0,f1,f2,f3,f4,f5):=hf it (by simp)
  erw[wpAny_pyNext_ascii_end (I.ok.hd hc) st (Array.getElem?_eq_none hg) λh' eb=>#[rfl,I.turned (t':=s.toks) (λb o hb e=>eb b o hb e) f0 f1 f3 f4 f5]]
 self:=λ_ _ _ _ _ st h=>wpAny_pyIter_striter_ascii st h
section
variable {X:Cx}
def zjp(tl:TE):TI:=λO H R=>tl O H λx H1=>∃ a:Str,x=.str a/\a.cps.all (·<128)=true/\R (Itc a) H1
def zfi{tg l:Expr}(hl:PE X l tl):PI X tg l (zjp tl):=by
 intro pins s O H R I h
 erw[thn (hl pins s O H _ I h) λv s1 ⟨x,H1,I1,r1,q1⟩=>?_]
 let(a,rfl,ha,q):=q1
 let(t,rfl):=r1
 erw[wpAny_pyIter_ascii ha ?_]
 let I2:Inv X pins O H1 { s1 with heap:=s1.heap.push { cls:=.type "str_ascii_iterator",data:=.fields (List.toArray [.str a t,.int 0 0]) } }:=I1.kept (t':=s1.toks) λb ob q=>x4 _ q
 refine#[⇑s1,[⇑s1],_,_,H1,rfl,I2,KT a t _,#[_,x8 _ rfl,rfl,rfl],λb hb=>?_,q]
 let eb:b=⇑s1:= ~~~hb
 subst eb
 erw[I1.fpOk (xh _) (I1.hok.fresh (xh _))]
end
open PySem PySem.Spec PyProof.Rows
section
end
section
end
def ye (w:World) (l:List (Str×Nat×Addr)) (ep:Nat):Obj:={ cls:=.type "dict",data:=.dict (l.map λp=>(#[PySem.PyData.keyHash w.params p.1,.str p.1 p.2.1,.ref p.2.2]:DictEntry)).toArray ep }
inductive GRows(mg:Aq):List (Str×Nat×Addr)->List (Str×Str)->Prop
 |nil:GRows mg [] []
 |cons {k f:Str} {t:Nat} {a:Ap} {l kf}:mg f=some (.ref a)->GRows mg l kf->GRows mg ((k,t,a)::l) ((k,f)::kf)
structure GD(w:World)(K:Ah)(mg:Aq)(x:Str)(kf:List (Str×Str)):Prop where
 ex:∃(D:Ap)(ep:Nat)(l:List (Str×Nat×Addr)),mg x=some (.ref D)/\(D==sysModules)=false/\K.lookup D=some (ye w l ep)/\GRows mg l kf/\(kf.map (·.1)).Nodup
def GRows.keys(h:GRows mg l kf):l.map (·.1)=kf.map (·.1):=by
 induction h with
 |nil=>rfl
 |cons _ _ ih=>simp[ih]
def GRows.find(h:GRows mg l kf)(k:Str):match kf.lookup k with
  |some f=>∃ a,mg f=some (.ref a)/\valueAt (l.map λp=>(p.1,Value.ref p.2.2)) k=some (.ref a)
  |none=>valueAt (l.map λp=>(p.1,Value.ref p.2.2)) k=none:=by
 induction h with
 |nil=>rfl
 | @cons k' f t a l kf hm hr ih=>
  rw[xy]
  by_cases e:k=k'
  ·subst e
   simp only[beq_self_eq_true]
   exact#[a,hm,by simp[valueAt]]
  ·let e1:(k==k')=false:= ~~~e
   rw[e1]
   let e2:valueAt (((k',t,a)::l).map λp=>(p.1,Value.ref p.2.2)) k=valueAt (l.map λp=>(p.1,Value.ref p.2.2)) k:=by
    unfold valueAt
    rw[xr,List.find?_cons_of_neg (by simpa using Ne.symm e)]
   rw[e2];exact ih
def Yu:∀(l:List (Str×Nat×Addr)),Pairs (PySem.strKind P w) (l.map λp=>(#[PySem.PyData.keyHash w.params p.1,.str p.1 p.2.1,.ref p.2.2]:DictEntry)) (l.map λp=>(p.1,Value.ref p.2.2))
 |[]=>.nil
 |p::r=>.cons (by simp[PySem.strKind,Value.isStrOf]) rfl (Yu r)
def zgy{h:Heap}{D:Ap}(hd:h.get? D=some (ye w l ep))(nd:(l.map (·.1)).Nodup):h.DictOf (PySem.strKind P w) D (l.map λp=>(p.1,Value.ref p.2.2)):=by
 refine#[_,_,ep,hd,#[rfl,rfl,rfl],rfl,?_,by simpa using Yu l,?_]
 ·intro e he
  simp only[List.mem_toArray,xu]at he
  let(p,hp,rfl):=he
  exact#[p.1,by simp[PySem.strKind,Value.isStrOf],rfl]
 ·rw[xw];exact nd
section
variable {X:Cx}
def zif {p1 p2 q1 q2:Pos}(g:GD X.w X.K X.mg x kf) (hg:Gl X x) (bq:(↥x)) (hs:∀ ov iv,subscripted e false ov iv=operate [ov,iv] (getItem ov iv)) (hN:X.N.Nodup) (hi:X.N[i]?=some r) (hx:Loc X.env.scope r)
  (b8:swapsWith (.Subscript (.Name x p1) e q1) (some (.Name r p2)) q2.line X.env=pure false) (hf:X.fn r=true∨X.env.scope.names.lookup r=some .local) :
  PS X (.Assign [.Name r p2] (.Subscript (.Name x p1) e q1) q2) (λD O H=>wpE X e O H λv H1=>∃(a f:Str)(b:Ap),v=.str a/\kf.lookup a=some f/\(X.mg f=some (.ref b)->D.nx (O.set i (some (.ref b))) H1)/\X.mg f=some (.ref b)):=by
 let D8:PE X (.Subscript (.Name x p1) e q1) (λO H Q=>wpE X e O H λv H1=>∃(a f:Str)(b:Ap),v=.str a/\kf.lookup a=some f/\X.mg f=some (.ref b)/\Q (.ref b) H1):=by
  cbv
  let(D,ep,l,h1,h2,h3,h4,h5):=g.ex
  erw[Subscript_ (QJ I hg h1 (thn (h pins s I) λiv s2 ⟨y,H2,I2,ry,a,f,b,ey,ef,eb,q⟩=>?_) bq)]
  subst ey
  let(t,rfl):=ry
  let hd:=zgy (P:=X.prog) (I2.kIn D _ h3) (by rw[h4.keys];exact h5)
  let hfd:=h4.find a
  rw[ef]at hfd
  let(b',u4,ev):=hfd
  rw[eb]at u4;cases u4
  erw[tail_any hd.typeIs PySem.F.slot_dict_getitem.lookup ?_ (hs _ _)]
  exact wpAny_getItem_of (by simp[PySem.strKind,Value.isStrOf]) hd.mapOf ev #[.ref b,H2,I2.tok _,rfl,q]
 intro pins s O H D I h
 erw[W5 hN hi hx D8 b8 hf pins s O H D I (h.mono λv H1 ⟨a,f,b,e1,e2,q,e3⟩=>#[a,f,b,e1,e2,e3,q e3])]
end
def Vw(K:Ah):List (Str×Nat×Addr)->List (Str×Str)->Bool
 |[],[]=>true
 | (k,_,a)::l,(k',f)::kf=>decide (k=k')&&(match W.nsIn K mainGlobals f with
  |some (some (.ref b))=>decide (b=a)
  |_=>false)&&Vw K l kf
 |_,_=>false
def GRows.of{K:Ah}(X:K.In h)(G:h.Ns mainGlobals mg):∀{l:List (Str×Nat×Addr)}{kf:List (Str×Str)},Vw K l kf=true->GRows mg l kf
 |[],[],_=>.nil
 |[],_::_,h=>by simp[Vw]at h
 |_::_,[],h=>by simp[Vw]at h
 | (k,t,a)::l,(k',f)::kf,h=>by
  simp only[Vw,xi,x0]at h
  let((h1,h2),h3):=h
  subst h1
  split at h2
  next b e=>
   have:b=a:= ~~~h2
   subst this
   erw[.cons (W.mg_of X G e) (GRows.of X G h3)]
  ·cases h2
def GD.of{w:World}{K:Ah}{x:Str}{kf:List (Str×Str)}{ep:Nat}{l:List (Str×Nat×Addr)}(X:K.In h)(G:h.Ns mainGlobals mg)(hd:W.nsIn K mainGlobals x=some (some (.ref D)))(hs:(D==sysModules)=false)
  (ho:K.lookup D=some (ye w l ep)) (hr:Vw K l kf=true) (hn:(kf.map (·.1)).Nodup):GD w K mg x kf:=#[#[D,ep,l,W.mg_of X G hd,hs,ho,GRows.of X G hr,hn]]
end L2
namespace L3
open PySem PySem.Spec PyProof.Rows L2
variable [Cs]
section
variable {X:Cx}{mp io:Ac}{a b c e:Expr}{es:Ag}{p2:Pos}{fa:EM FV}
def QK(x:Str):Aa:=x.cps.toList.map λc=>.str #[(List.toArray [c])]
def zeC(x:Str):JI M0 F (Itc x) (QK x) H1:=λi F' H' s h0=>by
 refine#[λd hd=>?_,λhi=>?_]
 ·unfold QK at hd
  rw[xf]at hd
  cases q:x.cps.toList[i]? with
  |none=>rw[q]at hd;cases hd
  |some c=>
   rw[q]at hd
   cases hd
   let q':x.cps[i]?=some c:= ~~~q
   refine#[(Array.getElem?_eq_some_iff.mp q').1,λz H2 ⟨e2,c',ec,ez⟩=>?_]
   subst e2 ez
   rw[q']at ec;cases ec
   exact#[.refl _,.str _]
 ·have:(QK x).length=x.length:=by simp[QK,Str.length]
  rw[this]at hi;exact hi
private def yf(fa:EM FV):EM (Aa):=λU=>(fa U).bind λ(u,U1)=>match derf U1 u with
 |some (.str x)=>if x.cps.all (·<128) then .ok (QK x,U1) else .bad
 |_=>.bad
def zfE(ha:SE X mp a fa):SI X mp tg a (yf fa):=λM0 F U Z O H R rs hs hp=>
 (zfi zF).wp (ha.run rs hs hp λF1 U1 H1 u v rs1 s1 o1 h1=>by
  delta h1 x ex
  delta h1 hz
  let r1:=o1.weak rs1 ex
  cases r1
  exact#[_,rfl,hz,h1 F1 H1 rs1 (.refl _ _) _ (zeC x)])
def RS.unset(r:RS M0 F U Z H)(h:∀ o,U[i]?≠some (some o)):RS M0 F U (Z.set i none) H :=
 ⟨r.al0,r.dis0,r.nd,r.dis,λj o e=>by
  let(w,e1,z):=r.at' j o e
  refine#[w,?_,z]
  rw[xg (λq=>h o (by rw[q];exact e))]
  exact e1,r.emp,by rw[xK];exact r.len⟩
def Sees.unset(h:Sees mp Z O)(hn:mp.Nodup)(hm:mp[s]?=some i):Sees mp (Z.set i none) (O.set s (some v)):=λt j w e1 e2=>by
 by_cases hj:j=i
 ·subst hj
  let hs:=(List.getElem?_inj (xa.mp e1).1 hn).mp (e1.trans hm.symm)
  subst hs
  rw[List.getElem?_set_self']at e2
  cases q:Z[j]? with
  |none=>rw[q]at e2;cases e2
  |some z=>rw[q]at e2;cases e2
 ·rw[xg (Ne.symm hj)]at e2
  let D1:s≠t:=λz=>by grind
  rw[xg D1]
  erw[h t j w e1 e2]
private def sDisp(io:Ac)(kf:List (Str×Str))(run:Str->List OV->RF)(i:Nat)(fe:EM FV)(fl:EM (List AV)):SM:=λU=>(fe U).bind λ(u,U1)=>match derf U1 u with
 |some (.str k)=>match kf.lookup k with
  |some f=>if i∈io∨(U1[i]?.join).isSome=true then .bad else (fCall (run f) fl U1).bind λ(o,U2)=>.ok (.ret o,U2)
  |none=>.bad
 |_=>.bad
def zhz {s i k n:Nat}{r x:Str}{run:Str->List OV->RF}{fl:EM (List AV)}{p1 p3 q1 q2 q3 q4:Pos}(g:GD X.w X.K X.mg x kf) (hg:Gl X x) (bq:(↥x))
  (kn:∀ key f,kf.lookup key=some f->Kn X.prog X.w X.K X.mg X.base CX0 f k (spX n (run f))/\Ran n (run f)) (hr:Room k X.A)
  (he:SE X mp e fa) (fm:PS X (.Assign [.Name r p2] (.Subscript (.Name x p1) e q1) q2) (λD O H=>wpE X e O H λv H1=>∃(a f:Str)(b:Ap),v=.str a/\kf.lookup a=some f/\(X.mg f=some (.ref b)->D.nx (O.set s (some (.ref b))) H1)/\X.mg f=some (.ref b)))
  (hN:X.N[s]?=some r) (hv:Vis X.env.scope r) (hd:(↥r)) (hcd:(r==("__classdict__" :Str))=false) (hn:mp.Nodup) (hm:mp[s]?=some i)
  (hl:SA X mp (a::es) fl) (af:starEach (a::es) X.env=(false,eval a X.env)::starEach es X.env) (hpl:(backTo q3 (starEach es X.env)).any (·.1)=false) :
  SB X mp io [.Assign [.Name r p2] (.Subscript (.Name x p1) e q1) q2,.Return (some (.Call (.Name r p3) (a::es) [] q3)) q4] (sDisp io kf run i fa fl):=λM0 F U Z O H D rs hs c5 hp=>by
 erw[(Qz fm (wY (KH zF))).wp ?_]
 erw[he M0 F U Z O H _ rs hs ((SPost.seq hs c5 hp).mono λF1 U1 H1 u rs1 s1 h1 v og=>?_)]
 delta h1 key ek
 let r1:=og.weak rs1 ek
 cases r1
 delta h1 f ef
 split at h1
 ·erw[h1.elim]
 next hh=>
  let(Cb,ak):=kn key f ef
  let(b,fd,ps,_,hb,_):=Cb.ex
  let hio:i∉io:=λz=>hh (.inl z)
  have hΓ:∀ o,U1[i]?≠some (some o):=λo z=>hh (.inr (by rw[z];rfl))
  let rs2:=rs1.unset hΓ
  let cz:Sees mp (Z.set i none) (O.set s (some (.ref b))):=hs.unset hn hm
  let hlen:(O.set s (some (.ref b)):St).length=X.N.length:=by rw[xK];exact c5
  refine#[key,f,b,rfl,ef,λ_=>?_,hb]
  erw[zcK Cb hb hr hN hv hd hcd ?_ (hl M0 F1 U1 (Z.set i none) (O.set s (some (.ref b))) H1 _ rs2 cz (QH rs2 ak ?_)) af hpl]
  ·have:s<O.length:=by rw[c5];exact (xa.mp hN).1
   rw[xn this]
  ·let nh:SPost M0 F1 (Z.set i none) H1 mp X.N.length io D ((fCall (run f) fl U1).bind λ(o,U2)=>.ok (.ret o,U2)):=h1.step (.refl _ _) λj hj=>by
    rw[xg (λz=>hio (by rw[z];exact hj))]
   erw[(SPost.seqO cz hlen nh).mono λF3 U3 H3 o v a7 s3 h3=>h3 F3 _ v H3 a7 (.refl _ _) λ_ _=>rfl]
end
section
end
section
end
end L3
namespace L2
open PySem PySem.Spec PyProof.Rows
section
variable {β:Type}
def zN(ds:List (Str×β))(x:Str):Option β:=(ds.find? λp=>decide (p.1=x)).map (·.2)
def zW(ds:List (Str×β))(x:Str)(y:β):List (Str×β):=if (ds.any λp=>decide (p.1=x))=true then ds.map (λp=>if p.1=x then (p.1,y) else p) else ds++ [(x,y)]
def qz(ds:List (Str×β))(x:Str):List (Str×β):=ds.filter λp=>decide (p.1≠x)
def zO(ds more:List (Str×β)):List (Str×β):=more.foldl (λacc p=>zW acc p.1 p.2) ds
def wf(ds:List (Str×β))(x:Str)(y:β):(zW ds x y).length<=ds.length+1:=by
 unfold zW
 split
 ·rw[xl];lia
 ·rw[xm,xo,xP];lia
end
def inr_eq:((Sum.inr x:Key)=Sum.inr y)↔x=y:=#[λh=>by injection h,λh=>by rw[h]]
def JH(x:Str):∀(ks:List (Str×V)),vp (ks.map kK) (.inr x)=zN ks x
 |[]=>rfl
 |p::r=>by
  let ih:=JH x r
  unfold vp zN at *
  rw[xr,xY,xY]
  by_cases h:p.1=x
  ·rw[decide_eq_true (show (kK p).1=Sum.inr x from inr_eq.mpr h),decide_eq_true h];rfl
  ·rw[Xa (show ¬ (kK p).1=Sum.inr x from λz=>h (inr_eq.mp z)),Xa h];exact ih
def zc2(x:Str):∀(ks:List (Str×V)),((ks.map kK).any λp=>decide (p.1=(.inr x:Key)))=ks.any λp=>decide (p.1=x)
 |[]=>rfl
 |p::r=>by
  rw[xr,xT,xT,zc2 x r]
  congr 1
  erw[decide_eq_decide.mpr inr_eq]
def yC(ks:List (Str×V))(x:Str)(v:V):JB (ks.map kK) (.inr x) v=(zW ks x v).map kK:=by
 unfold JB zW
 rw[zc2]
 split
 ·rw[xw,xw]
  erw[uA λp _=>?_]
  show (if (kK p).1=Sum.inr x then _ else _)=kK (if p.1=x then _ else _)
  by_cases h:p.1=x
  ·rw[if_pos (show (kK p).1=Sum.inr x from inr_eq.mpr h),if_pos h];rfl
  ·rw[if_neg (show ¬ (kK p).1=Sum.inr x from λz=>h (inr_eq.mp z)),if_neg h]
 ·rw[xv];rfl
def Yd(x:Str):∀(ks:List (Str×V)),WD (ks.map kK) (.inr x)=(qz ks x).map kK
 |[]=>rfl
 |p::r=>by
  let ih:=Yd x r
  unfold WD qz at *
  rw[xr,uj,uj]
  by_cases h:p.1=x
  ·rw[if_neg (by simp[kK,h]),if_neg (by simp[h])];exact ih
  ·rw[if_pos (by simp[kK,inr_eq,h]),if_pos (by simp[h]),xr,ih]
def Vm:∀(more ks:List (Str×V)),Jd (ks.map kK) (more.map kK)=(zO ks more).map kK
 |[],ks=>rfl
 |p::r,ks=>by
  show Jd (JB (ks.map kK) (.inr p.1) p.2) (r.map kK)=_
  rw[yC,Vm r];rfl
variable [Cs]
inductive KR(M:Ae)(H:Hp):List (Str×V)->Ad->Prop
 |nil:KR M H [] []
 |cons {x:Str} {v:V} {d:PyData} {ks:List (Str×V)} {ds:Ad}:Rep M H v d->KR M H ks ds->KR M H ((x,v)::ks) ((x,d)::ds)
section
variable {M M':Ae}{H H':Hp}
def KR.of:∀{ks:List (Str×V)}{ds:Ad},ks.map (·.1)=ds.map (·.1)->RepL M H (ks.map (·.2)) (ds.map (·.2))->KR M H ks ds
 |[],[],_,_=>.nil
 |[],_::_,h,_=>by simp at h
 |_::_,[],h,_=>by simp at h
 | (x,v)::ks,(y,d)::ds,h,r=>by
  simp only[xr,List.cons.injEq]at h
  let(rfl,h):=h
  simp only[xr]at r
  cases r with
  |cons r t=>erw[.cons r (KR.of h t)]
def KR.keys:∀{ks:List (Str×V)}{ds:Ad},KR M H ks ds->ks.map (·.1)=ds.map (·.1)
 |_,_,.nil=>rfl
 |_,_,.cons _ t=>by rw[xr,xr,t.keys]
def KR.vals:∀{ks:List (Str×V)}{ds:Ad},KR M H ks ds->RepL M H (ks.map (·.2)) (ds.map (·.2))
 |_,_,.nil=>.nil
 |_,_,.cons r t=>.cons r t.vals
def KR.length(h:KR M H ks ds):ks.length=ds.length:=by have:=congrArg List.length h.keys;simpa using this
def KR.map(hr:∀ v d,Rep M H v d->Rep M' H' v d):∀{ks:List (Str×V)}{ds:Ad},KR M H ks ds->KR M' H' ks ds
 |_,_,.nil=>.nil
 |_,_,.cons r t=>.cons (hr _ _ r) (t.map hr)
def KR.any(x:Str):∀{ks:List (Str×V)}{ds:Ad},KR M H ks ds->(ks.any λp=>decide (p.1=x))=ds.any λp=>decide (p.1=x)
 |_,_,.nil=>rfl
 |_,_,.cons _ t=>by rw[xT,xT,t.any x]
def KR.repl(r:Rep M H v d):∀{ks:List (Str×V)}{ds:Ad},KR M H ks ds->KR M H (ks.map λp=>if p.1=x then (p.1,v) else p) (ds.map λp=>if p.1=x then (p.1,d) else p)
 |_,_,.nil=>.nil
 |_,_,.cons (x:=y) q t=>by
  rw[xr,xr]
  by_cases h:y=x
  ·rw[if_pos h,if_pos h];exact .cons r (t.repl r)
  ·rw[if_neg h,if_neg h];exact .cons q (t.repl r)
def KR.append:∀{ks ir:List (Str×V)}{ds dw:Ad},KR M H ks ds->KR M H ir dw->KR M H (ks++ir) (ds++dw)
 |_,_,_,_,.nil,s=>s
 |_,_,_,_,.cons r t,s=>.cons r (t.append s)
def KR.put(x:Str)(h:KR M H ks ds)(r:Rep M H v d):KR M H (zW ks x v) (zW ds x d):=by
 unfold zW
 rw[h.any x]
 split
 ·erw[h.repl r]
 ·erw[h.append (.cons r .nil)]
def KR.drop(x:Str):∀{ks:List (Str×V)}{ds:Ad},KR M H ks ds->KR M H (qz ks x) (qz ds x)
 |_,_,.nil=>.nil
 |_,_,.cons (x:=y) q t=>by
  unfold qz
  rw[uj,uj]
  by_cases h:y=x
  ·rw[if_neg (by simp[h]),if_neg (by simp[h])];exact t.drop x
  ·rw[if_pos (by simp[h]),if_pos (by simp[h])];exact .cons q (t.drop x)
def KR.merge:∀{more:List (Str×V)}{md:Ad}{ks:List (Str×V)}{ds:Ad},KR M H more md->KR M H ks ds->KR M H (zO ks more) (zO ds md)
 |_,_,_,_,.nil,h=>h
 |_,_,_,_,.cons (x:=x) r t,h=>by
  have:=KR.merge t (h.put x r)
  erw[this]
def KR.val(x:Str):∀{ks:List (Str×V)}{ds:Ad},KR M H ks ds->(zN ks x).isSome=(zN ds x).isSome/\∀ d,zN ds x=some d->∃ v,zN ks x=some v/\Rep M H v d
 |_,_,.nil=>#[rfl,λd e=>by cases e]
 |_,_,.cons (x:=y) (v:=v) q t=>by
  let ih:=t.val x
  unfold zN at *
  rw[xY,xY]
  by_cases h:y=x
  ·rw[decide_eq_true (show (y,v).1=x from h)]
   exact#[rfl,λd e=>by cases e;exact#[v,rfl,q]]
  ·rw[Xa (show ¬ (y,v).1=x from h)];exact ih
def KR.get:∀{ks:List (Str×V)}{ds:Ad}{i:Nat}{p:Str×PyData},KR M H ks ds->ds[i]?=some p->∃ v,ks[i]?=some (p.1,v)/\Rep M H v p.2
 |_,_,_,_,.nil,e=>by simp at e
 |_,_,0,_,.cons r _,e=>by simp at e;subst e;exact#[_,rfl,r]
 |_,_,i+1,p,.cons _ t,e=>by
  let(v,h1,h2):=KR.get t (~~~e)
  exact#[v,~~~h1,h2]
def Rep.dict_inv(r:Rep M H v (.dict kv)):∃ a,v=.ref a/\¬ M a/\((∃ ks ds,Rd H a (.dK (ks.map kK))/\kv=ds.map dK/\KR M H ks ds)∨(∃ dx c fs ds,H a=some (.ins (Cs.adr c) dx fs)/\kv=(.none,.str c)::ds.map dK/\KR M H fs ds)∨∃ dx c fs ds,H a=some (ExO (Cs.adr c) dx a)/\(dx=Option.none/\fs= []∨∃ d,dx=some d/\H d=some (.xd fs)/\¬ M d)/\kv=(.bool true,.str c)::ds.map dK/\KR M H fs ds):=by
 cases r with
 |dict e n k q=>exact#[_,rfl,n,.inl #[_,_,e,rfl,.of k q]]
 |inst e n k q=>exact#[_,rfl,n,.inr (.inl #[_,_,_,_,e,rfl,.of k q])]
 |exo e n x k q=>exact#[_,rfl,n,.inr (.inr #[_,_,_,_,e,x,rfl,.of k q])]
end
def unD:Ao->Option (Ad)
 |[]=>some []
 | (.str x,d)::r=>(unD r).map ((x,d)::·)
 |_=>none
def zT(ds:Ad):unD (ds.map dK)=some ds:=by
 induction ds with
 |nil=>rfl
 |cons p r ih=>simp[unD,dK,ih]
section
variable {X:Cx}{pins:Ak}{O:St}{H:Hp}{s:Am}{a b:Ap}{kvs more:List (Key×V)}{A:Around}{E:Af}
def zdo{Q:Af}(I:Inv X pins O H s)(e:H a=some (.dK kvs))(e2:Rd H b (.dK more))(Bx:a≠b)(hl:kvs.length+more.length<=sizeLine)
  (h:∀ s',Inv X pins O (upd H a (.dK (Jd kvs more))) s'->Q .none s'):wpAny (model X.prog X.w) A (call (.builtin "dict.update") [.ref a,.ref b]) Q E s:=by
 let(z,hd,vs,rel,dd):=zaj I.hok e
 let(z2,hd2,ws,nu,ni):=Qt I.hok e2
 refine call_meetsIn PySem.F.slot_dict_update dd.typeIs PySem.F.entry_dict_update (PySem.F.args_dict_update_2 _ _) (meets_dict_update (qC X.prog X.w) a b Bx hd2) #[vs,ws,dd,ni,by rw[<- rel.length,<- nu.length];exact hl,λh' gb _ hs=>h _ ?_]
 let he:∃ q,h'.get? a=some q:=let #[q,_,_,hq,_]:=gb;#[q,hq]
 exact yd I (by rw[e];exact True.intro) hs he (WC (xD (QR more kvs) hl) hd (nu.merge rel) gb)
end
def zlV(td te:TE):TE:=λO H Q=>td O H λx H1=>∃ a,x=.ref a/\IsD H1 a/\te O H1 λy H2=>∃ b kvs more,y=.ref b/\H2 a=some (.dK kvs)/\Rd H2 b (.dK more)/\a≠b/\kvs.length+more.length<=sizeLine/\Q .non (upd H2 a (.dK (Jd kvs more)))
section
variable {X:Cx}{o e:Expr}{apos aj:Pos}{td te:TE}
def zhk (ho:PE X o td) (he:PE X e te) (m:M1 X o "update" apos e aj):PE X (.Call (.Attribute o "update" apos) [e] [] aj) (zlV td te):=by
 cbv
 erw[wpAny_Call_method m.base m.few m.line PySem.F.plainAttrs_dict PySem.F.slot_dict_update PySem.F.type_dict_update (thn (ho pins s O H _ I h) λu s1 ⟨x,H1,I1,rx,a,ex,d,q1⟩=>?_)]
 subst ex
 obtain rfl:u=Value.ref a:=rx
 let(t1,t2,_):=Kl I1 d
 refine#[t1,t2,?_]
 rw[m.trees]
 erw[Calls.callWith_builtin rfl (Calls.evalArgs_plain (Calls.spliced_cons (thn (he pins s1 O H1 _ I1 q1) λiv s2 ⟨y,H2,I2,ry,b,kvs,more,ey,e1,e2,Bx,hl,q2⟩=>Calls.spliced_nil ?_)))]
 subst ey
 obtain rfl:iv=Value.ref b:=ry
 erw[zdo I2 e1 e2 Bx hl λs3 I3=>#[.non,_,I3,rfl,q2]]
def zaZ:jT X (.type "dict") (λxs H Q=>∃ a kvs,xs= [V.ref a]/\Rd H a (.dK kvs)/\∀ p,H p=none->Q (.ref p) (upd H p (.dK kvs))):=by
 intro pins s O H xs us Q I r h
 let(a,kvs,rfl,e,q):=h
 let(u,rfl,rx):=ZU r
 cases rx
 erw[zdl I e λp s' hp I'=>#[.ref p,_,I',rfl,q p hp]]
end
def qX(ss:Ab):Ab:=ss.mergeSort λa b=> !decide (b.cps.toList<a.cps.toList)
def jg(ss:Ab):(qX ss).Perm ss:=List.mergeSort_perm _ _
def zcA(ss:Ab):(qX ss).length=ss.length:=(jg ss).length_eq
def Str.ext'{a b:Str}(h:a.cps.toList=b.cps.toList):a=b:=by
 cases a with
 |mk x=>
  cases b with
  |mk y=>
   have:x=y:=by
    cases x;cases y
    erw[congrArg Array.mk h]
   rw[this]
def zfM(ss:Ab):(qX ss).Pairwise (λa b=>¬ b.cps.toList<a.cps.toList):=by
 let h:=List.pairwise_mergeSort (le:=λa b:Str=> !decide (b.cps.toList<a.cps.toList)) (by
  grind) (by
  grind) ss
 exact h.imp λ{a b} h=>by simpa using h
def wu:∀(p:Str)(l:Ab),risingS p l=true->(p::l).Pairwise (λa b=>¬ b.cps.toList<a.cps.toList)
 |p,[],_=>by simp
 |p,x::r,h=>by
  unfold risingS at h
  rw[xi,Bool.not_eq_true',ltCps_eq,decide_eq_false_iff_not]at h
  let ih:=wu x r h.2
  erw[List.pairwise_cons.mpr #[λy hy=>?_,ih]]
  rcases xC.mp hy with rfl | hy
  ·erw[h.1]
  ·erw[List.le_trans h.1 (List.rel_of_pairwise_cons ih hy)]
def zfL{ss ms:Ab}(hp:ms.Perm ss)(hs:sortedS ms=true):ms=qX ss:=by
 let h1:ms.Pairwise (λa b=>¬ b.cps.toList<a.cps.toList):=by
  cases ms with
  |nil=>erw[.nil]
  |cons x r=>erw[wu x r hs]
 erw[List.Perm.eq_of_pairwise (λa b _ _ h1 h2=>Str.ext' (List.le_antisymm h1 h2)) h1 (zfM ss) (hp.trans (jg ss).symm)]
def StrsAre.of:∀{ss:Ab}{us:An},Vals (ss.map V.str) us->StrsAre us ss
 |[],_,.nil=>.nil
 |n::ns,_,.cons ⟨t,e⟩ r=>by subst e;exact .cons n t (StrsAre.of r)
def Vals.ofStrs:∀{us:An}{ss:Ab},StrsAre us ss->Vals (ss.map V.str) us
 |_,_,.nil=>.nil
 |_,_,.cons n t r=>.cons #[t,rfl] (Vals.ofStrs r)
section
end
section
variable {prog:Ar}{w:World}{A:Around}{E:Af}{s:Am}
open PySem.W in
def V0{Q:An->Am->Prop}(hh:A.handled=none)(lo:(d==sysModules)=false)(hm:s.heap.DictAt (qC prog w) d kvs ep)(hsz:kvs.length<=sizeLine)
  (h:∀(vs:Array Aj)(h':Heap)(tk:Nat),ItemsOf (λi v=>∃ k x,kvs[i]?=some (k,x)/\(qC prog w).is k v=true) vs kvs.length->(∀ b o,s.heap.get? b=some o->h'.get? b=some o)->⇑s<h'.objs.size->Q vs.toList { s with heap:=h',toks:=tk }) :
  wpAny (model prog w) A (collect (.ref d)) Q E s:=by
 let hds:=hm.lt_size
 let key:∀ R:Result->Am->Prop,(∀ h' tk du c',(∀ b o,b≠⇑s->(s.heap.push (seqObj "list" (List.toArray []) 0)).get? b=some o->h'.get? b=some o)->h'.get? ⇑s=some { cls:=.type "list",dict:=none,data:=.seq du c',slots:=(List.toArray []) }->ItemsOf (λi v=>∃ k x,kvs[i]?=some (k,x)/\(qC prog w).is k v=true) du kvs.length->R (.ok (.ret (.ref ⇑s))) { s with heap:=h',toks:=tk }) ->
   codeAny (model prog w) A (.builtin "proto.collect" #[[.ref d],[]]) R s:=λR hR=>by
  erw[codeAny_builtin entry_proto_collect' ?_]
  show wpAny _ _ (do again (.builtin "list.__iadd__" #[[<- newList [],.ref d],[]])) _ _ s
  refine x3 (wpAny_newList (x6 #[Code.quiet_builtin _ (by decide +kernel),codeAny_builtin entry_list_iadd' ?_]))
  show wpAny _ _ (Builtin.List.listExtendWith (.ref ⇑s) (.ref d) (.ref ⇑s)) _ _ { s with heap:=s.heap.push (seqObj "list" (List.toArray []) 0) }
  rw[Around.under_plainId (show plainId "list.__iadd__" =true by decide +kernel)]
  erw[kdl_extend (s:={ s with heap:=s.heap.push (seqObj "list" (List.toArray []) 0) }) (kdl_dict (knd:=qC prog w) (kvs:=kvs) (ep:=ep) lo) hh (hm.push _) ⇑s (uQ hds) (uQ hds) (.ref ⇑s) 0 (x8 _ rfl) (λh' tk du c' k1 k2 k3=>hR h' tk du c' k1 k2 k3) hsz]
 unfold collect
 erw[x3 (wpAny_runValue (key _ λh' tk du c' k1 k2 k3=>?_))]
 show wpAny (model prog w) A (do
   let o<-load ⇑s
   match o.data with
   |.seq xs _=>pure xs.toList
   |_=>unsupported "internal:collect") Q E { s with heap:=h',toks:=tk }
 erw[x3 (wpAny_load k2 ?_)]
 erw[x6 (h du h' tk k3 (λb o e=>k1 b o (xj (x5 e)) (x4 _ e)) (x5 k2))]
end
def yq(h:(qC P w).is k u=true):RelV (kV k) u:=by
 rcases qD h with ⟨i,t,rfl,rfl⟩ | ⟨x,t,rfl,rfl⟩
 ·exact#[t,rfl]
 ·exact#[t,rfl]
section
variable {X:Cx}
def VZ (ag:X.calm=true):jT X (.builtin "sorted") (λxs H Q=>∃ (p:Ap) (ks:List (Str×V)),xs= [.ref p]/\Rd H p (.dK (ks.map kK))/\ks.length<64/\∀ l,H l=none->Q (.ref l) (upd H l (.lst ((qX (ks.map (·.1))).map V.str)))):=by
 intro pins s O H xs us Q I r h
 let(p,ks,rfl,hq,cn,q):=h
 let(u,rfl,rx):=ZU r
 cases rx
 let(z,hd,gq,rel,dd):=Qt I.hok hq
 let(ep,Bw):=dd.dictAt
 let hlen:gq.length=ks.length:=by rw[<- rel.length,xl]
 erw[Calls.call_function_entry kind_sorted plain_sorted entry_sorted (args_sorted1 _) ?_]
 unfold Builtin.«sorted»
 erw[x3 (m:=checkCount "sorted" 1 1 _) (x6 ?_)]
 refine x3 (V0 (by exact I.ok.hd ag) hd Bw (by rw[<- rel.length];exact z) λvs h' tk hi hk hlt=>?_)
 let hS:StrsAre vs.toList (ks.map (·.1)):=by
  erw[StrsAre.of ?_]
  let hsz:vs.size=ks.length:=by rw[hi.1,hlen]
  let key:∀(l:List (Str×V))(us:An),us.length=l.length->(∀(j:Nat)(v:Aj),us[j]?=some v->∃(x:Str)(y:V),l[j]?=some (x,y)/\RelV (.str x) v)->Vals ((l.map (·.1)).map V.str) us:=by
   intro l
   induction l with
   |nil=>
    intro us h1 _
    cases us with
    |nil=>erw[.nil]
    |cons _ _=>simp at h1
   |cons p l ih=>
    intro us h1 h2
    cases us with
    |nil=>simp at h1
    |cons u us=>
     let(x,y,e1,e2):=h2 0 u rfl
     simp at e1
     subst e1
     exact .cons e2 (ih us (~~~h1) λj v hj=>by simpa using h2 (j+1) v (~~~hj))
  refine key ks vs.toList (~~~hsz) λj v hj=>?_
  let(k,x,e1,e2):=hi.2 j v (~~~hj)
  let ia:((ks.map kK).map (·.1))[j]?=some k:=by rw[rel.keys,xf,e1];rfl
  rw[xw,xf]at ia
  cases eq:ks[j]? with
  |none=>rw[eq]at ia;cases ia
  |some p=>
   rw[eq]at ia
   let ek:(Sum.inr p.1:Key)=k:=by simpa [kK] using ia
   subst ek
   exact#[p.1,p.2,rfl,yq e2]
 let Bg:vs.toList.length<64:=by
  have:vs.size=ks.length:=by rw[hi.1,hlen]
  simp[this];lia
 refine x3 (wpAny_newList ?_ (by have:=Xe;lia))
 let oy:(h'.push (seqObj "list" vs.toList.toArray 0)).get? h'.objs.size=some (seqObj "list" vs.toList.toArray 0):=x8 _ rfl
 show wpAny _ _ _ _ _ { s with heap:=h'.push (seqObj "list" vs.toList.toArray 0),toks:=tk }
 refine x3 (Xb (wpAny_call_entry slot_list_sort #[_,oy,rfl] entry_list_sort (list_sort_treeK strKind_oneLt oy hS.keysOf (λv₁ v₂ rest e=>keyKind_strs (by rw[<- e];exact hS)) Bg λbz a1 a2=>#[_,rfl,?_]) (args_list_sort _)))
 let(Fl,b1,b2,b3):=sorted_out_str hS a1 a2
 let e:=zfL b2 b3
 subst e
 let hold:∀ b o,s.heap.get? b=some o->(sortedHeap (h'.push (seqObj "list" vs.toList.toArray 0)) h'.objs.size vs.toList ((arrOf bz).map (·.2))).get? b=some o:=λb o e=>by
  let e2:=hk b o e
  let e3:=x4 (seqObj "list" vs.toList.toArray 0) e2
  rw[sortedHeap_old (xj (x5 e2)) (x5 e3)];exact e3
 let hle:=uh hlt
 let(c',ec):=sortedHeap_at oy
 erw[x6 #[_,rfl,#[.ref h'.objs.size,_,I.laid hold hle (show ObjOk X.prog X.w _ _ _ (.lst ((qX (ks.map (·.1))).map V.str)) from #[?_,((arrOf bz).map (·.2)).toList,c',Vals.ofStrs b1,?_]),rfl,q _ (I.hok.fresh hle)]]]
 ·rw[xl,zcA,xl]
  have:=Xe
  lia
 ·rw[ec]
end
section
variable {X:Cx}{pins:Ak}{O:St}{H:Hp}{s:Am}{a:Ap}{kvs:List (Key×V)}
def Inv.ghost(I:Inv X pins O H s)(e:H a=some o)(hn:∀ xs,o≠ .tup xs)(Cm:∀ b,o≠ .own b)(Fs:∀ ps,o≠ .tbl ps)(hf:∀ ob u,X.H₀ a≠some (.frz ob u))(new:ObjOk X.prog X.w (upd H a o') s.heap a o'):Inv X pins O (upd H a o') s where
 ok:=I.ok
 os:=I.os
 bare:=I.bare
 base:={
  keep:=I.base.keep
  slot:=I.base.slot
  free:=λb ob e' n hx=>by
   have:=I.base.free b ob e' n hx
   rw[zI (λz=>by subst z;rw[e]at this;cases this)];exact this
  there:=I.base.there
  tups:=λb xs e'=>by
   have:=I.base.tups b xs e'
   rw[zI (λz=>by grind)];exact this
  frzs:=λb ob u e'=>by
   rw[zI (λz=>by subst z;exact hf ob u e')];exact I.base.frzs b ob u e'
  tbls:=λb ps e'=>by
   let(mo,this):=I.base.tbls b ps e'
   exact#[mo,by rw[zI (λz=>by grind)];exact this] }
 loc:=I.loc
 cell:=I.cell
 free:=by rw[zI (λz=>by have:=I.free;rw[z,e]at this;cases this)];exact I.free
 freeC:=λx c e'=>by
  have:=I.freeC x c e'
  rw[zI (λz=>by rw[z,e]at this;cases this)];exact this
 pin:=λp h=>by
  let(e1,n,r):=I.pin p h
  exact#[e1,by rw[zI (λz=>by rw[z,e]at n;cases n)];exact n,r]
 hok:=λb u q=>by
  by_cases hb:b=a
  ·subst hb;rw[zK]at q;cases q;exact new
  ·rw[zI hb]at q
   exact (I.hok b u q).stay (λc v _ r=>r) (λc r=>by rw[zI (λz=>by grind)];exact r) λc xs r=>by rw[zI (λz=>by grind)];exact r
 len:=I.len
def Fz(X:Cx)(H Hf:Hp)(a:Ap)(o:Obj)(kvs:List (Key×V)):Prop:=Hf a=some (.frz o (.dK kvs))/\(Hf=H∨(H a=some (.dK kvs)/\Hf=upd H a (.frz o (.dK kvs))/\∀ ob u,X.H₀ a≠some (.frz ob u)))
def Inv.freeze(I:Inv X pins O H s)(e:Rd H a (.dK kvs)):∃ o Hf,s.heap.get? a=some o/\Fz X H Hf a o kvs/\Inv X pins O Hf s:=by
 rcases e with e | ⟨o,e⟩
 ·let(z,hd,vs,rel,ob,es,ep,h1,h2):=zaj I.hok e
  let hf:∀ ob u,X.H₀ a≠some (.frz ob u):=λob u q=>by
   have:=I.base.frzs a ob u q
   rw[e]at this;cases this
  refine#[ob,upd H a (.frz ob (.dK kvs)),h1,#[zK,.inr #[e,rfl,hf]],I.ghost e (λ_ z=>nomatch z) (λ_ z=>nomatch z) (λ_ z=>nomatch z) hf #[h1,z,hd,vs,rel,ob,es,ep,h1,h2]]
 ·let(h1,_):=(show ObjOk X.prog X.w H s.heap a (.frz o (.dK kvs)) from I.hok a _ e)
  exact#[o,H,h1,#[e,.inl rfl],I]
def Inv.thaw{H':Hp}(I:Inv X pins O H s)(e:H a=some (.frz o (.dK kvs)))(hf:∀ ob u,X.H₀ a≠some (.frz ob u)):Inv X pins O (upd H a (.dK kvs)) s:=by
 let(_,z,hd,vs,rel,dd):=(show ObjOk X.prog X.w H s.heap a (.frz o (.dK kvs)) from I.hok a _ e)
 erw[I.ghost e (λ_ z=>nomatch z) (λ_ z=>nomatch z) (λ_ z=>nomatch z) hf #[z,hd,vs,rel,dd]]
def zgb(h:wpE X e O H λv H'=>Q v H'∨∃ a kvs o,H' a=some (.frz o (.dK kvs))/\(∀ ob u,X.H₀ a≠some (.frz ob u))/\Q v (upd H' a (.dK kvs))):wpE X e O H Q:=λpins s I=>
 thn (h pins s I) λu s' ⟨v,H',I',r,q⟩=>by
  rcases q with q | ⟨a,kvs,o,e,hf,q⟩
  ·exact#[v,H',I',r,q]
  ·exact#[v,_,I'.thaw (H':=H') e hf,r,q]
end
def zeg(o:Obj):Nat:=match o.data with
 |.dict _ ep=>ep
 |_=>0
def Itk(a:Ap)(o:Obj)(kvs:List (Key×V)):It :=
 #[λi H=>H a=some (.frz o (.dK kvs))/\i<kvs.length,λi H x H'=>H'=H/\∃ p,kvs[i]?=some p/\x=kV p.1,λi H=>H a=some (.frz o (.dK kvs))/\kvs.length<=i]
def JW(ok:HOk P w H h)(e:H a=some (.frz o (.dK kvs))):∃ vs,KV kvs vs/\h.DictAt (qC P w) a vs (zeg o):=by
 let(h1,z,hd,vs,rel,ob,es,ep,h2,h3,h4,h5):=(show ObjOk P w H h a (.frz o (.dK kvs)) from ok a _ e)
 rw[h1]at h2;cases h2
 have:zeg o=ep:=by unfold zeg;rw[h4]
 exact#[vs,rel,o,es,h1,h3,by rw[this];exact h4,h5]
def zcG{K:Ah}(a it:Ap)(o:Obj)(kvs:List (Key×V)):Wj P w K tg (Itk a o kvs) [it] it (λi h=>h.IsKeyIter it a i kvs.length (zeg o)) where
 mem:=by simp
 obj:=λi h st b hb=>by
  let e:b=it:= ~~~hb
  subst e
  let(o,e,c,d):=st
  exact#[o,e,λv z=>by rw[d]at z;cases z]
 keep:=λi h h' st k=>st.at λo e=>k it (by simp) o e
 item:=by
  intro X hP hw hK hc i pins s O H E I hf st hg
  subst hP hw hK
  let(hq,hx):=hg
  let(vs,rel,dat):=JW I.hok hq
  let(f0,f1,f2,f3,f4,f5):=hf it (by simp)
  let hl:=rel.length
  rw[hl]at st
  let iu:vs[i]?=some (vs[i].1,vs[i].2):=by rw[xb (by lia)]
  erw[wpAny_pyNext_dict_item st dat iu λkey h' hk bz sb=>?_]
  let I1:=I.turned (t':=s.toks) (λb o hb e=>(sb.2 b hb).trans e) f0 f1 f3 f4 f5
  let(ob,e,c,d):=id bz
  let Ej:(kvs[i]'hx).1=vs[i].1:=by
   let h1:(kvs.map (·.1))[i]?=(vs.map (·.1))[i]?:=by rw[rel.keys]
   rw[xf,xf,xb hx,xb (by lia)]at h1
   simpa using h1
  refine#[key,rfl,Yh e c d (by decide) #[kV (kvs[i]'hx).1,H,I1,by rw[Ej];exact yq hk,#[rfl,kvs[i],by simp[hx],rfl],by rw[hl];exact bz,λb hb=>(hf b hb).1]]
 done:=by
  intro X hP hw hK hc i pins s O H E I hf st hg
  subst hP hw hK
  let(hq,hx):=hg
  let(vs,rel,dat):=JW I.hok hq
  let(f0,f1,f2,f3,f4,f5):=hf it (by simp)
  let hl:=rel.length
  rw[hl]at st
  exact wpAny_pyNext_dict_end (I.ok.hd hc) st dat (xE (by lia)) λh' eb=>#[rfl,I.turned (t':=s.toks) (λb o hb e=>eb b o hb e) f0 f1 f3 f4 f5]
 self:=λ_ _ _ _ _ st h=>wpAny_pyIter_keyiter st h
section
variable {X:Cx}{tg:Expr}
def zlj(X:Cx)(tl:TE):TI:=λO H R=>tl O H λx H1=>∃ a kvs,x=.ref a/\Rd H1 a (.dK kvs)/\∀ o Hf,Fz X H1 Hf a o kvs->R (Itk a o kvs) Hf
def zho(hl:PE X l tl):PI X tg l (zlj X tl):=by
 intro pins s O H R I h
 erw[thn (hl pins s O H _ I h) λv s1 ⟨x,H1,I1,r1,q1⟩=>?_]
 let(a,kvs,e,hr,q):=q1
 subst e
 cases r1
 let(o,Hf,ho,fz,If):=I1.freeze hr
 let(z,hd,_):=Qt I1.hok hr
 let(vs,rel,dat):=JW If.hok fz.1
 erw[wpAny_pyIter_dict hd dat ?_]
 refine#[⇑s1,[⇑s1],_,_,Hf,rfl,If.kept λb o e=>x4 _ e,zcG a _ o kvs,?_,λb hb=>?_,q o Hf fz]
 ·rw[rel.length];exact#[_,x8 _ rfl,rfl,rfl]
 ·let e:b=⇑s1:= ~~~hb
  subst e
  erw[If.fpOk (xh _) (If.hok.fresh (xh _))]
end
def Iti(a:Ap)(o:Obj)(kvs:List (Key×V)):It :=
 #[λi H=>H a=some (.frz o (.dK kvs))/\i<kvs.length,λi H x H'=>∃ p t,kvs[i]?=some p/\x=.ref t/\H t=none/\H'=upd H t (.tup [kV p.1,p.2]),λi H=>H a=some (.frz o (.dK kvs))/\kvs.length<=i]
def KU{K:Ah}(oj:∃ es n p,tg=.Tuple es n p)(a it:Ap)(o:Obj)(kvs:List (Key×V)):Wj P w K tg (Iti a o kvs) [it] it (λi h=>∃ ok ov,IsItemIter h it a i kvs.length (zeg o) ok ov) where
 mem:=by simp
 obj:=λi h st b hb=>by
  grind
 keep:=λi h h' ⟨ok,ov,st⟩ k=>#[ok,ov,k it (by simp) _ st]
 item:=by
  intro X hP hw hK hc i pins s O H E I hf st hg
  subst hP hw hK
  let(es,n,p,rfl):=oj
  let(ok,ov,st):=st
  let(hq,hx):=hg
  let(vs,rel,dat):=JW I.hok hq
  let(f0,f1,f2,f3,f4,f5):=hf it (by simp)
  let hl:=rel.length
  rw[hl]at st
  let iu:vs[i]?=some (vs[i].1,vs[i].2):=by rw[xb (by lia)]
  erw[wpAny_pyNext_items_item st dat iu λkey h1 hk mr ht hz kp=>#[_,rfl,wpAny_letOwnedTupleGo_items mr λh2 b9 sb=>?_]]
  let ow:∀{l:List (Key×V)}{m:List (Key×Value)},KV l m->∀(j:Nat)(hj:j<l.length)(Cr:j<m.length),l[j].1=m[j].1/\RelV l[j].2 m[j].2:=by
   intro l m r
   unfold KV at r
   induction r with
   |nil=>intro j hj;simp at hj
   |cons h t ih=>
    intro j hj Cr
    cases j with
    |zero=>erw[h]
    |succ j=>exact ih j (~~~hj) (~~~Cr)
  let(e1,e2):=ow rel i hx (by lia)
  let pk:it≠⇑s:=xj (x5 st)
  let old:∀ b o,b≠it->s.heap.get? b=some o->h2.get? b=some o:=λb o hb e=>(sb.2 b hb).trans (kp b o hb e)
  let bg:h2.get? ⇑s=some { cls:=.type "tuple",data:=.seq (List.toArray [key,vs[i].2]) }:=(sb.2 _ (Ne.symm pk)).trans ht
  let fresh:H ⇑s=none:=I.hok.fresh (xh _)
  let I1:Inv X pins O H { s with heap:=h2 }:=I.turned old f0 f1 f3 f4 f5
  let I2:Inv X pins O (upd H ⇑s (.tup [kV (kvs[i]'hx).1,(kvs[i]'hx).2])) { s with heap:=h2 }:=I1.track I.sz fresh (Ne.symm (xj I.lt)) (λx c e=>by
   let(v,ob,bu,_):=I.cell x c e
   exact xj (x5 bu)) (λp hp=>xj (x5 (I.pin p hp).1)) #[by rw[Xe];simp,[key,vs[i].2],.cons (by rw[e1];exact yq hk) (.cons e2 .nil),_,bg,rfl,_,rfl]
  refine#[.ref ⇑s,_,I2,rfl,#[kvs[i],_,by simp[hx],rfl,fresh,rfl],#[key,vs[i].2,by rw[hl];exact b9],λb hb=>?_]
  let e:b=it:= ~~~hb
  subst e
  rw[zI pk];exact f0
 done:=by
  intro X hP hw hK hc i pins s O H E I hf st hg
  subst hP hw hK
  let(ok,ov,st):=st
  let(hq,hx):=hg
  let(vs,rel,dat):=JW I.hok hq
  let(f0,f1,f2,f3,f4,f5):=hf it (by simp)
  let hl:=rel.length
  rw[hl]at st
  exact wpAny_pyNext_items_end (I.ok.hd hc) st dat (xE (by lia)) λh' eb=>#[rfl,I.turned (λb o hb e=>eb b o hb e) f0 f1 f3 f4 f5]
 self:=λ_ _ _ _ _ ⟨ok,ov,st⟩ h=>W.kcp_self st h
section
variable {X:Cx}{tg o:Expr}{apos aj:Pos}
def zjq(X:Cx)(tl:TE):TI:=λO H R=>tl O H λx H1=>∃ a kvs,x=.ref a/\Rd H1 a (.dK kvs)/\∀ o Hf,Fz X H1 Hf a o kvs->R (Iti a o kvs) Hf
def zfj (oj:∃ es n p,tg=.Tuple es n p) (hl:PE X o tl) (hb:attributeBase o "items" X.env (eval o X.env)=eval o X.env) (ah:(apos.endLine==aj.line)=true):PI X tg (.Call (.Attribute o "items" apos) [] [] aj) (zjq X tl):=by
 intro pins s O H R I h
 erw[wpAny_Call_method0_late hb ah (thn (hl pins s O H _ I h) λu s1 ⟨x,H1,I1,rx,a,kvs,ex,hr,q⟩=>?_)]
 subst ex
 obtain rfl:u=Value.ref a:=rx
 let(t1,t2,hd):=Kl I1 #[kvs,hr]
 refine#[_,_,PySem.F.plainAttrs_dict,PySem.F.slot_dict_items,PySem.F.type_dict_items,t1,t2,?_]
 let(z,_,gq,DM,Fg):=Qt I1.hok hr
 erw[Calls.callWith_builtin rfl (PySem.evalArgs_none ?_)]
 erw[call_meetsIn PySem.F.slot_dict_items t1 PySem.F.entry_dict_items (PySem.F.args_dict_items_1 _) (meets_dict_items (qC X.prog X.w) a hd) #[#[gq,Fg],?_]]
 let(o,Hf,ho,fz,If):=I1.freeze hr
 let Ik:=If.kept (h':=s1.heap.push { cls:=.type "dict_items",data:=.fields (List.toArray [.ref a]) }) (t':=s1.toks) λb o e=>x4 _ e
 let(vs,rel,dat):=JW Ik.hok fz.1
 erw[wpAny_pyIter_items #[_,x8 _ rfl,rfl,rfl] dat ?_]
 refine#[_,[_],_,_,Hf,rfl,Ik.kept λb o e=>x4 _ e,KU oj a _ o kvs,?_,λb hb=>?_,q o Hf fz]
 ·rw[rel.length];exact#[.none,.none,x8 _ rfl]
 ·let e:b=(s1.heap.push { cls:=.type "dict_items",data:=.fields (List.toArray [.ref a]) }).objs.size:= ~~~hb
  subst e
  erw[Ik.fpOk (xh _) (Ik.hok.fresh (xh _))]
end
end L2
namespace L3
open PySem PySem.Spec PyProof.Rows L2
variable [Cs]
def Eqv(H H':Hp):Prop:=∀ b o,H b=some o->H' b=some o∨∃ kvs,(o=.dK kvs∨∃ ob,o=.frz ob (.dK kvs))/\Rd H' b (.dK kvs)
section
variable {M0 M:Ae}{F F':Fp}{U:Gv}{Z:Nu}{H H' Hf:Hp}{X:Cx}{a:Ap}{o:Obj}{kvs:List (Key×V)}
def Eqv.refl(H:Hp):Eqv H H:=λ_ _ e=>.inl e
def Eqv.rd(h:Eqv H H')(r:Rd H b (.dK kvs)):Rd H' b (.dK kvs):=by
 rcases r with e | ⟨ob,e⟩
 ·rcases h b _ e with z | ⟨k,z | ⟨ob,z⟩,r⟩
  ·erw[.inl z]
  ·cases z;exact r
  ·cases z
 ·rcases h b _ e with z | ⟨k,z | ⟨Fm,z⟩,r⟩
  ·erw[.inr #[_,z]]
  ·cases z
  ·cases z;exact r
def Eqv.of(h:Eqv H H'){o:HO}(e:H b=some o)(h1:∀ kvs,o≠ .dK kvs)(h2:∀ ob kvs,o≠ .frz ob (.dK kvs)):H' b=some o:=by
 rcases h b _ e with z | ⟨k,z | ⟨ob,z⟩,r⟩
 ·erw[z]
 ·erw[absurd z (h1 k)]
 ·erw[absurd z (h2 ob k)]
def Eqv.stay(h:Eqv H H')(n:H b≠none):H' b≠none:=by
 cases q:H b with
 |none=>erw[absurd q n]
 |some o=>
  rcases h b _ q with z | ⟨k,_,z | ⟨ob,z⟩⟩<;>rw[z]<;>exact λw=>nomatch w
def Rep.eqv(h:Eqv H H'){v:V}{d:PyData}(r:Rep M H v d):Rep M H' v d:=r.go (λa o e n q1 q2=>#[h.of e q1 q2,n]) (λa xs e=>h.of e (λ_ z=>nomatch z) (λ_ _ z=>nomatch z)) λa x e n=>#[h.rd e,n]
def RS.eqv(r:RS M0 F U Z H)(h:Eqv H H')(hF:∀ i,∀ a∈F i,H' a=H a):RS M0 F U Z H' :=
 #[λa ha=>h.stay (r.al0 a ha),r.dis0,r.nd,r.dis,λi o e=>let #[v,e1,q]:=r.at' i o e;#[v,e1,q.go (λ_ _ x=>Rep.eqv h x) (λb xs e=>h.of e (λ_ z=>nomatch z) (λ_ _ z=>nomatch z)) (hF i)],r.emp,r.len]
def zeq(z:Fz X H Hf a o kvs):Eqv H Hf:=by
 obtain⟨e,rfl | ⟨e1,rfl,_⟩⟩:=z
 ·erw[.refl _]
 ·intro b u eb
  by_cases hb:b=a
  ·subst hb
   rw[e1]at eb;cases eb
   erw[.inr #[kvs,.inl rfl,.inr #[o,zK]]]
  ·exact .inl (by rw[zI hb];exact eb)
def YK(e:H a=some (.frz o (.dK kvs))):Eqv H (upd H a (.dK kvs)):=λb u eb=>by
 by_cases hb:b=a
 ·subst hb
  rw[e]at eb;cases eb
  erw[.inr #[kvs,.inr #[o,rfl],.inl zK]]
 ·exact .inl (by rw[zI hb];exact eb)
def zfY{CW:Hp}(e:H a=some (.dK kvs))(s:Stp F (upd H a (.frz o (.dK kvs))) F' CW)(hn:∀ i,a∉F i):Stp F H F' (upd CW a (.dK kvs)):=by
 let ka:=s.keep a _ zK hn
 refine#[λb u eb nb=>?_,λb xs eb=>?_,λb hb=>?_]
 ·by_cases hb:b=a
  ·subst hb
   rw[e]at eb;cases eb
   exact#[zK,ka.2]
  ·rw[zI hb]
   exact s.keep b u (by rw[zI hb];exact eb) nb
 ·let hb:b≠a:=λz=>by subst z;rw[e]at eb;cases eb
  rw[zI hb]
  exact s.tups b xs (by rw[zI hb];exact eb)
 ·by_cases z:b=a
  ·subst z;rw[zK];exact λw=>nomatch w
  ·rw[zI z]
   exact s.stay b (by rw[zI z];exact hb)
end
def Ju(M0:Ae)(F:Fp)(i:Nat):Ae:=λa=>M0 a∨a∈F i
section
variable {M0:Ae}{F F':Fp}{U U':Gv}{Z:Nu}{H H':Hp}{i:Nat}
def Jx(h:F3 i= []):MM (Ju M0 F i) F3=MM M0 (fset F3 i (F i)):=by
 funext a
 apply propext
 constructor
 ·rintro ((h1 | h1) | ⟨j,h1⟩)
  ·erw[.inl h1]
  ·exact .inr #[i,by rw[zL];exact h1]
  ·refine .inr #[j,?_]
   rw[zP (λz=>by subst z;rw[h]at h1;cases h1)];exact h1
 ·rintro (h1 | ⟨j,h1⟩)
  ·erw[.inl (.inl h1)]
  ·by_cases z:j=i
   ·subst z;rw[zL]at h1;exact .inl (.inr h1)
   ·rw[zP z]at h1;exact .inr #[j,h1]
def ym:fset (fset F i []) i (F i)=F:=by
 funext j
 by_cases z:j=i
 ·subst z;rw[zL]
 ·rw[zP z,zP z]
def RS.hide(r:RS M0 F U Z H):RS (Ju M0 F i) (fset F i []) (U.set i none) Z H:=by
 let hm:MM (Ju M0 F i) (fset F i [])=MM M0 F:=by rw[Jx zL,ym]
 let sub:∀ j a,a∈fset F i [] j->j≠i/\a∈F j:=λj a h=>by
  by_cases z:j=i
  ·subst z;rw[zL]at h;cases h
  ·rw[zP z]at h;exact#[z,h]
 refine#[λa h=>?_,λj a h=>?_,λj=>?_,λj k a h1 h2=>r.dis _ _ a (sub _ _ h1).2 (sub _ _ h2).2,λj o e=>?_,λj h=>?_,by rw[xK];exact r.len]
 ·rcases h with h | h
  ·erw[r.al0 a h]
  ·erw[r.al a (.inr #[i,h])]
 ·let(h1,h2):=sub j a h
  rintro (z | z)
  ·erw[r.dis0 j a h2 z]
  ·erw[h1 (r.dis _ _ a h2 z)]
 ·by_cases z:j=i
  ·subst z;rw[zL];exact .nil
  ·rw[zP z];exact r.nd j
 ·by_cases z:j=i
  ·subst z
   by_cases hl:j<U.length
   ·rw[xn hl]at e;cases e
   ·rw[xE (~~~hl)]at e;cases e
  ·rw[xg (Ne.symm z)]at e
   rw[hm,zP z]
   erw[r.at' j o e]
 ·by_cases z:j=i
  ·subst z;exact zL
  ·rw[zP z]
   erw[r.emp j λo e=>h o ?_]
   rw[xg (Ne.symm z)];exact e
def RS.unhide(r:RS M0 F U Z H)(e:U[i]?=some (some o))(r':RS (Ju M0 F i) F' U' Z H')(e':U'[i]?=some none)(s:Stp (fset F i []) H F' H'):RS M0 (fset F' i (F i)) (U'.set i (some o)) Z H'/\Stp F H (fset F' i (F i)) H':=by
 let bx:i<U'.length:=(xa.mp e').1
 let hFi:=r'.emp i λo z=>by rw[e']at z;cases z
 let hm:MM (Ju M0 F i) F'=MM M0 (fset F' i (F i)):=Jx hFi
 let kp:∀ a∈F i,H' a=H a/\∀ j,a∉F' j:=λa ha=>by
  let(u,eu):=r.laidF ha
  let(k1,k2):=s.keep a u eu λj hj=>by
   by_cases z:j=i
   ·subst z;rw[zL]at hj;cases hj
   ·rw[zP z]at hj;exact z (r.dis _ _ a hj ha)
  exact#[by rw[k1,eu],k2]
 let cls:∀ j a,a∈fset F' i (F i) j->(j=i/\a∈F i)∨(j≠i/\a∈F' j):=λj a h=>by
  by_cases z:j=i
  ·subst z;rw[zL]at h;exact .inl #[rfl,h]
  ·rw[zP z]at h;exact .inr #[z,h]
 let s0:MM (Ju M0 F i) (fset F i [])=MM M0 F:=by rw[Jx zL,ym]
 refine#[#[λa h=>r'.al0 a (.inl h),λj a h=>?_,λj=>?_,λj k a h1 h2=>?_,λj p ep=>?_,λj h=>?_,by rw[xK];exact r'.len],#[λb u eb nb=>?_,s.tups,s.stay]]
 ·rcases cls j a h with ⟨_,h⟩ | ⟨_,h⟩
  ·erw[r.dis0 i a h]
  ·erw[λz=>r'.dis0 j a h (.inl z)]
 ·by_cases z:j=i
  ·subst z;rw[zL];exact r.nd _
  ·rw[zP z];exact r'.nd j
 ·rcases cls j a h1 with ⟨z1,h1⟩ | ⟨z1,h1⟩<;>rcases cls k a h2 with ⟨z2,h2⟩ | ⟨z2,h2⟩
  ·rw[z1,z2]
  ·erw[absurd h2 ((kp a h1).2 k)]
  ·erw[absurd h1 ((kp a h2).2 j)]
  ·erw[r'.dis _ _ a h1 h2]
 ·by_cases z:j=i
  ·subst z
   rw[xn bx]at ep
   cases ep
   let(v,ev,q):=r.at' j _ e
   refine#[v,ev,?_]
   rw[zL,<- hm]
   exact q.go (λw d x=>qf s (λa h=>(r.hide).al0 a h) (by rw[s0];exact x)) s.tups λa ha=>(kp a ha).1
  ·rw[xg (Ne.symm z)]at ep
   rw[<- hm,zP z]
   erw[r'.at' j p ep]
 ·by_cases z:j=i
  ·grind
  ·rw[zP z]
   erw[r'.emp j λp ep=>h p ?_]
   rw[xg (Ne.symm z)];exact ep
 ·let(k1,k2):=s.keep b u eb λj hj=>by
   by_cases z:j=i
   ·subst z;rw[zL]at hj;cases hj
   ·rw[zP z]at hj;exact nb j hj
  refine#[k1,λj hj=>?_]
  rcases cls j b hj with ⟨_,h⟩ | ⟨_,h⟩
  ·erw[nb i h]
  ·erw[k2 j h]
end
def hid{γ:Type}(z:Option (Option Nat))(f:EM γ):EM γ:=λU=>match z with
 |none=>f U
 |some none=>f U
 |some (some i)=>match U[i]? with
  |some (some o)=>match f (U.set i none) with
   |.ok (y,U2)=>match U2[i]? with
    |some none=>.ok (y,U2.set i (some o))
    |_=>.bad
   |.bad=>.bad
  |_=>.bad
def Wk(X:Cx)(F:Fp)(H Hf:Hp):Prop:=Hf=H∨∃ a o kvs,Fz X H Hf a o kvs/\∀ i,a∉F i
def JIw(X:Cx)(M0:Ae)(F:Fp)(J:It)(z:Aa×Option (Option Nat))(H Hf:Hp):Prop:=match z.2 with
 |none=>Hf=H/\JI M0 F J z.1 H
 |some none=>Wk X F H Hf/\JI M0 F J z.1 Hf
 |some (some i)=>Hf=H/\JI (Ju M0 F i) (fset F i []) J z.1 H
def SIw(X:Cx)(mp:Ac)(tg iter:Expr)(f:EM (Aa×Option (Option Nat))):Prop:=∀(M0:Ae)(F:Fp)(U:Gv)(Z:Nu)(O:St)(H:Hp)(R:It->Hp->Prop),RS M0 F U Z H->Sees mp Z O ->
 EPost M0 F Z O H (λF' U' H' z=>∀ J Hf,JIw X M0 F' J z H' Hf->R J Hf) (f U)->wpI X tg iter O H R
section
variable {X:Cx}{mp:Ac}{a b c e tg iter elt:Expr}{ifs:Ag}{pos p:Pos}{na:EM (Aa)}
private def fStd(f:EM (Aa)):EM (Aa×Option (Option Nat)):=λU=>(f U).bind λ(ds,U1)=>.ok ((ds,none),U1)
def zhW(h:SI X mp tg iter na):SIw X mp tg iter (fStd na):=λM0 F U Z O H R rs hs hp=>
 h M0 F U Z O H R rs hs (hp.seq.mono λF1 U1 H1 ds rs1 s1 h1 J hJ=>h1 F1 H1 rs1 (.refl _ _) J H1 #[rfl,hJ])
def loopG{β γ:Type}(k:Nat)(t:IT)(cond:EM Bool)(it:EM β)(add:γ->β->γ):Aa->γ->Gv->R (γ×Gv)
 |[],ys,U=>.ok (ys,U)
 |d::ds,ys,U=>match tgF t d (U++List.replicate k none) with
  |none=>.bad
  |some U2=>match cond U2 with
   |.ok (true,U3)=>match it U3 with
    |.ok (y,U4)=>loopG k t cond it add ds (add ys y) (U4.take U.length)
    |.bad=>.bad
   |.ok (false,U3)=>loopG k t cond it add ds ys (U3.take U.length)
   |.bad=>.bad
structure zcN{α β γ δ:Type}(ac:Acc α β)(ad:γ->δ->γ)(RA:(Ae)->Fp->Hp->α->γ->Prop)(RB:(Ae)->Fp->Hp->β->δ->Prop)(ln:γ->Nat):Prop where
 stp:∀{M0:Ae}{F F':Fp}{H H':Hp}{x:α}{y:γ},RA M0 F H x y->Stp F H F' H'->(∀ a,M0 a->H a≠none)->RA M0 F' H' x y
 add:∀{M0:Ae}{F:Fp}{H:Hp}{x:α}{y:γ}{u:β}{d:δ},RA M0 F H x y->RB M0 F H u d->RA M0 F H (ac.add x u) (ad y d)
 bst:∀{M0:Ae}{F F':Fp}{H H':Hp}{u:β}{d:δ},RB M0 F H u d->Stp F H F' H'->(∀ a,M0 a->H a≠none)->RB M0 F' H' u d
 len:∀{M0:Ae}{F:Fp}{H:Hp}{x:α}{y:γ},RA M0 F H x y->ac.len x=ln y
 lin:∀(y:γ)(d:δ),ln (ad y d)<=ln y+1
 eqv:∀{M0:Ae}{F:Fp}{H H':Hp}{x:α}{y:γ},RA M0 F H x y->Eqv H H'->RA M0 F H' x y
 mm:∀{M0 M0':Ae}{F F':Fp}{H:Hp}{x:α}{y:γ},MM M0 F=MM M0' F'->RA M0 F H x y->RA M0' F' H x y
def jk{α β γ δ:Type}{ac:Acc α β}{add:γ->δ->γ}{RA:(Ae)->Fp->Hp->α->γ->Prop}{RB:(Ae)->Fp->Hp->β->δ->Prop}{len:γ->Nat}(AR:zcN ac add RA RB len){N':Ab}{scope:Scope}{n k:Nat}{ix:Ac}{t:IT}{cond:EM Bool}{it:EM δ}{te:St->Hp->(β->Hp->Prop)->Prop}{M0:Ae}{F1:Fp}{Z:Nu}{O:St}{H1:Hp}{J:It}{ds:Aa}{P:Fp->Gv->Hp->γ->Prop}{U1:Gv}{Q:α->Hp->Prop}{c0:γ}
  (hm:∀ j i:Nat,ix[j]?=some i->∃ m,mp[i]?=some m/\m<n) (ic:N'.length=k+ix.length) (h0:RA M0 F1 H1 ac.a0 c0) (c5:len c0=0)
  (hg:∀ cl C s2 H2 fp,SG ⋯ (mpC mp n k ix) (·<n) tg t) (hc:∀ cl C s2 H2 fp,SF ⋯ (mpC mp n k ix) ifs cond)
  (he:∀(M0:Ae)(F:Fp)(U:Gv)(Z:Nu)(O1:St)(H:Hp)(Q:β->Hp->Prop),RS M0 F U Z H->Sees (mpC mp n k ix) Z O1->EPost M0 F Z O1 H (λF' U' H' d=>∀ y,RB M0 F' H' y d->Q y H') (it U)->te O1 H Q)
  (rs1:RS M0 F1 U1 Z H1) (hs:Sees mp Z O) (hJ:JI M0 F1 J ds H1) (hd:ds.length<=1000000) (hn:U1.length=n) (hp:EPost M0 F1 Z O H1 P (loopG k t cond it add ds c0 U1))
  (fin:∀ F' U' H' ys vs,RS M0 F' U' Z H'->RA M0 F' H' vs ys->P F' U' H' ys->Stp F1 H1 F' H'->Q vs H') :
  VX ac k ix (gU X N' scope tg O) (fU X N' scope ifs O) te O J H1 Q:=by
 have hνn:Z.length=n:=by rw[rs1.len,hn]
 refine#[λi m vs H=>m=ds.length-i/\i<=ds.length/\∃ F' U' ys,RS M0 F' U' Z H/\Stp F1 H1 F' H/\RA M0 F' H vs ys/\U'.length=n/\len ys<=i/\EPost M0 F' Z O H P (loopG k t cond it add (ds.drop i) ys U'),#[ds.length,by simp,xS _,F1,U1,c0,rs1,.refl _ _,h0,hn,by rw[c5];exact xh _,hp],?_]
 rintro i m vs H ⟨rfl,hil,F',U',ys,rs,st,rv,Bd,Fo,hp⟩
 let hsz:=Xe
 refine#[by rw[AR.len rv];lia,?_]
 by_cases hlt:i<ds.length
 ·rw[List.drop_eq_getElem_cons hlt,loopG]at hp
  let(s9,sy):=hJ i F' H st rs1.al0
  let(go,yl):=s9 ds[i] (by simp[hlt])
  refine .inr #[go,λvs' H'=>∃ u7 U'' dr,RS M0 u7 U'' Z H'/\Stp F1 H1 u7 H'/\RA M0 u7 H' vs' dr/\U''.length=n/\len dr<=i+1/\EPost M0 u7 Z O H' P (loopG k t cond it add (ds.drop (i+1)) dr U''),λvs' H' h=>#[ds.length-(i+1),by lia,rfl,hlt,h],λx H2 hy=>?_]
  let(s2,rx):=yl x H2 hy
  let rs2:=(rs.same s2).ext k
  let hcl:(cS k ix O).length=N'.length:=by unfold cS;simp[ic]
  let AN:Sees (mpC mp n k ix) (Z++List.replicate k none) (cS k ix O):=λs j v e1 e2=>by
   by_cases hsk:s<k
   ·rw[zjD hsk]at e1
    cases e1
    rw[xp (by lia),xN]at e2
    split at e2<;>cases e2
   ·obtain⟨j',rfl⟩:∃ j',s=k+j':=#[s-k,by lia]
    rw[zeU]at e1
    cases q:ix[j']? with
    |none=>rw[q]at e1;cases e1
    |some i0=>
     rw[q]at e1
     let(m,t4,Cn):=hm j' i0 q
     have:mp.getD i0 0=m:=by rw[xF,t4];rfl
     let ej:m=j:=by
      let e3:some (mp.getD i0 0)=some j:=e1
      rw[this]at e3;exact Option.some.inj e3
     subst ej
     rw[xc (by lia)]at e2
     erw[zi5 q (hs i0 m v t4 e2)]
  cases et:tgF t ds[i] (U'++List.replicate k none) with
  |none=>rw[et]at hp;exact hp.elim
  |some U2=>
   rw[et]at hp
   intro cl C Aw BU fp
   erw[hg cl C Aw BU fp M0 F' _ U2 _ (cS k ix O) H2 x ds[i] _ rs2 AN hcl rx et λF3 Z3 O3 a7 s3 hs3 hl3 n3 m3=>#[?_,λcl C Aw BU fp=>?_]]
   ·apply xU
    intro j
    rw[List.getElem?_drop,List.getElem?_drop]
    by_cases hj:j<ix.length
    ·let(m,t4,Cn):=hm j ix[j] (by simp[hj])
     erw[m3 (k+j) m ?_ Cn]
     rw[zeU,xb hj]
     show some (mp.getD ix[j] 0)=some m
     rw[xF,t4];rfl
    ·let Eh:O3.length=N'.length:=hl3
     rw[xE (by lia),xE (by lia)]
   ·let stA:=(st.trans (.same s2)).trans s3
    let back:∀{F4:Fp}{U4:Gv}{H4:Hp},RS M0 F4 U4 Z3 H4->RS M0 (WF F4 n) (U4.take n) Z H4/\Stp F4 H4 (WF F4 n) H4:=λ{F4 U4 H4} r4=>by
     let(r5,s5):=r4.cut n
     have:Z3.take n=Z:=by
      apply xU
      intro j
      by_cases hj:j<n
      ·rw[xW hj,n3 j hj,xc (by lia)]
      ·rw[xE (by rw[xJ];lia),xE (by lia)]
     rw[this]at r5
     exact#[r5,s5]
    let lenOf:∀{F4:Fp}{U4:Gv}{H4:Hp},RS M0 F4 U4 Z3 H4->(U4.take n).length=n:=λ{F4 U4 H4} r4=>by
     let h1:=r4.len
     let h2:=a7.len
     let h3:U2.length=n+k:=by rw[KQ _ _ _ _ et,xm,uu,Bd]
     rw[xJ];lia
    erw[hc cl C Aw BU fp M0 F3 U2 Z3 O3 H2 _ a7 hs3 ?_]
    dsimp only at hp
    cases ec:cond U2 with
    |bad=>rw[ec]at hp;exact hp.elim
    |ok z=>
     let(bb,U3):=z
     rw[ec]at hp
     intro F4 H4 gr s4
     let rvA:=AR.stp (AR.stp (AR.stp rv (.same s2) rs.al0) s3 (rs.same s2).al0) s4 a7.al0
     cases bb with
     |false=>
      erw[Yl ?_]
      let(r5,s5):=back gr
      let stB:=(stA.trans s4).trans s5
      rw[Bd]at hp
      exact#[_,_,ys,r5,stB,AR.stp rvA s5 gr.al0,lenOf gr,by lia,hp.step ((((Stp.same s2).trans s3).trans s4).trans s5)]
     |true=>
      erw[Ym (he M0 F4 U3 Z3 O3 H4 _ gr hs3 ?_)]
      dsimp only at hp
      cases ee:it U3 with
      |bad=>rw[ee]at hp;exact hp.elim
      |ok z=>
       let(u,U4):=z
       rw[ee]at hp
       intro F5 H5 sr s5 v hv
       dsimp only at hp
       let(r6,s6):=back sr
       let stB:=((stA.trans s4).trans s5).trans s6
       rw[Bd]at hp
       exact#[_,_,add ys u,r6,stB,AR.add (AR.stp (AR.stp rvA s5 gr.al0) s6 sr.al0) (AR.bst hv s6 sr.al0),lenOf sr,by have:=AR.lin ys u;lia,hp.step (((((Stp.same s2).trans s3).trans s4).trans s5).trans s6)]
 ·let e:i=ds.length:=by lia
  subst e
  rw[uL,loopG]at hp
  let(s9,sy):=hJ _ F' H st rs1.al0
  erw[.inl #[sy (xh _),fin F' U' H ys vs rs rv (hp F' H rs (.refl _ _)) st]]
def zf2{H:Hp}{a b:Ap}{o u:HO}(h:a≠b):upd (upd H a o) b u=upd (upd H b u) a o:=by
 funext c
 unfold upd
 grind
def zk6{α β γ δ:Type}{ac:Acc α β}{ad:γ->δ->γ}{RA:(Ae)->Fp->Hp->α->γ->Prop}{RB:(Ae)->Fp->Hp->β->δ->Prop}{ln:γ->Nat}(AR:zcN ac ad RA RB ln){N':Ab}{scope:Scope}{n k:Nat}{ix:Ac}{t:IT}{cond:EM Bool}{it:EM δ}{te:St->Hp->(β->Hp->Prop)->Prop}{M0:Ae}{F1:Fp}{Z:Nu}{O:St}{H1 Hf:Hp}{J:It}{ds:Aa}{U1:Gv}{Q:VK}{c0:γ}
  (hm:∀ j i:Nat,ix[j]?=some i->∃ m,mp[i]?=some m/\m<n) (ic:N'.length=k+ix.length) (h0:∀ M0 F H,RA M0 F H ac.a0 c0) (c5:ln c0=0)
  (hg:∀ cl C s2 H2 fp,SG ⋯ (mpC mp n k ix) (·<n) tg t) (hc:∀ cl C s2 H2 fp,SF ⋯ (mpC mp n k ix) ifs cond)
  (he:∀(M0:Ae)(F:Fp)(U:Gv)(Z:Nu)(O1:St)(H:Hp)(Q:β->Hp->Prop),RS M0 F U Z H->Sees (mpC mp n k ix) Z O1->EPost M0 F Z O1 H (λF' U' H' d=>∀ y,RB M0 F' H' y d->Q y H') (it U)->te O1 H Q)
  (rs1:RS M0 F1 U1 Z H1) (hs:Sees mp Z O) (wk:Wk X F1 H1 Hf) (hJ:JI M0 F1 J ds Hf) (hd:ds.length<=1000000) (hn:U1.length=n)
  (hp:EPost M0 F1 Z O H1 (λF' U' H' ys=>∀ vs p,RA M0 F' H' vs ys->H' p=none->Q (.ref p) (upd H' p (ac.ho vs))) ((loopG k t cond it ad ds c0 U1))) :
  VX ac k ix (gU X N' scope tg O) (fU X N' scope ifs O) te O J Hf λys H2=>∀ p,H2 p=none->(Q (.ref p) (upd H2 p (ac.ho ys))∨∃ a kvs o,upd H2 p (ac.ho ys) a=some (.frz o (.dK kvs))/\(∀ ob u,X.H₀ a≠some (.frz ob u))/\Q (.ref p) (upd (upd H2 p (ac.ho ys)) a (.dK kvs))):=by
 let plain:Hf=H1->VX ac k ix (gU X N' scope tg O) (fU X N' scope ifs O) te O J Hf λys H2=>∀ p,H2 p=none->(Q (.ref p) (upd H2 p (ac.ho ys))∨∃ a kvs o,upd H2 p (ac.ho ys) a=some (.frz o (.dK kvs))/\(∀ ob u,X.H₀ a≠some (.frz ob u))/\Q (.ref p) (upd (upd H2 p (ac.ho ys)) a (.dK kvs))):=λe=>by
  subst e
  erw[jk AR hm ic (h0 _ _ _) c5 hg hc he rs1 hs hJ hd hn hp λF' U' H' ys vs cq rv hP st p au=>.inl (hP vs p rv au)]
 rcases wk with e | ⟨a,o,kvs,⟨ef,e | ⟨ea,e,hH⟩⟩,hna⟩
 ·erw[plain e]
 ·erw[plain e]
 ·subst e
  let AX:EPost M0 F1 Z O (upd H1 a (.frz o (.dK kvs))) (λF' U' H' ys=>∀ vs p,RA M0 F' (upd H' a (.dK kvs)) vs ys->upd H' a (.dK kvs) p=none->Q (.ref p) (upd (upd H' a (.dK kvs)) p (ac.ho vs))) (loopG k t cond it ad ds c0 U1):=by
   cases er:loopG k t cond it ad ds c0 U1 with
   |bad=>rw[er]at hp;exact hp
   |ok z=>
    rw[er]at hp
    intro F' H' cq s'
    let ka:=(s'.keep a _ zK hna).1
    exact hp F' _ (cq.eqv (YK ka) λi b hb=>zI λz=>(s'.keep a _ zK hna).2 i (by rw[<- z];exact hb)) (zfY ea s' hna)
  refine jk AR hm ic (h0 _ _ _) c5 hg hc he (rs1.eqv (zeq #[zK,.inr #[ea,rfl,hH]]) λi b hb=>zI λz=>hna i (by rw[<- z];exact hb)) hs hJ hd hn AX λF' U' H' ys vs cq rv hP st p au=>.inr #[a,kvs,o,?_,hH,?_]
  ·let ka:=(st.keep a _ zK hna).1
   rw[zI (λz=>by subst z;rw[ka]at au;cases au)];exact ka
  ·let ka:=(st.keep a _ zK hna).1
   let Ci:p≠a:=λz=>by subst z;rw[ka]at au;cases au
   rw[zf2 Ci]
   exact hP vs p (AR.eqv rv (YK ka)) (by rw[zI Ci];exact au)
def zk7{α β γ δ:Type}{ac:Acc α β}{ad:γ->δ->γ}{RA:(Ae)->Fp->Hp->α->γ->Prop}{RB:(Ae)->Fp->Hp->β->δ->Prop}{ln:γ->Nat}(AR:zcN ac ad RA RB ln){N':Ab}{scope:Scope}{n k:Nat}{ix:Ac}{t:IT}{cond:EM Bool}{it:EM δ}{te:St->Hp->(β->Hp->Prop)->Prop}{M0:Ae}{F1:Fp}{Z:Nu}{O:St}{H1 Hf:Hp}{J:It}{z:Aa×Option (Option Nat)}{U1:Gv}{Q:VK}{c0:γ}
  (hm:∀ j i:Nat,ix[j]?=some i->∃ m,mp[i]?=some m/\m<n) (ic:N'.length=k+ix.length) (h0:∀ M0 F H,RA M0 F H ac.a0 c0) (c5:ln c0=0)
  (hg:∀ cl C s2 H2 fp,SG ⋯ (mpC mp n k ix) (·<n) tg t) (hc:∀ cl C s2 H2 fp,SF ⋯ (mpC mp n k ix) ifs cond)
  (he:∀(M0:Ae)(F:Fp)(U:Gv)(Z:Nu)(O1:St)(H:Hp)(Q:β->Hp->Prop),RS M0 F U Z H->Sees (mpC mp n k ix) Z O1->EPost M0 F Z O1 H (λF' U' H' d=>∀ y,RB M0 F' H' y d->Q y H') (it U)->te O1 H Q)
  (rs1:RS M0 F1 U1 Z H1) (hs:Sees mp Z O) (hJ:JIw X M0 F1 J z H1 Hf) (hd:z.1.length<=1000000) (hn:U1.length=n)
  (hp:EPost M0 F1 Z O H1 (λF' U' H' ys=>∀ vs p,RA M0 F' H' vs ys->H' p=none->Q (.ref p) (upd H' p (ac.ho vs))) (hid z.2 (loopG k t cond it ad z.1 c0) U1)) :
  VX ac k ix (gU X N' scope tg O) (fU X N' scope ifs O) te O J Hf λys H2=>∀ p,H2 p=none->(Q (.ref p) (upd H2 p (ac.ho ys))∨∃ a kvs o,upd H2 p (ac.ho ys) a=some (.frz o (.dK kvs))/\(∀ ob u,X.H₀ a≠some (.frz ob u))/\Q (.ref p) (upd (upd H2 p (ac.ho ys)) a (.dK kvs))):=by
 let(ds,z):=z
 cases z with
 |none=>
  let(rfl,hJ):=hJ
  erw[jk AR hm ic (h0 _ _ _) c5 hg hc he rs1 hs hJ hd hn hp λF' U' H' ys vs cq rv hP st p au=>.inl (hP vs p rv au)]
 |some z=>cases z with
  |none=>erw[zk6 AR hm ic h0 c5 hg hc he rs1 hs hJ.1 hJ.2 hd hn hp]
  |some i=>
   let(rfl,hJ):=hJ
   dsimp only [hid]at hp
   delta hp o eo
   refine jk AR hm ic (h0 _ _ _) c5 hg hc he (rs1.hide) hs hJ hd (by rw[xK];exact hn) (P:=λF' U' H' ys=>∀ vs p,RA (Ju M0 F1 i) F' H' vs ys->H' p=none->Q (.ref p) (upd H' p (ac.ho vs))) ?_ λF' U' H' ys vs cq rv hP st p au=>.inl (hP vs p rv au)
   generalize loopG k t cond it ad ds c0 (U1.set i none)=r at hp
   cases r with
   |bad=>erw[hp]
   |ok w=>
    let(ys,U2):=w
    delta hp e2
    intro F' H' cq s' vs p ra au
    let(a7,s3):=rs1.unhide eo cq e2 s'
    exact hp _ H' a7 s3 vs p (AR.mm (Jx (cq.emp i λo z=>by rw[e2]at z;cases z)) ra) au
def itL(elt:EM FV):EM PyData:=λU=>(elt U).bind λ(u,U1)=>match derS U1 u with
 |some y=>.ok (y,U1)
 |none=>.bad
def zaJ:zcN zgi (λ(ys:Aa) y=>ys++ [y]) (λM0 F H vs ys=>RepL (MM M0 F) H vs ys) (λM0 F H v y=>Rep (MM M0 F) H v y) List.length where
 stp r s h0:=W8 s h0 r
 add r q:=RepL.append r (.cons q .nil)
 bst r s h0:=qf s h0 r
 len r:=r.length
 lin y d:=by simp
 eqv r h:=j9 (λ_ _=>Rep.eqv h) r
 mm e r:=by rw[<- e];exact r
def qM(k:Nat)(t:IT)(cond:EM Bool)(elt:EM FV):Aa->Aa->Gv->R (Aa×Gv):=loopG k t cond (itL elt) λys y=>ys++ [y]
private def fComp(n k:Nat)(t:IT)(src:EM (Aa))(cond:EM Bool)(elt:EM FV):EM (Aa):=λU=>(src U).bind λ(ds,U1)=>if ds.length<=1000000/\U1.length=n then qM k t cond elt ds [] U1 else .bad
def zjt(he:SE Y mp' elt el)(rs:RS M0 F U Z H)(hs:Sees mp' Z O)(hp:EPost M0 F Z O H (λF' U' H' d=>∀ y,Rep (MM M0 F') H' y d->Q y H') (itL el U)):wpE Y elt O H Q :=
 he.run rs hs hp λF1 U1 H1 u v rs1 s1 o1 h1=>by
  delta h1 y ey
  erw[h1 F1 H1 rs1 (.refl _ _) v (o1.strong rs1 ey)]
def YC{N':Ab}{scope:Scope}{n k:Nat}{ix:Ac}{t:IT}{src:EM (Aa)}{cond:EM Bool}{el:EM FV}(S:CSc X.env.scope X.N scope N' k ix)(hm:∀ j i:Nat,ix[j]?=some i->∃ m,mp[i]?=some m/\m<n)
  (hi:SI X mp tg iter src) (hg:∀ cl C s2 H2 fp,SG ⋯ (mpC mp n k ix) (·<n) tg t) (hc:∀ cl C s2 H2 fp,SF ⋯ (mpC mp n k ix) ifs cond) (he:∀ cl C s2 H2 fp,SE ⋯ (mpC mp n k ix) elt el) :
  SNt mp (YI k ix (wpI X tg iter) (gU X N' scope tg) (fU X N' scope ifs) (eU X N' scope elt)) (fComp n k t src cond el):=by?
 erw[hi M0 F U Z O H _ rs hs (hp.seq.mono λF1 U1 H1 ds rs1 s1 h1 J hJ=>?_)]
 delta h1 hh
 erw[jk zaJ hm S.len .nil rfl hg hc (λM0 F U Z O1 H Q rs hs hp cl C s2 H2 fp=>zjt (he cl C s2 H2 fp) rs hs hp) rs1 hs hJ hh.1 hh.2 h1 λF' U' H' ys vs cq rv hP _ p au=>hP vs p rv au]
def zhY{t:IT}{src:EM (Aa)}{cond:EM Bool}{el:EM FV}(ag:X.calm=true)(S:CSc X.env.scope X.N scope N' k ix)(hm:∀ j i:Nat,ix[j]?=some i->∃ m,mp[i]?=some m/\m<n)
  (hi:SI X mp tg iter src) (hg:∀ cl C s2 H2 fp,SG ⋯ (mpC mp n k ix) (·<n) tg t) (hc:∀ cl C s2 H2 fp,SF ⋯ (mpC mp n k ix) ifs cond) (he:∀ cl C s2 H2 fp,SE ⋯ (mpC mp n k ix) elt el)
  (hf:∀ x,foldedSetIterable iter X.env x=pure x):SN X mp (.ListComp elt [#[tg,iter,ifs,0]] scope pos) (fComp n k t src cond el):=λM0 F U Z O H Q rs hs hp=>
 (ze6 ag S hf).wp (YC S hm hi hg hc he M0 F U Z O H Q rs hs hp)
def SD(X:Cx)(mp:Ac)(e:Expr)(f:EM (Ad)):Prop:=∀(M0:Ae)(F:Fp)(U:Gv)(Z:Nu)(O:St)(H:Hp)(Q:VK),RS M0 F U Z H->Sees mp Z O ->
 EPost M0 F Z O H (λF' U' H' ds=>∀ ks p,KR (MM M0 F') H' ks ds->H' p=none->Q (.ref p) (upd H' p (.dK (ks.map kK)))) (f U)->wpE X e O H Q
def SDt(mp:Ac)(t:TE)(f:EM (Ad)):Prop:=∀(M0:Ae)(F:Fp)(U:Gv)(Z:Nu)(O:St)(H:Hp)(Q:VK),RS M0 F U Z H->Sees mp Z O ->
 EPost M0 F Z O H (λF' U' H' ds=>∀ ks p,KR (MM M0 F') H' ks ds->H' p=none->Q (.ref p) (upd H' p (.dK (ks.map kK)))) (f U)->t O H Q
def KR.stp(h:KR (MM M0 F) H ks ds)(s:Stp F H F' H')(h0:∀ a,M0 a->H a≠none):KR (MM M0 F') H' ks ds:=h.map λ_ _ x=>qf s h0 x
def itD(ek ev:EM FV):EM (Str×PyData):=λU=>(ek U).bind λ(u,U1)=>match derf U1 u with
 |some (.str x)=>(ev U1).bind λ(w,U2)=>match derS U2 w with
  |some y=>.ok ((x,y),U2)
  |none=>.bad
 |_=>.bad
def vP:zcN zgh (λ(ys:Ad)(y:Str×PyData)=>zW ys y.1 y.2) (λM0 F H kvs ys=>∃ ks,kvs=ks.map kK/\KR (MM M0 F) H ks ys) (λM0 F H (u:Key×V) (y:Str×PyData)=>u.1=.inr y.1/\Rep (MM M0 F) H u.2 y.2) List.length where
 stp:=λ⟨ks,e,r⟩ s h0=>#[ks,e,KR.stp r s h0]
 add:=λ{M0 F H x y u d} ⟨ks,e,r⟩ ⟨q1,q2⟩=>#[zW ks d.1 u.2,by rw[e,<- yC,<- q1],r.put d.1 q2]
 bst:=λ⟨q1,q2⟩ s h0=>#[q1,qf s h0 q2]
 len:=λ⟨ks,e,r⟩=>by rw[e];show (ks.map kK).length=_;rw[xl,r.length]
 lin y d:=wf y d.1 d.2
 eqv:=λ⟨ks,e,r⟩ h=>#[ks,e,r.map λ_ _ x=>Rep.eqv h x]
 mm:=λe ⟨ks,e',r⟩=>#[ks,e',by rw[<- e];exact r]
def eD(X:Cx)(N':Ab)(scope:Scope)(kx vx:Expr)(O0:St):St->Hp->(Key×V->Hp->Prop)->Prop:=YJ (eU X N' scope kx O0) (eU X N' scope vx O0)
private def fCompD(n k:Nat)(t:IT)(src:EM (Aa×Option (Option Nat)))(cond:EM Bool)(ek ev:EM FV):EM (Ad):=λU=>(src U).bind λ(z,U1)=>if z.1.length<=1000000/\U1.length=n then hid z.2 (loopG k t cond (itD ek ev) (λys y=>zW ys y.1 y.2) z.1 []) U1 else .bad
def zck{kx vx:Expr}(ag:X.calm=true)(S:CSc X.env.scope X.N scope N' k ix)(hf:∀ x,foldedSetIterable iter X.env x=pure x) :
  PE X (.DictComp kx vx [#[tg,iter,ifs,0]] scope pos) (vm k ix (wpI X tg iter) (gU X N' scope tg) (fU X N' scope ifs) (eD X N' scope kx vx)) :=
 ze5 ag S JA (λ_ cl C s2 H2 fp pins s O H v u Q I r h=>h cl C s2 H2 fp pins s u I r) (λ_ cl C s2 H2 fp pins s O H Q I h=>h cl C s2 H2 fp pins s I)
  (λ_ cl C s2 H2 fp pins s O H Q I h=>h cl C s2 H2 fp pins s I) (λ_ cl C s2 H2 fp pins s O H Q I h=>h cl C s2 H2 fp pins s I) hf
def ziH(hk:∀ cl C s2 H2 fp,SE ⋯ mp' kx ek)(hv:∀ cl C s2 H2 fp,SE ⋯ mp' vx ev){Q:Key×V->Hp->Prop}(rs:RS M0 F U Z H)(hs:Sees mp' Z O)
  (hp:EPost M0 F Z O H (λF' U' H' d=>∀ y:Key×V,(y.1=.inr d.1/\Rep (MM M0 F') H' y.2 d.2)->Q y H') (itD ek ev U)):eD X N' scope kx vx O0 O H Q:=λcl C s2 H2 fp=>
 (hk cl C s2 H2 fp).run rs hs hp λF1 U1 H1 u v rs1 s1 o1 h1=>by
  delta h1 x ex
  cases o1.weak rs1 ex
  intro cl C s2 H2 fp
  erw[(hv cl C s2 H2 fp).run rs1 hs h1 λF2 U2 H2 w v2 rs2 s2 o2 h2=>?_]
  delta h2 y ey
  exact#[.inr x,rfl,h2 F2 H2 rs2 (.refl _ _) (.inr x,v2) #[rfl,o2.strong rs2 ey]]
def zhA{kx vx:Expr}{N':Ab}{scope:Scope}{n k:Nat}{ix:Ac}{t:IT}{src:EM (Aa×Option (Option Nat))}{cond:EM Bool}{ek ev:EM FV}(ag:X.calm=true)(S:CSc X.env.scope X.N scope N' k ix)(hm:∀ j i:Nat,ix[j]?=some i->∃ m,mp[i]?=some m/\m<n)
  (hi:SIw X mp tg iter src) (hg:∀ cl C s2 H2 fp,SG ⋯ (mpC mp n k ix) (·<n) tg t) (hc:∀ cl C s2 H2 fp,SF ⋯ (mpC mp n k ix) ifs cond) (hk:∀ cl C s2 H2 fp,SE ⋯ (mpC mp n k ix) kx ek) (hv:∀ cl C s2 H2 fp,SE ⋯ (mpC mp n k ix) vx ev)
  (hf:∀ x,foldedSetIterable iter X.env x=pure x):SD X mp (.DictComp kx vx [#[tg,iter,ifs,0]] scope pos) (fCompD n k t src cond ek ev):=λM0 F U Z O H Q rs hs hp=>
 zgb ((zck ag S hf).wp (hi M0 F U Z O H _ rs hs (hp.seq.mono λF1 U1 H1 z rs1 s1 h1 J Hf hJ=>by
  delta h1 hh
  exact zk7 vP hm S.len (λ_ _ _=>#[[],rfl,.nil]) rfl hg hc (λM0 F U Z O1 H Q rs hs hp=>ziH hk hv rs hs hp) rs1 hs hJ hh.1 hh.2 (h1.mono λF' U' H' ys cq s' hP vs p ⟨ks,e,r⟩ au=>by rw[e];exact hP ks p r au))))
def zfs{kx vx:Expr}{N':Ab}{scope:Scope}{n k:Nat}{ix:Ac}{t:IT}{src:EM (Aa)}{cond:EM Bool}{ek ev:EM FV}(S:CSc X.env.scope X.N scope N' k ix)(hm:∀ j i:Nat,ix[j]?=some i->∃ m,mp[i]?=some m/\m<n)
  (hi:SI X mp tg iter src) (hg:∀ cl C s2 H2 fp,SG ⋯ (mpC mp n k ix) (·<n) tg t) (hc:∀ cl C s2 H2 fp,SF ⋯ (mpC mp n k ix) ifs cond) (hk:∀ cl C s2 H2 fp,SE ⋯ (mpC mp n k ix) kx ek) (hv:∀ cl C s2 H2 fp,SE ⋯ (mpC mp n k ix) vx ev) :
  SDt mp (vm k ix (wpI X tg iter) (gU X N' scope tg) (fU X N' scope ifs) (eD X N' scope kx vx)) (fCompD n k t (fStd src) cond ek ev):=by?
 unfold fCompD fStd at hp
 rw[R.bind_assoc]at hp
 erw[hi M0 F U Z O H _ rs hs (hp.seq.mono λF1 U1 H1 ds rs1 s1 h1 J hJ=>?_)]
 simp only[R.bind,hid]at h1
 delta h1 hh
 exact jk vP hm S.len #[[],rfl,.nil] rfl hg hc (λM0 F U Z O1 H Q rs hs hp=>ziH hk hv rs hs hp) rs1 hs hJ hh.1 hh.2 h1 λF' U' H' ys vs cq ⟨ks,e,r⟩ hP _ p au=>by
  rw[e];exact hP ks p r au
def zfn{kx vx:Expr}{pos' spos:Pos}(hN:X.N.Nodup)(bx:X.N[i]?=some x)(hx:Loc X.env.scope x)(ag:X.calm=true)(S:CSc X.env.scope X.N scope N' k ix)
  (b8:swapsWith (.DictComp kx vx [#[tg,iter,ifs,0]] scope pos) (some (.Name x pos')) spos.line X.env=pure true) (hs:∀ x,foldedSetIterable iter X.env x=pure x) (hf:X.fn x=true∨X.env.scope.names.lookup x=some .local) :
  PS X (.Assign [.Name x pos'] (.DictComp kx vx [#[tg,iter,ifs,0]] scope pos) spos) (yL (vm k ix (wpI X tg iter) (gU X N' scope tg) (fU X N' scope ifs) (eD X N' scope kx vx)) (WH i)) :=
 zfm hN bx hx ag S JA (λ_ cl C s2 H2 fp pins s O H v u Q I r h=>h cl C s2 H2 fp pins s u I r) (λ_ cl C s2 H2 fp pins s O H Q I h=>h cl C s2 H2 fp pins s I)
  (λ_ cl C s2 H2 fp pins s O H Q I h=>h cl C s2 H2 fp pins s I) (λ_ cl C s2 H2 fp pins s O H Q I h=>h cl C s2 H2 fp pins s I) b8 hs hf
end
end L3
namespace L2
open PySem PySem.Spec PyProof.Rows
variable [Cs]
def zkM(tk tv:TE):TE:=λO H Q=>tk O H λx H1=>tv O H1 λy H2=>∃ k:Key,x=kV k/\∀ p,H2 p=none->Q (.ref p) (upd H2 p (.dK [(k,y)]))
def ze7(hk:PE X k tk)(hv:PE X v tv):PE X (.Dict [some k] [v] pos) (zkM tk tv):=by
 intro pins s O H Q I q
 let hn:=I.hok.fresh (xh ⇑s)
 let e0:(s.heap.push { cls:=.type "dict",data:=.dict (List.toArray []) }).get? ⇑s=some { cls:=.type "dict",data:=.dict (List.toArray []) }:=x8 _ rfl
 let I0:Inv X pins O H { s with heap:=s.heap.push { cls:=.type "dict",data:=.dict (List.toArray []) } }:=I.kept (t':=s.toks) λb o e=>x4 _ e
 let I1:=I0.pinned (fp:= [⇑s]) (λb hb=>by
  let e:b=⇑s:= ~~~hb
  subst e
  exact I.fpOk (xh _) hn) (λb hb=>by
  let e:b=⇑s:= ~~~hb
  subst e
  exact#[_,e0,λv z=>by cases z])
 refine wpAny_Dict_walk (knd:=qC X.prog X.w) rfl rfl (by simp) (by simp) (pairTrees_cons_walk (thn (hk _ _ O _ _ I1 q) λkv s2 ⟨x,H1,I2,rx,q1⟩=>thn (hv _ _ O _ _ I2 q1) λvv s3 ⟨y,H2,I3,ry,kk,ek,q2⟩=>pairTrees_nil_walk ?_))
 let hm:=j3 (fp:= [⇑s]) (by simp) e0
 let(p1,p2,_):=I3.pin _ (xz _ (xz _ hm))
 let I4:Inv X pins O H2 s3:=I3.unpinned
 subst ek
 refine#[[(kk,vv)],#[WO rx,rfl,True.intro],⟨_,(List.toArray []),0,p1,⟨rfl,rfl,rfl⟩,rfl,λ_ he=>by simp at he,Pairs.nil,List.nodup_nil⟩,λh' dd hs=>#[.ref ⇑s,_,?_,rfl,q2 _ p2]]
 let em:merged [] [(kk,vv)]= [(kk,vv)]:=rfl
 rw[em]at dd
 let I5:Inv X pins O H2 { s3 with heap:=h',toks:=s3.toks+ [(kv,vv)].length }:=I4.turned (it:=⇑s) (λb o hb e=>(hs.2 b hb).trans e) p2 (Ne.symm (xj I.lt)) (.inr I.sz)
  (λx c e=>by
   let(v,ob,bu,_):=I.cell x c e
   exact xj (x5 bu)) (λp hp=>xj (x5 (I.pin p hp).1))
 exact I5.track I.sz p2 (Ne.symm (xj I.lt)) (λx c e=>by
   let(v,ob,bu,_):=I.cell x c e
   exact xj (x5 bu)) (λp hp=>xj (x5 (I.pin p hp).1)) (WC (by show 1<=sizeLine;decide) (x9.mpr (Ne.symm (xj I.big))) (.cons #[rfl,ry] .nil) dd)
def zhc:OpR X (binaryOp .Mult) (λx y H Q=>∃ l xs k,x=.ref l/\y=.int k/\H l=some (.lst xs)/\0<=k/\k<=1000000/\xs.length=1/\∀ p,H p=none->Q (.ref p) (upd H p (.lst (List.replicate k.toNat xs).flatten))):=by
 intro pins s O H x y v u Q I rx ry h
 let(l,xs,k,rfl,rfl,hH,h0,h1,hx,q):=h
 cases rx
 let(t,rfl):=ry
 let(z,ab,n,r,e):=(show ObjOk X.prog X.w H s.heap l (.lst xs) from I.hok l _ hH)
 let hl:ab.length=1:=by rw[<- r.length,hx]
 let hsz:ab.toArray.size=1:= ~~~hl
 let ax:ab.toArray.isEmpty=false:=by simp[<- List.length_eq_zero_iff,hl]
 refine wpAny_binaryOp_repeat_ref (T:= "list") (U:= "int") (by decide) #[_,e,rfl] (λs'=>typeIs_int s' k t) noFill_list_mul F.fills_int_mul F.slot_int_rmul repeat_list F.slot_int_index.lookup
  (call_meets F.slot_int_rmul (typeIs_int s k t) F.entry_int_rmul (F.args_int_rmul_2 _ _) (int___rmul___int_list k t l ab.toArray n)
   ⟨e,rfl,⟨_,e,rfl⟩,call_meets F.slot_list_mul ⟨_,e,rfl⟩ F.entry_list_mul (F.args_list_mul_2 _ _)
    (AutoListH.list___mul___list_int_3 l ab.toArray n k t (by simp[Builtin.List.listFitsIndex];lia) (by rw[hsz];lia) (by rw[hsz];simp[Builtin.List.listTooLong,sizeLine];lia)) #[e,?_]⟩)
 let bg:List.foldl (λx1 x2=>x1++x2) (List.toArray []) (List.replicate (if ab.toArray.isEmpty=true then 0 else k.toNat) ab.toArray)=(List.replicate k.toNat ab).flatten.toArray:=by
  rw[ax,if_neg (by decide)]
  have:=JV ab k.toNat []
  rw[uO]at this
  erw[this]
 rw[bg]
 refine#[.ref ⇑s,_,I.laid (λb u e=>x4 _ e) (xh _) ?_,rfl,q _ (I.hok.fresh (xh _))]
 exact#[by rw[yt,hx,Xe];lia,_,0,r.rep k.toNat,x8 _ rfl]
end L2
namespace L3
open PySem PySem.Spec PyProof.Rows L2
def ixF:Ab->Str->Option Nat
 |[],_=>none
 |n::ns,f=>if n=f then some 0 else (ixF ns f).map (·+1)
def yi:∀{fs:List (Str×V)}{j:Nat},ixF (fs.map (·.1)) f=some j->(∃ v,fs[j]?=some (f,v)/\fs.lookup f=some v)/\∀ y,jy f y fs=fs.set j (f,y)
 |[],j,h=>by cases h
 | (n,v)::fs,j,h=>by
  rw[xr,ixF]at h
  split at h
  next hn=>
   cases h
   let hn':=hn
   subst hn'
   exact#[#[v,rfl,by simp],λy=>by simp[jy]]
  next hn=>
   let hn':=hn
   cases e:ixF (fs.map (·.1)) f with
   |none=>rw[e]at h;cases h
   |some k=>
    rw[e]at h
    cases h
    let((w,h1,h2),h3):=yi e
    refine#[#[w,~~~h1,?_],λy=>?_]
    ·rw[xy,x9.mpr (λz=>hn' z.symm)];exact h2
    ·rw[jy,if_neg hn',h3 y];rfl
def yj:∀{fs:List (Str×V)},ixF (fs.map (·.1)) f=none->fs.lookup f=none/\∀ y,jy f y fs=fs++ [(f,y)]
 |[],h=>#[rfl,λy=>rfl]
 | (n,v)::fs,h=>by
  rw[xr,ixF]at h
  split at h
  ·cases h
  next hn=>
   let hn':=hn
   cases e:ixF (fs.map (·.1)) f with
   |some k=>rw[e]at h;cases h
   |none=>
    let(h1,h2):=yj e
    refine#[by rw[xy,x9.mpr (λz=>hn' z.symm)];exact h1,λy=>?_]
    rw[jy,if_neg hn',h2 y];rfl
variable [Cs]
def ORL.at':∀{vs:List V}{xs:List OV}{A:List Ap}{j:Nat}{x:OV},ORL M H vs xs A->xs[j]?=some x->∃ v A1 B A2,vs[j]?=some v/\OR M H v x B/\A=A1++(B++A2) /\
  ∀(M':Ae)(H':Hp)(v':V)(x':OV)(B':List Ap),(∀ w d,Rep M H w d->Rep M' H' w d)->(∀ c xs,H c=some (.tup xs)->H' c=some (.tup xs))->(∀ b∈A1++A2,H' b=H b)->OR M' H' v' x' B'->ORL M' H' (vs.set j v') (xs.set j x') (A1++(B'++A2))
 |_,_,_,_,_,.nil,e=>by simp at e
 |_,_,_,0,x,.cons (A:=A) (B:=B) r t,e=>by
  simp at e
  subst e
  exact#[_,[],A,B,rfl,r,rfl,λM' H' v' x' B' hr ht hk q=>ORL.cons (B:=B) q (t.go hr ht λb hb=>hk b (~~~hb))]
 |_,_,_,j+1,x,.cons (A:=A) r t,e=>by
  let(v,A1,C,A2,h1,h2,h3,h4):=ORL.at' (j:=j) t (~~~e)
  refine#[v,A++A1,C,A2,~~~h1,h2,by rw[h3];simp,λM' H' v' x' B' hr ht hk q=>?_]
  have:=ORL.cons (r.go hr ht λb hb=>hk b (by simp[hb])) (h4 M' H' v' x' B' hr ht (λb hb=>hk b (by grind)) q)
  simpa using this
section
variable {M0:Ae}{F F':Fp}{U:Gv}{Z:Nu}{H:Hp}{c:Str}{ns:Ab}{xs:List OV}
def WT(rs:RS M0 F U Z H)(e:U[i]?=some (some (.o c ns xs))):∃ a dx fs A,Z[i]?=some (some (.ref a))/\H a=some (.ins (Cs.adr c) dx fs)/\fs.map (·.1)=ns/\ORL (MM M0 F) H (fs.map (·.2)) xs A/\F i=a::A:=by
 let(v,ev,q):=rs.at' i _ e
 generalize hA:F i=A at q
 cases q with
 |o ea k qa=>exact#[_,_,_,_,ev,ea,k,qa,rfl]
def zeY(h:Z[i]?=some (some v)):Z.set i (some v)=Z:=by
 apply xU
 intro k
 by_cases hk:i=k
 ·subst hk;rw[xn (xa.mp h).1,h]
 ·rw[xg hk]
def RS.wrO{u:HO}{o:OV}(r:RS M0 F U Z H)(hi:i<U.length)(hv:Z[i]?=some (some v))(hb:b∈F i)(hu:∀ xs,H b≠some (.tup xs))(a8:∀ a∈A,a∈F i)(hnd:A.Nodup)
  (q:(∀ w d,Rep (MM M0 F) H w d->Rep (MM M0 (fset F i A)) (upd H b u) w d)->(∀ c xs,H c=some (.tup xs)->upd H b u c=some (.tup xs))->OR (MM M0 (fset F i A)) (upd H b u) v o A) :
  ∃ F',RS M0 F' (U.set i (some o)) Z (upd H b u)/\Stp F H F' (upd H b u):=by
 let ht:∀ c xs,H c=some (.tup xs)->upd H b u c=some (.tup xs):=λc xs e=>by
  rw[zI (λz=>by subst z;exact hu xs e)];exact e
 let s:Stp F H (fset F i A) (upd H b u):=⟨λc o ec nc=>⟨by
   rw[zI (λz=>by subst z;exact nc i hb)];exact ec,λk h=>by
   by_cases hk:k=i
   ·subst hk;rw[zL]at h;exact nc _ (a8 _ h)
   ·rw[zP hk]at h;exact nc _ h⟩,ht,λc h=>by
   by_cases z:c=b
   ·subst z;rw[zK];exact λz=>nomatch z
   ·rw[zI z];exact h⟩
 let r1:=r.put s (λk hk c hc=>zI λz=>by subst z;exact hk (r.dis _ _ _ hc hb))
  (λc h=>s.stay c (r.al0 c h)) (λa ha=>r.dis0 i a (a8 a ha)) hnd (λk hk c hc h=>hk (r.dis _ _ c h (a8 c hc))) hi (q (λw d x=>qf s r.al0 x) ht)
 rw[zeY hv]at r1
 exact#[_,r1,s]
def RS.lessO{o:OV}(r:RS M0 F U Z H)(hi:i<U.length)(hv:Z[i]?=some (some v))(a8:∀ a∈A,a∈F i)(hnd:A.Nodup)
  (q:(∀ w d,Rep (MM M0 F) H w d->Rep (MM M0 (fset F i A)) H w d)->OR (MM M0 (fset F i A)) H v o A):RS M0 (fset F i A) (U.set i (some o)) Z H/\Stp F H (fset F i A) H:=by
 let s:Stp F H (fset F i A) H:=JG λk a h=>by
  by_cases hk:k=i
  ·subst hk;rw[zL]at h;exact#[_,a8 _ h]
  ·rw[zP hk]at h;exact#[_,h]
 let r1:=r.put s (λ_ _ _ _=>rfl) r.al0 (λa ha=>r.dis0 i a (a8 a ha)) hnd (λk hk c hc h=>hk (r.dis _ _ c h (a8 c hc))) hi (q (λw d x=>qf s r.al0 x))
 rw[zeY hv]at r1
 exact#[r1,s]
end
structure Wa(X:Cx)(c f:Str):Prop where
 cl:Cls X.K (Cs.adr c)
 no:NoAttr X.K (Cs.adr c) f
def objF(U:Gv)(i:Nat)(c f:Str):Option OV:=match U[i]? with
 |some (some (.o c' ns xs))=>if c'=c then (ixF ns f).bind λj=>xs[j]? else none
 |_=>none
section
variable {X:Cx}{mp io:Ac}{a b e:Expr}{pos p p2 p3:Pos}{fo:EM OV}{c f x:Str}{s i:Nat}{M0:Ae}{F:Fp}{U:Gv}{Z:Nu}{O:St}{H:Hp}
def Yt(h:objF U i c f=some o):∃ ns xs j,U[i]?=some (some (.o c ns xs))/\ixF ns f=some j/\xs[j]?=some o:=by
 unfold objF at h
 split at h
 next c' ns xs e=>
  split at h
  next hc=>
   subst hc
   cases q:ixF ns f with
   |none=>rw[q]at h;cases h
   |some j=>rw[q]at h;exact#[ns,xs,j,e,q,h]
  ·cases h
 ·cases h
structure FldAt(M0:Ae)(F:Fp)(U:Gv)(Z:Nu)(H:Hp)(i:Nat)(c f:Str)(o:OV)(v:V):Prop where
 ex:∃ a dx fs ns xs j A1 B A2,U[i]?=some (some (.o c ns xs))/\Z[i]?=some (some (.ref a))/\H a=some (.ins (Cs.adr c) dx fs)/\fs.map (·.1)=ns/\ixF ns f=some j/\xs[j]?=some o/\fs[j]?=some (f,v)/\OR (MM M0 F) H v o B/\F i=a::(A1++(B++A2)) /\
  ∀(M':Ae)(H':Hp)(v':V)(x':OV)(B':List Ap),(∀ w d,Rep (MM M0 F) H w d->Rep M' H' w d)->(∀ c xs,H c=some (.tup xs)->H' c=some (.tup xs))->(∀ b∈A1++A2,H' b=H b)->OR M' H' v' x' B'->ORL M' H' ((fs.set j (f,v')).map (·.2)) (xs.set j x') (A1++(B'++A2))
def J8(n:NmK X mp s i x)(K:Wa X c f)(rs:RS M0 F U Z H)(hs:Sees mp Z O)(h:objF U i c f=some o)(q:∀ v,FldAt M0 F U Z H i c f o v->Q v H):wpE X (.Attribute (.Name x p) f p2) O H Q:=by
 let(ns,xs,j,e,hj,hx):=Yt h
 let(a,dx,fs,A,ev,ea,hk,qa,hF):=WT rs e
 subst hk
 let((v,h1,h2),h3):=yi hj
 let(v',A1,B,A2,g1,g2,g3,g4):=qa.at' hx
 rw[xf,h1]at g1
 cases g1
 refine (ze9 (qG n.hN n.hv n.hd n.hcd) rfl).wp #[.ref a,hs s i _ n.hm ev,a,_,dx,fs,v,rfl,ea,K.cl,K.no,h2,q v #[a,dx,fs,_,xs,j,A1,B,A2,e,ev,ea,rfl,hj,hx,h1,g2,by rw[hF,g3],λM' H' v' x' B' hr ht hk q=>?_]]
 rw[ua]
 erw[g4 M' H' v' x' B' hr ht hk q]
private def fFdat(i:Nat)(c f:Str):EM FV:=λU=>match objF U i c f with
 |some (.d x)=>.ok (.dat x,U)
 |_=>.bad
def zhG(n:NmK X mp s i x)(K:Wa X c f):SE X mp (.Attribute (.Name x p) f p2) (fFdat i c f):=by?
 unfold fFdat at hp
 delta hp y e
 erw[J8 n K rs hs e λv hv=>?_]
 let(a,dx,fs,ns,xs,j,A1,B,A2,_,_,_,_,_,_,_,q,_,_):=hv.ex
 cases q with
 |d q=>erw[hp F H rs (.refl _ _) v q]
private def fFlen(i:Nat)(c f:Str):EM FV:=λU=>match objF U i c f with
 |some (.l xs)=>.ok (.dat (.int xs.length),U)
 |_=>.bad
def zhI (B:BiK X y (.builtin "len")) (n:NmK X mp s i x) (K:Wa X c f):SE X mp (.Call (.Name y p3) [.Attribute (.Name x p) f p2] [] pos) (fFlen i c f):=by?
 unfold fFlen at hp
 delta hp ys e
 erw[(ZO ν4 B.gl B.mg B.bt (zX zF pa_nil rfl) B.n B.d rfl rfl).wp (J8 n K rs hs e λv hv=>?_)]
 let(a,dx,fs,ns,xs,j,A1,B,A2,_,_,_,_,_,_,_,q,_,_):=hv.ex
 cases q with
 |l eb qb=>exact#[_,_,rfl,.inl (SqL.of eb),by rw[qb.length];exact hp F H rs (.refl _ _) _ (Rep.int _)]
private def fFtru(i:Nat)(c f:Str):EM Bool:=λU=>match objF U i c f with
 |some (.l xs)=>.ok (!xs.isEmpty,U)
 |_=>.bad
def zid(n:NmK X mp s i x)(K:Wa X c f):ST X mp (.Attribute (.Name x p) f p2) (fFtru i c f):=by?
 unfold fFtru at hp
 delta hp ys e
 erw[(Yw zF (λ_=>rfl)).wp (J8 n K rs hs e λv hv=>?_)]
 let(a,dx,fs,ns,xs,j,A1,B,A2,_,_,_,_,_,_,_,q,_,_):=hv.ex
 cases q with
 | @l b us _ A' eb qb=>
  let he:(!ys.isEmpty)= !us.isEmpty:=by cases qb<;>rfl
  exact#[_,.inl #[_,SqL.of eb,he],hp F H rs (.refl _ _)]
private def fFlast(i:Nat)(c f:Str):EM FV:=λU=>match objF U i c f with
 |some (.l xs)=>match xs.getLast? with
  |some (.d x)=>.ok (.dat x,U)
  |_=>.bad
 |_=>.bad
def zfw(n:NmK X mp s i x)(K:Wa X c f):SE X mp (.Subscript (.Attribute (.Name x p) f p2) (.UnaryOp .USub (.Constant (.int 1) cj p4) p5) pos) (fFlast i c f):=by?
 unfold fFlast at hp
 delta hp ys e
 delta hp y ey
 erw[(zfb ix_list zF (zfe zf1 pe_int) (λ_ _=>rfl)).wp (J8 n K rs hs e λv hv=>?_)]
 let(a,dx,fs,ns,xs,j,A1,B,A2,_,_,_,_,_,_,_,q,_,_):=hv.ex
 cases q with
 | @l b us _ A' eb qb=>
  let hl:=qb.length
  rw[List.getLast?_eq_getElem?,<- hl]at ey
  let(w,hw,a6):=qb.get ey
  let Bw:atI us (-1)=some w:=by
   let gf:0<us.length:=by have:=(xa.mp hw).1;lia
   let e1:us.dropLast++ [w]=us:=by
    let h2:us.getLast?=some w:=by grind
    let ax:us≠ []:=λz=>by rw[z]at gf;simp at gf
    let h3:us.getLast ax=w:=by rw[List.getLast?_eq_some_getLast ax]at h2;exact Option.some.inj h2
    rw[<- h3];exact List.dropLast_concat_getLast ax
   rw[<- e1];exact zc6 _ _
  exact#[1,rfl,b,us,-1,w,rfl,rfl,SqL.of eb,Bw,hp F H rs (.refl _ _) w a6]
def RS.absorb{o o':OV}{H':Hp}(r:RS M0 F (U++ [some o]) (Z++ [some v]) H)(hi:i<U.length)(hw:Z[i]?=some (some w))(a8:∀ b∈A',b∈F i∨b∈F U.length)(hnd:A'.Nodup)
  (hH:∀ b u,H b=some u->b∉F i->H' b=some u) (af:∀ b,H b≠none->H' b≠none) (ht:∀ b xs,H b=some (.tup xs)->H' b=some (.tup xs))
  (q:∀ F',Stp F H F' H'->OR (MM M0 F') H' w o' A'):∃ F',RS M0 F' (U.set i (some o')) Z H'/\Stp F H F' H':=by
 let hl:Z.length=U.length:= ~~~r.len
 let sub:∀ j b,b∈(if j=i then A' else F j)->∃ k,b∈F k/\(k=j∨j=i/\k=U.length):=λj b h=>by
  split at h
  ·subst j
   rcases a8 b h with h | h
   ·exact#[_,h,.inl rfl]
   ·exact#[_,h,.inr #[rfl,rfl]]
  ·exact#[_,h,.inl rfl]
 refine r.of (λj=>if j=i then A' else F j) (λF' h=>#[λb u e n=>#[hH b u e (n i),λj hj=>?_],ht,af]) (λj a h=>?_) (λj=>?_) (λj k o p a e1 e2 h1 h2=>?_) (λF' _ s j p e=>?_) (by simp[hl])
 ·let(k,z,_):=sub j b (h j b hj)
  erw[n k z]
 ·let(k,z,_):=sub j a h
  erw[r.dis0 k a z]
 ·split
  ·erw[hnd]
  ·erw[r.nd _]
 ·let(x,z1,c1):=sub j a h1
  let(y,z2,c2):=sub k a h2
  have:=r.dis _ _ a z1 z2
  have:=(xa.mp e1).1
  have:=(xa.mp e2).1
  simp at *
  lia
 ·split
  ·subst j
   rw[xn hi]at e
   cases e
   exact#[w,hw,q F' s]
  next hj=>
   rw[xg (Ne.symm hj)]at e
   let hjl:=(xa.mp e).1
   let(u,e1,z):=r.at' j p (by rw[xc hjl];exact e)
   rw[xc (by lia)]at e1
   refine#[u,e1,z.go (λ_ _ x=>qf s r.al0 x) s.tups λb hb=>?_]
   let(y,ey):=z.laid b hb
   rw[ey]
   erw[hH b y ey λz=>hj (r.dis _ _ b hb z)]
def setO(c:Str)(ns:Ab)(xs:List OV)(f:Str)(o:OV):OV:=match ixF ns f with
 |some j=>.o c ns (xs.set j o)
 |none=>.o c (ns++ [f]) (xs++ [o])
private def sFset(i:Nat)(c f:Str)(fo:EM OV):SM:=λU=>(fo U).bind λ(o,U1)=>match U1[i]? with
 |some (some (.o c' ns xs))=>if c'=c/\ns.length<100 then .ok (.next,U1.set i (some (setO c ns xs f o))) else .bad
 |_=>.bad
def zib(n:NmK X mp s i x)(K:Wa X c f)(h:SO X mp e fo)(b8:swapsWith e (some (.Attribute (.Name x p) f p2)) pos.line X.env=pure false):SS X mp io (.Assign [.Attribute (.Name x p) f p2] e pos) (sFset i c f fo):=λM0 F U Z O H D rs hs hl hp=>by
 erw[(zj4 (qG n.hN n.hv n.hd n.hcd) zF b8).wp (h M0 F U Z O H _ rs hs ((SPost.seqO hs hl hp).mono λF1 U1 H1 o v rs1 s1 h1=>?_))]
 delta h1 c' ns xs e
 delta h1 hh
 let(rfl,ay):=hh
 let hi:=(xa.mp e).1
 have hlν:Z.length=U1.length:=by have:=rs1.len;simp at this;exact this
 let(a,dx,fs,A,ev,ea,hk,qa,hF):=WT rs1 (by rw[xc hi];exact e)
 rw[xc (by lia)]at ev
 subst hk
 let(w,ew,qo):=rs1.at' U1.length o (by grind)
 let Fc:w=v:=by
  rw[xp (by lia),hlν]at ew
  simpa using ew.symm
 subst Fc
 let ax:∀ b,b∈F1 U1.length->b∉F1 i:=λb h1 h2=>by have:=rs1.dis _ _ b h1 h2;lia
 let hnd:=rs1.nd i
 rw[hF]at hnd
 let(hnA,i9):=xB.mp hnd
 refine#[.ref a,hs s i _ n.hm ev,a,_,dx,fs,rfl,ea,K.cl,K.no,by rw[xl]at ay;lia,?_]
 let hH:∀ b u,H1 b=some u->b∉F1 i->upd H1 a (.ins (Cs.adr c') dx (jy f w fs)) b=some u:=λb u eb nb=>by
  rw[zI (λz=>nb (by rw[hF,z];exact xA))];exact eb
 let af:∀ b,H1 b≠none->upd H1 a (.ins (Cs.adr c') dx (jy f w fs)) b≠none:=λb hb=>by
  by_cases z:b=a
  ·subst z;rw[zK];exact λz=>nomatch z
  ·rw[zI z];exact hb
 let ht:∀ b xs,H1 b=some (.tup xs)->upd H1 a (.ins (Cs.adr c') dx (jy f w fs)) b=some (.tup xs):=λb xs eb=>by
  rw[zI (λz=>by subst z;rw[ea]at eb;cases eb)];exact eb
 have fin:∀(A':List Ap)(sv:Ab)(xs':List OV),(∀ b∈A',b∈A∨b∈F1 U1.length)->A'.Nodup->setO c' (fs.map (·.1)) xs f o=.o c' sv xs'->(jy f w fs).map (·.1)=sv ->
   (∀ M' H',(∀ w d,Rep (MM M0 F1) H1 w d->Rep M' H' w d)->(∀ c xs,H1 c=some (.tup xs)->H' c=some (.tup xs))->(∀ b,b≠a->H' b=H1 b)->ORL M' H' ((jy f w fs).map (·.2)) xs' A')->D.nx O (upd H1 a (.ins (Cs.adr c') dx (jy f w fs))):=λA' sv xs' a8 Ba c8 A7 Eb=>by
  let(F2,rs2,s2):=rs1.absorb hi ev (λb hb=>by
   grind) (xB.mpr ⟨λh=>by
   rcases a8 a h with h | h
   ·erw[hnA h]
   ·exact ax a h (by rw[hF];exact xA),Ba⟩) hH af ht λF' s'=>.o zK A7 (Eb _ _ (λ_ _ x=>qf s' rs1.al0 x) ht λb hb=>zI hb)
  rw[c8]at h1
  erw[h1 F2 Z O _ rs2 s2 hs hl λ_ _=>rfl]
 cases hj:ixF (fs.map (·.1)) f with
 |some j=>
  let((v0,h2,h3),h4):=yi hj
  let El:j<xs.length:=by
   rw[<- qa.length,xl];exact (xa.mp h2).1
  let(v',A1,B,A2,g1,g2,g3,g4):=qa.at' (xb El)
  let fw:∀ b,b∈A1++A2->b∈A:=λb hb=>by rw[g3];simp at hb |-;rcases hb with h | h<;>simp[h]
  refine fin (A1++(F1 U1.length++A2)) (fs.map (·.1)) (xs.set j o) (λb hb=>?_) ?_ (by unfold setO;rw[hj]) ?_ λM' H' hr om hk=>?_
  ·simp at hb
   rcases hb with h | h | h
   ·exact .inl (fw b (by simp[h]))
   ·erw[.inr h]
   ·exact .inl (fw b (by simp[h]))
  ·rw[g3]at i9
   let n1:=xH.mp i9
   let n2:=xH.mp n1.2.1
   erw[xH.mpr #[n1.1,xH.mpr #[rs1.nd _,n2.2.1,λx hx y hy z=>?_],λx hx y hy z=>?_]]
   ·subst z;exact ax x hx (by rw[hF];exact xt _ (fw x (by simp[hy])))
   ·subst z
    rcases xM.mp hy with h | h
    ·exact ax x h (by rw[hF];exact xt _ (fw x (by simp[hx])))
    ·erw[n1.2.2 x hx x (xz _ h) rfl]
  ·rw[h4 w,ua]
   let e1:(fs.map (·.1))[j]?=some f:=by rw[xf,h2];rfl
   apply xU
   intro k
   by_cases ia:j=k
   ·subst ia;rw[xn (xa.mp e1).1,e1]
   ·rw[xg ia]
  ·rw[h4 w,ua]
   erw[g4 M' H' w o _ hr om (λb hb=>hk b λz=>?_) (qo.go hr om λb hb=>hk b λz=>?_)]
   ·subst z;exact hnA (fw b hb)
   ·subst z;exact ax b hb (by rw[hF];exact xA)
 |none=>
  let(_,h4):=yj hj
  refine fin (A++F1 U1.length) (fs.map (·.1)++ [f]) (xs++ [o]) (λb hb=>xM.mp hb) ?_ (by unfold setO;rw[hj]) (by rw[h4 w];simp) λM' H' hr om hk=>?_
  ·exact xH.mpr #[i9,rs1.nd _,λx hx y hy z=>by subst z;exact ax x hy (by rw[hF];exact xt _ hx)]
  ·rw[h4 w,xv]
   exact ORL.snocO (qo.go hr om λb hb=>hk b λz=>by grind) (qa.go hr om λb hb=>hk b λz=>by subst z;exact hnA hb)
end
def updF(U:Gv)(i:Nat)(f:Str)(o:OV):Gv:=match U[i]? with
 |some (some (.o c ns xs))=>U.set i (some (setO c ns xs f o))
 |_=>U
section
variable {X:Cx}{mp io:Ac}{a b e:Expr}{pos p p2 pos' p3:Pos}{kx:Nat}{c f x:Str}{s i:Nat}{M0:Ae}{F:Fp}{U:Gv}{Z:Nu}{O:St}{H H':Hp}
def zgM(rs:RS M0 F U Z H)(h:objF U i c f=some o):∃ v,FldAt M0 F U Z H i c f o v:=by
 let(ns,xs,j,e,hj,hx):=Yt h
 let(a,dx,fs,A,ev,ea,hk,qa,hF):=WT rs e
 subst hk
 let((v,h1,h2),h3):=yi hj
 let(v',A1,B,A2,g1,g2,g3,g4):=qa.at' hx
 rw[xf,h1]at g1
 cases g1
 refine#[v,#[a,dx,fs,_,xs,j,A1,B,A2,e,ev,ea,rfl,hj,hx,h1,g2,by rw[hF,g3],λM' H' v' x' B' hr ht hk q=>?_]]
 rw[ua]
 erw[g4 M' H' v' x' B' hr ht hk q]
def FldAt.same(h:FldAt M0 F U Z H i c f o v)(h':FldAt M0 F U Z H' i c f o' v')(s:Same H H'):v=v':=by
 let(a,dx,fs,ns,xs,j,_,_,_,e1,e2,e3,_,e5,_,e7,_):=h.ex
 let(a',FI,FC,sv,xs',j',_,_,_,e1',CV,CU,_,CT,_,CQ,_):=h'.ex
 rw[e1]at e1';cases e1'
 rw[e2]at CV;cases CV
 rw[s _ _ e3]at CU;cases CU
 rw[e5]at CT;cases CT
 rw[e7]at CQ;cases CQ
 rfl
def FldAt.mut{o o':OV}{b:Ap}{u:HO}(h:FldAt M0 F U Z H i c f o (.ref b))(rs:RS M0 F U Z H)(hB:∀ B,OR (MM M0 F) H (.ref b) o B->B=b::Bs)(hu:∀ xs,H b≠some (.tup xs))(D0:∀ C dx fs,H b≠some (.ins C dx fs))
  (q:∀(M':Ae)(H':Hp),H' b=some u->(∀ w d,Rep (MM M0 F) H w d->Rep M' H' w d)->(∀ b'∈Bs,b'≠b->H' b'=H b')->(∀ c xs,H c=some (.tup xs)->H' c=some (.tup xs))->OR M' H' (.ref b) o' (b::Bs)) :
  ∃ F',RS M0 F' (updF U i f o') Z (upd H b u)/\Stp F H F' (upd H b u):=by
 let(a,dx,fs,ns,xs,j,A1,B,A2,e1,e2,e3,e4,e5,e6,e7,e8,e9,u5):=h.ex
 let eB:=hB B e8
 subst eB
 let hi:=(xa.mp e1).1
 let EL:b≠a:=λz=>by subst z;exact D0 _ _ _ e3
 let u0:b∈F i:=by rw[e9];simp
 let hnd:=rs.nd i
 let c8:updF U i f o'=U.set i (some (.o c ns (xs.set j o'))):=by
  unfold updF
  rw[e1]
  show U.set i (some (setO c ns xs f o'))=_
  unfold setO
  rw[e5]
 rw[c8]
 let Bm:fs.set j (f,.ref b)=fs:=by
  apply xU
  intro k
  by_cases hk:j=k
  ·subst hk;rw[xn (xa.mp e7).1,e7]
  ·rw[xg hk]
 erw[rs.wrO hi e2 u0 hu (λ_ h=>h) hnd λhr ht=>?_]
 rw[e9]at hnd
 let hndc:=xB.mp hnd
 let n1:=xH.mp hndc.2
 let n2:=xH.mp n1.2.1
 let A8:∀ b',b'∈A1++A2->b'≠b:=λb' hb' z=>by
  grind
 have:=u5 (MM M0 (fset F i (F i))) (upd H b u) (.ref b) o' (b::Bs) hr ht (λb' hb'=>zI (A8 b' hb')) (q _ _ zK hr (λb' _ ax=>zI ax) ht)
 rw[Bm]at this
 let e9':=e9
 generalize MM M0 (fset F i (F i))=MX at this |-
 rw[e9]
 exact .o (by rw[zI (Ne.symm EL)];exact e3) e4 this
def FldAt.lst(h:FldAt M0 F U Z H i c f (.l ys) v)(rs:RS M0 F U Z H)(hl:leaves ys=some ds):∃ b us,v=.ref b/\H b=some (.lst us)/\RepL (MM M0 F) H us ds /\
  ∀ ij dw,RepL (MM M0 F) H ij dw->∃ F',RS M0 F' (updF U i f (.l (dw.map .d))) Z (upd H b (.lst ij))/\Stp F H F' (upd H b (.lst ij)):=by
 let(a,dx,fs,ns,xs,j,A1,B,A2,e1,e2,e3,e4,e5,e6,e7,e8,e9,u5):=id h.ex
 cases e8 with
 | @l b us _ A' eb qb=>
  let(q1,q2):=qb.leaf hl
  subst q2
  refine#[b,us,rfl,eb,q1,λij dw r'=>h.mut rs (λB q=>?_) (λxs z=>by rw[eb]at z;cases z) (λC dx fs z=>by rw[eb]at z;cases z) λM' H' hb hr _ _=>.l hb (ORL.data (j9 hr r'))]
  cases q with
  | @l _ us2 _ A2 eb2 qb2=>
   rw[(qb2.leaf hl).2]
inductive IZ where
 |w (w:IW)
 |p (a b:IW)
def zD(U:Gv):IZ->Option PyData
 |.w w=>wD U w
 |.p a b=>match wD U a,wD U b with
  |some x,some y=>some (.tuple [x,y])
  |_,_=>none
def ZOk(X:Cx)(mp:Ac)(a:Expr)(z:IZ):Prop:=∀(M0:Ae)(F:Fp)(U:Gv)(Z:Nu)(O:St)(H:Hp)(x:PyData),RS M0 F U Z H->Sees mp Z O->zD U z=some x->∀ Q:VK,(∀ v H',Same H H'->Rep (MM M0 F) H' v x->Q v H')->wpE X a O H Q
def zmf(h:WOk X mp a w):ZOk X mp a (.w w):=λM0 F U Z O H x rs hs e Q k=>by
 let(v,r,q):=h M0 F U Z O H x rs hs e
 erw[q Q (k v H (Same.refl _) r)]
def zme(h1:WOk X mp a w1)(h2:WOk X mp b w2)(af:starEach [a,b] X.env=(false,eval a X.env)::starEach [b] X.env)(br:b⁻¹):ZOk X mp (.Tuple [a,b] kx pos) (.p w1 w2):=λM0 F U Z O H x rs hs e Q k=>by
 dsimp only [zD]at e
 split at e
 next x1 x2 e1 e2=>
  cases e
  let(v1,r1,q1):=h1 M0 F U Z O H x1 rs hs e1
  let(v2,r2,q2):=h2 M0 F U Z O H x2 rs hs e2
  refine (zfd (zX zF (zX zF pa_nil br) af)).wp (q1 _ (q2 _ #[by show 2<=sizeLine;decide,λp hn=>?_]))
  let sm:Same H (upd H p (.tup [v1,v2])):=qg hn
  erw[k _ _ sm (.tuple zK (.cons (r1.grow sm.grow) (.cons (r2.grow sm.grow) .nil)))]
 ·cases e
private def sFapp(i:Nat)(c f:Str)(z:IZ):SM:=λU=>match objF U i c f,zD U z with
 |some (.l ys),some x=>R.get (leaves ys) λds=>if ds.length<1000000 then .ok (.next,updF U i f (.l ((ds++ [x]).map .d))) else .bad
 |_,_=>.bad
def zia(n:NmK X mp s i x)(K:Wa X c f)(hz:ZOk X mp a z)(af:a⁻¹)(ah:(p3.endLine==pos.line)=true) :
  SS X mp io (.Expr (.Call (.Attribute (.Attribute (.Name x p) f p2) "append" p3) [a] [] pos) pos') (sFapp i c f z):=λM0 F U Z O H D rs hs hl hp=>by
 unfold sFapp at hp
 delta hp ys y e ez
 let(ds,ed,hp):=R.got id hp
 let(hlt,hp):=R.gif id hp
 refine (Qe (zar PySem.F.plainAttrs_list PySem.F.slot_list_append PySem.F.type_list_append Vr zF (zX zF pa_nil af) rfl (by rw[af];rfl) ah af rfl) rfl).wp (J8 n K rs hs e λv hv=>?_)
 let(b,us,rfl,eb,ru,_):=hv.lst rs ed
 refine#[.inl #[rfl,_,SqL.of eb],hz M0 F U Z O H y rs hs ez _ λv2 H2 sm r2=>?_]
 let(v',tj):=zgM (rs.same sm) e
 let ev:=hv.same tj sm
 subst ev
 let(b',ij,eq,u4,BZ,mu):=tj.lst (rs.same sm) ed
 cases eq
 refine#[b,ij,v2,rfl,rfl,u4,by have:=Xe;rw[BZ.length];lia,?_]
 let(F2,rs2,s2):=mu (ij++ [v2]) (ds++ [y]) (BZ.append (.cons r2 .nil))
 erw[hp F2 Z O _ rs2 ((Stp.same sm).trans s2) hs hl λ_ _=>rfl]
end
private def derD(U:Gv):FV->Option (Ad)
 |.dat (.dict kv)=>unD kv
 |.own i=>match U[i]? with
  |some (some (.m ds))=>some ds
  |some (@&(.dict kv))=>unD kv
  |_=>none
 |_=>none
def zeo(c f:Str):PyData->Option PyData
 |.dict ((.none,.str c')::kv)=>if c'=c then (unD kv).bind λfs=>zN fs f else none
 |_=>none
def wv{β:Type}(f:Str):∀(fs:List (Str×β)),fs.lookup f=zN fs f
 |[]=>rfl
 | (x,y)::r=>by
  rw[xy]
  unfold zN
  rw[xY]
  by_cases h:x=f
  ·subst h;simp
  ·let h':(f==x)=false:=by simpa using λz=>h z.symm
   rw[h']
   simp only[h,decide_false]
   erw[wv f r]
def Rep.tab(r:Rep M H v (.dict kv))(e:unD kv=some ds):∃ a ks,v=.ref a/\¬ M a/\Rd H a (.dK (ks.map kK))/\KR M H ks ds:=by
 obtain⟨a,rfl,n,h | h | h⟩:=r.dict_inv
 ·let(ks,dw,h1,rfl,h2):=h
  rw[zT]at e;cases e
  exact#[a,ks,rfl,n,h1,h2]
 ·let(_,_,_,_,_,rfl,_):=h
  cases e
 ·let(_,_,_,_,_,_,rfl,_):=h
  cases e
def RepL.strs:∀(ss:Ab),RepL M H (ss.map V.str) (ss.map .str)
 |[]=>.nil
 |x::r=>.cons (.str x) (RepL.strs r)
section
variable {X:Cx}{mp:Ac}{a b e:Expr}{pos p:Pos}{fa fb:EM FV}{ma:EM (Ad)}{cl f x:Str}{s i:Nat}{M0:Ae}{F:Fp}{U:Gv}{Z:Nu}{O:St}{H H':Hp}{u:FV}{v:V}
def FOk.dict(h:FOk M0 F Z H v u)(rs:RS M0 F U Z H)(e:derD U u=some ds):∃ a ks,v=.ref a/\Rd H a (.dK (ks.map kK))/\KR (MM M0 F) H ks ds:=by
 cases u with
 |dat y=>
  cases y<;>try (cases e;done)
  rename_i kv
  let(a,ks,h1,_,h2,h3):=Rep.tab (show Rep (MM M0 F) H v _ from h) e
  exact#[a,ks,h1,h2,h3]
 |own i=>
  let hv:=h
  dsimp only [derD]at e
  split at e
  next dw q=>
   cases e
   let(w,e1,r):=rs.at' i _ q
   rw[hv]at e1;cases e1
   generalize F i=A at r
   cases r with
   |m ea k r=>exact#[_,_,rfl,.inl ea,.of k r]
  next kv q=>
   let(w,e1,r):=rs.at' i _ q
   rw[hv]at e1;cases e1
   generalize F i=A at r
   cases r with
   |d r=>
    let(a,ks,h1,_,h2,h3):=Rep.tab r e
    exact#[a,ks,h1,h2,h3]
  ·cases e
private def fDget(fa fb:EM FV):EM FV:=λU=>(fa U).bind λ(u,U1)=>(fb U1).bind λ(w,U2)=>R.get (derD U2 u) λds=>match derf U2 w with
 |some (.str z)=>R.get (zN ds z) λx=>.ok (.dat x,U2)
 |_=>.bad
def zhF(hu:X.A.units+1<cLine)(ha:SE X mp a fa)(hb:SE X mp b fb)(hx:zge b):SE X mp (.Subscript a b pos) (fDget fa fb):=λM0 F U Z O H Q rs hs hp=>
 (zhj hu zF zF hx).wp (ha.run rs hs hp λF1 U1 H1 u v rs1 s1 o1 h1=>hb.run rs1 hs h1 λF2 U2 H2 w v2 rs2 s2 o2 h2=>by
  let(ds,e1,h2):=R.got id h2
  delta h2 z e2
  let(y,ey,h2):=R.got id h2
  let(l,ks,rfl,er,kr):=(o1.stp s2 rs1.al0).dict rs2 e1
  cases o2.weak rs2 e2
  let(w',hw,a6):=(kr.val z).2 y ey
  exact#[l,w',rfl,#[_,.inr z,er,rfl,by rw[JH,hw]],h2 F2 H2 rs2 (.refl _ _) w' a6])
def gDin(x y:PyData):Option Bool:=match x,y with
 |.str z,.dict kv=>(unD kv).map λds=>(zN ds z).isSome
 |_,_=>none
def gDnin(x y:PyData):Option Bool:=match x,y with
 |.str z,.dict kv=>(unD kv).map λds=> !(zN ds z).isSome
 |_,_=>none
def zjN(hu:X.A.units+1<cLine):OpR X (compareOp .In) (λx y H Q=>∃ l o,y=.ref l/\YW H l x o/\Q (.bl o.isSome) H):=by
 rintro pins s O H x y v u Q I rx ry ⟨l,o,rfl,g,k⟩
 obtain rfl:u=Value.ref l:=ry
 erw[d_in hu I g rx λs' I'=>#[.bl o.isSome,H,I',rfl,k]]
def zha(hu:X.A.units+1<cLine):OpR X (compareOp .NotIn) (λx y H Q=>∃ l o,y=.ref l/\YW H l x o/\Q (.bl (!o.isSome)) H):=by
 rintro pins s O H x y v u Q I rx ry ⟨l,o,rfl,g,k⟩
 obtain rfl:u=Value.ref l:=ry
 erw[zgw hu I g rx λs' I'=>#[.bl (!o.isSome),H,I',rfl,k]]
def zdr(hu:X.A.units+1<cLine):w9 X .In gDin:=λx y z e=>by
 unfold gDin at e
 split at e
 next k kv=>
  cases q:unD kv with
  |none=>rw[q]at e;cases e
  |some ds=>
   rw[q]at e;cases e
   exact⟨_,zjN hu,λH v u Q r1 r2 kk=>by
    cases r1
    let(l,ks,rfl,_,er,kr):=Rep.tab r2 q
    let h1:=(kr.val k).1
    exact#[l,zN ks k,rfl,#[_,.inr k,er,rfl,by rw[JH]],by rw[h1];exact kk]⟩
 ·cases e
def zak(hu:X.A.units+1<cLine):w9 X .NotIn gDnin:=λx y z e=>by
 unfold gDnin at e
 split at e
 next k kv=>
  cases q:unD kv with
  |none=>rw[q]at e;cases e
  |some ds=>
   rw[q]at e;cases e
   exact⟨_,zha hu,λH v u Q r1 r2 kk=>by
    cases r1
    let(l,ks,rfl,_,er,kr):=Rep.tab r2 q
    let h1:=(kr.val k).1
    exact#[l,zN ks k,rfl,#[_,.inr k,er,rfl,by rw[JH]],by rw[h1];exact kk]⟩
 ·cases e
private def fAttr(cl f:Str)(fa:EM FV):EM FV:=λU=>(fa U).bind λ(u,U1)=>R.get (derS U1 u) λd=>R.get (zeo cl f d) λx=>.ok (.dat x,U1)
def zhC(K:Wa X cl f)(ha:SE X mp a fa)(hb:attributeBase a f X.env (eval a X.env)=eval a X.env):SE X mp (.Attribute a f pos) (fAttr cl f fa):=λM0 F U Z O H Q rs hs hp=>
 (ze9 zF hb).wp (ha.run rs hs hp λF1 U1 H1 u v rs1 s1 o1 h1=>by
  let(d,ed,h1):=R.got id h1
  let(y,mh,h2):=R.got id h1
  unfold zeo at mh
  split at mh
  next c' kv=>
   split at mh
   next hc=>
    subst hc
    obtain⟨l,rfl,n,h | h | h⟩:=(o1.strong rs1 ed).dict_inv
    ·let(ks,ds,_,e,_):=h
     cases ds<;>cases e
    ·let(dx,c2,fs,ds,el,e,kr):=h
     cases e
     rw[zT]at mh
     let(w,hw,a6):=(kr.val f).2 y mh
     exact#[l,_,dx,fs,w,rfl,el,K.cl,K.no,by rw[wv];exact hw,h2 F1 H1 rs1 (.refl _ _) w a6]
    ·let(_,_,_,_,_,_,e,_):=h
     cases e
   ·cases mh
  ·cases mh)
def RS.newM{p:Ap}(r:RS M0 F U Z H)(n:H p=none)(q:KR (MM M0 F) H ks ds) :
  RS M0 (fset F U.length [p]) (U++ [some (.m ds)]) (Z++ [some (.ref p)]) (upd H p (.dK (ks.map kK)))/\Stp F H (fset F U.length [p]) (upd H p (.dK (ks.map kK))):=r.new1 n (qg n) λs=>let q':=KR.stp q s r.al0;.m zK q'.keys q'.vals
private def fOwnD(n:EM (Ad)):EM OV:=λU=>(n U).bind λ(ds,U1)=>.ok (.m ds,U1)
def SD.so(h:SD X mp a ma):SO X mp a (fOwnD ma):=λM0 F U Z O H Q rs hs hp=>
 h M0 F U Z O H Q rs hs (hp.seq.mono λF1 U1 H1 ds rs1 s1 h1 ks p r n=>by
  let(r2,s2):=rs1.newM n r
  exact h1 _ _ _ r2 s2)
private def fNewD(n:EM (Ad)):EM FV:=fOD (fOwnD n)
def SD.se(h:SD X mp a ma):SE X mp a (fNewD ma):=h.so.se
def SDt.so(h:SDt mp t ma):SOt mp t (fOwnD ma):=λM0 F U Z O H Q rs hs hp=>
 h M0 F U Z O H Q rs hs (hp.seq.mono λF1 U1 H1 ds rs1 s1 h1 ks p r n=>by
  let(r2,s2):=rs1.newM n r
  exact h1 _ _ _ r2 s2)
def SDt.sd(h:SDt mp t ma):SOt mp t (fD (fNewD ma)):=λM0 F U Z O H Q rs hs hp=>
 h M0 F U Z O H Q rs hs (by
  let au:OPost M0 F Z O H (λF' U' H' o v=>Q v H') ((ma U).bind λ(ds,U1)=>.ok (.d (.dict (ds.map dK)),U1)):=by
   let e:fD (fNewD ma) U=(ma U).bind λ(ds,U1)=>.ok (.d (.dict (ds.map dK)),U1):=by
    unfold fD fNewD fOD fOwnD
    cases ma U<;>rfl
   rw[<- e];exact hp
  exact au.seq.mono λF1 U1 H1 ds rs1 s1 h1 ks p r n=>by
   let(r2,s2):=rs1.newM n r
   let(F3,r3,s3,q3):=r2.dropD
   exact h1 F3 _ _ (r3.newD q3) (s2.trans s3))
private def fDnil:EM (Ad):=λU=>.ok ([],U)
def zkf:SD X mp (.Dict [] [] pos) fDnil:=λM0 F U Z O H Q rs hs hp=>pe_dnewK.wp λp n=>hp F H rs (.refl _ _) [] p .nil n
private def fDone(fa fb:EM FV):EM (Ad):=λU=>(fa U).bind λ(u,U1)=>match derf U1 u with
 |some (.str z)=>(fb U1).bind λ(w,U2)=>match derS U2 w with
  |some y=>.ok ([(z,y)],U2)
  |none=>.bad
 |_=>.bad
def zkg(ha:SE X mp a fa)(hb:SE X mp b fb):SD X mp (.Dict [some a] [b] pos) (fDone fa fb):=λM0 F U Z O H Q rs hs hp=>
 (ze7 zF zF).wp (ha.run rs hs hp λF1 U1 H1 u v rs1 s1 o1 h1=>by
  delta h1 z ez
  cases o1.weak rs1 ez
  erw[hb.run rs1 hs h1 λF2 U2 H2 w v2 rs2 s2 o2 h2=>?_]
  delta h2 y ey
  exact#[.inr z,rfl,λp n=>h2 F2 H2 rs2 (.refl _ _) [(z,v2)] p (.cons (o2.strong rs2 ey) .nil) n])
private def fDcopy(fa:EM FV):EM (Ad):=λU=>(fa U).bind λ(u,U1)=>R.get (derD U1 u) λds=>.ok (ds,U1)
def zhB (B:BiK X x (.type "dict")) (ha:SE X mp a fa) (af:a⁻¹):SD X mp (.Call (.Name x p) [a] [] pos) (fDcopy fa):=λM0 F U Z O H Q rs hs hp=>
 (ZP zaZ B.gl B.mg B.bt (zX zF pa_nil af) B.n B.d af rfl).wp (ha.run rs hs hp λF1 U1 H1 u v rs1 s1 o1 h1=>by
  let(ds,e,h1):=R.got id h1
  let(l,ks,rfl,er,kr):=o1.dict rs1 e
  exact#[l,_,rfl,er,λp n=>h1 F1 H1 rs1 (.refl _ _) ks p kr n])
private def fSortD(fa:EM FV):EM (Aa):=λU=>(fa U).bind λ(u,U1)=>R.get (derD U1 u) λds=>if ds.length<64 then .ok ((qX (ds.map (·.1))).map .str,U1) else .bad
def zfI (ag:X.calm=true) (B:BiK X x (.builtin "sorted")) (ha:SE X mp a fa) (af:a⁻¹):SN X mp (.Call (.Name x p) [a] [] pos) (fSortD fa):=λM0 F U Z O H Q rs hs hp=>
 (ZO (VZ ag) B.gl B.mg B.bt (zX zF pa_nil af) B.n B.d af rfl).wp (ha.run rs hs hp λF1 U1 H1 u v rs1 s1 o1 h1=>by
  let(ds,e,h1):=R.got id h1
  let(cn,h1):=R.gif id h1
  let(l,ks,rfl,er,kr):=o1.dict rs1 e
  refine#[l,ks,rfl,er,by rw[kr.length];exact cn,λp n=>?_]
  rw[kr.keys]
  exact h1 F1 H1 rs1 (.refl _ _) _ p (RepL.strs _) n)
private def fMul(fa fb:EM FV):EM (Aa):=λU=>(fa U).bind λ(u,U1)=>(fb U1).bind λ(w,U2)=>match derL U2 u,derf U2 w with
 |some [d],some (.int k)=>if 0<=k/\k<=1000000 then .ok (List.replicate k.toNat d,U2) else .bad
 |_,_=>.bad
def RepL.rep1(r:Rep M H v d):∀(n:Nat),RepL M H (List.replicate n [v]).flatten (List.replicate n d)
 |0=>.nil
 |n+1=>by
  rw[xR,xR,ue]
  erw[.cons r (RepL.rep1 r n)]
def zkB(ha:SE X mp a fa)(hb:SE X mp b fb):SN X mp (.BinOp a .Mult b pos) (fMul fa fb):=λM0 F U Z O H Q rs hs hp=>
 (WY zhc zF zF).wp (ha.run rs hs hp λF1 U1 H1 u v rs1 s1 o1 h1=>hb.run rs1 hs h1 λF2 U2 H2 w v2 rs2 s2 o2 h2=>by
  delta h2 d k e1 e2
  delta h2 hk
  let(l,vs,rfl,el,r):=(o1.stp s2 rs1.al0).list rs2 e1
  cases o2.weak rs2 e2
  cases r with
  |cons r t=>
   cases t
   exact#[l,_,k,rfl,rfl,el,hk.1,hk.2,rfl,λp n=>h2 F2 H2 rs2 (.refl _ _) _ p (RepL.rep1 r _) n])
end
section
variable {X:Cx}{mp:Ac}{a b e tg:Expr}{es:Ag}{p p2 apos aj:Pos}{fa:EM FV}{c f x:Str}{s i:Nat}{M0:Ae}{F:Fp}{U:Gv}{Z:Nu}{O:St}{H H':Hp}{u:FV}{v:V}
private def fFfrz(i:Nat)(c f:Str):EM FV:=λU=>match objF U i c f with
 |some o=>.ok (.dat o.view,updF U i f (.d o.view))
 |none=>.bad
def zhH(n:NmK X mp s i x)(K:Wa X c f):SE X mp (.Attribute (.Name x p) f p2) (fFfrz i c f):=by?
 unfold fFfrz at hp
 delta hp o e
 erw[J8 n K rs hs e λv hv=>?_]
 let(a,dx,fs,ns,xs,j,A1,B,A2,e1,e2,e3,e4,e5,e6,e7,e8,e9,u5):=hv.ex
 let hi:i<U.length:=(xa.mp e1).1
 let c8:updF U i f (.d o.view)=U.set i (some (.o c ns (xs.set j (.d o.view)))):=by
  unfold updF
  rw[e1]
  show U.set i (some (setO c ns xs f _))=_
  unfold setO
  rw[e5]
 let hnd:=rs.nd i
 rw[e9]at hnd
 let hndc:=xB.mp hnd
 let n1:=xH.mp hndc.2
 let n2:=xH.mp n1.2.1
 let a8:∀ b∈a::(A1++([]++A2)),b∈F i:=λb hb=>by
  grind
 let Bm:fs.set j (f,v)=fs:=by
  apply xU
  intro k
  by_cases hk:j=k
  ·subst hk;rw[xn (xa.mp e7).1,e7]
  ·rw[xg hk]
 let hq:Rep (MM M0 (fset F i (a::(A1++([]++A2))))) H v o.view:=e8.rep (λb hb=>by
  rcases hb with hb | ⟨k,hb⟩
  ·erw[.inl hb]
  ·by_cases hk:k=i
   ·subst hk;rw[zL]at hb;exact .inr #[k,a8 b hb]
   ·rw[zP hk]at hb;exact .inr #[k,hb]) λb hb hm=>by
  let u0:b∈F i:=by rw[e9];simp[hb]
  rcases hm with hm | ⟨k,hm⟩
  ·erw[rs.dis0 i b u0 hm]
  ·by_cases hk:k=i
   ·subst hk
    rw[zL]at hm
    grind
   ·rw[zP hk]at hm;exact hk (rs.dis _ _ b hm u0)
 let AB:(a::(A1++([]++A2))).Nodup:=xB.mpr ⟨λh=>hndc.1 (by
  simp at h |-
  rcases h with h | h
  ·erw[.inl h]
  ·exact .inr (.inr h)),xH.mpr #[n1.1,n2.2.1,λb h1 c h2=>n1.2.2 b h1 c (xz _ h2)]⟩
 let(rs2,s2):=rs.lessO hi e2 a8 AB λhr=>by
  have:=u5 _ H v (.d o.view) [] hr (λ_ _ z=>z) (λ_ _=>rfl) (.d hq)
  rw[Bm]at this
  erw[.o e3 e4 this]
 rw[<- c8]at rs2
 erw[hp _ H rs2 s2 v hq]
private def fItems(fa:EM FV):EM (Aa×Option (Option Nat)):=λU=>(fa U).bind λ(u,U1)=>match derS U1 u with
 |some (.dict kv)=>R.get (unD kv) λds=>.ok ((ds.map λp=>.tuple [.str p.1,p.2],some none),U1)
 |_=>.bad
private def fKeys(fa:EM FV):EM (Aa×Option (Option Nat)):=λU=>(fa U).bind λ(u,U1)=>match derS U1 u with
 |some (.dict kv)=>R.get (unD kv) λds=>.ok ((ds.map λp=>.str p.1,some none),U1)
 |_=>.bad
def zcz (oj:∃ es n p,tg=.Tuple es n p) (ha:SE X mp a fa) (hb:attributeBase a "items" X.env (eval a X.env)=eval a X.env) (ah:(apos.endLine==aj.line)=true):SIw X mp tg (.Call (.Attribute a "items" apos) [] [] aj) (fItems fa):=λM0 F U Z O H R rs hs hp=>
 (zfj oj zF hb ah).wp (ha.run rs hs hp λF1 U1 H1 u v rs1 s1 o1 h1=>by
  delta h1 kv eu
  let(ds,ed,h1):=L3.R.got id h1
  let(l,ks,rfl,nl,er,kr):=Rep.tab (o1.strong rs1 eu) ed
  refine#[l,_,rfl,er,λo Hf fz=>h1 F1 H1 rs1 (.refl _ _) _ Hf #[.inr #[l,o,_,fz,λi hi=>nl (.inr #[i,hi])],λi F' H' st h0=>?_]]
  let el:=(st.keep l _ fz.1 λj hj=>nl (.inr #[j,hj])).1
  refine#[λd hd=>?_,λhle=>#[el,by rw[xl,kr.length];simpa using hle]]
  rw[xf]at hd
  cases q:ds[i]? with
  |none=>rw[q]at hd;cases hd
  |some pr=>
   rw[q]at hd
   cases hd
   let(w,hw,a6):=kr.get q
   refine#[#[el,by rw[xl,kr.length];exact (xa.mp q).1],λz H2 ⟨p',t,e1,ez,ht,e2⟩=>?_]
   rw[xf,hw]at e1
   cases e1
   subst ez e2
   let sm:Same H' (upd H' t (.tup [kV (kK (pr.1,w)).1,(kK (pr.1,w)).2])):=qg ht
   refine#[sm,.tuple zK (.cons (.str pr.1) (.cons ((qf st h0 (Rep.eqv (zeq fz) a6)).grow sm.grow) .nil))])
def zfH(ha:SE X mp a fa):SIw X mp tg a (fKeys fa):=λM0 F U Z O H R rs hs hp=>
 (zho zF).wp (ha.run rs hs hp λF1 U1 H1 u v rs1 s1 o1 h1=>by
  delta h1 kv eu
  let(ds,ed,h1):=L3.R.got id h1
  let(l,ks,rfl,nl,er,kr):=Rep.tab (o1.strong rs1 eu) ed
  refine#[l,_,rfl,er,λo Hf fz=>h1 F1 H1 rs1 (.refl _ _) _ Hf #[.inr #[l,o,_,fz,λi hi=>nl (.inr #[i,hi])],λi F' H' st h0=>?_]]
  let el:=(st.keep l _ fz.1 λj hj=>nl (.inr #[j,hj])).1
  refine#[λd hd=>?_,λhle=>#[el,by rw[xl,kr.length];simpa using hle]]
  rw[xf]at hd
  cases q:ds[i]? with
  |none=>rw[q]at hd;cases hd
  |some pr=>
   rw[q]at hd
   cases hd
   let(w,hw,a6):=kr.get q
   refine#[#[el,by rw[xl,kr.length];exact (xa.mp q).1],λz H2 ⟨e2,p',e1,ez⟩=>?_]
   rw[xf,hw]at e1
   cases e1
   subst ez e2
   exact#[.refl _,.str pr.1])
end
end L3
namespace L2
open PySem PySem.Spec PyProof.Rows
variable [Cs]
section
variable {X:Cx}{O:St}{H:Hp}{sp:Sp}{Q:VK}{C f:Ap}{fd:FuncData}{ps:Ab}{k:Nat}{m x:Str}{o e:Expr}{es:Ag}{p pos apos:Pos}
def Vp{A:Around}{Q:Af}{E:Af}{s:Am}(ba:attributeBase o m env (eval o env)=eval o env)(cw:methodCallForm (args.length+0) (backTo pos (starEach args env)) (backToKw pos (keywordEach [] env))=true)(ah:(apos.endLine==pos.line)=true)
  (h:wpAny (model X.prog X.w) A (eval o env) (λov s₁=>wpAny (model X.prog X.w) A (getMethod ov m (do return (<- importBound o env).getD true)) (λfx s₂=>wpAny (model X.prog X.w) A (callWith pos fx.1 fx.2 (backTo pos (starEach args env)) (backToKw pos (keywordEach [] env))) Q E s₂) E s₁) E s) :
  wpAny (model X.prog X.w) A (eval (.Call (.Attribute o m apos) args [] pos) env) Q E s:=by
 rw[arm_eval_Call,ba]
 erw[x3 (Xc h (λov s₁ h₁=>?_) λ_ _ e=>e)]
 erw[x3 (wpAny_standAt ?_)]
 let lp:methodCallForm (args.length+([]:List Keyword).length) (backTo pos (starEach args env)) (backToKw pos (keywordEach [] env))=true:=cw
 let gf:methodCallPos true o env apos pos=pure pos:=by unfold methodCallPos;simp[ah]
 unfold methodCall
 rw[lp]
 erw[x3 (Xb (Xc h₁ (λfx s₂ h₂=>x3 (wpAny_of_eq gf h₂)) λ_ _ x=>x))]
def zgd(c:Cls X.K C)(hm:Y4 X.K C m f)(F:FnOk X.prog X.w X.K X.mg X.base CX0 k f fd ps sp)(hr:Room k X.A)(hb:Binds X.K fd ps [])
  (h:wpE X o O H λx H1=>∃ a dx fs,x=.ref a/\H1 a=some (.ins C dx fs)/\fs.lookup m=none/\wpA X (e::es) O H1 λvs H2=>sp (x::vs) H2 Q E0)
  (af:starEach (e::es) X.env=(false,eval e X.env)::starEach es X.env) (hpl:(backTo pos (starEach es X.env)).any (·.1)=false) (ba:attributeBase o m X.env (eval o X.env)=eval o X.env) (cw:methodCallForm ((e::es).length+0) (backTo pos (starEach (e::es) X.env)) (backToKw pos (keywordEach [] X.env))=true) (ah:(apos.endLine==pos.line)=true):wpE X (.Call (.Attribute o m apos) (e::es) [] pos) O H Q:=λpins s I=>by
 erw[Vp ba cw ah (thn (h pins s I) λu s1 ⟨x,H1,I1,rx,a,dx,fs,ex,ea,l,q⟩=>?_)]
 subst ex
 obtain rfl:u=Value.ref a:=rx
 erw[WI I1 ea c hm l ?_]
 erw[W.callWith_K I.ok.mod.kin hm.kp (thn (q pos pins s1 I1) λus s2 ⟨vs,H2,I2,r,q2⟩=>#[I2.kIn,?_]) af hpl]
 erw[JD (vs:=.ref a::vs) F hr hb I2 (.cons rfl r) q2]
def zcM(c:Cls X.K C)(hm:Y4 X.K C m f)(F:FnOk X.prog X.w X.K X.mg X.base CX0 k f fd ps sp)(hr:Room k X.A)(hb:Binds X.K fd ps [])
  (h:wpE X o O H λx H1=>∃ a dx fs,x=.ref a/\H1 a=some (.ins C dx fs)/\fs.lookup m=none/\sp [x] H1 Q E0) (ba:attributeBase o m X.env (eval o X.env)=eval o X.env) (ah:(apos.endLine==pos.line)=true):wpE X (.Call (.Attribute o m apos) [] [] pos) O H Q:=λpins s I=>by
 erw[Vp ba rfl ah (thn (h pins s I) λu s1 ⟨x,H1,I1,rx,a,dx,fs,ex,ea,l,q⟩=>?_)]
 subst ex
 obtain rfl:u=Value.ref a:=rx
 erw[WI I1 ea c hm l ?_]
 erw[W.callWith_K0 I1.kIn hm.kp (JD (vs:= [.ref a]) F hr hb I1 (.cons rfl .nil) q)]
def zgc(M:Mk X.K C f)(F:FnOk X.prog X.w X.K X.mg X.base CX0 k f fd ps sp)(hr:Room (k+1) X.A)(hg:Gl X x)(hm:X.mg x=some (.ref C))(hb:Binds X.K fd ps [])
  (h:wpA X (e::es) O H λvs H1=>∀ x dx,H1 x=none->H1 dx=none->dx≠x->sp (.ref x::vs) (upd (upd H1 dx (.own x)) x (.ins C dx [])) (λv H2=>v=.non/\Q (.ref x) H2) E0)
  (bq:(↥x)) (he:starEach (e::es) X.env=(false,eval e X.env)::starEach es X.env) (hpl:(backTo pos (starEach es X.env)).any (·.1)=false):wpE X (.Call (.Name x p) (e::es) [] pos) O H Q:=λpins s I=>by
 erw[Xi (QJ I hg hm ?_ bq)]
 erw[W.callWith_K I.ok.mod.kin M.kp (thn (h pos pins s I) λus s1 ⟨vs,H1,I1,r,q⟩=>#[I1.kIn,?_]) he hpl]
 let hq:=q (⇑s1+1) ⇑s1 (I1.hok.fresh (uN _)) (I1.hok.fresh (xh _)) (xj (uK _))
 let I2:=Inv.made (C:=C) I1
 let r2:Vals (V.ref (⇑s1+1)::vs) (Value.ref (⇑s1+1)::us):=.cons rfl r
 let hl:(Value.ref (⇑s1+1)::us).length=ps.length:=by
  let e:=r2.length
  rw[F.len _ _ _ _ hq]at e
  erw[e.symm]
 let hb':=hb _ (Value.ref (⇑s1+1)::us) I2.kIn (~~~hl)
 rw[xX]at hb'
 refine wpAny_call (zeS (f:=f) I1.kIn M.makes M.init (beq_iff_eq.mp M.fn) (Xj (F.run _ X.stack _ _ #[Value.ref (⇑s1+1)::us,[]] (Value.ref (⇑s1+1)::us) _ _ E0 (hr.make C us [])
  (I2.env0.make C us []) hb' r2 hq) λr s' i4=>?_))
 cases r with
 |error e=>erw[False.elim i4]
 |ok fl=>
  cases fl with
  |ret u=>
   let(v,H',I3,rv,ev,q3):=I2.after i4
   subst ev
   exact#[rv,#[V.ref (⇑s1+1),H',I3,rfl,q3]]
  |next=>erw[False.elim i4]
  |brk=>erw[False.elim i4]
  |cont=>erw[False.elim i4]
end
structure KnM(P:Ar)(w:World)(K:Ah)(mg:Aq)(base:Heap)(C:Ap)(m:Str)(k:Nat)(sp:Sp):Prop where
 ex:∃(f:Ap)(fd:FuncData)(ps:Ab),FnOk P w K mg base CX0 k f fd ps sp/\Cls K C/\Y4 K C m f/\Binds K fd ps []
structure KnI(P:Ar)(w:World)(K:Ah)(mg:Aq)(base:Heap)(C:Ap)(k:Nat)(sp:Sp):Prop where
 ex:∃(f:Ap)(fd:FuncData)(ps:Ab),FnOk P w K mg base CX0 k f fd ps sp/\Mk K C f/\Binds K fd ps []
end L2
namespace L3
open PySem PySem.Spec PyProof.Rows L2
variable [Cs]
section
variable {X:Cx}{mp io:Ac}{a b e:Expr}{es:Ag}{pos p p2 pos' apos:Pos}{fa fb:EM FV}{fl:EM (List AV)}{c m x:Str}{s i k n:Nat}{M0:Ae}{F F':Fp}{U:Gv}{Z:Nu}{O:St}{H H':Hp}{u:FV}{v:V}{run:List OV->RF}
private def fMeth(i:Nat)(c m:Str)(run:List OV->RF)(fl:EM (List AV)):EM OV:=λU=>match U[i]? with
 |some (some (.o c' ns _))=>if c'=c/\ixF ns m=none then fCall run (aIo i fl) U else .bad
 |_=>.bad
def Vq{Q:VK}(rs:RS M0 F U Z H)(ak:Ran n run)(e:U[i]?=some (some o))(ev:Z[i]?=some (some ae))
  (hp:OPost M0 F Z O H (λF' U' H' o v=>Q v H') (fCall run (aIo i fl) U)):APost M0 F Z O H (λF1 U1 Z1 H1 as=>∀ vs,AOks M0 F1 Z1 H1 vs as->spX n run (ae::vs) H1 Q E0) (fl U):=by
 let h:=QH rs ak hp
 unfold aIo at h
 rw[e]at h
 erw[h.tail.mono λF1 U1 Z1 H1 as rs1 hn s1 q vs oks=>q (ae::vs) (.io ?_ oks)]
 let(t,rfl):=hn
 rw[xc (xa.mp ev).1];exact ev
def zh2(kn:KnM X.prog X.w X.K X.mg X.base (Cs.adr c) m k (spX n run))(hr:Room k X.A)(ak:Ran n run)(nm:NmK X mp s i x)(hl:SA X mp (a::es) fl)
  (he:starEach (a::es) X.env=(false,eval a X.env)::starEach es X.env) (hpl:(backTo pos (starEach es X.env)).any (·.1)=false) (cw:methodCallForm ((a::es).length+0) (backTo pos (starEach (a::es) X.env)) (backToKw pos (keywordEach [] X.env))=true) (ah:(apos.endLine==pos.line)=true):SO X mp (.Call (.Attribute (.Name x p) m apos) (a::es) [] pos) (fMeth i c m run fl):=by?
 unfold fMeth at hp
 delta hp c' ns xs e
 delta hp hh
 let(rfl,ay):=hh
 let(g,fd,ps,Fn,cl,hm,hb):=kn.ex
 let(ad,dx,fs,A,ev,ea,hk,qa,hF):=WT rs e
 subst hk
 erw[zgd cl hm Fn hr hb ((qG nm.hN nm.hv nm.hd nm.hcd).wp #[.ref ad,hs s i _ nm.hm ev,ad,dx,fs,rfl,ea,(yj ay).1,hl M0 F U Z O H _ rs hs (Vq rs ak e ev hp)]) he hpl rfl cw ah]
def zfK(kn:KnM X.prog X.w X.K X.mg X.base (Cs.adr c) m k (spX n run))(hr:Room k X.A)(ak:Ran n run)(nm:NmK X mp s i x)(ah:(apos.endLine==pos.line)=true):SO X mp (.Call (.Attribute (.Name x p) m apos) [] [] pos) (fMeth i c m run aNil):=by?
 unfold fMeth at hp
 delta hp c' ns xs e
 delta hp hh
 let(rfl,ay):=hh
 let(g,fd,ps,Fn,cl,hm,hb):=kn.ex
 let(ad,dx,fs,A,ev,ea,hk,qa,hF):=WT rs e
 subst hk
 erw[zcM cl hm Fn hr hb ((qG nm.hN nm.hv nm.hd nm.hcd).wp #[.ref ad,hs s i _ nm.hm ev,ad,dx,fs,rfl,ea,(yj ay).1,Vq rs ak e ev hp F Z H rs (uM _) (.refl _ _) [] .nil]) rfl ah]
def RS.newI{p dx:Ap}(r:RS M0 F U Z H)(n:H p=none)(nd:H dx=none)(ax:dx≠p) :
  RS M0 (fset F U.length [p]) (U++ [some (.o c [] [])]) (Z++ [some (.ref p)]) (upd (upd H dx (.own p)) p (.ins (Cs.adr c) dx []))/\Stp F H (fset F U.length [p]) (upd (upd H dx (.own p)) p (.ins (Cs.adr c) dx [])):=r.new1 n (λb o e=>by
  rw[zI (λz=>by subst z;rw[n]at e;cases e),zI (λz=>by subst z;rw[nd]at e;cases e)];exact e) λs=>.o (fs:= []) (A:= []) zK rfl .nil
def AOks.stp(s1:Stp F H F1 H1)(h0:∀ a,M0 a->H a≠none)(hn:Z <+: Z1):∀{vs:List V}{as:List AV},AOks M0 F Z H vs as->AOks M0 F1 Z1 H1 vs as
 |_,_,.nil=>.nil
 |_,_,.v h t=>.v ((h.stp s1 h0).ext hn) (AOks.stp s1 h0 hn t)
 |_,_,.io h t=>.io (by
   let(t',rfl):=hn
   rw[xc (xa.mp h).1];exact h) (AOks.stp s1 h0 hn t)
def vo:∀{as:List AV}{args:List OV},toArgs U as=some args->toArgs (U++ [o]) as=some args/\∀ i∈ios as,i<U.length
 |[],_,e=>#[e,λ_ h=>nomatch h]
 |a::as,_,e=>by
  unfold toArgs at e
  split at e
  next o' os e1 e2=>
   cases e
   let(i1,i2):=vo e2
   let key:toArg (U++ [o]) a=some o'/\∀ i∈ios [a],i<U.length:=by
    cases a with
    |v u=>
     refine#[?_,λ_ h=>nomatch h]
     cases u with
     |dat y=>erw[e1]
     |own j=>
      simp only[toArg,derS,uJ]at e1 |-
      let(y,ey,hy):=e1
      refine#[y,?_,hy]
      split at ey
      next q=>
       rw[xc (xa.mp q).1,q];exact ey
      ·cases ey
    |io j=>
     simp only[toArg]at e1 |-
     split at e1
     next q=>
      let hj:=(xa.mp q).1
      refine#[by rw[xc hj,q];exact e1,λi h=>?_]
      have:i=j:=by simpa [ios] using h
      lia
     ·cases e1
   refine#[by unfold toArgs;rw[key.1,i1],λi h=>?_]
   cases a with
   |v u=>erw[i2 i h]
   |io j=>
    rw[ios,xC]at h
    rcases h with rfl | h
    ·exact key.2 _ (by simp[ios])
    ·erw[i2 i h]
  ·cases e
def QA:∀{as:List AV}{outs:List (Option OV)}{U U2:Gv},putBack as outs U=some U2->putBack as outs (U++ [o])=some (U2++ [o])
 |[],_,U,_,e=>by
  have:some U=some _:=e
  cases this;rfl
 |.v u::as,[],U,_,e=>by cases e
 |.v u::as,x::os,U,U2,e=>QA (as:=as) e
 |.io k::as,[],U,_,e=>by cases e
 |.io k::as,none::os,U,_,e=>by cases e
 |.io k::as,some q::os,U,U2,e=>by
  rw[putBack]at e |-
  split at e
  next hk=>
   rw[if_pos (by simp;lia),List.set_append_left _ _ hk]
   erw[QA e]
  ·cases e
private def fMake(c:Str)(run:List OV->RF)(fl:EM (List AV)):EM OV:=λU=>(fl U).bind λ(as,U1)=>if U1.length=U.length/\(ios as).Nodup then match toArgs U1 as with
 |some args=>match run (.o c [] []::args) with
  |.ok (.d .none) (some o::outs)=>match putBack as outs U1 with
   |some U2=>.ok (o,U2)
   |none=>.bad
  |_=>.bad
 |none=>.bad
 else .bad
def zh1(kn:KnI X.prog X.w X.K X.mg X.base (Cs.adr c) k (spX n run))(hr:Room (k+1) X.A)(hg:Gl X c)(hm:X.mg c=some (.ref (Cs.adr c)))(ak:Ran n run)(hl:SA X mp (a::es) fl)
  (bq:(↥c)) (he:starEach (a::es) X.env=(false,eval a X.env)::starEach es X.env) (hpl:(backTo pos (starEach es X.env)).any (·.1)=false):SO X mp (.Call (.Name c p) (a::es) [] pos) (fMake c run fl):=by?
 let(g,fd,ps,Fn,mk,hb):=kn.ex
 erw[zgc mk Fn hr hg hm hb (hl M0 F U Z O H _ rs hs ?_) bq he hpl]
 unfold fMake at hp
 generalize fl U=ra at hp
 cases ra with
 |bad=>erw[hp]
 |ok z=>
  let(as,U1):=z
  intro F1 Z1 H1 rs1 hn s1 vs oks x dx hx hdx ax
  simp only[R.bind]at hp
  delta hp hh
  let(hlen,nd):=hh
  have eν:Z1=Z:=by
   let(t,rfl):=hn
   let h1:=rs1.len
   let h2:=rs.len
   have:t= []:=by
    apply List.eq_nil_of_length_eq_zero
    rw[xm]at h1;lia
   rw[this,xX]
  subst eν
  delta hp args ea
  let(rs2,s2):=rs1.newI (c:=c) hx hdx ax
  let(Fd,hlt):=vo (o:=some (.o c [] [])) ea
  let g9:Z1.length=U1.length:=rs1.len
  let iq:AOks M0 _ (Z1++ [some (.ref x)]) _ (V.ref x::vs) (.io U1.length::as):=.io (by rw[<- g9];simp) (oks.stp s2 rs1.al0 (List.prefix_append _ _))
  let B9:(ios (.io U1.length::as)).Nodup:=by
   rw[ios];exact xB.mpr #[λh=>ub _ (hlt _ h),nd]
  let BQ:toArgs (U1++ [some (.o c [] [])]) (.io U1.length::as)=some (.o c [] []::args):=by
   unfold toArgs
   rw[Fd]
   have:toArg (U1++ [some (.o c [] [])]) (.io U1.length)=some (.o c [] []):=by
    show (match (U1++ [some (OV.o c [] [])])[U1.length]? with
     |some (some o)=>some o
     |_=>none)=_
    rw[xp (xh _)]
    simp
   rw[this]
  let DZ:(V.ref x::vs).length=n:=by
   rw[iq.len,<- jz BQ]
   erw[ak _ λz=>?_]
   rw[z]at hp;exact hp.elim
  refine#[DZ,_,_,_,Wn rs2 iq BQ B9,?_]
  let DN:∀{outs:List (Option OV)}{U2:Gv}{o:OV},putBack as outs U1=some U2->putBack (.io U1.length::as) (some o::outs) (U1++ [some (.o c [] [])])=some (U2++ [some o]):=λ{outs U2 o} h=>by
   rw[putBack,if_pos (by simp),uv _ _ (xh _)]
   simp only[Nat.sub_self,List.set_cons_zero]
   erw[QA h]
  delta hp o outs er
  delta hp U2 eb
  rw[er]
  intro F' v H' rc sc
  let hl2:=(Zi eb nd).1
  let(F2,a7,s3):=v7 (n:=U1.length+1) rs2 iq BQ B9 rc sc (DN eb) (uM _) (by simp[g9])
  let(F3,gr,s4,rv):=a7.dropD
  rw[uo (by simp[hl2])]at gr
  refine#[?_,hp F3 H' (.ref x) gr (((s1.trans s2).trans s3).trans s4)]
  cases rv;rfl
def RS.mutM(r:RS M0 F U Z H)(e:U[i]?=some (some (.m ds))):∃ l ks,Z[i]?=some (some (.ref l))/\H l=some (.dK (ks.map kK))/\KR (MM M0 F) H ks ds/\l∈F i /\
  ∀ ir dw,KR (MM M0 F) H ir dw->∃ F',RS M0 F' (U.set i (some (.m dw))) Z (upd H l (.dK (ir.map kK)))/\Stp F H F' (upd H l (.dK (ir.map kK))):=by
 let(v,ev,q):=r.at' i _ e
 generalize hA:F i=A at q
 cases q with
 | @m l ks _ el k q=>
  refine#[l,ks,ev,el,.of k q,by simp,λir dw kr=>r.wrO (A:= [l]) (xa.mp e).1 ev (by rw[hA];simp) (λxs z=>by rw[el]at z;cases z) (λa h=>by rw[hA];exact h) (xB.mpr #[(λz=>nomatch z),.nil]) λhr _=>.m zK kr.keys (j9 hr kr.vals)]
private def sDupd(i:Nat)(fb:EM FV):SM:=λU=>match U[i]? with
 |some (some (.m _))=>(fb U).bind λ(w,U1)=>match U1[i]?,derS U1 w with
  |some (some (.m ds)),some (.dict kv)=>match unD kv with
   |some es=>if ds.length+es.length<=1000000 then .ok (.next,U1.set i (some (.m (zO ds es)))) else .bad
   |none=>.bad
  |_,_=>.bad
 |_=>.bad
def zh8 (n:NmK X mp s i x) (hb:SE X mp b fb) (m1:M1 X (.Name x p) "update" p2 b pos):SS X mp io (.Expr (.Call (.Attribute (.Name x p) "update" p2) [b] [] pos) pos') (sDupd i fb):=λM0 F U Z O H D rs hs hl hp=>by
 unfold sDupd at hp
 delta hp d0 e0
 let(l,DR,ev,el,_):=rs.mutM e0
 erw[(Qe (zhk (qG n.hN n.hv n.hd n.hcd) zF m1) rfl).wp #[.ref l,hs s i _ n.hm ev,l,rfl,#[_,.inl el],hb M0 F U Z O H _ rs hs ((SPost.seq hs hl hp).mono λF1 U1 H1 w rs1 s1 h1 v hv=>?_)]]
 delta h1 ds kv e1 e2
 delta h1 es ek
 delta h1 hsz
 let(l',ks,dm,rq,kr,Bf,mu):=rs1.mutM e1
 rw[ev]at dm;cases dm
 let(b',kb,rfl,nb,eb,Ca):=Rep.tab (hv.strong rs1 e2) ek
 let(F2,rs2,s2):=mu _ _ (Ca.merge kr)
 refine#[b',_,_,rfl,rq,eb,λz=>nb (.inr #[i,by rw[<- z];exact Bf]),by have:=Xe;rw[xl,xl,kr.length,Ca.length];lia,?_]
 rw[Vm]
 erw[h1 F2 Z O _ rs2 s2 hs hl λ_ _=>rfl]
private def JE(i:Nat)(fb fa:EM FV):SM:=λU=>(fa U).bind λ(u,U1)=>match U1[i]? with
 |some (some _)=>(fb U1).bind λ(w,U2)=>match U2[i]?,derS U2 u,derf U2 w with
  |some (some (.m ds)),some d,some (.str z)=>if ds.length<1000000 then .ok (.next,U2.set i (some (.m (zW ds z d)))) else .bad
  |_,_,_=>.bad
 |_=>.bad
def zh7(hu:X.A.units+1<cLine)(n:NmK X mp s i x)(ha:SE X mp a fa)(hb:SE X mp b fb)(b8:swapsWith a (some (.Subscript (.Name x p) b pos')) pos.line X.env=pure false):SS X mp io (.Assign [.Subscript (.Name x p) b pos'] a pos) (JE i fb fa):=λM0 F U Z O H D rs hs hl hp=>by
 erw[(zhr hu (qG n.hN n.hv n.hd n.hcd) zF zF b8).wp (ha M0 F U Z O H _ rs hs ((SPost.seq hs hl hp).mono λF1 U1 H1 u rs1 s1 h1 v hv=>?_))]
 delta h1 o0 e0
 let(v0,ev,_):=rs1.at' i _ e0
 refine#[v0,hs s i _ n.hm ev,hb M0 F1 U1 Z O H1 _ rs1 hs ((SPost.seq hs hl h1).mono λF2 U2 H2 w rs2 s2 h2 v2 hv2=>?_)]
 delta h2 ds d z e1 e2 e3
 delta h2 hsz
 let(l',ks,dm,rq,kr,Bf,mu):=rs2.mutM e1
 rw[ev]at dm;cases dm
 cases hv2.weak rs2 e3
 let(F3,a7,s3):=mu _ _ (kr.put z ((hv.stp s2 rs1.al0).strong rs2 e2))
 refine#[l',_,rfl,#[_,.inr z,rq,rfl,by have:=Xe;rw[xl,kr.length];lia,rfl],?_]
 rw[yC]
 erw[h2 F3 Z O _ a7 s3 hs hl λ_ _=>rfl]
private def YA(i:Nat)(fb:EM FV):SM:=λU=>match U[i]? with
 |some (some (.m _))=>(fb U).bind λ(w,U1)=>match U1[i]?,derf U1 w with
  |some (some (.m ds)),some (.str z)=>if (zN ds z).isSome then .ok (.next,U1.set i (some (.m (qz ds z)))) else .bad
  |_,_=>.bad
 |_=>.bad
def zh6 (n:NmK X mp s i x) (hb:SE X mp b fb) (m1:M1 X (.Name x p) "pop" p2 b pos):SS X mp io (.Expr (.Call (.Attribute (.Name x p) "pop" p2) [b] [] pos) pos') (YA i fb):=λM0 F U Z O H D rs hs hl hp=>by
 unfold YA at hp
 delta hp d0 e0
 let(l,DR,ev,el,_):=rs.mutM e0
 erw[(Qe (ze8 (qG n.hN n.hv n.hd n.hcd) zF m1) rfl).wp #[.ref l,hs s i _ n.hm ev,l,rfl,#[_,.inl el],hb M0 F U Z O H _ rs hs ((SPost.seq hs hl hp).mono λF1 U1 H1 w rs1 s1 h1 v hv=>?_)]]
 delta h1 ds z e1 e2
 delta h1 hv2
 let(l',ks,dm,rq,kr,Bf,mu):=rs1.mutM e1
 rw[ev]at dm;cases dm
 cases hv.weak rs1 e2
 let(w',hw):=Option.isSome_iff_exists.mp (((kr.val z).1).trans hv2)
 let(F2,rs2,s2):=mu _ _ (kr.drop z)
 refine#[_,.inr z,w',rq,rfl,by rw[JH,hw],?_]
 rw[Yd]
 erw[h1 F2 Z O _ rs2 s2 hs hl λ_ _=>rfl]
end
section
variable {X:Cx}{mp:Ac}{a:Expr}{p1 p2 q1 q2:Pos}{fa:EM FV}
private def yg(fa:EM FV):EM FV:=λU=>(fa U).bind λ(u,U1)=>match derS U1 u with
 |some (.tuple ds)=>R.get (ZF ds) λns=>if ns.length<=60 then .ok (.dat (.int (Tab.dedup ns).length),U1) else .bad
 |some (.list ds)=>R.get (ZF ds) λns=>if ns.length<=60 then .ok (.dat (.int (Tab.dedup ns).length),U1) else .bad
 |_=>.bad
def zfx (hc:X.calm=true) (lj:Gl X "len") (aq:X.mg "len" =none) (gk:Gl X "set") (tw:X.mg "set" =none) (ha:SE X mp a fa) (AQ:a⁻¹) :
  SE X mp (.Call (.Name "len" p1) [.Call (.Name "set" p2) [a] [] q2] [] q1) (yg fa):=by?
 erw[(Vu (strKind _ _) V.str (λk u ⟨t,e⟩=>e ▸ #[strKind_is ..,rfl]) hc lj aq gk tw AQ).wp (ha.run rs hs hp λF1 U1 H1 u v rs1 s1 o1 h1=>?_)]
 dsimp only at h1
 split at h1
 next ds ed=>
  let(ns,en,h1):=R.got id h1
  let(hn,h1):=R.gif id h1
  let(l,vs,rfl,el,r):=(o1.strong rs1 ed).tup_inv
  let hv:=ZQ (ZT en ▸ r)
  subst hv
  exact#[l,ns,rfl,.inl (SqT.of el),hn,h1 F1 H1 rs1 (.refl _ _) _ (Rep.int _)]
 next ds ed=>
  let(ns,en,h1):=R.got id h1
  let(hn,h1):=R.gif id h1
  let(l,vs,rfl,el,_,r):=(o1.strong rs1 ed).lst_inv
  let hv:=ZQ (ZT en ▸ r)
  subst hv
  exact#[l,ns,rfl,.inr (SqL.of el),hn,h1 F1 H1 rs1 (.refl _ _) _ (Rep.int _)]
 ·erw[h1.elim]
end
section
end
section
end
abbrev CF:=Str->List OV->RF
private def fNo:EM Bool:=λ_=>.bad
private def fNoV:EM FV:=λ_=>.bad
structure Wd where
 bi:Ab
 gi:List (Str×Int)
 gs:List (Str×Str)
 fl:List (Str×Nat)
 gd:List (Str×List (Str×Str))
 fk:List (Str×Str):= []
 mc:List (Str×Str×Nat):= []
 ml:List (Str×Str×Str×Nat):= []
def zQ(e:Expr):Bool:=e.ctorIdx !=22
def jO(e:Expr):Bool:=e.ctorIdx !=26
def Zr(e:Expr):Bool:=e.ctorIdx !=7
def zf6(sc:Scope)(x:Str):Bool:=decide (sc.names.lookup x=some .local)||decide (sc.names.lookup x=some .cell)||decide (sc.names.lookup x=some .free)
def zbS(sc:Scope)(x:Str):Bool:=decide (sc.names.lookup x=some .globalImplicit)
def nmB (sc:Scope) (N:Ab) (mp:Ac) (s i:Nat) (x:Str):Bool:=decide (N[s]?=some x)&&zf6 sc x&&decide (mp[s]?=some i)&& !(x==("__debug__" :Str))&& !(x==("__classdict__" :Str))
def okO{α:Type}(o:Option α)(f:α->Bool):Bool:=match o with
 |some a=>f a
 |none=>false
def zaq{α:Type}{o:Option α}{f:α->Bool}(h:okO o f=true):∃ a,o=some a/\f a=true:=by
 cases o with
 |none=>cases h
 |some a=>exact#[a,rfl,h]
mutual
noncomputable def yX(sc:Scope)(N:Ab)(mp:Ac)(lo:Nat):IT->Expr->Bool
 |.nm s i,.Name x _=>decide (N[s]?=some x)&&decide (mp[s]?=some i)&&decide (lo<=i)&&(decide (sc.names.lookup x=some .local)||decide (sc.names.lookup x=some .cell))
 |.tp ts,.Tuple es _ _=>Va sc N mp lo ts es
 |_,_=>false
noncomputable def Va(sc:Scope)(N:Ab)(mp:Ac)(lo:Nat):ITs->Ag->Bool
 |.nil,[]=>true
 |.cons t ts,e::es=>zQ e&&yX sc N mp lo t e&&Va sc N mp lo ts es
 |_,_=>false
end
structure XSc(X:Cx)(sc:Scope)(N:Ab):Prop where
 hN:X.N=N
 vis:∀ x,zf6 sc x=true->Vis X.env.scope x
 loc:∀ x,sc.names.lookup x=some .local->X.env.scope.names.lookup x=some .local
 cel:∀ x,sc.names.lookup x=some .cell->X.env.scope.names.lookup x=some .cell/\X.fn x=true
 fre:∀ x,sc.names.lookup x=some .free->X.env.scope.names.lookup x=some .cell∨X.env.scope.names.lookup x=some .free
 glo:∀ x,zbS sc x=true->Gl X x
structure XW(X:Cx)(cf:CF)(W:Wd)(k:Nat):Prop where
 bi:∀ x,W.bi.contains x=true->X.mg x=none
 gi:∀ x i,W.gi.contains (x,i)=true->∃ t,X.mg x=some (.int i t)
 gs:∀ x i,W.gs.contains (x,i)=true->∃ t,X.mg x=some (.str i t)
 fn:∀ x n,W.fl.contains (x,n)=true->Kn X.prog X.w X.K X.mg X.base CX0 x k (spX n (cf x))/\Ran n (cf x)
 rm:Room k X.A
 hk:1<=k
 calm:X.calm=true
 gd:∀ x kf,W.gd.contains (x,kf)=true->GD X.w X.K X.mg x kf
 fk:∀ c f,W.fk.contains (c,f)=true->Wa X c f
 mc:∀ c q n,W.mc.contains (c,q,n)=true->X.mg c=some (.ref (Cs.adr c))/\(∃ j,j+1<=k/\KnI X.prog X.w X.K X.mg X.base (Cs.adr c) j (spX n (cf q)))/\Ran n (cf q)
 ml:∀ c m q n,W.ml.contains (c,m,q,n)=true->KnM X.prog X.w X.K X.mg X.base (Cs.adr c) m k (spX n (cf q))/\Ran n (cf q)
def zS(h:zQ e=true):starEach (e::es) env=(false,eval e env)::starEach es env:=by
 cases e<;>first | rfl | (cases h)
def ZR:es.all zQ=true->(starEach es env).any (·.1)=false:=by
 induction es with
 |nil=>intro;rfl
 |cons e es ih=>
  intro h
  rw[uc,xi]at h
  rw[zS h.1,xT,ih h.2];rfl
def jd:∀{l:List (Bool×Sem Aj)},l.any (·.1)=false->(backTo pos l).any (·.1)=false
 |[],_=>rfl
 | (b,t)::r,h=>by
  rw[xT,Bool.or_eq_false_iff]at h
  show ((b,_)::backTo pos r).any (·.1)=false
  rw[xT,jd h.2]
  let hb:=h.1
  rw[hb];rfl
def W3(h:jO e=true):wU e:=λo i=>by
 cases e<;>first | rfl | (cases h)
def Vg(h:Zr e=true)(x:Aj):foldedSetIterable e env x=pure x:=by
 cases e<;>first | rfl | (cases h)
def jm(op:CmpOp)(h:Zr e=true):behindInMarks op e=false:=by
 cases e<;>first | rfl | (cases h)
def Vl(op op':CmpOp)(h:Zr e=true):lastMarks [op,op'] [b,e]=false:=jm op' h
def zaA{x y:Str}(h:(!(x==y))=true):(x==y)=false:= ~~~h
section
variable {X:Cx}{cf:CF}{W:Wd}{k:Nat}{sc:Scope}{N:Ab}{mp:Ac}{m:Nat}
def ziL(S:XSc X sc N)(h:nmB sc N mp s i x=true):NmK X mp s i x:=by
 unfold nmB at h
 simp only[xi,x0]at h
 let((((h1,h2),h3),h4),h5):=h
 exact#[by rw[S.hN];exact h1,S.vis x h2,h3,zaA h4,zaA h5]
def wj{f:Str->NameKind->NameKind}:∀{names:List (Str×NameKind)}{x:Str},(names.map λ(n,k)=>(n,f n k)).lookup x=(names.lookup x).map (f x)
 |[],_=>rfl
 | (n,k)::r,x=>by
  rw[xr]
  cases hx:x==n with
  |true=>rw[xy,xy,hx];rw[eq_of_beq hx];rfl
  |false=>rw[xy,xy,hx];exact wj
def jo:(relabel scope env).names.lookup x=(scope.names.lookup x).map λk=>if (k==.free&&env.scope.kind==ScopeKind.function&&env.kindOf x==some NameKind.cell) then .cell else k:=by
 unfold relabel
 have e:(scope.names.map λ(n,k)=>if (k==NameKind.free&&env.scope.kind==ScopeKind.function&&env.kindOf n==some NameKind.cell) then (n,NameKind.cell) else (n,k)) =
   scope.names.map λ(n,k)=>(n,(λn k=>if (k==NameKind.free&&env.scope.kind==ScopeKind.function&&env.kindOf n==some NameKind.cell) then NameKind.cell else k) n k):=by
  apply uA
  rintro⟨n,k⟩ _
  dsimp only
  split<;>rfl
 rw[e]
 erw[wj (f:=λn k=>if (k==NameKind.free&&env.scope.kind==ScopeKind.function&&env.kindOf n==some NameKind.cell) then NameKind.cell else k)]
def XSc.comp(S:CSc gu N scope N' k ix)(cl:List (Str×Addr))(C:Ap)(s2:Am)(H2:Hp)(fp:List Ap):XSc ⋯ scope N' where
 hN:=rfl
 vis x h:=by
  unfold zf6 at h
  simp only[xQ,x0]at h
  show Vis (relabel scope X.env) x
  unfold Vis
  rw[jo]
  rcases h with (h | h) | h
  ·rw[h];exact .inl rfl
  ·rw[h];exact .inr (.inl rfl)
  ·rw[h]
   simp only[uB]
   split
   ·erw[.inr (.inl rfl)]
   ·erw[.inr (.inr rfl)]
 loc x h:=by
  show (relabel scope X.env).names.lookup x=_
  rw[jo,h];rfl
 cel x h:=by
  refine#[?_,decide_eq_true h]
  show (relabel scope X.env).names.lookup x=_
  rw[jo,h];rfl
 fre x h:=by
  show (relabel scope X.env).names.lookup x=_∨(relabel scope X.env).names.lookup x=_
  rw[jo,h]
  simp only[uB]
  split
  ·erw[.inl rfl]
  ·erw[.inr rfl]
 glo x h:=by
  unfold zbS at h
  simp only[x0]at h
  show (relabel scope X.env).names.lookup x=_
  rw[jo,h];rfl
def XW.comp(T:XW X cf W k):XW ⋯ cf W k:=#[T.bi,T.gi,T.gs,T.fn,T.rm,T.hk,T.calm,T.gd,λc f h=>#[(T.fk c f h).cl,(T.fk c f h).no],T.mc,T.ml]
def zjb(S:XSc X sc N)(h:CSc sc N scope N' k ix):CSc X.env.scope X.N scope N' k ix :=
 ⟨h.kind,h.cel,h.loc,λy hy e=>by
  rcases h.fre y hy e with z | z
  ·erw[.inl (S.cel _ z).1]
  ·exact S.fre _ z,h.len,h.nd,λj i e=>by
  rw[S.hN];exact h.cap j i e⟩
def Room.at1(T:XW X cf W k):Room 1 X.A:=T.rm.mono T.hk
def Room.atk(T:XW X cf W k):Room k X.A:=T.rm
def km:(assignEach es env).length=es.length:=by
 induction es with
 |nil=>rfl
 |cons e es ih=>cases e<;>simp[assignEach,ih]
def wa(h:zQ e=true):assignEach (e::es) env=(false,assign e env)::assignEach es env:=by
 cases e<;>first | rfl | (cases h)
mutual
theorem yH{lo:Nat}(S:XSc X sc N)(hN:N.Nodup)(hn:mp.Nodup)(hc:X.calm=true)(hk:∀ i,lo<=i->¬ kp i):∀(t:IT)(e:Expr),yX sc N mp lo t e=true->SG X mp kp e t
  |.nm s i,e,h=>by
   cases e with
   |Name x p=>
    simp only[yX,xi,xQ,x0]at h
    let(((h1,h2),h3),h4):=h
    refine zhS (by rw[S.hN];exact hN) hn (by rw[S.hN];exact h1) h2 (hk i h3) ?_ ?_
    · rcases h4 with h4 | h4
      · exact .inl (S.loc x h4)
      · exact .inr (S.cel x h4).1
    · rcases h4 with h4 | h4
      · exact .inr (S.loc x h4)
      · exact .inl (S.cel x h4).2
   |_=>simp[yX]at h
  |.tp ts,e,h=>by
   cases e with
   |Tuple es n p=>
    simp only[yX]at h
    let(h1,h2,h3):=YD S hN hn hc hk ts es h
    exact zkt hc h1 (by rw[km];exact h2) h3
   |_=>simp[yX]at h
theorem YD{lo:Nat}(S:XSc X sc N)(hN:N.Nodup)(hn:mp.Nodup)(hc:X.calm=true)(hk:∀ i,lo<=i->¬ kp i):∀(ts:ITs)(es:Ag),Va sc N mp lo ts es=true->SGs X mp kp es ts/\ts.len=es.length/\(assignEach es X.env).findIdx? (·.1)=none
  |.nil,[],h=>#[zhT,rfl,rfl]
  |.cons t ts,e::es,h=>by
    simp only[Va,xi]at h
    let((h1,h2),h3):=h
    let ih1:=yH S hN hn hc hk t e h2
    let(i1,i2,i3):=YD S hN hn hc hk ts es h3
    refine#[zfD ih1 i1 (by rw[wa h1];rfl),by rw[ITs.len,i2];rfl,?_]
    rw[wa h1,List.findIdx?_cons]
    simp[i3]
  |.nil,_::_,h=>by simp[Va]at h
  |.cons ..,[],h=>by simp[Va]at h
end
def zl2:Expr->Bool
 |.UnaryOp .Not _ _=>true
 |_=>false
def yz(e:Expr):Bool:=e.ctorIdx !=0&&e.ctorIdx !=5&&e.ctorIdx !=15&& !(zl2 e)
def zcp(h:yz e=true)(whole:Sem Aj):isTrue e env whole=(do let v<-whole;standAt e.pos;holding [v] (truthy v)):=by
 cases e<;>first | rfl | (cases h;done) | skip
 rename_i op x p
 cases op<;>first | rfl | (cases h)
def qV(h:SE X mp e fa)(hp:yz e=true):SE X mp e fa/\ST X mp e (fTru fa):=#[h,zfS h (zcp hp)]
def YG(h:ST X mp (.BoolOp op vs p) t):SW X mp (.BoolOp op vs p) t:=λM0 F U Z O H Q rs hs hp whole pins s I=>h M0 F U Z O H Q rs hs hp pins s I
def VW:bootBuiltins "sorted" =some (.builtin "sorted"):=by decide +kernel
def yU:bootBuiltins "range" =some (.type "range"):=by decide +kernel
def ZI:bootBuiltins "len" =some (.builtin "len"):=by decide +kernel
def zaU:bootBuiltins "min" =some (.builtin "min"):=by decide +kernel
def zaT:bootBuiltins "max" =some (.builtin "max"):=by decide +kernel
def zaV:bootBuiltins "str" =some (.type "str"):=by decide +kernel
def zaS:bootBuiltins "isinstance" =some (.builtin "isinstance"):=by decide +kernel
def kB:bootBuiltins "dict" =some (.type "dict"):=by decide +kernel
def Vh(T:XW X cf W k):X.A.units+1<cLine:=by have:=T.rm.units;lia
def zg6(h:jO e=true):zge e:=λo i=>by
 cases e<;>first | rfl | (cases h)
def zgO(h:es.all zQ=true)(hl:es.length<20):methodCallForm (es.length+0) (backTo pos (starEach es env)) (backToKw pos (keywordEach [] env))=true:=by
 let h1:=jd (pos:=pos) (ZR (env:=env) h)
 let h2:(backTo pos (starEach es env)).all (!·.1)=true:=by
  rw[List.any_eq_false]at h1
  rw[xG]
  intro x hx
  have:=h1 x hx
  simpa using this
 unfold methodCallForm
 rw[h2]
 show (true&&true&&decide _)=true
 simp only[Bool.and_self,Bool.true_and,x0]
 show es.length+0+0<30
 lia
def ziK{x m:Str}(h:zQ b=true)(hl:(p2.endLine==q.line)=true):M1 X (.Name x p) m p2 b q:=#[rfl,by rw[zS h];rfl,hl,by rw[zS h];rfl]
def zlK:SE X mp e fNoV:=λM0 F U Z O H Q rs hs hp=>hp.elim
def zfR:ST X mp e fNo:=λM0 F U Z O H Q rs hs hp=>hp.elim
def attF:Expr->Bool
 |.Call (.Attribute ..) .. =>true
 |_=>false
def KE(e:Expr):Bool:=e.ctorIdx==23||e.ctorIdx==21||e.ctorIdx==20||attF e
def Jo{o:Expr}{nm:Str}{env:Env}(h:KE o=true):attributeBase o nm env (eval o env)=eval o env:=by
 cases o<;>first | rfl | (cases h;done) | skip
 rename_i f xs ks q
 cases f<;>first | rfl | (cases h)
def wX(e:Expr):Bool:=e.ctorIdx !=8&&e.ctorIdx !=9&&e.ctorIdx !=10
def ju(e:Expr):Bool:=e.ctorIdx !=25&&e.ctorIdx !=8&&e.ctorIdx !=9&&e.ctorIdx !=10
def zjB(sc:Scope)(x:Str):Bool:=decide (sc.names.lookup x=some .local)||decide (sc.names.lookup x=some .cell)
def vj(h:ju e=true):swapsWith e t l env=pure false:=by
 cases e<;>first | rfl | (cases h)
def Jg(h:ju e=true):swapsWithSole [t] e l env=pure false:=vj h
def QC(h:ju e=true):swappedStores [t] e env=pure none:=by
 let hm:(match (generalizing:=false) [t],e with
  |[.Tuple ts _ _],.Tuple vs _ _=>some (ts,vs)
  |[.List ts _],.Tuple vs _ _=>some (ts,vs)
  |_,_=>none)=(none:Option (Ag×Ag)):=by
  split
  ·cases h
  ·cases h
  ·rfl
 unfold swappedStores
 split
 next q=>
  erw[absurd (q.symm.trans hm) (λz=>nomatch z)]
 ·rfl
def Vy(h:wX e=true):swapsWithSole [.Subscript x y p] e l env=pure false:=by
 cases e<;>first | rfl | (cases h)
def vf:swappedStores [.Subscript x y p] e env=pure none:=by
 cases e<;>rfl
def zcE:swapsWith e (some (.Attribute o f p)) l env=pure false:=by cases e<;>rfl
def zfW:swapsWith e (some (.Subscript o b p)) l env=pure false:=by cases e<;>rfl
def zcD(h:wX e=true):swapsWith e (some (.Name x p)) l env=pure false:=by
 cases e<;>first | rfl | (cases h)
def KN:∃ b:Bool,swapsWith (.ListComp elt gens scope q) (some (.Name x p)) l env=pure b:=#[_,rfl]
def YH:∃ b:Bool,swapsWith (.DictComp ek ev gens scope q) (some (.Name x p)) l env=pure b:=#[_,rfl]
def ko(h:jO b=true)(v:Aj):assign (.Subscript o b p) env v=(do
  let ov<-holding [v] (eval o env)
  let iv<-holding [v,ov] (eval b env)
  standAt p
  holding [v,ov,iv] (setItem ov iv v)
  release [v,ov,iv] []):=by
 cases b<;>first | rfl | (cases h)
def zjC(S:XSc X sc N)(h:zjB sc x=true):Loc X.env.scope x/\(X.fn x=true∨X.env.scope.names.lookup x=some .local):=by
 unfold zjB at h
 simp only[xQ,x0]at h
 rcases h with h | h
 ·exact#[.inl (S.loc x h),.inr (S.loc x h)]
 ·exact#[.inr (S.cel x h).1,.inl (S.cel x h).2]
def zke{X:Cx}{st:Stmt}(h:SS X mp io st f):SB X mp io [st] f:=λM0 F U Z O H D rs hs hl hp=>(wY zaw).wp (h M0 F U Z O H D rs hs hl hp)
def qW{kf:List (Str×Str)}{y g:Str}(h:kf.lookup y=some g):(y,g)∈kf:=by
 induction kf with
 |nil=>cases h
 |cons p r ih=>
  grind
abbrev Ck(E P:Cx->Prop):Type:=Option (PLift (∀ X,E X->P X))
section
variable {E P A B D F:Cx->Prop}
def ck0(h:∀ X,E X->P X):Ck E P:=some #[h]
def ckB(b:Bool)(h:b=true->∀ X,E X->P X):Ck E P:=if q:b=true then some #[h q] else none
def ck1(a:Ck E A)(h:∀ X,E X->A X->P X):Ck E P:=Option.map (λu=>#[λX e=>h X e (u.1 X e)]) a
def ck2(a:Ck E A)(b:Ck E B)(h:∀ X,E X->A X->B X->P X):Ck E P:=Option.bind a λu=>ck1 b λX e=>h X e (u.1 X e)
def ck3(a:Ck E A)(b:Ck E B)(d:Ck E D)(h:∀ X,E X->A X->B X->D X->P X):Ck E P:=Option.bind a λu=>ck2 b d λX e=>h X e (u.1 X e)
def ck4(a:Ck E A)(b:Ck E B)(d:Ck E D)(f:Ck E F)(h:∀ X,E X->A X->B X->D X->F X->P X):Ck E P:=Option.bind a λu=>ck3 b d f λX e=>h X e (u.1 X e)
def tt(b:Bool):Ck E λ_=>b=true:=ckB b λh _ _=>h
def cx(a:Ck E A):Ck B λ_=>∀ X,E X->A X:=Option.map (λu=>#[λ_ _=>u.1]) a
end
section
variable {α:Type}{T:α->Type}{Q:List α->Type}{σ:Option α->Type}
def vw{T:Type}[Inhabited T]{i j:Nat}(f:i=j->T):T:=if h:i=j then f h else default
protected def dq [DecidableEq α][∀ a,Inhabited (T a)](a b:α)(k:T a):T b:=if q:a=b then q ▸ k else default
protected def vB(l:List α)(k:Q [])(h:∀ x r,Q (x::r)):Q l:=match l with
 |[]=>k
 |x::r=>h x r
protected def vN [∀ l,Inhabited (Q l)](l:List α)(k:Q []):Q l:=vB l k λ_ _=>default
protected def vC [∀ l,Inhabited (Q l)](l:List α)(k:∀ x r,Q (x::r)):Q l:=vB l default k
protected def v1 [∀ l,Inhabited (Q l)](l:List α)(k:∀ x,Q [x]):Q l:=vC l λx r=>vN r (k x)
protected def v2 [∀ l,Inhabited (Q l)](l:List α)(k:∀ x y,Q [x,y]):Q l:=vC l λx r=>v1 r (k x)
protected def vO [∀ l,Inhabited (σ l)](o:Option α)(k:σ none):σ o:=match o with
 |none=>k
 |some _=>default
protected def vS [∀ l,Inhabited (σ l)](o:Option α)(k:∀ x,σ (some x)):σ o:=match o with
 |none=>default
 |some x=>k x
end
section
variable {C:Const->Type}[∀ z,Inhabited (C z)]
protected def zkQ(z:Const)(k:∀ i,C (.int i)):C z:=vw (Const.int.elim z · k)
protected def zl6(z:Const)(k:∀ i,C (.str i)):C z:=vw (Const.str.elim z · k)
protected def vBoo(z:Const)(k:∀ i,C (.bool i)):C z:=vw (Const.bool.elim z · k)
protected def vNon(z:Const)(k:C .none):C z:=match z with
 |.none=>k
 |_=>default
end
section
variable {P:Expr->Type}[∀ e,Inhabited (P e)](e:Expr)
protected def vBl(k:∀ o vs p,P (.BoolOp o vs p)):P e:=vw (Expr.BoolOp.elim e · k)
protected def zkP(k:∀ x o y p,P (.BinOp x o y p)):P e:=vw (Expr.BinOp.elim e · k)
protected def vUn(k:∀ o x p,P (.UnaryOp o x p)):P e:=vw (Expr.UnaryOp.elim e · k)
protected def vIf(k:∀ z x y p,P (.IfExp z x y p)):P e:=vw (Expr.IfExp.elim e · k)
protected def vDi(k:∀ ks vs p,P (.Dict ks vs p)):P e:=vw (Expr.Dict.elim e · k)
protected def vLco(k:∀ x g s p,P (.ListComp x g s p)):P e:=vw (Expr.ListComp.elim e · k)
protected def vDco(k:∀ x y g s p,P (.DictComp x y g s p)):P e:=vw (Expr.DictComp.elim e · k)
protected def zl5(k:∀ x os ys p,P (.Compare x os ys p)):P e:=vw (Expr.Compare.elim e · k)
protected def zl4(k:∀ f xs ks q,P (.Call f xs ks q)):P e:=vw (Expr.Call.elim e · k)
protected def K5(k:∀ z j p,P (.Constant z j p)):P e:=vw (Expr.Constant.elim e · k)
protected def zkO(k:∀ o f p,P (.Attribute o f p)):P e:=vw (Expr.Attribute.elim e · k)
protected def YO(k:∀ x y p,P (.Subscript x y p)):P e:=vw (Expr.Subscript.elim e · k)
protected def vStr(k:∀ x p,P (.Starred x p)):P e:=vw (Expr.Starred.elim e · k)
protected def qT(k:∀ x p,P (.Name x p)):P e:=vw (Expr.Name.elim e · k)
protected def vLst(k:∀ es p,P (.List es p)):P e:=vw (Expr.List.elim e · k)
protected def zcI(k:∀ es n p,P (.Tuple es n p)):P e:=vw (Expr.Tuple.elim e · k)
protected def vSli(k:∀ l u s p,P (.Slice l u s p)):P e:=vw (Expr.Slice.elim e · k)
protected def vFn(k:∀ f p xs q,P (.Call (.Name f p) xs [] q)):P e:=zl4 e λg xs ks q=>vN ks (qT g λf p=>k f p xs q)
protected def vF1(k:∀ f p x q,P (.Call (.Name f p) [x] [] q)):P e:=vFn e λf p xs q=>v1 xs λx=>k f p x q
protected def vF2(k:∀ f p x y q,P (.Call (.Name f p) [x,y] [] q)):P e:=vFn e λf p xs q=>v2 xs λx y=>k f p x y q
protected def vMo(k:∀ o m p2 xs q,P (.Call (.Attribute o m p2) xs [] q)):P e:=zl4 e λg xs ks q=>vN ks (zkO g λo m p2=>k o m p2 xs q)
protected def zl7(k:∀ x l u p q,P (.Subscript x (.Slice l u none p) q)):P e:=YO e λx y q=>vSli y λl u s p=>vO s (k x l u p q)
protected def vFd(f:Str)(k:∀ x p p2,P (.Attribute (.Name x p) f p2)):P e:=zkO e λo g p2=>dq f g (qT o λx p=>k x p p2)
protected def zio(op:CmpOp)(k:∀ x y p,P (.Compare x [op] [y] p)):P e:=zl5 e λx os ys p=>v1 os λo=>v1 ys λy=>dq op o (k x y p)
protected def zl3(op:BoolOp)(k2:∀ x y p,P (.BoolOp op [x,y] p))(k3:∀ x y w r p,P (.BoolOp op (x::y::w::r) p)):P e:=vBl e λo vs p=>dq op o (vC vs λx r=>vC r λy r=>vB r (k2 x y p) λw r=>k3 x y w r p)
protected def vLC(k:∀ x tg it ifs s p,P (.ListComp x [#[tg,it,ifs,0]] s p)):P e:=vLco e λx gs s p=>v1 gs λ⟨tg,it,ifs,a⟩=>dq 0 a (k x tg it ifs s p)
protected def vDC(k:∀ x y tg it ifs s p,P (.DictComp x y [#[tg,it,ifs,0]] s p)):P e:=vDco e λx y gs s p=>v1 gs λ⟨tg,it,ifs,a⟩=>dq 0 a (k x y tg it ifs s p)
end
structure Ct where
 cf:CF
 W:Wd
 k:Nat
 sc:Scope
 N:Ab
 mp:Ac
structure En(c:Ct)(X:Cx):Prop where
 S:XSc X c.sc c.N
 T:XW X c.cf c.W c.k
section
variable {c:Ct}
def nmk(s i:Nat)(x:Str):Ck (En c) λX=>NmK X c.mp s i x:=ckB (nmB c.sc c.N c.mp s i x) λh X E=>ziL E.S h
def bik (x y:Str){v:Aj}(hb:bootBuiltins y=some v):Ck (En c) λX=>BiK X x v/\x=y:=ckB (decide (x=y)&&zbS c.sc x&&c.W.bi.contains x&&decide (y≠ "__name__")&& !(y==("__debug__" :Str))) λh X E=>by
 simp only[xi,x0]at h
 let((((rfl,h2),h3),h4),h5):=h
 exact#[#[E.S.glo x h2,E.T.bi x h3,hb,h4,zaA h5],rfl]
def flk(s i:Nat)(x cl f:Str):Ck (En c) λX=>NmK X c.mp s i x/\Wa X cl f:=ckB (nmB c.sc c.N c.mp s i x&&c.W.fk.contains (cl,f)) λh X E=>by
 simp only[xi]at h
 exact#[ziL E.S h.1,E.T.fk _ _ h.2]
def glk (x:Str):Ck (En c) λX=>Gl X x/\(↥x):=ckB (zbS c.sc x&& !(x==("__debug__" :Str))) λh X E=>by
 simp only[xi]at h
 exact#[E.S.glo x h.1,zaA h.2]
def isT(T:String):Option (PLift (bootBuiltins (Str.ofString T)=some (.type T))) :=
 if h:T= "int" then some #[h ▸ v5] else if h:T= "bool" then some #[h ▸ kA] else if h:T= "list" then some #[h ▸ Q3] else if h:T= "tuple" then some #[h ▸ wb] else if h:T= "str" then some #[h ▸ zaV] else none
def Ct.inn(c:Ct)(n k:Nat)(ix:Ac)(N':Ab)(sc:Scope):Ct:={ c with sc:=sc,N:=N',mp:=mpC c.mp n k ix }
structure CF1(X:Cx)(c:Ct)(n k:Nat)(ix:Ac)(N':Ab)(sc:Scope)(t:IT)(tg it:Expr):Prop where
 ca:X.calm=true
 cs:CSc X.env.scope X.N sc N' k ix
 hm:∀ j i:Nat,ix[j]?=some i->∃ m,c.mp[i]?=some m/\m<n
 hg:∀ cl C s2 H2 fp,SG (X.comp N' sc cl C s2 H2 fp) (mpC c.mp n k ix) (·<n) tg t
 hf:∀ x,foldedSetIterable it X.env x=pure x
 en:∀ cl C s2 H2 fp,En (c.inn n k ix N' sc) (X.comp N' sc cl C s2 H2 fp)
def cfk(n k:Nat)(ix:Ac)(N':Ab)(sc:Scope)(t:IT)(tg it:Expr):Ck (En c) λX=>CF1 X c n k ix N' sc t tg it:=ckB (zdj c.sc c.N sc N' k ix&&decide (mpC c.mp n k ix).Nodup&&ix.all (λi=>okO c.mp[i]? λj=>decide (j<n))&&Zr it&&yX sc N' (mpC c.mp n k ix) n t tg) λh X E=>by
 simp only[xi,x0]at h
 let((((h3,h4),h5),h6),h8):=h
 let C0:=CSc.of h3
 refine#[E.T.calm,zjb E.S C0,λj i e=>?_,λcl C s2 H2 fp=>yH (XSc.comp C0 cl C s2 H2 fp) C0.nd h4 E.T.calm (λi h=>by lia) t tg h8,Vg h6,λcl C s2 H2 fp=>#[XSc.comp C0 cl C s2 H2 fp,E.T.comp]]
 let(m,e,h):=zaq (xG.mp h5 i (xO e))
 exact#[m,e,Xf h]
end
structure Es(c:Ct)(io:Ac)(np:Nat)(X:Cx):Prop extends En c X where
 po:PassesOwn (model X.prog X.w) X.A X.env X.xe
 nd:X.N.Nodup
 mn:c.mp.Nodup
 io:∀ i∈io,i<np
structure Lk1(X:Cx)(mp:Ac)(s i:Nat)(x:Str):Prop where
 hi:X.N[s]?=some x
 hm:mp[s]?=some i
 hx:Loc X.env.scope x
 hf:X.fn x=true∨X.env.scope.names.lookup x=some .local
section
variable {c:Ct}{io:Ac}{np:Nat}{A:Cx->Prop}
def up(a:Ck (En c) A):Ck (Es c io np) A:=Option.map (λu=>#[λX e=>u.1 X e.toEn]) a
def lok(s i:Nat)(x:Str):Ck (Es c io np) λX=>Lk1 X c.mp s i x:=ckB (decide (c.N[s]?=some x)&&decide (c.mp[s]?=some i)&&zjB c.sc x) λh X E=>by
 simp only[xi,x0]at h
 let(l1,l2):=zjC E.S h.2
 exact#[by rw[E.S.hN];exact h.1.1,h.1.2,l1,l2]
def tgk(t:IT)(e:Expr):Ck (Es c io np) λX=>SG X c.mp (·∈io) e t:=ckB (yX c.sc c.N c.mp np t e) λh X E=>yH E.S (by rw[<- E.S.hN];exact E.nd) E.mn E.T.calm (λi hi hm=>absurd (E.io i hm) (by lia)) t _ h
end
abbrev RE(c:Ct)(e:Expr)(p:EM FV×EM Bool):Type:=Ck (En c) λX=>SE X c.mp e p.1/\ST X c.mp e p.2
def AsC(c:Ct)(X:Cx)(e:Expr)(f:EM OV):Prop:=∀{io np s i x p q},Es c io np X->Lk1 X c.mp s i x->SS X c.mp io (.Assign [.Name x p] e q) (sAsg io i f)
end
private def vT(f:EM FV):EM FV×EM Bool:=(f,fTru f)
@[simp] theorem vT_1:(vT f).1=f:=rfl
@[simp] theorem vT_2:(vT f).2=fTru f:=rfl
structure IE where
 ev:CF->EM FV×EM Bool
 rd:∀[Cs](c:Ct)(e:Expr),RE c e (ev c.cf)
 rc:∀[Cs](c:Ct)(e:Expr),Ck (En c) λX=>AsC c X e (fD (ev c.cf).1):=λ_ _=>none
structure IL where
 ev:CF->EM (List FV)
 rd:∀[Cs](c:Ct)(es:Ag),Ck (En c) λX=>SL X c.mp es (ev c.cf)
structure IA where
 ev:CF->EM (List AV)
 rd:∀[Cs](c:Ct)(es:Ag),Ck (En c) λX=>SA X c.mp es (ev c.cf)
 z:Option (PLift (∀ cf,ev cf=aNil)):=none
structure IN where
 ev:CF->EM (Aa)
 rd:∀[Cs](c:Ct)(e:Expr),Ck (En c) λX=>SN X c.mp e (ev c.cf)
 rc:∀[Cs](c:Ct)(e:Expr),Ck (En c) λX=>∀ f,SO X c.mp e f->(∀ t,SNt c.mp t (ev c.cf)->SOt c.mp t f)->AsC c X e f:=λ_ _=>none
structure IP where
 ev:CF->EM (Option Int)
 rd:∀[Cs](c:Ct)(o:Option Expr),Ck (En c) λX=>SOp X c.mp o (ev c.cf)
structure II where
 ev:CF->EM (Aa)
 rd:∀[Cs](c:Ct)(tg e:Expr),Ck (En c) λX=>SI X c.mp tg e (ev c.cf)
structure IC where
 ev:CF->EM Bool
 rd:∀[Cs](c:Ct)(es:Ag),Ck (En c) λX=>SF X c.mp es (ev c.cf)
structure IO where
 ev:CF->EM OV
 rd:∀[Cs](c:Ct)(e:Expr),Ck (En c) λX=>SO X c.mp e (ev c.cf)
 rc:∀[Cs](c:Ct)(e:Expr),Ck (En c) λX=>AsC c X e (ev c.cf):=λ_ _=>none
structure IM where
 ev:CF->EM (Ad)
 rd:∀[Cs](c:Ct)(e:Expr),Ck (En c) λX=>SD X c.mp e (ev c.cf)
 rc:∀[Cs](c:Ct)(e:Expr),Ck (En c) λX=>∀ f,SO X c.mp e f->(∀ t,SDt c.mp t (ev c.cf)->SOt c.mp t f)->AsC c X e f:=λ_ _=>none
structure IG where
 ev:CF->EM (Aa×Option (Option Nat))
 rd:∀[Cs](c:Ct)(tg e:Expr),Ck (En c) λX=>SIw X c.mp tg e (ev c.cf)
 st:Option {b:II // ∀ cf,ev cf=fStd (b.ev cf)}:=none
def IE.x(s i:Nat):IE where
 ev _:=vT (fVar i)
 rd _ e:=qT e λx p=>ck1 (nmk s i x) λX _ n=>qV (zkq n.hN n.hv n.hm n.hd n.hcd) rfl
@[simp] theorem zdS:(IE.x s i).ev cf=vT (fVar i):=rfl
def IE.frz(s i:Nat):IE where
 ev _:=vT (fFrz i)
 rd _ e:=qT e λx p=>ck1 (nmk s i x) λX _ n=>qV (zki n.hN n.hv n.hm n.hd n.hcd) rfl
@[simp] theorem zdF:(IE.frz s i).ev cf=vT (fFrz i):=rfl
def IE.k(i:Int):IE where
 ev _:=vT (fC (.int i))
 rd _ e:=K5 e λz j p=>zkQ z λi'=>dq i i' (ck0 λX _=>qV zkj rfl)
@[simp] theorem zbf:(IE.k i).ev cf=vT (fC (.int i)):=rfl
def IE.q(i:Str):IE where
 ev _:=vT (fC (.str i))
 rd _ e:=K5 e λz j p=>zl6 z λi'=>dq i i' (ck0 λX _=>qV zko rfl)
@[simp] theorem zbg:(IE.q i).ev cf=vT (fC (.str i)):=rfl
def IE.b(i:Bool):IE where
 ev _:=vT (fC (.bool i))
 rd _ e:=K5 e λz j p=>vBoo z λi'=>dq i i' (ck0 λX _=>qV zhD rfl)
@[simp] theorem kY:(IE.b i).ev cf=vT (fC (.bool i)):=rfl
def IE.cnone:IE where
 ev _:=vT (fC .none)
 rd _ e:=K5 e λz j p=>vNon z (ck0 λX _=>qV zhP rfl)
@[simp] theorem k5:(IE.cnone).ev cf=vT (fC .none):=rfl
def IE.j(x:Str)(i:Int):IE where
 ev _:=vT (fC (.int i))
 rd c e:=qT e λy p=>dq x y (ck2 (glk x) (tt (c.W.gi.contains (x,i))) λX E g h=>qV (zhJ g.1 (E.T.gi x i h) g.2) rfl)
@[simp] theorem zbo:(IE.j x i).ev cf=vT (fC (.int i)):=rfl
def IE.gstr(x i:Str):IE where
 ev _:=vT (fC (.str i))
 rd c e:=qT e λy p=>dq x y (ck2 (glk x) (tt (c.W.gs.contains (x,i))) λX E g h=>qV (zhK g.1 (E.T.gs x i h) g.2) rfl)
@[simp] theorem zbp:(IE.gstr x i).ev cf=vT (fC (.str i)):=rfl
def IE.tup(a:IL):IE where
 ev cf:=vT (fTup (a.ev cf))
 rd c e:=zcI e λes j p=>ck1 (a.rd c es) λX _ h=>qV (zkp h) rfl
@[simp] theorem zdR:(IE.tup a).ev cf=vT (fTup (a.ev cf)):=rfl
def IE.new(n:IN):IE where
 ev cf:=vT (fNew (n.ev cf))
 rd c e:=ck2 (tt (yz e)) (n.rd c e) λX _ hp h=>qV (SN.se h) hp
 rc:=λc e=>ck2 (n.rd c e) (n.rc c e) λX _ u r=>r _ (SN.se u).so λ_ h=>h.sd
@[simp] theorem zdN:(IE.new n).ev cf=vT (fNew (n.ev cf)):=rfl
def IE.n(op:Operator)(a b:IE):IE where
 ev cf:=vT (fBin (binD op) (a.ev cf).1 (b.ev cf).1)
 rd c e:=zkP e λx o y p=>dq op o (ck2 (a.rd c x) (b.rd c y) λX _ u v=>qV (zkh (zi3 op) u.1 v.1) rfl)
@[simp] theorem zdC:(IE.n op a b).ev cf=vT (fBin (binD op) (a.ev cf).1 (b.ev cf).1):=rfl
def IE.p(op:CmpOp)(a b:IE):IE where
 ev cf:=(fB (fCmp (cmpD op) (a.ev cf).1 (b.ev cf).1),fCmp (cmpD op) (a.ev cf).1 (b.ev cf).1)
 rd c e:=zio e op λx y p=>ck3 (tt (Zr y)) (a.rd c x) (b.rd c y) λX E h u v=>#[yE (JP (Room.at1 E.T) op) u.1 v.1 (jm op h),yJ (JP (Room.at1 E.T) op) u.1 v.1 (jm op h)]
@[simp] theorem zdD:(IE.p op a b).ev cf=(fB (fCmp (cmpD op) (a.ev cf).1 (b.ev cf).1),fCmp (cmpD op) (a.ev cf).1 (b.ev cf).1):=rfl
def IE.h(op op':CmpOp)(a b d:IE):IE where
 ev cf:=(fB (fChain (cmpD op) (cmpD op') (a.ev cf).1 (b.ev cf).1 (d.ev cf).1),fChain (cmpD op) (cmpD op') (a.ev cf).1 (b.ev cf).1 (d.ev cf).1)
 rd c e:=zl5 e λx os ys p=>v2 os λo o'=>v2 ys λy z=>dq op o (dq op' o' (ck4 (tt (Zr z)) (a.rd c x) (b.rd c y) (d.rd c z) λX E h u v w=>#[CY (JP (Room.at1 E.T) op) (JP (Room.at1 E.T) op') u.1 v.1 w.1 (Vl op op' h),zfQ (JP (Room.at1 E.T) op) (JP (Room.at1 E.T) op') u.1 v.1 w.1 (Vl op op' h)]))
@[simp] theorem kZ:(IE.h op op' a b d).ev cf=(fB (fChain (cmpD op) (cmpD op') (a.ev cf).1 (b.ev cf).1 (d.ev cf).1),fChain (cmpD op) (cmpD op') (a.ev cf).1 (b.ev cf).1 (d.ev cf).1):=rfl
def IE.not(a:IE):IE where
 ev cf:=(fB (fNotT (fTru (a.ev cf).1)),fNotT (a.ev cf).2)
 rd c e:=vUn e λo x p=>dq .Not o (ck1 (a.rd c x) λX _ u=>#[zkm u.1,zkJ u.2])
@[simp] theorem zdO:(IE.not a).ev cf=(fB (fNotT (fTru (a.ev cf).1)),fNotT (a.ev cf).2):=rfl
def IE.neg(a:IE):IE where
 ev cf:=vT (f1 gNeg (a.ev cf).1)
 rd c e:=vUn e λo x p=>dq .USub o (ck1 (a.rd c x) λX _ u=>qV (zkl u.1) rfl)
@[simp] theorem zdM:(IE.neg a).ev cf=vT (f1 gNeg (a.ev cf).1):=rfl
def IE.and(a b:IE):IE where
 ev cf:=(fAndV (a.ev cf).1 (b.ev cf).1,fAndT (a.ev cf).2 (b.ev cf).2)
 rd c e:=zl3 e .And (λx y p=>ck2 (a.rd c x) (b.rd c y) λX _ u v=>#[zft u.1 (zfy v.1),(zfV u.2 (zig v.2)).st]) λx y w r p=>ck2 (a.rd c x) (b.rd c (.BoolOp .And (y::w::r) p)) λX _ u v=>#[zft u.1 v.1,(zfV u.2 (YG v.2)).st]
@[simp] theorem zdA:(IE.and a b).ev cf=(fAndV (a.ev cf).1 (b.ev cf).1,fAndT (a.ev cf).2 (b.ev cf).2):=rfl
def IE.or(a b:IE):IE where
 ev cf:=(fOrV (a.ev cf).1 (b.ev cf).1,fOrT (a.ev cf).2 (b.ev cf).2)
 rd c e:=zl3 e .Or (λx y p=>ck2 (a.rd c x) (b.rd c y) λX _ u v=>#[ziM u.1 (zfy v.1),(ziN u.2 (zih v.2)).st]) λx y w r p=>ck2 (a.rd c x) (b.rd c (.BoolOp .Or (y::w::r) p)) λX _ u v=>#[ziM u.1 v.1,(ziN u.2 (YG v.2)).st]
@[simp] theorem zgE:(IE.or a b).ev cf=(fOrV (a.ev cf).1 (b.ev cf).1,fOrT (a.ev cf).2 (b.ev cf).2):=rfl
def IE.f(d a b:IE):IE where
 ev cf:=(fIf (d.ev cf).2 (a.ev cf).1 (b.ev cf).1,fNo)
 rd c e:=vIf e λz x y p=>ck3 (d.rd c z) (a.rd c x) (b.rd c y) λX _ w u v=>#[zlI w.2 u.1 v.1,zfR]
@[simp] theorem zdI:(IE.f d a b).ev cf=(fIf (d.ev cf).2 (a.ev cf).1 (b.ev cf).1,fNo):=rfl
def IE.ix(a b:IE):IE where
 ev cf:=vT (fIx (a.ev cf).1 (b.ev cf).1)
 rd c e:=YO e λx y p=>ck3 (tt (jO y)) (a.rd c x) (b.rd c y) λX _ h u v=>qV (zlJ u.1 v.1 (W3 h)) rfl
@[simp] theorem zgD:(IE.ix a b).ev cf=vT (fIx (a.ev cf).1 (b.ev cf).1):=rfl
def IE.len(a:IE):IE where
 ev cf:=vT (f1 gLen (a.ev cf).1)
 rd c e:=vF1 e λf p x q=>ck3 (bik f "len" ZI) (tt (zQ x)) (a.rd c x) λX _ B h u=>qV (zay zja B.1 u.1 (zS h)) rfl
@[simp] theorem zdJ:(IE.len a).ev cf=vT (f1 gLen (a.ev cf).1):=rfl
def IE.int(a:IE):IE where
 ev cf:=vT (f1 gInt (a.ev cf).1)
 rd c e:=vF1 e λf p x q=>ck3 (bik f "int" v5) (tt (zQ x)) (a.rd c x) λX _ B h u=>qV (zlL zi9 B.1 u.1 (zS h)) rfl
@[simp] theorem zdG:(IE.int a).ev cf=vT (f1 gInt (a.ev cf).1):=rfl
def IE.all(a:IE):IE where
 ev cf:=vT (f1 gAll (a.ev cf).1)
 rd c e:=vF1 e λf p x q=>ck3 (bik f "all" zaQ) (tt (zQ x)) (a.rd c x) λX E B h u=>qV (zay (zi7 E.T.calm) B.1 u.1 (zS h)) rfl
@[simp] theorem zdz:(IE.all a).ev cf=vT (f1 gAll (a.ev cf).1):=rfl
def IE.any(a:IE):IE where
 ev cf:=vT (f1 gAny (a.ev cf).1)
 rd c e:=vF1 e λf p x q=>ck3 (bik f "any" zaR) (tt (zQ x)) (a.rd c x) λX E B h u=>qV (zay (zi8 E.T.calm) B.1 u.1 (zS h)) rfl
@[simp] theorem zdB:(IE.any a).ev cf=vT (f1 gAny (a.ev cf).1):=rfl
def IE.tuple(a:IE):IE where
 ev cf:=vT (fTupC (a.ev cf).1)
 rd c e:=vF1 e λf p x q=>ck3 (bik f "tuple" wb) (tt (zQ x)) (a.rd c x) λX E B h u=>qV (zfz B.1 u.1 (zS h)) rfl
@[simp] theorem k8:(IE.tuple a).ev cf=vT (fTupC (a.ev cf).1):=rfl
def IE.i(T:String)(a:IE):IE where
 ev cf:=vT (fIsi T (a.ev cf).1)
 rd c e:=vF2 e λf p x y q=>qT y λz p2=>Option.bind (isT T) λhT=>ck4 (bik f "isinstance" zaS) (bik z (Str.ofString T) hT.1) (tt (zQ x)) (a.rd c x) λX E B D h u=>qV (zkk B.1 D.1 u.1 (zS h)) rfl
@[simp] theorem zdH:(IE.i T a).ev cf=vT (fIsi T (a.ev cf).1):=rfl
def IE.min(a b:IE):IE where
 ev cf:=vT (f2 gMin (a.ev cf).1 (b.ev cf).1)
 rd c e:=vF2 e λf p x y q=>ck4 (bik f "min" zaU) (tt (zQ x&&zQ y)) (a.rd c x) (b.rd c y) λX E B h u v=>qV (zhO E.T.calm B.1 u.1 v.1 (zS (xL.mp h).1) (zS (xL.mp h).2)) rfl
@[simp] theorem zdL:(IE.min a b).ev cf=vT (f2 gMin (a.ev cf).1 (b.ev cf).1):=rfl
def IE.max(a b:IE):IE where
 ev cf:=vT (f2 gMax (a.ev cf).1 (b.ev cf).1)
 rd c e:=vF2 e λf p x y q=>ck4 (bik f "max" zaT) (tt (zQ x&&zQ y)) (a.rd c x) (b.rd c y) λX E B h u v=>qV (zhN E.T.calm B.1 u.1 v.1 (zS (xL.mp h).1) (zS (xL.mp h).2)) rfl
@[simp] theorem zdK:(IE.max a b).ev cf=vT (f2 gMax (a.ev cf).1 (b.ev cf).1):=rfl
def IE.cutT(a:IE)(l1 h1:IP):IE where
 ev cf:=vT (zal (a.ev cf).1 (l1.ev cf) (h1.ev cf))
 rd c e:=zl7 e λx l u p q=>ck3 (a.rd c x) (l1.rd c l) (h1.rd c u) λX _ u v w=>qV (zhE u.1 v w) rfl
@[simp] theorem zbh:(IE.cutT a l1 h1).ev cf=vT (zal (a.ev cf).1 (l1.ev cf) (h1.ev cf)):=rfl
def IE.call(o:IO):IE where
 ev cf:=vT (fOD (o.ev cf))
 rd c e:=ck2 (tt (yz e)) (o.rd c e) λX _ hp h=>qV h.se hp
@[simp] theorem zbe:(IE.call o).ev cf=vT (fOD (o.ev cf)):=rfl
def IE.callw(g:Str)(n:Nat)(a:IL):IE where
 ev cf:=vT (fCallW (cf g) (a.ev cf))
 rd c e:=vFn e λf p xs q=>dq g f (vC xs λx xs=>ck4 (glk g) (tt (c.W.fl.contains (g,n))) (tt ((x::xs).all zQ)) (a.rd c (x::xs)) λX E G h st u=>by
  let(kn,ak):=E.T.fn _ _ h
  rw[uc,xi]at st
  exact qV (zfu kn (Room.atk E.T) G.1 ak u G.2 (zS st.1) (jd (ZR st.2))) rfl)
@[simp] theorem kX:(IE.callw g n a).ev cf=vT (fCallW (cf g) (a.ev cf)):=rfl
def IE.lset(a:IE):IE where
 ev cf:=vT (Ye (a.ev cf).1)
 rd c e:=vF1 e λf p1 z q1=>vF1 z λg p2 y q2=>ck4 (bik f "len" ZI) (bik g "set" JN) (tt (zQ y)) (a.rd c y) λX E B D h u=>by
  let(B,rfl):=B
  let(D,rfl):=D
  erw[qV (zhM E.T.calm B.gl B.mg D.gl D.mg u.1 (zS h)) rfl]
@[simp] theorem zbr:(IE.lset a).ev cf=vT (Ye (a.ev cf).1):=rfl
def IE.lsetS(a:IE):IE where
 ev cf:=vT (yg (a.ev cf).1)
 rd c e:=vF1 e λf p1 z q1=>vF1 z λg p2 y q2=>ck4 (bik f "len" ZI) (bik g "set" JN) (tt (zQ y)) (a.rd c y) λX E B D h u=>by
  let(B,rfl):=B
  let(D,rfl):=D
  erw[qV (zfx E.T.calm B.gl B.mg D.gl D.mg u.1 (zS h)) rfl]
@[simp] theorem k7:(IE.lsetS a).ev cf=vT (yg (a.ev cf).1):=rfl
def IE.sin(a b:IE):IE where
 ev cf:=(fB (fCmp Kf (a.ev cf).1 (b.ev cf).1),fCmp Kf (a.ev cf).1 (b.ev cf).1)
 rd c e:=zio e .In λx y p=>ck3 (tt (Zr y)) (a.rd c x) (b.rd c y) λX E h u v=>#[yE zfG u.1 v.1 (jm .In h),yJ zfG u.1 v.1 (jm .In h)]
@[simp] theorem zdP:(IE.sin a b).ev cf=(fB (fCmp Kf (a.ev cf).1 (b.ev cf).1),fCmp Kf (a.ev cf).1 (b.ev cf).1):=rfl
def IE.slen(a:IE):IE where
 ev cf:=vT (f1 Yg (a.ev cf).1)
 rd c e:=vF1 e λf p x q=>ck3 (bik f "len" ZI) (tt (zQ x)) (a.rd c x) λX _ B h u=>qV (zay zgv B.1 u.1 (zS h)) rfl
@[simp] theorem zbt:(IE.slen a).ev cf=vT (f1 Yg (a.ev cf).1):=rfl
def IE.join(z:Str)(a:IE):IE where
 ev cf:=vT (f1 (WG z) (a.ev cf).1)
 rd c e:=vMo e λo m p2 xs q=>v1 xs λx=>K5 o λd j p1=>zl6 d λz'=>dq z z' (ck4 (tt (decide (m= "join"))) (tt (zQ x)) (tt (p2.endLine==q.line)) (a.rd c x) λX E hm h l u=>qV (zhL (Xf hm) u.1 (zS h) l) rfl)
@[simp] theorem zbq:(IE.join z a).ev cf=vT (f1 (WG z) (a.ev cf).1):=rfl
def IE.six(a b:IE):IE where
 ev cf:=vT (zgL (a.ev cf).1 (b.ev cf).1)
 rd c e:=YO e λx y p=>ck3 (tt (jO y)) (a.rd c x) (b.rd c y) λX _ h u v=>qV (zkn u.1 v.1 (W3 h)) rfl
@[simp] theorem zdQ:(IE.six a b).ev cf=vT (zgL (a.ev cf).1 (b.ev cf).1):=rfl
def IE.g(a b:IE):IE where
 ev cf:=vT (fDget (a.ev cf).1 (b.ev cf).1)
 rd c e:=YO e λx y p=>ck3 (tt (jO y)) (a.rd c x) (b.rd c y) λX E h u v=>qV (zhF (Vh E.T) u.1 v.1 (zg6 h)) rfl
@[simp] theorem zbi:(IE.g a b).ev cf=vT (fDget (a.ev cf).1 (b.ev cf).1):=rfl
def IE.d(a b:IE):IE where
 ev cf:=(fB (fCmp gDin (a.ev cf).1 (b.ev cf).1),fCmp gDin (a.ev cf).1 (b.ev cf).1)
 rd c e:=zio e .In λx y p=>ck3 (tt (Zr y)) (a.rd c x) (b.rd c y) λX E h u v=>#[yE (zdr (Vh E.T)) u.1 v.1 (jm .In h),yJ (zdr (Vh E.T)) u.1 v.1 (jm .In h)]
@[simp] theorem zdE:(IE.d a b).ev cf=(fB (fCmp gDin (a.ev cf).1 (b.ev cf).1),fCmp gDin (a.ev cf).1 (b.ev cf).1):=rfl
def IE.dnin(a b:IE):IE where
 ev cf:=(fB (fCmp gDnin (a.ev cf).1 (b.ev cf).1),fCmp gDnin (a.ev cf).1 (b.ev cf).1)
 rd c e:=zio e .NotIn λx y p=>ck3 (tt (Zr y)) (a.rd c x) (b.rd c y) λX E h u v=>#[yE (zak (Vh E.T)) u.1 v.1 (jm .NotIn h),yJ (zak (Vh E.T)) u.1 v.1 (jm .NotIn h)]
@[simp] theorem zbj:(IE.dnin a b).ev cf=(fB (fCmp gDnin (a.ev cf).1 (b.ev cf).1),fCmp gDnin (a.ev cf).1 (b.ev cf).1):=rfl
def IE.t(cl f:Str)(a:IE):IE where
 ev cf:=vT (fAttr cl f (a.ev cf).1)
 rd c e:=zkO e λx g p=>dq f g (ck3 (tt (c.W.fk.contains (cl,f))) (tt (KE x)) (a.rd c x) λX E h hb u=>qV (zhC (E.T.fk _ _ h) u.1 (Jo hb)) rfl)
@[simp] theorem zbd:(IE.t cl f a).ev cf=vT (fAttr cl f (a.ev cf).1):=rfl
def IE.newD(md:IM):IE where
 ev cf:=(fNewD (md.ev cf),fNo)
 rd c e:=ck1 (md.rd c e) λX _ h=>#[h.se,zfR]
 rc:=λc e=>ck2 (md.rd c e) (md.rc c e) λX _ u r=>r _ u.se.so λ_ h=>h.sd
@[simp] theorem zbs:(IE.newD md).ev cf=(fNewD (md.ev cf),fNo):=rfl
def IE.fdat(s i:Nat)(cl f:Str):IE where
 ev _:=vT (fFdat i cl f)
 rd _ e:=vFd e f λx p p2=>ck1 (flk s i x cl f) λX _ n=>qV (zhG n.1 n.2) rfl
@[simp] theorem zbk:(IE.fdat s i cl f).ev cf=vT (fFdat i cl f):=rfl
def IE.flen(s i:Nat)(cl f:Str):IE where
 ev _:=vT (fFlen i cl f)
 rd _ e:=vF1 e λg p3 z q=>vFd z f λx p p2=>ck2 (bik g "len" ZI) (flk s i x cl f) λX _ B n=>qV (zhI B.1 n.1 n.2) rfl
@[simp] theorem zbm:(IE.flen s i cl f).ev cf=vT (fFlen i cl f):=rfl
def IE.ftru(s i:Nat)(cl f:Str):IE where
 ev _:=(fNoV,fFtru i cl f)
 rd _ e:=vFd e f λx p p2=>ck1 (flk s i x cl f) λX _ n=>#[zlK,zid n.1 n.2]
@[simp] theorem zbn:(IE.ftru s i cl f).ev cf=(fNoV,fFtru i cl f):=rfl
def IE.flast(s i:Nat)(cl f:Str):IE where
 ev _:=vT (fFlast i cl f)
 rd _ e:=YO e λz y p=>vFd z f λx p p2=>vUn y λo w p5=>dq .USub o (K5 w λd cj p4=>zkQ d λj=>dq 1 j (ck1 (flk s i x cl f) λX _ n=>qV (zfw n.1 n.2) rfl))
@[simp] theorem k6:(IE.flast s i cl f).ev cf=vT (fFlast i cl f):=rfl
def IE.ffrz(s i:Nat)(cl f:Str):IE where
 ev _:=(fFfrz i cl f,fNo)
 rd _ e:=vFd e f λx p p2=>ck1 (flk s i x cl f) λX _ n=>#[zhH n.1 n.2,zfR]
@[simp] theorem zbl:(IE.ffrz s i cl f).ev cf=(fFfrz i cl f,fNo):=rfl
def IL.nil:IL where
 ev _:=fNil
 rd _ es:=vN es (ck0 λX _=>zkw)
@[simp] theorem zdV:(IL.nil).ev cf=fNil:=rfl
def IL.cons(e:IE)(a:IL):IL where
 ev cf:=fCons (e.ev cf).1 (a.ev cf)
 rd c es:=vC es λx xs=>ck3 (tt (zQ x)) (e.rd c x) (a.rd c xs) λX _ h u v=>zhX u.1 v (zS h)
@[simp] theorem zbx:(IL.cons e a).ev cf=fCons (e.ev cf).1 (a.ev cf):=rfl
def IA.nil:IA where
 ev _:=aNil
 rd _ es:=vN es (ck0 λX _=>zkc)
 z:=some #[λ_=>rfl]
@[simp] theorem zdu:(IA.nil).ev cf=aNil:=rfl
def IA.cons(e:IE)(a:IA):IA where
 ev cf:=aCons (e.ev cf).1 (a.ev cf)
 rd c es:=vC es λx xs=>ck3 (tt (zQ x)) (e.rd c x) (a.rd c xs) λX _ h u v=>zhx u.1 v (zS h)
@[simp] theorem za9:(IA.cons e a).ev cf=aCons (e.ev cf).1 (a.ev cf):=rfl
def IA.io(s i:Nat)(a:IA):IA where
 ev cf:=aIo i (a.ev cf)
 rd c es:=vC es λx xs=>qT x λy p=>ck2 (nmk s i y) (a.rd c xs) λX _ n v=>zlH n.hN n.hv n.hm n.hd n.hcd v rfl
@[simp] theorem zgC:(IA.io s i a).ev cf=aIo i (a.ev cf):=rfl
def IN.lst(a:IL):IN where
 ev cf:=fLst (a.ev cf)
 rd c e:=vLst e λes p=>ck1 (a.rd c es) λX _ h=>zkA h
@[simp] theorem zd0:(IN.lst a).ev cf=fLst (a.ev cf):=rfl
def IN.cut(a:IE)(l1 h1:IP):IN where
 ev cf:=zgK (a.ev cf).1 (l1.ev cf) (h1.ev cf)
 rd c e:=zl7 e λx l u p q=>ck3 (a.rd c x) (l1.rd c l) (h1.rd c u) λX _ u v w=>zkz u.1 v w
@[simp] theorem zdZ:(IN.cut a l1 h1).ev cf=zgK (a.ev cf).1 (l1.ev cf) (h1.ev cf):=rfl
def IN.cat(a b:IE):IN where
 ev cf:=zek (a.ev cf).1 (b.ev cf).1
 rd c e:=zkP e λx o y p=>dq .Add o (ck2 (a.rd c x) (b.rd c y) λX _ u v=>zky u.1 v.1)
@[simp] theorem zdY:(IN.cat a b).ev cf=zek (a.ev cf).1 (b.ev cf).1:=rfl
def IN.list(a:IE):IN where
 ev cf:=fListC (a.ev cf).1
 rd c e:=vF1 e λf p x q=>ck3 (bik f "list" Q3) (tt (zQ x)) (a.rd c x) λX _ B h u=>zhZ B.1 u.1 (zS h)
@[simp] theorem zbB:(IN.list a).ev cf=fListC (a.ev cf).1:=rfl
def IN.comp(n k:Nat)(ix:Ac)(N':Ab)(t:IT)(src:II)(cd:IC)(el:IE):IN where
 ev cf:=fComp n k t (src.ev cf) (cd.ev cf) (el.ev cf).1
 rd c e:=vLC e λelt tg it ifs sc p=>ck4 (cfk n k ix N' sc t tg it) (src.rd c tg it) (cx (cd.rd (c.inn n k ix N' sc) ifs)) (cx (el.rd (c.inn n k ix N' sc) elt)) λX E F hi hc he=>zhY F.ca F.cs F.hm hi F.hg (λ_ _ _ _ _=>hc _ (F.en ..)) (λ_ _ _ _ _=>(he _ (F.en ..)).1) F.hf
 rc:=λc e=>vLC e λelt tg it ifs sc p=>ck4 (cfk n k ix N' sc t tg it) (src.rd c tg it) (cx (cd.rd (c.inn n k ix N' sc) ifs)) (cx (el.rd (c.inn n k ix N' sc) elt)) λX _ F hi hc he f hs ht io np s i x p q E l=>by
  let(bb,hb):=KN
  cases bb with
  |false=>erw[KK E.nd l.hi l.hx l.hf E.mn l.hm hs hb]
  |true=>erw[yI (zht E.nd l.hi l.hx E.T.calm F.cs hb F.hf l.hf) E.mn l.hm (xa.mp l.hi).1 (ht _ (YC F.cs F.hm hi F.hg (λ_ _ _ _ _=>hc _ (F.en ..)) λ_ _ _ _ _=>(he _ (F.en ..)).1))]
@[simp] theorem zbA:(IN.comp n k ix N' t src cd el).ev cf=fComp n k t (src.ev cf) (cd.ev cf) (el.ev cf).1:=rfl
def IN.mul(a b:IE):IN where
 ev cf:=fMul (a.ev cf).1 (b.ev cf).1
 rd c e:=zkP e λx o y p=>dq .Mult o (ck2 (a.rd c x) (b.rd c y) λX _ u v=>zkB u.1 v.1)
@[simp] theorem zd1:(IN.mul a b).ev cf=fMul (a.ev cf).1 (b.ev cf).1:=rfl
def IN.sortD(a:IE):IN where
 ev cf:=fSortD (a.ev cf).1
 rd c e:=vF1 e λf p x q=>ck3 (bik f "sorted" VW) (tt (zQ x)) (a.rd c x) λX E B h u=>zfI E.T.calm B.1 u.1 (zS h)
@[simp] theorem Kc:(IN.sortD a).ev cf=fSortD (a.ev cf).1:=rfl
def IP.non:IP where
 ev _:=zem
 rd _ o:=vO o (ck0 λX _=>zh4)
@[simp] theorem zd4:(IP.non).ev cf=zem:=rfl
def IP.one(a:IE):IP where
 ev cf:=zel (a.ev cf).1
 rd c o:=vS o λx=>ck1 (a.rd c x) λX _ u=>zh5 u.1
@[simp] theorem zd5:(IP.one a).ev cf=zel (a.ev cf).1:=rfl
def II.list(a:IE):II where
 ev cf:=fSeqL (a.ev cf).1
 rd c tg e:=ck1 (a.rd c e) λX _ u=>zhV u.1
@[simp] theorem zbw:(II.list a).ev cf=fSeqL (a.ev cf).1:=rfl
def II.tup(a:IE):II where
 ev cf:=fSeqT (a.ev cf).1
 rd c tg e:=ck1 (a.rd c e) λX _ u=>zkv u.1
@[simp] theorem zdU:(II.tup a).ev cf=fSeqT (a.ev cf).1:=rfl
def II.alt(a b:II):II where
 ev cf:=zej (a.ev cf) (b.ev cf)
 rd c tg e:=ck2 (a.rd c tg e) (b.rd c tg e) λX _ u v=>zku u v
@[simp] theorem zla:(II.alt a b).ev cf=zej (a.ev cf) (b.ev cf):=rfl
def II.range(a:IE):II where
 ev cf:=fRange (a.ev cf).1
 rd c tg e:=vF1 e λf p x q=>ck3 (bik f "range" yU) (tt (zQ x)) (a.rd c x) λX _ B h u=>zfF B.1 B.2 u.1 (zS h)
@[simp] theorem Kb:(II.range a).ev cf=fRange (a.ev cf).1:=rfl
def II.enum(a:IE):II where
 ev cf:=fEnum (a.ev cf).1
 rd c tg e:=vF1 e λf p x q=>zcI tg λes x1 pt=>ck3 (bik f "enumerate" L2.boot_enumW) (tt (zQ x)) (a.rd c x) λX _ B h u=>zhU B.1 B.2 u.1 (zS h)
@[simp] theorem zbv:(II.enum a).ev cf=fEnum (a.ev cf).1:=rfl
def II.chars(a:IE):II where
 ev cf:=yf (a.ev cf).1
 rd c tg e:=ck1 (a.rd c e) λX _ u=>zfE u.1
@[simp] theorem Ka:(II.chars a).ev cf=yf (a.ev cf).1:=rfl
def IC.yes:IC where
 ev _:=fYes
 rd _ es:=vN es (ck0 λX _=>zkr)
@[simp] theorem zdy:(IC.yes).ev cf=fYes:=rfl
def IC.one(a:IE):IC where
 ev cf:=(a.ev cf).2
 rd c es:=v1 es λx=>ck1 (a.rd c x) λX _ u=>zks u.2
@[simp] theorem zdx:(IC.one a).ev cf=(a.ev cf).2:=rfl
def IO.dat(a:IE):IO where
 ev cf:=fD (a.ev cf).1
 rd c e:=ck1 (a.rd c e) λX _ u=>u.1.so
 rc:=a.rc
@[simp] theorem zd2:(IO.dat a).ev cf=fD (a.ev cf).1:=rfl
def IO.own(n:IN):IO where
 ev cf:=fOwn (n.ev cf)
 rd c e:=ck1 (n.rd c e) λX _ u=>u.so
 rc:=λc e=>ck2 (n.rd c e) (n.rc c e) λX _ u r=>r _ u.so λ_ h=>h.so
@[simp] theorem zd3:(IO.own n).ev cf=fOwn (n.ev cf):=rfl
def IO.call(g:Str)(n:Nat)(a:IA):IO where
 ev cf:=fCall (cf g) (a.ev cf)
 rd c e:=vFn e λf p xs q=>dq g f (vB xs (Option.bind a.z λz=>ck2 (glk g) (tt (c.W.fl.contains (g,n))) λX E G h=>by
  show SO X _ _ (fCall _ (a.ev _))
  rw[z.1]
  exact zfJ (E.T.fn _ _ h).1 (Room.atk E.T) G.1 (E.T.fn _ _ h).2 G.2) λx xs=>ck4 (glk g) (tt (c.W.fl.contains (g,n))) (tt ((x::xs).all zQ)) (a.rd c (x::xs)) λX E G h st u=>by
  rw[uc,xi]at st
  exact zh0 (E.T.fn _ _ h).1 (Room.atk E.T) G.1 (E.T.fn _ _ h).2 u G.2 (zS st.1) (jd (ZR st.2)))
@[simp] theorem zbC:(IO.call g n a).ev cf=fCall (cf g) (a.ev cf):=rfl
def IO.move(s i:Nat):IO where
 ev _:=fMove i
 rd _ e:=qT e λx p=>ck1 (nmk s i x) λX _ n=>zh3 n.hN n.hv n.hm n.hd n.hcd
@[simp] theorem zbF:(IO.move s i).ev cf=fMove i:=rfl
def IO.ownD(md:IM):IO where
 ev cf:=fOwnD (md.ev cf)
 rd c e:=ck1 (md.rd c e) λX _ u=>u.so
 rc:=λc e=>ck2 (md.rd c e) (md.rc c e) λX _ u r=>r _ u.so λ_ h=>h.so
@[simp] theorem zbG:(IO.ownD md).ev cf=fOwnD (md.ev cf):=rfl
def IO.make(cl q:Str)(n:Nat)(a:IA):IO where
 ev cf:=fMake cl (cf q) (a.ev cf)
 rd c e:=vFn e λf p xs q'=>dq cl f (vC xs λx xs=>ck4 (glk cl) (tt (c.W.mc.contains (cl,q,n))) (tt ((x::xs).all zQ)) (a.rd c (x::xs)) λX E G h st u=>by
  let(hm,(j,hj,kn),ak):=E.T.mc _ _ _ h
  rw[uc,xi]at st
  exact zh1 kn (E.T.rm.mono hj) G.1 hm ak u G.2 (zS st.1) (jd (ZR st.2)))
@[simp] theorem zbD:(IO.make cl q n a).ev cf=fMake cl (cf q) (a.ev cf):=rfl
def IO.m(s i:Nat)(cl me q:Str)(n:Nat)(a:IA):IO where
 ev cf:=fMeth i cl me (cf q) (a.ev cf)
 rd c e:=vMo e λo g p2 xs p=>qT o λx px=>dq me g (vB xs (Option.bind a.z λz=>ck3 (nmk s i x) (tt (c.W.ml.contains (cl,me,q,n))) (tt (p2.endLine==p.line)) λX E nm h l=>by
  show SO X _ _ (fMeth i cl me _ (a.ev _))
  rw[z.1]
  exact zfK (E.T.ml _ _ _ _ h).1 E.T.rm (E.T.ml _ _ _ _ h).2 nm l) λy ys=>ck4 (nmk s i x) (tt (c.W.ml.contains (cl,me,q,n))) (tt ((p2.endLine==p.line)&&((y::ys).all zQ&&decide ((y::ys).length<20)))) (a.rd c (y::ys)) λX E nm h l u=>by
  simp only[xi,x0]at l
  let st:=l.2.1
  rw[uc,xi]at st
  exact zh2 (E.T.ml _ _ _ _ h).1 E.T.rm (E.T.ml _ _ _ _ h).2 nm u (zS st.1) (jd (ZR st.2)) (zgO l.2.1 l.2.2) l.1)
@[simp] theorem zbE:(IO.m s i cl me q n a).ev cf=fMeth i cl me (cf q) (a.ev cf):=rfl
def IM.nil:IM where
 ev _:=fDnil
 rd _ e:=vDi e λks vs p=>vN ks (vN vs (ck0 λX _=>zkf))
@[simp] theorem zdW:(IM.nil).ev cf=fDnil:=rfl
def IM.one(a b:IE):IM where
 ev cf:=fDone (a.ev cf).1 (b.ev cf).1
 rd c e:=vDi e λks vs p=>v1 ks λk=>vS k λx=>v1 vs λy=>ck2 (a.rd c x) (b.rd c y) λX _ u v=>zkg u.1 v.1
@[simp] theorem zdX:(IM.one a b).ev cf=fDone (a.ev cf).1 (b.ev cf).1:=rfl
def IM.copy(a:IE):IM where
 ev cf:=fDcopy (a.ev cf).1
 rd c e:=vF1 e λf p x q=>ck3 (bik f "dict" kB) (tt (zQ x)) (a.rd c x) λX _ B h u=>zhB B.1 u.1 (zS h)
@[simp] theorem zbz:(IM.copy a).ev cf=fDcopy (a.ev cf).1:=rfl
def IM.comp(n k:Nat)(ix:Ac)(N':Ab)(t:IT)(src:IG)(cd:IC)(ek vv:IE):IM where
 ev cf:=fCompD n k t (src.ev cf) (cd.ev cf) (ek.ev cf).1 (vv.ev cf).1
 rd c e:=vDC e λkx vx tg it ifs sc p=>ck4 (cfk n k ix N' sc t tg it) (src.rd c tg it) (cx (cd.rd (c.inn n k ix N' sc) ifs)) (ck2 (cx (ek.rd (c.inn n k ix N' sc) kx)) (cx (vv.rd (c.inn n k ix N' sc) vx)) λX _ u v=>And.intro u v) λX E F hi hc he=>zhA F.ca F.cs F.hm hi F.hg (λ_ _ _ _ _=>hc _ (F.en ..)) (λ_ _ _ _ _=>(he.1 _ (F.en ..)).1) (λ_ _ _ _ _=>(he.2 _ (F.en ..)).1) F.hf
 rc:=λc e=>vDC e λkx vx tg it ifs sc p=>Option.bind src.st λz=>ck4 (cfk n k ix N' sc t tg it) (z.1.rd c tg it) (cx (cd.rd (c.inn n k ix N' sc) ifs)) (ck2 (cx (ek.rd (c.inn n k ix N' sc) kx)) (cx (vv.rd (c.inn n k ix N' sc) vx)) λX _ u v=>And.intro u v) λX _ F hi hc he f hs ht io np s i x p q E l=>by
  let(bb,hb):=YH
  cases bb with
  |false=>erw[KK E.nd l.hi l.hx l.hf E.mn l.hm hs hb]
  |true=>
   erw[yI (zfn E.nd l.hi l.hx E.T.calm F.cs hb F.hf l.hf) E.mn l.hm (xa.mp l.hi).1 (ht _ ?_)]
   rw[z.2]
   erw[zfs F.cs F.hm hi F.hg (λ_ _ _ _ _=>hc _ (F.en ..)) (λ_ _ _ _ _=>(he.1 _ (F.en ..)).1) λ_ _ _ _ _=>(he.2 _ (F.en ..)).1]
@[simp] theorem zby:(IM.comp n k ix N' t src cd ek vv).ev cf=fCompD n k t (src.ev cf) (cd.ev cf) (ek.ev cf).1 (vv.ev cf).1:=rfl
def IG.std(b:II):IG where
 ev cf:=fStd (b.ev cf)
 rd c tg e:=ck1 (b.rd c tg e) λX _ u=>zhW u
 st:=some #[b,λ_=>rfl]
@[simp] theorem zdT:(IG.std b).ev cf=fStd (b.ev cf):=rfl
def IG.items(a:IE):IG where
 ev cf:=fItems (a.ev cf).1
 rd c tg e:=vMo e λo g p2 xs p=>vN xs (dq ("items" :Str) g (zcI tg λes x1 pt=>ck3 (tt (KE o)) (tt (p2.endLine==p.line)) (a.rd c o) λX _ h l u=>zcz #[_,_,_,rfl] u.1 (Jo h) l))
@[simp] theorem k9:(IG.items a).ev cf=fItems (a.ev cf).1:=rfl
def IG.keys(a:IE):IG where
 ev cf:=fKeys (a.ev cf).1
 rd c tg e:=ck1 (a.rd c e) λX _ u=>zfH u.1
@[simp] theorem zbu:(IG.keys a).ev cf=fKeys (a.ev cf).1:=rfl
section
variable {Q:Stmt->Type}[∀ e,Inhabited (Q e)](e:Stmt)
protected def zl8(k:∀ x p,Q (.Return x p)):Q e:=vw (Stmt.Return.elim e · k)
protected def vAsg(k:∀ ts x p,Q (.Assign ts x p)):Q e:=vw (Stmt.Assign.elim e · k)
protected def vAug(k:∀ t o x p,Q (.AugAssign t o x p)):Q e:=vw (Stmt.AugAssign.elim e · k)
protected def vFor(k:∀ t x b o p,Q (.For t x b o p)):Q e:=vw (Stmt.For.elim e · k)
protected def vIfS(k:∀ x a b p,Q (.If x a b p)):Q e:=vw (Stmt.If.elim e · k)
protected def vEx(k:∀ x p,Q (.Expr x p)):Q e:=vw (Stmt.Expr.elim e · k)
protected def vAs(k:∀ t x p,Q (.Assign [t] x p)):Q e:=vAsg e λts x p=>v1 ts λt=>k t x p
protected def vMs(k:∀ o m p2 xs q p,Q (.Expr (.Call (.Attribute o m p2) xs [] q) p)):Q e:=vEx e λy p=>vMo y λo m p2 xs q=>k o m p2 xs q p
protected def vM1(m:Str)(k:∀ o p2 a q p,Q (.Expr (.Call (.Attribute o m p2) [a] [] q) p)):Q e:=vMs e λo g p2 xs q p=>dq m g (v1 xs λa=>k o p2 a q p)
end
section
variable {c:Ct}{io:Ac}{np:Nat}
def wk(w:IW)(e:Expr):Ck (Es c io np) λX=>WOk X c.mp e w:=match w with
 |.v s i=>qT e λx p=>ck1 (up (nmk s i x)) λX _ n=>zmc n
 |.c n=>K5 e λz j p=>zkQ z λi=>dq n i (ck0 λX _=>zmb)
def zk(w:IZ)(e:Expr):Ck (Es c io np) λX=>ZOk X c.mp e w:=match w with
 |.w w=>ck1 (wk w e) λX _ h=>zmf h
 |.p a b=>zcI e λes n p=>v2 es λx y=>ck3 (tt (zQ x&&zQ y)) (wk a x) (wk b y) λX _ h u v=>zme u v (zS (xL.mp h).1) (zS (xL.mp h).2)
end
abbrev RS1(c:Ct)(io:Ac)(np:Nat)(st:Stmt)(f:SM):Type:=Ck (Es c io np) λX=>SS X c.mp io st f
def asgk(s i:Nat)(o:IO)(c:Ct)(io:Ac)(np:Nat)(x:Str)(p:Pos)(e:Expr)(q:Pos):RS1 c io np (.Assign [.Name x p] e q) (sAsg io i (o.ev c.cf)) :=
 Option.or (ck3 (tt (wX e)) (lok s i x) (up (o.rd c e)) λX E h l u=>KK E.nd l.hi l.hx l.hf E.mn l.hm u (zcD h)) (ck2 (lok s i x) (up (o.rc c e)) λX E l r=>r E l)
structure IS where
 ex:CF->Ac->SM
 rd:∀[Cs](c:Ct)(io:Ac)(np:Nat)(st:Stmt),RS1 c io np st (ex c.cf io)
structure IB where
 ex:CF->Ac->SM
 rd:∀[Cs](c:Ct)(io:Ac)(np:Nat)(l:List Stmt),Ck (Es c io np) λX=>SB X c.mp io l (ex c.cf io)
 nl:Bool:=false
def IS.bad:IS where
 ex _ _:=zka
 rd _ _ _ st:=ck0 λX _=>zfP
@[simp] theorem zd9:(IS.bad).ex cf io=zka:=rfl
def IS.a(s i:Nat)(o:IO):IS where
 ex cf io:=sAsg io i (o.ev cf)
 rd c io np st:=vAs st λt e q=>qT t λx p=>asgk s i o c io np x p e q
@[simp] theorem zd7:(IS.a s i o).ex cf io=sAsg io i (o.ev cf):=rfl
def IS.t(t:IT)(e:IE):IS where
 ex cf _:=sAsgT t (e.ev cf).1
 rd c io np st:=vAs st λtx x q=>zcI tx λts n p=>ck3 (tt (ju x)) (tgk t (.Tuple ts n p)) (up (e.rd c x)) λX E h g u=>zfO u.1 g (Jg h) (QC h) (KG zF yy (Jg h) (QC h))
@[simp] theorem zbH:(IS.t t e).ex cf io=sAsgT t (e.ev cf).1:=rfl
def IS.e(a:IE):IS where
 ex cf _:=sExpr (a.ev cf).1
 rd c io np st:=vEx st λx p=>ck2 (tt (ju x)) (up (a.rd c x)) λX E h u=>zh9 u.1 (vj h)
@[simp] theorem zbL:(IS.e a).ex cf io=sExpr (a.ev cf).1:=rfl
def IS.f(d:IE)(a b:IB):IS where
 ex cf io:=sIf (d.ev cf).2 (a.ex cf io) (b.ex cf io)
 rd c io np st:=vIfS st λx xs ys p=>ck3 (up (d.rd c x)) (a.rd c io np xs) (b.rd c io np ys) λX E u v w=>zlO u.2 v w
@[simp] theorem zeb:(IS.f d a b).ex cf io=sIf (d.ev cf).2 (a.ex cf io) (b.ex cf io):=rfl
def IS.loop(t:IT)(src:II)(b:IB):IS where
 ex cf io:=sFor t (src.ev cf) (b.ex cf io)
 rd c io np st:=vFor st λtg it body u3 p=>vN u3 (ck4 (tt (Zr it)) (tgk t tg) (up (src.rd c tg it)) (b.rd c io np body) λX E h g u v=>zkF E.po E.T.calm u g v (Vg h))
@[simp] theorem zbO:(IS.loop t src b).ex cf io=sFor t (src.ev cf) (b.ex cf io):=rfl
def IS.ret(o:IO):IS where
 ex cf _:=sRet (o.ev cf)
 rd c io np st:=zl8 st λx p=>vS x λy=>ck1 (up (o.rd c y)) λX E u=>zkH u
@[simp] theorem zec:(IS.ret o).ex cf io=sRet (o.ev cf):=rfl
def IS.app(s i:Nat)(e:IE):IS where
 ex cf _:=sApp i (e.ev cf).1
 rd c io np st:=vM1 st "append" λo p2 a q p=>qT o λx p=>ck4 (up (nmk s i x)) (tt (zQ a)) (tt (p2.endLine==q.line)) (up (e.rd c a)) λX E n h l u=>zkC n u.1 (zS h) l
@[simp] theorem zd6:(IS.app s i e).ex cf io=sApp i (e.ev cf).1:=rfl
def IS.set(s i:Nat)(ie ve:IE):IS where
 ex cf _:=sSet i (ie.ev cf).1 (ve.ev cf).1
 rd c io np st:=vAs st λt a q=>YO t λy b p2=>qT y λx p=>ck4 (up (nmk s i x)) (tt (jO b&&wX a)) (up (ie.rd c b)) (up (ve.rd c a)) λX E n h u v=>by
  rw[xi]at h
  erw[zkI n u.1 v.1 (Vy h.2) vf (λhe hg=>KG he hg (Vy h.2) vf) (λho hi hs=>zjY ho hi hs (ko h.1))]
@[simp] theorem zed:(IS.set s i ie ve).ex cf io=sSet i (ie.ev cf).1 (ve.ev cf).1:=rfl
def IS.ins(s i:Nat)(ie ve:IE):IS where
 ex cf _:=zcv i (ie.ev cf).1 (ve.ev cf).1
 rd c io np st:=vMs st λo f p2 xs q q2=>dq ("insert" :Str) f (qT o λx p=>v2 xs λb a=>ck4 (up (nmk s i x)) (tt (zQ a&&zQ b&&p2.endLine==q.line)) (up (ie.rd c b)) (up (ve.rd c a)) λX E n h u v=>by
  simp only[xi]at h
  exact zkG n u.1 v.1 (zS h.1.2) (zS h.1.1) h.2)
@[simp] theorem zea:(IS.ins s i ie ve).ex cf io=zcv i (ie.ev cf).1 (ve.ev cf).1:=rfl
def IS.clr(s i:Nat):IS where
 ex _ _:=zfr i
 rd c io np st:=vMs st λo f p2 xs q q2=>dq ("clear" :Str) f (qT o λx p=>vN xs (ck2 (up (nmk s i x)) (tt (p2.endLine==q.line)) λX E n h=>zkE n h))
@[simp] theorem zlb:(IS.clr s i).ex cf io=zfr i:=rfl
def IS.raise(x:Str):IS where
 ex _ _:=sRaise x
 rd _ _ _ st:=ck0 λX _=>zfP
@[simp] theorem Ke:(IS.raise x).ex cf io=sRaise x:=rfl
def IS.aug(s i:Nat)(e:IE):IS where
 ex cf _:=zcu i (e.ev cf).1
 rd c io np st:=vAug st λt op v p=>dq .Add op (qT t λx px=>ck3 (lok s i x) (up (nmk s i x)) (up (e.rd c v)) λX E l n u=>zkD n E.nd l.hx l.hf u.1)
@[simp] theorem zd8:(IS.aug s i e).ex cf io=zcu i (e.ev cf).1:=rfl
def IS.star(s i t j:Nat)(e:IE):IS where
 ex cf io:=sStar io i j (e.ev cf).1
 rd c io np st:=vAs st λtg v q=>zcI tg λes k p2=>v2 es λa b=>qT a λx px=>vStr b λd pc=>qT d λy py=>ck4 (tt (ju v)) (lok s i x) (lok t j y) (up (e.rd c v)) λX E h l m u=>zic E.T.calm E.nd E.mn l.hi l.hx l.hf l.hm m.hi m.hx m.hf m.hm u.1 (Jg h) (QC h)
@[simp] theorem zbP:(IS.star s i t j e).ex cf io=sStar io i j (e.ev cf).1:=rfl
def IS.fset(s i:Nat)(cl f:Str)(o:IO):IS where
 ex cf _:=sFset i cl f (o.ev cf)
 rd c io np st:=vAs st λt e q=>vFd t f λx p p2=>ck2 (up (flk s i x cl f)) (up (o.rd c e)) λX E n u=>zib n.1 n.2 u zcE
@[simp] theorem zbN:(IS.fset s i cl f o).ex cf io=sFset i cl f (o.ev cf):=rfl
def IS.fapp(s i:Nat)(cl f:Str)(z:IZ):IS where
 ex _ _:=sFapp i cl f z
 rd c io np st:=vM1 st "append" λo p2 a q q2=>vFd o f λx p p3=>ck4 (up (flk s i x cl f)) (tt (zQ a)) (tt (p2.endLine==q.line)) (zk z a) λX E n h l u=>zia n.1 n.2 u (zS h) l
@[simp] theorem zbM:(IS.fapp s i cl f z).ex cf io=sFapp i cl f z:=rfl
def IS.dupd(s i:Nat)(e:IE):IS where
 ex cf _:=sDupd i (e.ev cf).1
 rd c io np st:=vM1 st "update" λo p2 a q p=>qT o λx p=>ck4 (up (nmk s i x)) (tt (zQ a)) (tt (p2.endLine==q.line)) (up (e.rd c a)) λX E n h l u=>zh8 n u.1 (ziK h l)
@[simp] theorem zbK:(IS.dupd s i e).ex cf io=sDupd i (e.ev cf).1:=rfl
def IS.u(s i:Nat)(ie ve:IE):IS where
 ex cf _:=JE i (ie.ev cf).1 (ve.ev cf).1
 rd c io np st:=vAs st λt a q=>YO t λy b p2=>qT y λx p=>ck3 (up (nmk s i x)) (up (ie.rd c b)) (up (ve.rd c a)) λX E n u v=>zh7 (Vh E.T) n v.1 u.1 zfW
@[simp] theorem zbJ:(IS.u s i ie ve).ex cf io=JE i (ie.ev cf).1 (ve.ev cf).1:=rfl
def IS.dpop(s i:Nat)(e:IE):IS where
 ex cf _:=YA i (e.ev cf).1
 rd c io np st:=vM1 st "pop" λo p2 a q p=>qT o λx p=>ck4 (up (nmk s i x)) (tt (zQ a)) (tt (p2.endLine==q.line)) (up (e.rd c a)) λX E n h l u=>zh6 n u.1 (ziK h l)
@[simp] theorem zbI:(IS.dpop s i e).ex cf io=YA i (e.ev cf).1:=rfl
def IB.nil:IB where
 ex _ _:=sNext
 rd _ _ _ l:=vN l (ck0 λX _=>zkd)
 nl:=true
def cB1{b:Bool}{α:Type}{f g:α}(h:b=true):(bif b then f else g)=f:=by rw[h];rfl
def cB2{b:Bool}{α:Type}{f g:α}(h:b=false):(bif b then f else g)=g:=by rw[h];rfl
def IB.cons(s:IS)(b:IB):IB where
 ex cf io:=bif b.nl then s.ex cf io else sSeq (s.ex cf io) (b.ex cf io)
 rd c io np l:=if h:b.nl=true then v1 l λx=>ck1 (s.rd c io np x) λX _ u=>by rw[cB1 h];exact zke u
  else vC l λx r=>ck2 (s.rd c io np x) (b.rd c io np r) λX _ u v=>by rw[cB2 (Bool.eq_false_iff.mpr h)];exact zhy u v
def IB.disp(s i:Nat)(x:Str)(kf:List (Str×Str))(n:Nat)(e:IE)(a:IA):IB where
 ex cf io:=sDisp io kf cf i (e.ev cf).1 (a.ev cf)
 rd c io np l:=v2 l λmr b9=>vAs mr λt v q2=>qT t λr pr=>YO v λd w q1=>qT d λy py=>dq x y (zl8 b9 λo q4=>vS o λz=>vFn z λg pg as q3=>dq r g (vC as λa1 as=>ck4 (ck3 (lok s i r) (up (nmk s i r)) (up (glk x)) λX _ l m g=>And.intro l (And.intro m g)) (tt (c.W.gd.contains (x,kf)&&(jO w&&(kf.all (λp=>c.W.fl.contains (p.2,n))&&(a1::as).all zQ)))) (up (e.rd c w)) (up (a.rd c (a1::as))) λX E l h u v=>by
  simp only[xi]at h
  let(h8,E6,E5,rh):=h
  rw[uc,xi]at rh
  let(l,m,g):=l
  refine zhz (E.T.gd x kf h8) g.1 g.2 (λkey f hf=>E.T.fn f n (xG.mp E5 _ (qW hf))) E.T.rm u.1
   (zif (E.T.gd x kf h8) g.1 g.2 ?_ E.nd l.hi l.hx rfl l.hf) l.hi m.hv m.hd m.hcd E.mn l.hm v (zS rh.1) (jd (ZR rh.2))
  intro ov iv
  cases w<;>first | rfl | (cases E6)))
@[simp] theorem zdv:IB.nil.ex cf io=sNext:=rfl
@[simp] theorem zdw:(IB.cons s .nil).ex cf io=s.ex cf io:=rfl
@[simp] theorem zbb:(IB.cons s (.cons t b)).ex cf io=sSeq (s.ex cf io) ((IB.cons t b).ex cf io):=rfl
@[simp] theorem zbc:(IB.disp s i x kf n e a).ex cf io=sDisp io kf cf i (e.ev cf).1 (a.ev cf):=rfl
@[simp] theorem zba:(IB.cons t (.disp s i x kf n e a)).ex cf io=sSeq (t.ex cf io) ((IB.disp s i x kf n e a).ex cf io):=rfl
inductive Kd where
 |fn
 |me (c m:Str)
 |ini (c:Str)
 deriving DecidableEq
structure DefI where
 name:Str
 st:Stmt
 ps:Ab
 N:Ab
 mask:List Bool
 io:Ac
 body:IB
 kd:Kd:=.fn
def outs:List Bool->Gv->List (Option OV)
 |[],_=> []
 |_::bs,[]=>none::outs bs []
 |b::bs,x::U=>(if b then x else none)::outs bs U
def WV:∀(bs:List Bool)(U:Gv),(outs bs U).length=bs.length
 |[],_=>rfl
 |_::bs,[]=>by rw[outs,xo,WV,xo]
 |b::bs,x::U=>by rw[outs,xo,WV,xo]
def WU:∀{bs:List Bool}{U:Gv}{j:Nat}{o:OV},(outs bs U)[j]?=some (some o)->bs[j]?=some true/\U[j]?=some (some o)
 |[],_,_,_,h=>by simp[outs]at h
 |b::bs,[],0,_,h=>by simp[outs]at h
 |b::bs,[],j+1,o,h=>by
  have:=WU (U:= []) (by simpa [outs] using h)
  simp at this
 |b::bs,x::U,0,o,h=>by
  simp only[outs,List.getElem?_cons_zero,Option.some.injEq]at h
  grind
 |b::bs,x::U,j+1,o,h=>by
  have:=WU (U:=U) (by simpa [outs] using h)
  simpa using this
def fin(mask:List Bool):R (FL×Gv)->RF
 |.ok (.ret o,U)=>.ok o (outs mask U)
 |.ok (.next,U)=>.ok (.d .none) (outs mask U)
 |_=>.bad
def DefI.run(d:DefI)(cf:CF)(args:List OV):RF:=if args.length=d.mask.length then fin d.mask (d.body.ex cf d.io (args.map some++List.replicate (d.N.length-d.mask.length) none)) else .bad
def DefI.run_lenX{d:DefI}(h:d.run cf args≠ .bad):args.length=d.mask.length:=by
 unfold DefI.run at h
 split at h
 ·assumption
 ·erw[absurd rfl h]
def DefI.ran(d:DefI)(cf:CF):Ran d.mask.length (d.run cf):=λ_=>DefI.run_lenX
def v6(defs:List DefI):Nat->CF
 |0,_,_=>.bad
 |n+1,x,args=>match defs.find? λd=>decide (d.name=x) with
  |some d=>d.run (v6 defs n) args
  |none=>.bad
section
variable {M0:Ae}{F:Fp}{U:Gv}{Z:Nu}{H:Hp}
def RS.outs{mask:List Bool}{us:List V}(r:RS M0 F (U++ [some o]) (Z++ [some v]) H)(hu:us.length=mask.length)(hν:∀ j:Nat,mask[j]?=some true->Z[j]?=(us[j]?).map some) :
  ∃ F',RS M0 F' (L3.outs mask U++ [some o]) (us.map some++ [some v]) H/\Stp F H F' H:=by
 let hl:Z.length=U.length:= ~~~r.len
 let ho:=WV mask U
 let lt:∀{j p},(L3.outs mask U++ [some o])[j]?=some (some p)->j≠mask.length->mask[j]?=some true/\j<U.length/\U[j]?=some (some p)/\j<mask.length:=λ{j p} ej hj=>by
  let h1:=(xa.mp ej).1
  simp[ho]at h1
  rw[xc (by lia)]at ej
  let h2:=WU ej
  exact#[h2.1,(xa.mp h2.2).1,h2.2,by lia]
 refine r.map (λj=>if j=mask.length then U.length else j) (λj p ej=>?_) (λj k o p e1 e2=>?_) (by simp[ho,hu])
 ·split
  ·subst j
   rw[xp (by lia),ho]at ej
   simp at ej
   subst ej
   simp[hl,hu]
  next hj=>
   let(h0,h1,h2,h3):=lt ej hj
   rw[xc h1,xc (by simp;lia),xc (by lia),xf,hν j h0]
   exact#[h2,rfl]
 ·let h1:=@lt _ _ e1
  let h2:=@lt _ _ e2
  split<;>split<;>lia
end
def va(N ps:Ab)(sc:Scope):Bool:=decide (sc.kind=.function)&& !sc.isCoroutine&& !sc.isGenerator&&decide N.Nodup&&decide (N.take ps.length=ps)&&ps.all (λx=>decide (sc.names.lookup x=some .local)||decide (sc.names.lookup x=some .cell))&&sc.names.all (λy=>decide (y.2≠ .free))
def vc(h:va N ps sc=true):Zb N ps sc:=by
 unfold va at h
 simp only[xi,x0,xG,xQ,Bool.not_eq_true']at h
 let((((((h1,h2),h3),h4),h5),h6),h7):=h
 exact#[h1,h2,h3,h4,h5,h6,h7]
def Ck.get{E P:Cx->Prop}{o:Ck E P}(h:o.isSome=true):∀ X,E X->P X:=by
 cases o with
 |none=>cases h
 |some u=>erw[u.1]
def IB.chk(cf:CF)(k:Nat)(W:Wd)(sc:Scope)(N:Ab)(io:Ac)(np:Nat)(b:IB)(l:List Stmt):Bool:=(b.rd #[cf,W,k,sc,N,List.range N.length] io np l).isSome
def DefI.ok(W:Wd)(cf:CF)(k:Nat)(d:DefI):Bool:=va d.N d.ps (defScope d.st)&&decide (d.ps.length=d.mask.length)&&d.io.all (λi=>decide (d.mask[i]?=some true))&&(List.range d.mask.length).all (λj=>decide (d.mask[j]?≠some true)||d.io.contains j)
 && d.body.chk cf k W (defScope d.st) d.N d.io d.mask.length (defBody d.st)
abbrev DefI.Ok(W:Wd)(d:DefI):Prop:=∀ cf k,d.ok W cf k=true
structure WK(P:Ar)(w:World)(K:Ah)(mg:Aq)(base:Heap)(cf:CF)(W:Wd)(k:Nat):Prop where
 bi:∀ x,W.bi.contains x=true->mg x=none
 gi:∀ x i,W.gi.contains (x,i)=true->∃ t,mg x=some (.int i t)
 gs:∀ x i,W.gs.contains (x,i)=true->∃ t,mg x=some (.str i t)
 fn:∀ x n,W.fl.contains (x,n)=true->Kn P w K mg base CX0 x k (spX n (cf x))/\Ran n (cf x)
 gd:∀ x kf,W.gd.contains (x,kf)=true->GD w K mg x kf
 fk:∀ c f,W.fk.contains (c,f)=true->Cls K (Cs.adr c)/\NoAttr K (Cs.adr c) f
 mc:∀ c q n,W.mc.contains (c,q,n)=true->mg c=some (.ref (Cs.adr c))/\(∃ j,j+1<=k/\KnI P w K mg base (Cs.adr c) j (spX n (cf q)))/\Ran n (cf q)
 ml:∀ c m q n,W.ml.contains (c,m,q,n)=true->KnM P w K mg base (Cs.adr c) m k (spX n (cf q))/\Ran n (cf q)
def Lk(K:Ah)(mg:Aq)(f:Ap)(nm:Str):Kd->Prop
 |.fn=>mg nm=some (.ref f)
 |.me c m=>Cls K (Cs.adr c)/\Y4 K (Cs.adr c) m f
 |.ini c=>Mk K (Cs.adr c) f/\mg c=some (.ref (Cs.adr c))
structure Dx(K:Ah)(mg:Aq)(d:DefI):Prop where
 ex:∃(x:Str)(f:Ap)(fd:FuncData),Fun K x d.name d.st f fd/\Binds K fd d.ps []/\Lk K mg f d.name d.kd
section
variable {P:Ar}{w:World}{K:Ah}{mg:Aq}{base:Heap}{cf:CF}{W:Wd}{k:Nat}
def zkU:XSc (Js CX0 P w K mg base N x sc f ai A outer s H E).nox sc N where
 hN:=rfl
 vis x h:=by
  unfold zf6 at h
  simp only[xQ,x0]at h
  rcases h with (h | h) | h
  ·erw[.inl h]
  ·erw[.inr (.inl h)]
  ·erw[.inr (.inr h)]
 loc x h:=h
 cel x h:=#[h,rfl]
 fre x h:=.inr h
 glo x h:=by
  unfold zbS at h
  simp only[x0]at h
  erw[h]
def ziD:XSc (Js CX0 P w K mg base N x sc f ai A outer s H E) sc N where
 hN:=rfl
 vis x h:=by
  unfold zf6 at h
  simp only[xQ,x0]at h
  rcases h with (h | h) | h
  ·erw[.inl h]
  ·erw[.inr (.inl h)]
  ·erw[.inr (.inr h)]
 loc x h:=h
 cel x h:=#[h,rfl]
 fre x h:=.inr h
 glo x h:=by
  unfold zbS at h
  simp only[x0]at h
  erw[h]
def zhQ:Sees (List.range n) Z Z:=λs i v e1 e2=>by
 let hs:s<n:=by
  have:=(xa.mp e1).1
  simpa using this
 rw[um hs]at e1
 cases e1
 erw[e2]
def zan{st:Stmt}{f:Ap}{sp:Sp}(F:Fun K x qual st f fd)(S:Zb N ps (defScope st))(len:∀ vs H Q E,sp vs H Q E->vs.length=ps.length)
  (a9:∀(ai:Aj)(A:Around)(outer:List Env)(s:Am)(H:Hp)(vs:List V)(Q:VK)(E:XK),Room k (A.deeper (envOfC qual (defScope st) ⇑s f ai))->sp vs H Q E ->
   wpB (Js CX0 P w K mg base N qual (defScope st) f ai A outer s H E) (defBody st) { nx:=λ_ H'=>Q .non H',rt:=Q } (start N vs) H):FnOk P w K mg base CX0 (k+1) f fd ps sp:=by
 let(oc,od,kV,doc,pm,an,ai,ct,gc,rfl,lk,hcd):=F.ex
 erw[ziI lk hcd S len λA outer s H vs Q E hr de=>#[_,jQ,a9 ai A outer s H vs Q E hr de]]
def zld{d:DefI}{f:Ap}(D:Fun K x d.name d.st f fd)(hok:d.Ok W)(T:WK P w K mg base cf W k)(hk:1<=k):FnOk P w K mg base CX0 (k+1) f fd d.ps (spX d.mask.length (d.run cf)):=by
 replace hok:=hok cf k
 unfold DefI.ok at hok
 simp only[xi,x0,xG,xQ]at hok
 let((((h1,h2),h3),h4),h5):=hok
 let S:=vc h1
 let Fu:d.mask.length<=d.N.length:=by
  have:=congrArg List.length S.pre
  rw[xJ]at this;lia
 refine zan D S (λvs H Q E h=>by rw[h.1,h2]) λai A outer s H vs Q E hr de=>?_
 let(hv,M0,F,args,rs,hm):=de
 let hal:args.length=d.mask.length:=by have:=rs.len;simpa [hv] using this.symm
 let rs1:=rs.ext (d.N.length-d.mask.length)
 let af:L2.start d.N vs=vs.map some++List.replicate (d.N.length-d.mask.length) none:=by unfold L2.start;rw[hv]
 rw[af]
 let hsl:(vs.map some++List.replicate (d.N.length-d.mask.length) none:L2.St).length=d.N.length:=by simp[hv];lia
 erw[Ck.get h5 (Js CX0 P w K mg base d.N d.name (defScope d.st) f ai A outer s H E) #[#[ziD,#[T.bi,T.gi,T.gs,T.fn,hr,hk,rfl,T.gd,λc f h=>#[(T.fk c f h).1,(T.fk c f h).2],T.mc,T.ml]],PassesOwn.leaving,S.nd,List.nodup_range,λi hi=>?_] M0 F _ _ _ H _ rs1 zhQ hsl ?_]
 ·erw[(xa.mp (h3 i hi)).1]
 ·have back:∀{F':Fp}{U':Gv}{Z':Nu}{o:OV}{v:V}{H':Hp}{G:Prop},RS M0 F' (U'++ [some o]) (Z'++ [some v]) H'->(∀ i∈d.io,Z'[i]?=(vs.map some++List.replicate (d.N.length-d.mask.length) none:Nu)[i]?)->Stp F H F' H' ->
    (∀ F',RS M0 F' (outs d.mask U'++ [some o]) (vs.map some++ [some v]) H'->Stp F H F' H'->G)->G:=λ{F' U' Z' o v H' G} r' hn s' hq=>by
   let(F2,r2,s2):=r'.outs hv λj hj=>by
    let hjl:=(xa.mp hj).1
    let Em:j∈d.io:=by
     rcases h4 j (List.mem_range.mpr hjl)with z | z
     ·erw[absurd hj z]
     ·simpa using z
    rw[hn j Em,xc (by simp[hv];exact hjl),xf]
   erw[hq F2 r2 (s'.trans s2)]
  unfold DefI.run at hm
  rw[if_pos hal]at hm
  generalize d.body.ex cf d.io (args.map some++List.replicate (d.N.length-d.mask.length) none)=rr at hm
  cases rr with
  |bad=>erw[hm.elim]
  |ok z=>
   let(fl,U'):=z
   cases fl with
   |brk=>erw[hm.elim]
   |cnt=>erw[hm.elim]
   |next=>
    intro F' Z' O' H' r' s' d5 dv hn
    erw[back (r'.newD .none) hn s' λF2 r2 s2=>hm F2 _ H' r2 s2]
   |ret o=>
    intro F' Z' v H' r' s' hn
    erw[back r' hn s' λF2 r2 s2=>hm F2 v H' r2 s2]
def zjl{d:DefI}(D:Fun K x d.name d.st f fd)(hok:d.Ok W):FnOk P w K mg base CX0 1 f fd d.ps (spX d.mask.length λ_=>.bad):=by
 replace hok:=hok (λ_ _=>.bad) 0
 unfold DefI.ok at hok
 simp only[xi,x0]at hok
 refine zan D (vc hok.1.1.1.1) (λvs H Q E h=>by rw[h.1,hok.1.1.1.2]) λai A outer s H vs Q E hr de=>?_
 let(hv,M0,F,args,rs,hm):=de
 erw[hm.elim]
def wOk(defs:List DefI)(W:Wd):Bool:=W.fl.all (λp=>okO (defs.find? λd=>decide (d.name=p.1)) λd=>decide (d.mask.length=p.2)&&decide (d.kd=.fn))
 && W.mc.all (λp=>okO (defs.find? λd=>decide (d.name=p.2.1)) λd=>decide (d.mask.length=p.2.2)&&decide (d.kd=.ini p.1))
 && W.ml.all (λp=>okO (defs.find? λd=>decide (d.name=p.2.2.1)) λd=>decide (d.mask.length=p.2.2.2)&&decide (d.kd=.me p.1 p.2.1))
def zaF{j:Nat}(hd:∀ d∈defs,Dx K mg d/\d.Ok W)(hw:wOk defs W=true)(p9:∀ x,W.bi.contains x=true->mg x=none)
  (pq:∀ x i,W.gi.contains (x,i)=true->∃ t,mg x=some (.int i t)) (gk:∀ x i,W.gs.contains (x,i)=true->∃ t,mg x=some (.str i t))
  (hgd:∀ x kf,W.gd.contains (x,kf)=true->GD w K mg x kf)
  (p6:∀ c f,W.fk.contains (c,f)=true->Cls K (Cs.adr c)/\NoAttr K (Cs.adr c) f)
  (hF:∀(d:DefI)(x:Str)(f:Ap)(fd:FuncData),defs.find? (λe=>decide (e.name=d.name))=some d->Fun K x d.name d.st f fd->d.Ok W->FnOk P w K mg base CX0 j f fd d.ps (spX d.mask.length (cf d.name))/\Ran d.mask.length (cf d.name)) (hj:j+1<=k) (t6:2<=k):WK P w K mg base cf W k:=by
 unfold wOk at hw
 simp only[xi,xG]at hw
 let((w1,w2),w3):=hw
 let get:∀(x:Str)(n:Nat)(kd:Kd),okO (defs.find? λd=>decide (d.name=x)) (λd=>decide (d.mask.length=n)&&decide (d.kd=kd))=true->∃(d:DefI)(y:Str)(f:Ap)(fd:FuncData),d.name=x/\Fun K y d.name d.st f fd/\Binds K fd d.ps []/\Lk K mg f x kd/\FnOk P w K mg base CX0 j f fd d.ps (spX n (cf x))/\Ran n (cf x):=λx n kd h=>by
  let(d,e,h):=zaq h
  simp only[xi,x0]at h
  let(rfl,rfl):=h
  let hmem:=List.mem_of_find?_eq_some e
  let g8:d.name=x:=by simpa using List.find?_some e
  subst g8
  let(D,ok):=hd d hmem
  let(y,f,fd,F,hb,lk):=D.ex
  let(q1,q2):=hF d y f fd e F ok
  exact#[d,y,f,fd,rfl,F,hb,lk,q1,q2]
 refine#[p9,pq,gk,λx n h=>?_,hgd,p6,λc q n h=>?_,λc m q n h=>?_]
 ·let(d,y,f,fd,e,F,hb,lk,q1,q2):=get x n .fn (w1 (x,n) (ul.mp h))
  exact#[#[f,fd,d.ps,q1.mono (by lia),lk,F.kp,hb],q2]
 ·let(d,y,f,fd,e,F,hb,lk,q1,q2):=get q n (.ini c) (w2 (c,q,n) (ul.mp h))
  exact#[lk.2,#[j,hj,f,fd,d.ps,q1,lk.1,hb],q2]
 ·let(d,y,f,fd,e,F,hb,lk,q1,q2):=get q n (.me c m) (w3 (c,m,q,n) (ul.mp h))
  exact#[#[f,fd,d.ps,q1.mono (by lia),lk.1,lk.2,hb],q2]
def wk_all{defs:List DefI}(hd:∀ d∈defs,Dx K mg d/\d.Ok W)(hw:wOk defs W=true)(p9:∀ x,W.bi.contains x=true->mg x=none)
  (pq:∀ x i,W.gi.contains (x,i)=true->∃ t,mg x=some (.int i t)) (gk:∀ x i,W.gs.contains (x,i)=true->∃ t,mg x=some (.str i t))
  (hgd:∀ x kf,W.gd.contains (x,kf)=true->GD w K mg x kf)
  (p6:∀ c f,W.fk.contains (c,f)=true->Cls K (Cs.adr c)/\NoAttr K (Cs.adr c) f):∀ n,WK P w K mg base (v6 defs n) W (2*n+2)
 |0=>zaF hd hw p9 pq gk hgd p6 (λd x f fd _ F ok=>#[zjl F ok,λargs e=>absurd rfl e]) (by lia) (by lia)
 |n+1=>zaF hd hw p9 pq gk hgd p6 (λd x f fd e F ok=>by
   let ec:v6 defs (n+1) d.name=d.run (v6 defs n):=by
    funext args
    rw[v6,e]
   rw[ec]
   exact#[zld F ok (wk_all hd hw p9 pq gk hgd p6 n) (by lia),d.ran _]) (by lia) (by lia)
def QN(cells:List Int)(i l t s:Int):OV:=.l [.d (.list (cells.map .int)),.d (.int i),.d (.int l),.d (.int t),.d (.int s)]
def law_ok {st:Stmt}{x:Str}{kb:Nat}{body:IB}{pos' p3 p2 p pos:Pos}(Fn:Fun K "law" "law" st fa fd) (hS:va N ["_law_script"] (defScope st)=true) (Ek:Kn P w K mg base CX0 "_law_box" kb (zfN K)) (Bi:kb<=k) (T:WK P w K mg base cf W k) (hk:1<=k)
  (hb:defBody st=.Assign [.Name x pos'] (.Call (.Name "_law_box" p3) [.Name "_law_script" p2] [] p) pos::(defBody st).tail) (EV:N[0]?=some ("_law_script" :Str)) (CI:N[1]?=some x) (AH:(defScope st).names.lookup ("_law_script" :Str)=some .local) (hx:Loc (defScope st) x) (hg:(defScope st).names.lookup ("_law_box" :Str)=some .globalImplicit)
  (Bu:∀ cf k,body.chk cf k W (defScope st) N [] 0 (defBody st).tail=true)
  (ak:∀ (cells:List Int) (i l t s:Int),0<=i->∃ U',body.ex cf [] (none::some (QN cells i l t s)::List.replicate (N.length-2) none)=.ok (.ret (.d (.bool true)),U')):FnOk P w K mg base CX0 (k+1) fa fd ["_law_script"] (zaz K):=by
 let S:=vc hS
 erw[Fn.law S λai A outer s H Q E a ns hr ET hlen kk=>?_]
 let hl2:2<=N.length:=by have:=(xa.mp CI).1;lia
 rw[hb]
 erw[zkS (X:=(Js CX0 P w K mg base N "law" (defScope st) fa ai A outer s H E).nox) (N:=N) S.nd Ek (hr.mono Bi) ET hlen (λb O1 H1 s1 nb hB rs1 l1=>?_) rfl EV CI (.inl AH) hx (.inl rfl) hg rfl rfl]
 let(c,cells,i,l,t,sd,B):=hB
 have hσ:O1[1]?=some (some (.ref b)):=rs1.av 1 (.ref b) (by
  rw[xn]
  simp
  exact hl2)
 let hF:∀ j a,a∈fset (λ_=> []) 1 [b] j->j=1/\a=b:=λj a h=>by
  by_cases hj:j=1
  ·subst hj;rw[zL]at h;exact#[rfl,~~~h]
  ·rw[zP hj]at h;cases h
 let hM:∀ a,MM qk (fset (λ_=> []) 1 [b]) a->a=b:=λa h=>by
  rcases h with h | ⟨j,h⟩
  ·erw[h.elim]
  ·erw[(hF j a h).2]
 let rs:RS qk (fset (λ_=> []) 1 [b]) (none::some (QN cells i l t sd)::List.replicate (N.length-2) none) (none::some (.ref b)::List.replicate (N.length-2) none) H1:=by
  refine#[λa h=>h.elim,λj a h z=>z,λj=>?_,λj k a h1 h2=>by rw[(hF j a h1).1,(hF k a h2).1],λj o e=>?_,λj h=>?_,by simp]
  ·by_cases hj:j=1
   ·subst hj;rw[zL];exact xB.mpr #[(λz=>nomatch z),.nil]
   ·rw[zP hj];exact .nil
  ·match j,e with
   |0,e=>simp at e
   |1,e=>
    let e':QN cells i l t sd=o:= ~~~e
    subst e'
    refine#[.ref b,rfl,?_]
    rw[zL]
    erw[.l B.hb (.cons (.d (B.hc.less λa ha _=>hM a ha)) (.cons (.d (.int _)) (.cons (.d (.int _)) (.cons (.d (.int _)) (.cons (.d (.int _)) .nil)))))]
   |j+2,e=>
    rw[uf,uf,xN]at e
    split at e<;>cases e
  ·by_cases hj:j=1
   ·subst hj;exact absurd rfl (h (QN cells i l t sd))
   ·rw[zP hj]
 let sees:Sees (List.range N.length) (none::some (.ref b)::List.replicate (N.length-2) none) O1:=λs' j v e1 e2=>by
  let hs:s'<N.length:=by
   have:=(xa.mp e1).1
   simpa using this
  rw[um hs]at e1
  cases e1
  match s',e2 with
  |0,e2=>simp at e2
  |1,e2=>
   have:V.ref b=v:= ~~~e2
   subst this;exact hσ
  |j+2,e2=>
   rw[uf,uf,xN]at e2
   split at e2<;>cases e2
 let(U',er):=ak cells i l t sd B.hi
 erw[Ck.get (Bu cf k) (Js CX0 P w K mg base N "law" (defScope st) fa ai A outer s H E).nox #[#[zkU,#[T.bi,T.gi,T.gs,T.fn,hr,hk,rfl,T.gd,λc f h=>#[(T.fk c f h).1,(T.fk c f h).2],T.mc,T.ml]],PassesOwn.never,S.nd,List.nodup_range,λi hi=>nomatch hi] qk _ _ _ O1 H1 _ rs sees l1 ?_]
 rw[er]
 intro F' Z' v H' r' s' hn
 let(w',ew,q):=r'.at' U'.length (.d (.bool true)) (by rw[xp (xh _)];simp)
 let hlen:=r'.len
 have hνl:Z'.length=U'.length:= ~~~hlen
 rw[xp (by lia),hνl]at ew
 have:v=w':= ~~~ew
 subst this
 generalize F' U'.length=Az at q
 cases q with
 |d q=>cases q;exact kk H'
end
def csOf(mg:Aq):Cs:=⟨λx=>match mg x with
 |some (.ref C)=>C
 |_=>0⟩
def V1(h:mg c=some (.ref C)):(csOf mg).adr c=C:=by
 show (match mg c with
  |some (.ref C)=>C
  |_=>0)=C
 rw[h]
section
variable {K:Ah}{mg:Aq}{h:Heap}{d:DefI}
def dx_fn(hk:d.kd=.fn)(D:Df K mg d.name d.st d.ps): @Dx (csOf mg) K mg d:=by
 let(f,fd,F,hm,hb):=D.ex
 exact @Dx.mk (csOf mg) _ _ _ #[d.name,f,fd,F,hb,by rw[hk];exact hm]
structure ClsOf(K:Ah)(c:Str)(C:Ap):Prop where
 n:PySem.W.nsIn K mainGlobals c=some (some (.ref C))
 cl:Cls K C
structure Dm(K:Ah)(q c m:Str)(st:Stmt)(ps:Ab):Prop where
 ex:∃(C f:Ap)(fd:FuncData),ClsOf K c C/\Fun K m q st f fd/\Binds K fd ps []/\Y4 K C m f
structure Di(K:Ah)(q c:Str)(st:Stmt)(ps:Ab):Prop where
 ex:∃ (C f:Ap) (fd:FuncData),ClsOf K c C/\Fun K "__init__" q st f fd/\Binds K fd ps []/\Mk K C f
def Dm.of{q c m:Str}{st:Stmt}{ps:Ab}{oc:Aj}{od an:Option Ap}{sl:Array (Option Aj)}{kV dc pm cd ct:Aj}(o:ClsOf K c C)(a:PySem.W.findIn K (.ref C) m=some (some (.ref f)))(fn:PySem.W.isFn K (.ref f)=true)
  (l:K.lookup f=some #[oc,od,.func (PySem.W.fnOf m q (jc st) (defBody st) (defScope st) .none kV dc pm an cd ct),sl]) (e:PySem.W.codeIn K cd q=true) (k:PySem.W.keepIn K (.ref f)=true)
  (hb:∀(kV doc pm:Aj)(an:Option Ap)(ai ct:Aj)(us:An),us.length=ps.length->bindArgs (PySem.W.fnOf m q (jc st) (defBody st) (defScope st) .none kV doc pm an ai ct) #[us,[]]=pure (ps.zip us)):Dm K q c m st ps :=
 #[C,f,_,o,Q8 l e k,(Q8 l e k).binds hb,a,fn,k]
def Di.of {q c:Str}{st:Stmt}{ps:Ab}{oc:Aj}{od an:Option Ap}{sl:Array (Option Aj)}{kV dc pm cd ct:Aj}(o:ClsOf K c C) (mk:PySem.W.makesIn K C=true) (a:PySem.W.findIn K (.ref C) "__init__" =some (some (.ref f))) (fn:PySem.W.isFn K (.ref f)=true) (kc:PySem.W.keepIn K (.ref C)=true)
  (l:K.lookup f=some #[oc,od,.func (PySem.W.fnOf "__init__" q (jc st) (defBody st) (defScope st) .none kV dc pm an cd ct),sl]) (e:PySem.W.codeIn K cd q=true) (k:PySem.W.keepIn K (.ref f)=true)
  (hb:∀ (kV doc pm:Aj) (an:Option Ap) (ai ct:Aj) (us:An),us.length=ps.length->bindArgs (PySem.W.fnOf "__init__" q (jc st) (defBody st) (defScope st) .none kV doc pm an ai ct) #[us,[]]=pure (ps.zip us)):Di K q c st ps :=
 #[C,f,_,o,Q8 l e k,(Q8 l e k).binds hb,mk,a,fn,kc]
def dx_me(X:K.In h)(G:h.Ns mainGlobals mg)(hk:d.kd=.me c m)(D:Dm K d.name c m d.st d.ps): @Dx (csOf mg) K mg d:=by
 let(C,f,fd,o,F,hb,hm):=D.ex
 erw[@Dx.mk (csOf mg) _ _ _ #[m,f,fd,F,hb,?_]]
 rw[hk]
 show Cls K ((csOf mg).adr c)/\Y4 K ((csOf mg).adr c) m f
 rw[V1 (PySem.W.mg_of X G o.n)]
 exact#[o.cl,hm]
def dx_ini(X:K.In h)(G:h.Ns mainGlobals mg)(hk:d.kd=.ini c)(D:Di K d.name c d.st d.ps): @Dx (csOf mg) K mg d:=by
 let(C,f,fd,o,F,hb,hm):=D.ex
 erw[@Dx.mk (csOf mg) _ _ _ #["__init__",f,fd,F,hb,?_]]
 rw[hk]
 show Mk K ((csOf mg).adr c) f/\mg c=some (.ref ((csOf mg).adr c))
 rw[V1 (PySem.W.mg_of X G o.n)]
 exact#[hm,PySem.W.mg_of X G o.n]
def zlc(X:K.In h)(G:h.Ns mainGlobals mg)(o:ClsOf K c C)(n:NoAttr K C f):Cls K ((csOf mg).adr c)/\NoAttr K ((csOf mg).adr c) f:=by
 rw[V1 (PySem.W.mg_of X G o.n)]
 exact#[o.cl,n]
end
end L3
namespace Wx
open PySem L2 L3
scoped instance noCs:L2.Cs:=#[λ_=>0]
section
local macro_rules|`(#[$a])=>`(.cons $a .nil)|`(#[$a,$b,*])=>`(.cons $a #[$b,*])|`(.($n:num))=>`(.x $n $n)|`(($n:num :))=>`(.k $n)
def Qr:IB:=#[.ret (.dat (.and (.i "int" .(0)) (.not (.i "bool" .(0)))))]
def jb3:IE:=.call (.call "_law_whole" 1 #[.x 0 1])
def ν2:IB:=#[.ret (.dat (.and (.i "list" .(0)) (.all (.new (.comp 1 1 [] ["_law_one"] (.nm 0 1) (.list .(0)) .yes jb3)))))]
def Qp:IB:=#[.a 2 2 (.dat (.n .Mod (.n .Add (.n .Add (.n .Mult .(0) (48271:)) (.n .Mult .(1) (69621:))) (12345:)) (2147483647:))),.a 3 3 (.dat (.n .Mod (.n .Add (.n .Add (.n .Mult .(2) (.n .Add (.n .Mod .(2) (65521:)) (7:))) (.n .Mult .(1) (40692:))) (.n .Mod .(0) (104729:))) (998244353:))),.ret (.dat (.n .FloorDiv .(3) (7:)))]
def js:IB:=#[.set 0 0 (3:) (.n .Add (.ix .(0) (3:)) (1:)),.f (.p .Gt (.ix .(0) (2:)) (0:)) #[.a 2 2 (.dat (.ix .(0) (2:))),.set 0 0 (2:) (.n .FloorDiv .(2) .(1)),.ret (.dat (.n .Mod .(2) .(1)))] .nil,.f (.p .GtE (.ix .(0) (1:)) (.len (.ix .(0) (0:)))) #[.ret (.dat (.n .Mod (.call (.call "_law_mixed" 2 #[.ix .(0) (4:),.ix .(0) (3:)])) .(1)))] .nil,.a 3 3 (.dat (.ix (.ix .(0) (0:)) (.ix .(0) (1:)))),.set 0 0 (1:) (.n .Add (.ix .(0) (1:)) (1:)),.f (.p .Lt .(3) (.n .Pow (10:) (18:))) #[.ret (.dat (.n .Mod (.call (.call "_law_mixed" 2 #[.(3),.ix .(0) (3:)])) .(1)))] .nil,.set 0 0 (2:) (.n .FloorDiv .(3) .(1)),.ret (.dat (.n .Mod .(3) .(1)))]
def ja8:IE:=.tup #[.call (.call "_law_take" 2 (.io 1 0 #[.n .Add .(2) (1:)])),.call (.call "_law_take" 2 (.io 1 0 #[.n .Add .(2) (1:)]))]
def jad:IB:=#[.f (.p .Eq .(3) (0:)) #[.app 7 7 (.p .Eq (.call (.call "_law_take" 2 (.io 0 0 #[(2:)]))) (1:))] #[.f (.p .Eq .(3) (1:)) #[.app 7 7 (.h .LtE .Lt (.min .(8) .(9)) .(6) (.max .(8) .(9)))] #[.f (.p .Eq .(3) (2:)) #[.app 7 7 (.p .Lt .(6) .(8))] #[.app 7 7 (.p .NotEq (.p .Lt .(6) .(8)) (.p .Eq .(6) .(9)))]]]]
def jbw:IB:=#[.a 7 7 (.own (.lst .nil)),.loop (.tp #[.nm 8 8,.nm 9 9]) (.list .(4)) jad,.app 5 5 (.frz 7 7)]
def Qo:IB:=#[.a 3 3 (.dat (.call (.call "_law_take" 2 (.io 0 0 #[(4:)])))),.a 4 4 (.dat (.new (.comp 10 1 [0,2] ["_law_dye","_law_box_here","_law_size"] (.nm 0 10) (.range .(1)) .yes ja8))),.a 5 5 (.own (.lst .nil)),.loop (.nm 6 6) (.range .(2)) jbw,.ret (.move 5 5)]
def jaw:IB:=#[.a 8 8 (.dat (.call (.call "bar_word" 2 #[.n .Sub (.ix .(6) .(7)) (.ix .(4) .(7)),.ix .(1) .(7)]))),.f (.p .IsNot .(8) .cnone) #[.app 2 2 (.tup #[.(8),.(3),.(7)])] .nil]
def jb9:IB:=#[.loop (.nm 7 7) (.range (.len .(4))) jaw]
def KB:IB:=#[.a 2 2 (.own (.lst .nil)),.loop (.tp #[.nm 3 3,.tp #[.nm 4 4,.nm 5 5,.nm 6 6]]) (.enum .(0)) jb9,.ret (.move 2 2)]
def jx:IB:=#[.f (.p .Lt .(0) (0:)) #[.ret (.dat (.q "spare"))] .nil,.f (.p .Gt .(0) (1:)) #[.ret (.dat (.q "deep"))] .nil,.f (.and (.p .Eq .(0) (1:)) (.not .(1))) #[.ret (.dat (.q "spent"))] .nil,.ret (.dat .cnone)]
def jae:IB:=#[.a 5 5 (.dat (.n .Sub (.ix (.ix (.ix .(0) .(3)) (2:)) .(4)) (.ix (.ix (.ix .(0) .(3)) (0:)) .(4)))),.f (.p .Lt .(5) (0:)) #[.app 2 2 (.tup #[.q "spare",.(3),.(4)])] .nil,.f (.p .GtE .(5) (2:)) #[.app 2 2 (.tup #[.q "deep",.(3),.(4)])] .nil,.f (.and (.p .Eq .(5) (1:)) (.not (.ix .(1) .(4)))) #[.app 2 2 (.tup #[.q "spent",.(3),.(4)])] .nil]
def jbq:IB:=#[.loop (.nm 4 4) (.range (.len (.ix (.ix .(0) .(3)) (0:)))) jae]
def QW:IB:=#[.a 2 2 (.own (.lst .nil)),.loop (.nm 3 3) (.range (.len .(0))) jbq,.ret (.move 2 2)]
def jbr:IB:=#[.f (.or (.not (.i "tuple" .(2))) (.or (.p .NotEq (.len .(2)) .(1)) (.not (.i "str" (.ix .(2) (0:)))))) #[.ret (.dat (.b false))] .nil,.f (.or (.not (.call (.call "_law_whole" 1 #[.ix .(2) (.neg (1:))]))) (.not (.call (.call "_law_whole" 1 #[.ix .(2) (.neg (2:))])))) #[.ret (.dat (.b false))] .nil]
def jS:IB:=#[.f (.not (.i "list" .(0))) #[.ret (.dat (.b false))] .nil,.loop (.nm 2 2) (.list .(0)) jbr,.ret (.dat (.b true))]
def jao:IB:=#[.f (.or .(2) (.p .Gt (.call (.call "_law_take" 2 (.io 0 0 #[(4:)]))) (0:))) #[.ins 3 3 (.call (.call "_law_take" 2 (.io 0 0 #[.n .Add (.len .(3)) (1:)]))) .(4)] .nil]
def QY:IB:=#[.a 3 3 (.own (.lst .nil)),.loop (.nm 4 4) (.list .(1)) jao,.ret (.move 3 3)]
def jbs:IE:=.tup #[.ix (.ix (.x 1 0) (.x 0 1)) (0:),.b false,.ix (.ix (.x 1 0) (.x 0 1)) (2:)]
def QX:IB:=#[.ret (.own (.comp 1 1 [0] ["_law_at","_law_rows"] (.nm 0 1) (.range (.len .(0))) .yes jbs))]
def jce:IE:=.call (.call "has_cell" 2 #[.x 1 0,.x 0 2])
def ja1:IE:=.tup #[.x 1 3,.or (.x 2 4) (.p .In (.x 0 2) (.x 4 1)),.x 3 5]
def j7:IB:=#[.f (.not (.all (.new (.comp 2 1 [0] ["at","bolt"] (.nm 0 2) (.tup .(1)) .yes jce)))) #[.raise "NoCell"] .nil,.f (.p .NotEq (.lset .(1)) (.len .(1))) #[.raise "Twice"] .nil,.ret (.own (.comp 2 4 [1] ["at","stain","waxed","wish","cells"] (.tp #[.nm 0 2,.tp #[.nm 1 3,.nm 2 4,.nm 3 5]]) (.enum .(0)) .yes ja1))]
def j6:IB:=#[.ret (.dat (.h .LtE .Lt (0:) .(1) (.len .(0))))]
def jby:IE:=.call (.call "_law_whole" 1 #[.x 0 2])
def ZZ:IB:=#[.ret (.dat (.and (.i "tuple" .(0)) (.and (.p .Eq (.len .(0)) .(1)) (.all (.new (.comp 2 1 [] ["_law_one"] (.nm 0 2) (.tup .(0)) .yes jby))))))]
def jbu:IB:=#[.f (.or (.not (.i "tuple" .(2))) (.or (.p .NotEq (.len .(2)) (3:)) (.not (.i "bool" (.ix .(2) (1:)))))) #[.ret (.dat (.b false))] .nil,.f (.or (.not (.call (.call "_law_shades" 2 #[.ix .(2) (0:),.(1)]))) (.not (.call (.call "_law_shades" 2 #[.ix .(2) (2:),.(1)])))) #[.ret (.dat (.b false))] .nil]
def jq:IB:=#[.f (.not (.i "list" .(0))) #[.ret (.dat (.b false))] .nil,.loop (.nm 2 2) (.list .(0)) jbu,.ret (.dat (.b true))]
def Ql:IB:=#[.ret (.dat (.and (.call (.call "_law_cells_kind" 2 #[.(0),.(2)])) (.p .Eq .(0) .(1))))]
def jbf:IE:=.tup #[.ix (.ix (.x 1 0) (.x 0 2)) (0:),.or (.ix (.ix (.x 1 0) (.x 0 2)) (1:)) (.p .In (.x 0 2) (.x 2 1)),.ix (.ix (.x 1 0) (.x 0 2)) (2:)]
def JM:IB:=#[.ret (.own (.comp 2 1 [0,1] ["_law_at","_law_rows","_law_cells"] (.nm 0 2) (.range (.len .(0))) .yes jbf))]
def jaz:IE:=.and (.not (.x 1 3)) (.p .GtE (.ix (.x 0 2) (.x 3 1)) (.j "DEEPEST" (9)))
def ja0:IE:=.tup #[.f (.x 1 3) (.x 0 2) (.call (.call "deepened" 2 #[.x 0 2,.x 3 1])),.x 1 3,.x 2 4]
def ZN:IB:=#[.f (.any (.new (.comp 2 3 [1] ["stain","waxed","wish","dye"] (.tp #[.nm 0 2,.nm 1 3,.nm 2 4]) (.list .(0)) .yes jaz))) #[.raise "TooDeep"] .nil,.ret (.own (.comp 2 3 [1] ["stain","waxed","wish","dye"] (.tp #[.nm 0 2,.nm 1 3,.nm 2 4]) (.list .(0)) .yes ja0))]
def Je:IB:=#[.ret (.dat (.n .Add (.n .Add (.cutT .(0) .non (.one .(1))) (.tup #[.n .Add (.ix .(0) .(1)) (1:)])) (.cutT .(0) (.one (.n .Add .(1) (1:))) .non)))]
def jap:IE:=.n .Add (.ix (.x 1 3) (.x 0 6)) (.int (.p .Eq (.x 0 6) (.x 2 1)))
def ja4:IB:=#[.f (.not .(4)) #[.a 3 3 (.dat (.tuple (.new (.comp 6 1 [3,1] ["_law_k","_law_stain","_law_dye"] (.nm 0 6) (.range (.len .(3))) .yes jap))))] .nil,.app 2 2 (.tup #[.(3),.(4),.(5)])]
def ZH:IB:=#[.a 2 2 (.own (.lst .nil)),.loop (.tp #[.nm 3 3,.nm 4 4,.nm 5 5]) (.list .(0)) ja4,.ret (.move 2 2)]
def ja5:IE:=.and (.not (.ix (.x 0 2) (1:))) (.p .Eq (.ix (.ix (.x 0 2) (0:)) .(1)) (9:))
def ZW:IB:=#[.ret (.dat (.any (.new (.comp 2 1 [1] ["_law_cell_here","_law_dye"] (.nm 0 2) (.list .(0)) .yes ja5))))]
def jP:IB:=#[.f (.not (.call (.call "has_cell" 2 #[.(0),.(1)]))) #[.raise "NoCell"] .nil,.t (.tp #[.nm 3 3,.nm 4 4,.nm 5 5]) (.ix .(0) .(1)),.f (.not (.call (.call "is_picture" 2 #[.(2),.len .(3)]))) #[.raise "BadWish"] .nil,.ret (.own (.cat (.new (.cat (.new (.cut .(0) .non (.one .(1)))) (.new (.lst #[.tup #[.(3),.(4),.(2)]])))) (.new (.cut .(0) (.one (.n .Add .(1) (1:))) .non))))]
def jbp:IE:=.h .LtE .LtE (0:) (.x 0 2) (.j "DEEPEST" (9))
def jZ:IB:=#[.ret (.dat (.and (.p .Eq (.len .(0)) .(1)) (.all (.new (.comp 2 1 [] ["shade"] (.nm 0 2) (.tup .(0)) .yes jbp)))))]
def jcb:IE:=.tup #[.x 0 1,.b false,.x 2 3]
def WX:IB:=#[.ret (.own (.comp 1 3 [] ["stain","waxed","wish"] (.tp #[.nm 0 1,.nm 1 2,.nm 2 3]) (.list .(0)) .yes jcb))]
def Zm:IB:=#[.ret (.dat (.q "abcdefghijklmnopqrstuvwxyz"))]
def jbb:IE:=.six (.call (.call "_law_letters" 0 .nil)) (.call (.call "_law_take" 2 (.io 1 0 #[(26:)])))
def Qq:IB:=#[.a 1 1 (.dat (.n .Add (1:) (.call (.call "_law_take" 2 (.io 0 0 #[(8:)]))))),.ret (.dat (.join "" (.new (.comp 2 1 [0] ["_law_k","_law_box_here"] (.nm 0 2) (.range .(1)) .yes jbb))))]
def Qx:IE:=.sin (.x 0 1) (.gstr "LETTERS" "abcdefghijklmnopqrstuvwxyz")
def J4:IB:=#[.ret (.dat (.and (.h .LtE .LtE (1:) (.slen .(0)) (.j "MOST_LETTERS" (8))) (.all (.new (.comp 1 1 [] ["sign"] (.nm 0 1) (.chars .(0)) .yes Qx)))))]
def J5:IB:=#[.bad]
def jav:IE:=.tup #[.x 1 2,.b false,.x 1 2]
def jb8:IB:=#[.a 2 2 (.dat (.n .Mult (.tup #[(0:)]) .(0))),.ret (.own (.comp 3 1 [2] ["at","clear"] (.nm 0 3) (.range .(1)) .yes jav))]
def Vt:IB:=#[.bad,.bad,.bad,.bad]
def zcj:IB:=#[.bad,.bad,.bad]
def zci:IB:=#[.bad,.bad]
def ZM:IB:=#[.fset 0 0 "Stand" "fresh" (.dat .(1)),.fset 0 0 "Stand" "cloths" (.dat .(2))]
def Qy:IB:=#[.ret (.dat (.call (.make "Stand" "Stand.__init__" 3 #[.new (.mul (.new (.lst #[.b true])) .(0)),.newD .nil])))]
def Zz:IB:=#[.t (.tp #[.nm 2 2,.nm 3 3]) .(1),.e (.call (.call "check_new" 2 #[.(0),.(2)])),.f (.not (.h .LtE .LtE (0:) .(3) (.j "MOST_CELLS" (40)))) #[.raise "BadSize"] .nil,.ret (.call "with_cloths" 2 #[.(0),.newD (.one .(2) (.call (.call "bare" 2 #[.len (.t "Stand" "fresh" .(0)),.(3)])))])]
def qp:IB:=.cons (.star 2 2 3 3 .(1)) (.disp 4 4 "DEEDS" [("hang","behind_hang"),("fold","behind_fold"),("twin","behind_twin"),("wish","behind_wish"),("wax","behind_wax"),("dip","behind_dip"),("boil","behind_boil"),("brew","behind_brew")] 2 .(2) #[.(0),.(3)])
def ZD:IB:=#[.a 2 2 (.ownD (.copy (.t "Stand" "cloths" .(0)))),.dupd 2 2 .(1),.ret (.dat (.call (.make "Stand" "Stand.__init__" 3 #[.t "Stand" "fresh" .(0),.frz 2 2])))]
def Qw:IB:=#[.f (.not (.call (.call "is_name" 1 #[.(1)]))) #[.raise "NoName"] .nil,.f (.d .(1) (.t "Stand" "cloths" .(0))) #[.raise "Taken"] .nil]
def jK:IB:=#[.f (.dnin .(1) (.t "Stand" "cloths" .(0))) #[.raise "NoCloth"] .nil]
def jv:IB:=#[.fset 0 0 "House" "pots" (.dat .(1)),.fset 0 0 "House" "first" (.call "new_stand" 1 #[.(1)]),.fset 0 0 "House" "done" (.own (.lst .nil)),.fset 0 0 "House" "undone" (.own (.lst .nil)),.fset 0 0 "House" "places" (.ownD .nil)]
def yv:IC:=.one (.p .LtE (.x 1 5) (.x 2 3))
def yw:IE:=.x 0 4
def yx:IE:=.x 1 5
def Qb:IB:=#[.a 2 2 (.dat (.call (.call "behind" 2 #[.call (.m 0 0 "House" "now" "House.now" 1 .nil),.(1)]))),.a 3 3 (.dat (.flen 0 0 "House" "done")),.fset 0 0 "House" "places" (.ownD (.comp 4 2 [3] ["word","place","many"] (.tp #[.nm 0 4,.nm 1 5]) (.items (.ffrz 0 0 "House" "places")) yv yw yx)),.fapp 0 0 "House" "done" (.p (.v 1 1) (.v 2 2)),.fset 0 0 "House" "undone" (.own (.lst .nil))]
def Zt:IB:=#[.ret (.own (.sortD (.t "Stand" "cloths" (.call (.m 0 0 "House" "now" "House.now" 1 .nil)))))]
def jbi:IC:=.one (.x 1 2)
def jbj:IE:=.x 0 1
def Zu:IB:=#[.ret (.own (.comp 1 2 [] ["dye","is_fresh"] (.tp #[.nm 0 1,.nm 1 2]) (.enum (.t "Stand" "fresh" (.call (.m 0 0 "House" "now" "House.now" 1 .nil)))) jbi jbj))]
def jb4:IE:=.x 0 2
def j4:IB:=#[.ret (.own (.comp 2 3 [] ["stain","waxed","wish"] (.tp #[.nm 0 2,.nm 1 3,.nm 2 4]) (.list (.call (.m 0 0 "House" "cloth" "House.cloth" 2 #[.(1)]))) .yes jb4))]
def jb7:IE:=.x 2 4
def j5:IB:=#[.ret (.own (.comp 2 3 [] ["stain","waxed","wish"] (.tp #[.nm 0 2,.nm 1 3,.nm 2 4]) (.list (.call (.m 0 0 "House" "cloth" "House.cloth" 2 #[.(1)]))) .yes jb7))]
def jb5:IC:=.one (.x 2 4)
def jb6:IE:=.x 0 2
def Zv:IB:=#[.ret (.own (.comp 2 4 [] ["at","stain","waxed","wish"] (.tp #[.nm 0 2,.tp #[.nm 1 3,.nm 2 4,.nm 3 5]]) (.enum (.call (.m 0 0 "House" "cloth" "House.cloth" 2 #[.(1)]))) jb5 jb6))]
def Zf:IB:=#[.f (.not (.ftru 0 0 "House" "done")) #[.ret (.dat (.fdat 0 0 "House" "first"))] .nil,.ret (.dat (.ix (.flast 0 0 "House" "done") (1:)))]
def jJ:IB:=#[.a 2 2 (.dat (.call (.m 0 0 "House" "now" "House.now" 1 .nil))),.e (.call (.call "check_hangs" 2 #[.(2),.(1)])),.ret (.dat (.g (.t "Stand" "cloths" .(2)) .(1)))]
def jbx:IE:=.call (.call "_law_shades" 2 #[.x 0 2,.len (.x 0 2)])
def j1:IB:=#[.f (.or (.not (.i "list" .(0))) (.p .NotEq .(0) .(1))) #[.ret (.dat (.b false))] .nil,.ret (.dat (.all (.new (.comp 2 1 [] ["_law_one"] (.nm 0 2) (.list .(0)) .yes jbx))))]
def jag:IC:=.one (.p .NotEq (.x 0 3) (.x 1 2))
def jax:IE:=.x 0 3
def jay:IE:=.g (.t "Stand" "cloths" (.x 2 0)) (.x 0 3)
def Zy:IB:=#[.a 2 2 (.dat (.ix .(1) (0:))),.e (.call (.call "check_hangs" 2 #[.(0),.(2)])),.ret (.dat (.call (.make "Stand" "Stand.__init__" 3 #[.t "Stand" "fresh" .(0),.newD (.comp 3 1 [2,0] ["other","name","stand"] (.nm 0 3) (.keys (.t "Stand" "cloths" .(0))) jag jax jay)])))]
def ZA:IB:=#[.t (.tp #[.nm 2 2,.nm 3 3]) .(1),.e (.call (.call "check_hangs" 2 #[.(0),.(2)])),.e (.call (.call "check_new" 2 #[.(0),.(3)])),.ret (.call "with_cloths" 2 #[.(0),.newD (.one .(3) (.g (.t "Stand" "cloths" .(0)) .(2)))])]
def ZB:IB:=#[.t (.tp #[.nm 2 2,.nm 3 3,.nm 4 4]) .(1),.e (.call (.call "check_hangs" 2 #[.(0),.(2)])),.ret (.call "with_cloths" 2 #[.(0),.newD (.one .(2) (.call (.call "with_wish" 3 #[.g (.t "Stand" "cloths" .(0)) .(2),.(3),.(4)])))])]
def Qd:IB:=#[.t (.tp #[.nm 2 2,.nm 3 3]) .(1),.e (.call (.call "check_hangs" 2 #[.(0),.(2)])),.ret (.call "with_cloths" 2 #[.(0),.newD (.one .(2) (.call (.call "with_wax" 2 #[.g (.t "Stand" "cloths" .(0)) .(2),.(3)])))])]
def jbn:IE:=.x 0 5
def jbo:IE:=.call (.call "dipped" 2 #[.g (.t "Stand" "cloths" (.x 1 0)) (.x 0 5),.x 2 3])
def Qc:IB:=#[.t (.tp #[.nm 2 2,.nm 3 3]) .(1),.e (.call (.call "check_dye" 2 #[.(0),.(3)])),.f (.not (.ix (.t "Stand" "fresh" .(0)) .(3))) #[.raise "Spent"] .nil,.e (.call (.call "check_names" 2 #[.(0),.(2)])),.a 4 4 (.dat (.newD (.comp 5 1 [0,3] ["name","stand","dye"] (.nm 0 5) (.std (.tup .(2))) .yes jbn jbo))),.ret (.call "with_pot" 3 #[.call (.call "with_cloths" 2 #[.(0),.(4)]),.(3),.b false])]
def jbl:IE:=.x 0 3
def jbm:IE:=.call (.call "boiled" 1 #[.g (.t "Stand" "cloths" (.x 1 0)) (.x 0 3)])
def Zw:IB:=#[.a 2 2 (.dat (.ix .(1) (0:))),.e (.call (.call "check_names" 2 #[.(0),.(2)])),.ret (.call "with_cloths" 2 #[.(0),.newD (.comp 3 1 [0] ["name","stand"] (.nm 0 3) (.std (.tup .(2))) .yes jbl jbm)])]
def Zx:IB:=#[.a 2 2 (.dat (.ix .(1) (0:))),.e (.call (.call "check_dye" 2 #[.(0),.(2)])),.f (.ix (.t "Stand" "fresh" .(0)) .(2)) #[.raise "StillFresh"] .nil,.ret (.call "with_pot" 3 #[.(0),.(2),.b true])]
def Jf:IB:=#[.a 3 3 (.own (.list (.t "Stand" "fresh" .(0)))),.set 3 3 .(1) .(2),.ret (.dat (.call (.make "Stand" "Stand.__init__" 3 #[.frz 3 3,.t "Stand" "cloths" .(0)])))]
def jcd:IB:=#[.e (.call (.call "check_hangs" 2 #[.(0),.(2)]))]
def ZC:IB:=#[.loop (.nm 2 2) (.alt (.tup .(1)) (.list .(1))) jcd,.f (.p .NotEq (.lsetS .(1)) (.len .(1))) #[.raise "Twice"] .nil]
def Qv:IB:=#[.f (.not (.h .LtE .Lt (0:) .(1) (.len (.t "Stand" "fresh" .(0))))) #[.raise "NoDye"] .nil]
def vq:IE:=.and (.not (.ix (.x 0 2) (1:))) (.p .Eq (.ix (.ix (.x 0 2) (0:)) .(1)) (9:))
def yS:IB:=#[.ret (.dat (.any (.new (.comp 2 1 [1] ["_law_cell","_law_dye"] (.nm 0 2) (.list .(0)) .yes vq))))]
def ja7:IE:=.b true
def QZ:IB:=#[.ret (.own (.lst #[.(0),.new (.comp 1 1 [] ["_law_dye"] (.nm 0 1) (.range .(0)) .yes ja7),.newD .nil]))]
def ja2:IE:=(0:)
def ja3:IE:=.tup #[.x 1 2,.b false,.x 1 2]
def Qn:IB:=#[.a 2 2 (.dat (.tuple (.new (.comp 3 1 [] ["_law_dye"] (.nm 0 3) (.range .(0)) .yes ja2)))),.ret (.own (.comp 3 1 [2] ["_law_at","_law_empty"] (.nm 0 3) (.range .(1)) .yes ja3))]
def qu:IB:=#[.u 3 3 .(5) (.call (.call "_law_dip" 2 #[.g .(3) .(5),.ix .(1) (2:)]))]
def qv:IB:=#[.u 3 3 .(5) (.call (.call "_law_boil" 1 #[.g .(3) .(5)]))]
def qQ:IB:=#[.a 2 2 (.own (.list (.ix .(0) (1:)))),.a 3 3 (.ownD (.copy (.ix .(0) (2:)))),.f (.p .Eq (.ix .(1) (0:)) (.q "hang")) #[.u 3 3 (.ix .(1) (1:)) (.call (.call "_law_blank" 2 #[.ix .(0) (0:),.ix .(1) (2:)]))] #[.f (.p .Eq (.ix .(1) (0:)) (.q "fold")) #[.dpop 3 3 (.ix .(1) (1:))] #[.f (.p .Eq (.ix .(1) (0:)) (.q "twin")) #[.u 3 3 (.ix .(1) (2:)) (.g .(3) (.ix .(1) (1:)))] #[.f (.p .Eq (.ix .(1) (0:)) (.q "wish")) #[.a 4 4 (.own (.list (.g .(3) (.ix .(1) (1:))))),.set 4 4 (.ix .(1) (2:)) (.tup #[.ix (.ix .(4) (.ix .(1) (2:))) (0:),.ix (.ix .(4) (.ix .(1) (2:))) (1:),.ix .(1) (3:)]),.u 3 3 (.ix .(1) (1:)) (.frz 4 4)] #[.f (.p .Eq (.ix .(1) (0:)) (.q "wax")) #[.u 3 3 (.ix .(1) (1:)) (.call (.call "_law_wax" 2 #[.g .(3) (.ix .(1) (1:)),.ix .(1) (2:)]))] #[.f (.p .Eq (.ix .(1) (0:)) (.q "dip")) #[.set 2 2 (.ix .(1) (2:)) (.b false),.loop (.nm 5 5) (.tup (.ix .(1) (1:))) qu] #[.f (.p .Eq (.ix .(1) (0:)) (.q "boil")) #[.loop (.nm 5 5) (.tup (.ix .(1) (1:))) qv] #[.set 2 2 (.ix .(1) (1:)) (.b true)]]]]]]],.ret (.own (.lst #[.ix .(0) (0:),.frz 2 2,.frz 3 3]))]
def jbc:IC:=.one (.ix (.ix .(1) (1:)) (.x 0 8))
def jbd:IE:=.x 0 8
def jbz:IE:=.ix (.x 0 8) (0:)
def jb0:IE:=.ix (.x 0 8) (2:)
def jb1:IC:=.one (.ix (.ix (.x 1 6) (.x 0 8)) (1:))
def jb2:IE:=.x 0 8
def jbe:IB:=#[.a 6 6 (.dat (.g (.ix .(1) (2:)) .(5))),.f (.not (.call (.call "_law_pictures" 2 #[.call (.m 0 0 "House" "stains" "House.stains" 2 #[.(5)]),.new (.comp 8 1 [] ["_law_cell"] (.nm 0 8) (.list .(6)) .yes jbz)]))) #[.ret (.dat (.b false))] .nil,.f (.not (.call (.call "_law_pictures" 2 #[.call (.m 0 0 "House" "wishes" "House.wishes" 2 #[.(5)]),.new (.comp 8 1 [] ["_law_cell"] (.nm 0 8) (.list .(6)) .yes jb0)]))) #[.ret (.dat (.b false))] .nil,.a 7 7 (.dat (.call (.m 0 0 "House" "waxed" "House.waxed" 2 #[.(5)]))),.f (.or (.not (.call (.call "_law_wholes" 1 #[.(7)]))) (.p .NotEq .(7) (.new (.comp 8 1 [6] ["_law_at","_law_rows"] (.nm 0 8) (.range (.len .(6))) jb1 jb2)))) #[.ret (.dat (.b false))] .nil]
def Zn:IB:=#[.a 2 2 (.dat (.call (.m 0 0 "House" "ready" "House.ready" 1 .nil))),.a 3 3 (.dat (.call (.m 0 0 "House" "names" "House.names" 1 .nil))),.a 4 4 (.dat (.new (.comp 8 1 [1] ["_law_dye","_law_kept_here"] (.nm 0 8) (.range (.ix .(1) (0:))) jbc jbd))),.f (.or (.not (.call (.call "_law_wholes" 1 #[.(2)]))) (.or (.p .NotEq .(2) .(4)) (.or (.not (.i "list" .(3))) (.p .NotEq .(3) (.new (.sortD (.ix .(1) (2:)))))))) #[.ret (.dat (.b false))] .nil,.loop (.nm 5 5) (.list .(3)) jbe,.ret (.dat (.b true))]
def jcc:IB:=#[.aug 2 2 (.g (.t "Stand" "cloths" .(0)) .(3))]
def J3:IB:=#[.e (.call (.call "check_names" 2 #[.(0),.(1)])),.a 2 2 (.own (.lst .nil)),.loop (.nm 3 3) (.list .(1)) jcc,.ret (.move 2 2)]
def Qa:IB:=#[.ret (.call "bolt_of" 2 #[.call (.m 0 0 "House" "now" "House.now" 1 .nil),.(1)])]
def jak:IB:=#[.a 3 3 (.dat (.call (.call "_law_named" 1 (.io 0 0 .nil)))),.f (.p .NotIn .(3) .(1)) #[.app 1 1 .(3)] .nil]
def Q1:IB:=#[.a 1 1 (.own (.lst .nil)),.loop (.nm 2 2) (.range (.n .Add (2:) (.call (.call "_law_take" 2 (.io 0 0 #[(3:)]))))) jak,.ret (.move 1 1)]
def ZY:IB:=#[.f (.p .Eq (.call (.call "_law_take" 2 (.io 0 0 #[(8:)]))) (0:)) #[.ret (.call "_law_take" 2 (.io 0 0 #[(13:)]))] .nil,.ret (.call "_law_take" 2 (.io 0 0 #[(6:)]))]
end
def runI(n:Nat)(mask:List Bool)(io:Ac)(body:IB)(cf:CF)(args:List OV):RF:=if args.length=mask.length then fin mask (body.ex cf io (args.map some++List.replicate (n-mask.length) none)) else .bad
end Wx
local macro_rules
  | `(tactic| simp! [$xs,*])=>do
    let ys←("fin outs sSeq sNext sAsg sIf sRet sSet sApp sFor sAsgT sExpr fVar fFrz fC fBin fCmp fB fTru fNotT fAndT fOrT fAndV fOrV fIf fIx f1 f2 fChain fTup fLst fCons fNil fNew fOwn fOD fD fMove fCall fCallW aNil aCons aIo toArg toArgs ios putBack derf derS derSs derL leaves derfs itemF binD cmpD truD R.bind R.get isOwn fSeqL fSeqT fRange fEnum fYes fComp fListC fTupC gLen lenD gInt gAll gAny gMin gMax gNeg fIsi isiB tgF tgFs".splitOn " ").toArray.mapM fun s=>`(Lean.Parser.Tactic.simpLemma| $(Lean.mkIdent ("L3."++s).toName):ident)
    `(tactic| simp [Wx.runI,L2.tyD,L2.noL,$ys,*,$xs,*])
namespace Wx
open PySem L2 L3
def Nz{α:Type}(a b:α):Prop:=a=b
def nz{α:Type}{a b:α}(h:a=b):Nz a b:=h
section
variable {α:Type}{a b:α}{l m:List α}{n:Nat}
def l1:(a::l).set 0 b=b::l:=rfl
def l2:(a::l).set (n+1) b=a::l.set n b:=rfl
def l3:(a::l).take (n+1)=a::l.take n:=rfl
def l5:(a::l).length=l.length+1:=rfl
def l6:([]:List α).length=0:=rfl
def l7:l.take 0= []:=rfl
def l8{β:Type}{f:α->β}:(a::l).map f=f a::l.map f:=rfl
def l9{β:Type}{f:α->β}:([]:List α).map f= []:=rfl
def la:(a::l)++m=a::(l++m):=rfl
def lb:([]:List α)++m=m:=rfl
def lc:List.replicate (n+1) a=a::List.replicate n a:=rfl
def ld:List.replicate 0 a= []:=rfl
def lf{n:Nat}:(n:Int).toNat=n:=rfl
def le{x:PyData}:(OV.d x).view=x:=rfl
def lg{d:Ad}:(OV.m d).view=.dict (d.map dK):=rfl
def lh{d:Aa}:(OV.l (d.map .d)).view=.list d:=by rw[OV.view,OV.views_d]
end
def gB{α β:Type}{r:R α}{f:α->R β}{a:α}{y:R β}(h:r=.ok a)(k:f a=y):r.bind f=y:=by rw[h];exact k
def gG{α β:Type}{o:Option α}{f:α->R β}{a:α}{y:R β}(h:o=some a)(k:f a=y):R.get o f=y:=by rw[h];exact k
def kSq(g:SM)(U1:Gv)(fl:FL):R (FL×Gv):=match fl with | .next=>g U1 | fl=>.ok (fl,U1)
section
variable {f g:SM}{U U1 U2 U3:Gv}{x:FL×Gv}{fl:FL}{y:R (FL×Gv)}{o:OV}
def kN(h:g U=y):kSq g U .next=y:=h
def kR:kSq g U (.ret o)=.ok (.ret o,U):=rfl
def gSeq(h:f U=.ok x)(hn:Nz x (fl,U1))(k:kSq g U1 fl=y):sSeq f g U=y:=by
 cases hn;unfold sSeq;rw[h];cases fl<;>exact k
def gOD{f:EM OV}{x:PyData}(h:f U=.ok (o,U1))(hn:Nz o.view x):fOD f U=.ok (.dat x,U1):=by
 cases hn;unfold fOD;rw[h];rfl
def zle{run:List OV->RF}{fa:EM (List AV)}{as:List AV}{args ar:List OV}{r:OV}{os:List (Option OV)}(h:fa U=.ok (as,U1))(h1:toArgs U1 as=some args)(ha:Nz args ar)(h2:decide ((ios as).Nodup)=true)(h3:run ar=.ok r os)(h4:putBack as os U1=some U2)(hn:Nz (U2.take U.length) U3):fCall run fa U=.ok (r,U3):=by
 cases hn;cases ha;unfold fCall;rw[h];dsimp only [R.bind];rw[h1];dsimp only;rw[if_pos (Xf h2),h3];dsimp only;rw[h4]
def gRun{n:Nat}{mask:List Bool}{io:Ac}{body:IB}{cf:CF}{args:List OV}{r:OV}{os:List (Option OV)}(h0:decide (args.length=mask.length)=true)(hn:Nz (args.map some++List.replicate (n-mask.length) none) U)(h:body.ex cf io U=.ok x)(h1:fin mask (.ok x)=.ok r os):runI n mask io body cf args=.ok r os:=by
 cases hn;unfold runI;rw[if_pos (Xf h0),h];exact h1
end
section
end
section
variable {α:Type}{a b y:R α}
def gT{c:Bool}(h:c=true)(k:a=y):(if c then a else b)=y:=by rw[h];exact k
def gF{c:Bool}(h:c=false)(k:b=y):(if c then a else b)=y:=by rw[h];exact k
def gP{c:Prop}[Decidable c](h:c)(k:a=y):(if c then a else b)=y:=by rw[if_pos h];exact k
end
end Wx
open PySem L2 L3 Wx in
local macro_rules
  | `(tactic| push_cast [$xs,*])=>do
    let ys:=xs.getElems.map λx=>(⟨x.raw[2]⟩:Lean.Term)
    let b:=ys[0]!
    let zs:=ys.extract 1 ys.size
    let cl<-`(tactic| first | (with_reducible rfl) | (with_reducible assumption) | exact of_decide_eq_true rfl | (simp[$[$zs:term],*]<;>omega) | exact decide_eq_true (by omega) | exact decide_eq_false (by omega) | exact rfl | omega)
    `(tactic| (try apply gRun)<;>(try dsimp only [$b:term,vT_1,vT_2,zdS,zdF,zbf,zbg,kY,k5,zbo,zbp,zdR,zdN,zdC,zdD,kZ,zdO,zdM,zdA,zgE,zdI,zgD,zdJ,zdG,zdz,zdB,k8,zdH,zdL,zdK,zbh,zbe,kX,zbr,k7,zdP,zbt,zbq,zdQ,zbi,zdE,zbj,zbd,zbs,zbk,zbm,zbn,k6,zbl,zdV,zbx,zdu,za9,zgC,zd0,zdZ,zdY,zbB,zbA,zd1,Kc,zd4,zd5,zbw,zdU,Kb,zbv,Ka,zdy,zdx,zd2,zd3,zbC,zbF,zbG,zbD,zbE,zdW,zdX,zbz,zby,zdT,k9,zbu,zd9,zd7,zbH,zbL,zeb,zbO,zec,zd6,zed,zea,Ke,zd8,zbP,zbN,zbM,zbK,zbJ,zbI,zdv,zdw,zbb,zbc,zba])<;>repeat' (first | ((with_reducible apply nz);(try dsimp only [l1,l2,l3,l5,l6,l7,l8,l9,la,lb,lc,ld,le,lf,lg,Nat.reduceAdd,Nat.reduceSub]);(try simp only[lh]);(try exact rfl);done) | (with_reducible rfl) | (with_reducible apply gSeq) | (with_reducible apply kN) | (with_reducible apply kR) | ((fail_if_success (with_reducible show (_:R (FL×Gv))=_));exact rfl) $[| (with_reducible apply $zs)]* | (with_reducible apply zle) | (with_reducible apply gOD) | (with_reducible apply gRg) | (with_reducible apply gB) | (with_reducible apply gG) | ((with_reducible apply gT);$cl) | ((with_reducible apply gF);$cl) | ((with_reducible apply gP);$cl) | ((with_reducible apply gN);$cl) | (with_reducible apply gIo) | ((with_reducible show (-1000000<=_/\_));$cl) | (with_reducible apply mL) | (with_reducible apply mT) | (with_reducible apply mK) | exact rfl | (apply mO;exact rfl) | (apply mD;exact rfl) | ((with_reducible show ((_:Option _)=some _));(conv=>lhs;simp[$[$zs:term],*,cmpD,gDin,gDnin,gLen,lenD,gAll,gAny,gInt,truD,leaves]);(try exact rfl);done)))
namespace Wx
open PySem L2 L3
def VQ (cf:CF):Prop:=∀ a b:Int,∃ r,cf "_law_mixed" [.d (.int a),.d (.int b)]=.ok (.d (.int r)) [none,none]
def zeT(cf:CF):VQ λ_=>runI 4 [false,false] [] Qp cf:=λa b=>by
 simp![Qp,OV.view,OV.views,q8,ixN,atI]
 rw[if_pos]
 ·simp[outs]
 ·lia
def zU(b:OV):Prop:=∃ cells i l t s,0<=i/\b=QN cells i l t s
def ziX(b:OV)(n:Int)(x:RF):Prop:=∃(r:Int)(b':OV),0<=r/\r<n/\zU b'/\x=.ok (.d (.int r)) [some b',none]
def qK (cf:CF):Prop:=∀ b,zU b->∀ n:Int,1<=n->n<1073741824->ziX b n (cf "_law_take" [b,.d (.int n)])
def zik(cf:CF)(hm:VQ cf):qK λ_=>runI 4 [true,false] [0] js cf:=λb hb n h1 h2=>by
 let(cells,i,l,t,s,hi,rfl):=hb
 let h0:0<n:=by lia
 let hp:((10:Int) ^ 18)=1000000000000000000:=by decide
 by_cases hl:0<l
 ·refine#[l % n,QN cells i (l / n) (t+1) s,uP _ (by lia),uG _ h0,#[_,_,_,_,_,hi,rfl],?_]
  simp![js,QN,hl,h0,h2,OV.view,OV.views,q8,ixN,atI]
 ·by_cases hc:(cells.length:Int)<=i
  ·let(r,er):=hm s (t+1)
   refine#[r % n,QN cells i l (t+1) s,uP _ (by lia),uG _ h0,#[_,_,_,_,_,hi,rfl],?_]
   simp![js,QN,hl,hc,h0,h2,er,OV.view,OV.views,q8,ixN,atI]
  ·let Ep:i.toNat<cells.length:=by lia
   let hlt:i<(cells.length:Int):=by lia
   let hg:=xb Ep
   by_cases hs:cells[i.toNat]<1000000000000000000
   ·let(r,er):=hm cells[i.toNat] (t+1)
    refine#[r % n,QN cells (i+1) l (t+1) s,uP _ (by lia),uG _ h0,#[_,_,_,_,_,by lia,rfl],?_]
    simp![js,QN,hl,hc,h0,h2,hi,hlt,hg,hs,hp,er,OV.view,OV.views,q8,ixN,atI]
   ·refine#[cells[i.toNat] % n,QN cells (i+1) (cells[i.toNat] / n) (t+1) s,uP _ (by lia),uG _ h0,#[_,_,_,_,_,by lia,rfl],?_]
    simp![js,QN,hl,hc,h0,h2,hi,hlt,hg,hs,hp,OV.view,OV.views,q8,ixN,atI]
def zY{t:IT}{body:SM}(I:Aa->Gv->Prop){ds:Aa}(h0:I [] U)
  (hs:∀ pre d post,ds=pre++d::post->∀ U,I pre U->∃ U1 U2,tgF t d U=some U1/\body U1=.ok (.next,U2)/\I (pre++ [d]) U2):∃ U',jp t body ds U=.ok (.next,U')/\I ds U':=by
 suffices H:∀ post pre U,ds=pre++post->I pre U->∃ U',jp t body post U=.ok (.next,U')/\I ds U' from H ds [] U rfl h0
 intro post
 induction post with
 |nil=>intro pre U e h;rw[xX]at e;subst e;exact#[U,rfl,h]
 |cons d post ih=>
  intro pre U e h
  let(U1,U2,e1,e2,h2):=hs pre d post e U h
  let(U',e3,h3):=ih (pre++ [d]) U2 (by rw[e];simp) h2
  exact#[U',by rw[jp,e1];simp only[e2];exact e3,h3]
def qL{k:Nat}{t:IT}{cond:EM Bool}{elt:EM FV}(I:Aa->Aa->Gv->Prop){ds:Aa}(h0:I [] [] U)
  (hs:∀ pre d post,ds=pre++d::post->∀ ys U,I pre ys U->∃ U2 c U3,tgF t d (U++List.replicate k none)=some U2/\cond U2=.ok (c,U3)/\(c=true->∃ u U4 y,elt U3=.ok (u,U4)/\derS U4 u=some y/\I (pre++ [d]) (ys++ [y]) (U4.take U.length))/\(c=false->I (pre++ [d]) ys (U3.take U.length))) :
  ∃ ys U',qM k t cond elt ds [] U=.ok (ys,U')/\I ds ys U':=by
 suffices H:∀ post pre ys U,ds=pre++post->I pre ys U->∃ dr U',qM k t cond elt post ys U=.ok (dr,U')/\I ds dr U' from H ds [] [] U rfl h0
 intro post
 induction post with
 |nil=>intro pre ys U e h;rw[xX]at e;subst e;exact#[ys,U,rfl,h]
 |cons d post ih=>
  intro pre ys U e h
  let(U2,c,U3,e1,e2,ht,hf):=hs pre d post e ys U h
  cases c with
  |true=>
   let(u,U4,y,e3,e4,h5):=ht rfl
   let(dr,U',e6,h6):=ih (pre++ [d]) _ _ (by rw[e];simp) h5
   let hit:itL elt U3=.ok (y,U4):=by simp only[itL,e3,R.bind,R.get,e4]
   exact#[dr,U',by unfold qM;rw[loopG,e1];simp only[e2,hit];exact e6,h6]
  |false=>
   let(dr,U',e6,h6):=ih (pre++ [d]) _ _ (by rw[e];simp) (hf rfl)
   exact#[dr,U',by unfold qM;rw[loopG,e1];simp only[e2];exact e6,h6]
def qZ{k:Nat}{t:IT}{cond:EM Bool}{elt:EM FV}(p:PyData->Bool)(f:PyData->PyData){ds:Aa}{U:Gv}
  (hs:∀ d∈ds,∃ U2 U3,tgF t d (U++List.replicate k none)=some U2/\cond U2=.ok (p d,U3)/\U3.take U.length=U/\(p d=true->∃ u U4,elt U3=.ok (u,U4)/\derS U4 u=some (f d)/\U4.take U.length=U)) :
  qM k t cond elt ds [] U=.ok ((ds.filter p).map f,U):=by
 let(ys,U',e,hy,rfl):=qL (k:=k) (λpre ys U'=>ys=(pre.filter p).map f/\U'=U) (ds:=ds) (U:=U) #[rfl,rfl] (by
  rintro pre d post e ys U' ⟨rfl,rfl⟩
  let(U2,U3,e1,e2,e3,h):=hs d (by rw[e];simp)
  refine#[U2,p d,U3,e1,e2,λhp=>?_,λhp=>#[by simp[uH,hp],e3]]
  let(u,U4,e4,e5,e6):=h hp
  exact#[u,U4,_,e4,e5,by simp[uH,hp],e6])
 rw[e,hy]
def QL(e:ds=pre++d::post):pre.length<ds.length:=by rw[e];simp
def j8(e:zV n=pre++d::post):d=.int pre.length/\pre.length<n:=by
 let h:(zV n)[pre.length]?=some d:=by rw[e];simp
 exact#[(jf h).2,(jf h).1]
def Kq(cf:CF)(ht:qK cf)(hb:zU b){pots way:Int}{size n:Nat}(hs:size<=1000){o4 o5 o6 o7 o8 o9:Option OV} :
  ∃(ps:List (Int×Int))(b':OV),ps.length=n/\zU b'/\qM 1 (.nm 0 10) fYes (ja8.ev cf).1 (zV n) [] [some b,@&(.int pots),@&(.int size),@&(.int way),o4,o5,o6,o7,o8,o9]=.ok (ps.map λp=>.tuple [.int p.1,.int p.2],[some b',@&(.int pots),@&(.int size),@&(.int way),o4,o5,o6,o7,o8,o9]):=by
 let(ys,U',e,(ps,b',hp,hb',rfl,rfl)):=qL (k:=1) (t:=.nm 0 10) (cond:=fYes) (elt:=(ja8.ev cf).1) (U:= [some b,@&(.int pots),@&(.int size),@&(.int way),o4,o5,o6,o7,o8,o9])
  (λpre ys U=>∃(ps:List (Int×Int))(b':OV),ps.length=pre.length/\zU b'/\ys=ps.map (λp=>PyData.tuple [.int p.1,.int p.2])/\U= [some b',@&(.int pots),@&(.int size),@&(.int way),o4,o5,o6,o7,o8,o9]) #[[],b,rfl,hb,rfl,rfl] (by
   rintro pre d post e ys U ⟨ps,b1,hp,hb1,rfl,rfl⟩
   let(r2,b2,h2,mf,hb2,e2):=ht b1 hb1 (size+1) (by lia) (by lia)
   let(r3,b3,h3,Fw,bh,e3):=ht b2 hb2 (size+1) (by lia) (by lia)
   refine#[_,true,_,by simp[tgF];rfl,rfl,λ_=>?_,λz=>nomatch z]
   refine#[.dat (.tuple [.int r2,.int r3]),[some b3,@&(.int pots),@&(.int size),@&(.int way),o4,o5,o6,o7,o8,o9,@&d],_,?_,rfl,ps++ [(r2,r3)],b3,by simp[hp],bh,by simp,by simp]
   simp![ja8,e2,e3,OV.view,OV.views,q8,ixN,atI])
 rw[zC]at hp
 exact#[ps,b',hp,hb',e]
def zb3(cf:CF)(ht:qK cf)(hb:zU b){pots way:Int}{size:Nat}{at_:Nat}(ps:List (Int×Int))(fm:ps.length<=1000){o4 o5 o8 o9:Option OV} :
  ∃(bs:List Bool)(b':OV)(bc gv:Option OV),bs.length=ps.length/\zU b'/\jp (.tp (.cons (.nm 8 8) (.cons (.nm 9 9) .nil))) (jad.ex cf [0]) (ps.map λp=>PyData.tuple [.int p.1,.int p.2]) [some b,@&(.int pots),@&(.int size),@&(.int way),o4,o5,@&(.int at_),some (.l []),o8,o9]
   = .ok (.next,[some b',@&(.int pots),@&(.int size),@&(.int way),o4,o5,@&(.int at_),some (.l (bs.map λx=>.d (.bool x))),bc,gv]):=by
 let(U',e,(bs,b',bc,gv,hl,hb',rfl)):=zY (t:=.tp (.cons (.nm 8 8) (.cons (.nm 9 9) .nil))) (U:= [some b,@&(.int pots),@&(.int size),@&(.int way),o4,o5,@&(.int at_),some (.l []),o8,o9])
  (λpre U=>∃(bs:List Bool)(b':OV)(bc gv:Option OV),bs.length=pre.length/\zU b'/\U= [some b',@&(.int pots),@&(.int size),@&(.int way),o4,o5,@&(.int at_),some (.l (bs.map λx=>.d (.bool x))),bc,gv]) #[[],b,o8,o9,rfl,hb,rfl] (by
   rintro pre d post e U ⟨bs,b1,bc,gv,hl,hb1,rfl⟩
   let hlt:=QL e
   rw[xl]at hlt
   obtain⟨p,-,rfl⟩:∃ p∈ps,PyData.tuple [.int p.1,.int p.2]=d:=by
    have:d∈ps.map λp=>PyData.tuple [.int p.1,.int p.2]:=by rw[e];simp
    erw[xu.mp this]
   let hsz:bs.length<1000000:=by lia
   have key:∃(x:Bool)(b2:OV),zU b2/\jad.ex cf [0] [some b1,@&(.int pots),@&(.int size),@&(.int way),o4,o5,@&(.int at_),some (.l (bs.map λx=>.d (.bool x))),@&(.int p.1),@&(.int p.2)]
     = .ok (.next,[some b2,@&(.int pots),@&(.int size),@&(.int way),o4,o5,@&(.int at_),some (.l ((bs++ [x]).map λx=>.d (.bool x))),@&(.int p.1),@&(.int p.2)]):=by
    by_cases h0:way=0
    ·let(r2,b2,h2,mf,hb2,e2):=ht b1 hb1 2 (by decide) (by decide)
     refine#[r2==1,b2,hb2,?_]
     simp![jad,h0,e2,hsz,lay,PyData.eqv,OV.view,OV.views,q8,ixN,atI]
    ·by_cases h1:way=1
     ·refine#[decide ((if p.2<p.1 then p.2 else p.1)<=(at_:Int))&&decide ((at_:Int)<(if p.2>p.1 then p.2 else p.1)),b1,hb1,?_]
      by_cases h3:(if p.2<p.1 then p.2 else p.1)<=(at_:Int)
      ·simp![jad,h0,h1,h3,hsz,lay,PyData.eqv,OV.view,OV.views,q8,ixN,atI]
      ·simp![jad,h0,h1,h3,hsz,lay,PyData.eqv,OV.view,OV.views,q8,ixN,atI]
     ·by_cases h2:way=2
      ·refine#[decide ((at_:Int)<p.1),b1,hb1,?_]
       simp![jad,h0,h1,h2,hsz,lay,PyData.eqv,OV.view,OV.views,q8,ixN,atI]
      ·refine#[!(decide ((at_:Int)<p.1)==((at_:Int)==p.2)),b1,hb1,?_]
       simp![jad,h0,h1,h2,hsz,lay,PyData.eqv,OV.view,OV.views,q8,ixN,atI]
   let(x,b2,hb2,ek):=key
   exact#[_,_,by simp[tgF,tgFs],ek,bs++ [x],b2,_,_,by simp[hl],hb2,rfl])
 refine#[bs,b',bc,gv,by rw[hl,xl],hb',e]
def qH(bs:List Bool):PyData:=.list (bs.map .bool)
def YQ(bs:List Bool):OV.views (bs.map λx=>.d (.bool x))=bs.map .bool:=by
 rw[OV.views_map,xw];rfl
def zab(pots size:Nat)(x:RF):Prop:=∃(rows:List (List Bool))(b':OV),rows.length=size/\(∀ r∈rows,r.length=pots)/\zU b'/\x=.ok (.l (rows.map λr=>.d (qH r))) [some b',none,none]
def zeF(cf:CF)(ht:qK cf)(hb:zU b)(hp:pots<=1000)(hs:size<=1000):zab pots size (runI 10 [true,false,false] [0] Qo cf [b,.d (.int pots),.d (.int size)]):=by
 let(way,b1,h1,nh,hb1,e1):=ht b hb 4 (by decide) (by decide)
 let(ps,b2,hpl,hb2,e2):=Kq cf ht hb1 (pots:=pots) (way:=way) (size:=size) (n:=pots) hs (o4:=none) (o5:=none) (o6:=none) (o7:=none) (o8:=none) (o9:=none)
 let(U',e3,(rows,b3,o6,o7,o8,o9,hl,hr,bh,rfl)):=zY (t:=.nm 6 6) (body:=jbw.ex cf [0]) (ds:=zV size) (U:= [some b2,@&(.int pots),@&(.int size),@&(.int way),@&(.list (ps.map λp=>.tuple [.int p.1,.int p.2])),some (.l []),none,none,none,none])
  (λpre U=>∃(rows:List (List Bool))(b':OV)(o6 o7 o8 o9:Option OV),rows.length=pre.length/\(∀ r∈rows,r.length=pots)/\zU b'/\U= [some b',@&(.int pots),@&(.int size),@&(.int way),@&(.list (ps.map λp=>.tuple [.int p.1,.int p.2])),some (.l (rows.map λr=>.d (qH r))),o6,o7,o8,o9]) #[[],b2,_,_,_,_,rfl,(λ_ h=>nomatch h),hb2,rfl] (by
   rintro pre d post e U ⟨rows,b3,o6,o7,o8,o9,hl,hr,bh,rfl⟩
   let(rfl,hlt):=j8 e
   let(bs,b4,bc,gv,hbl,ib,e4):=zb3 cf ht bh (pots:=pots) (way:=way) (size:=size) (at_:=pre.length) ps (by lia) (o8:=o8) (o9:=o9)
   refine#[_,[some b4,@&(.int pots),@&(.int size),@&(.int way),@&(.list (ps.map λp=>.tuple [.int p.1,.int p.2])),some (.l ((rows++ [bs]).map λr=>.d (qH r))),@&(.int pre.length),@&(qH bs),bc,gv],by simp[tgF];rfl,?_,rows++ [bs],b4,_,_,_,_,by simp[hl],?_,ib,rfl]
   ·let hz:rows.length<1000000:=by lia
    simp![jbw,OV.view,OV.views,q8,ixN,atI]
    rw[e4]
    simp![hz,YQ,qH,OV.view,OV.views,q8,ixN,atI]
   grind)
 rw[zC]at hl
 refine#[rows,b3,hl,hr,bh,?_]
 let Ea: -1000000<=(pots:Int)/\(pots:Int)<=1000000:=by lia
 let g6: -1000000<=(size:Int)/\(size:Int)<=1000000:=by lia
 let AX:pots<=1000000:=by lia
 simp![Qo,e1,e2,e3,Ea,g6,AX,zC,OV.view,OV.views,q8,ixN,atI]
def zB(xs:List Int):PyData:=.tuple (xs.map .int)
def ji(st:List Int)(w:Bool)(wi:List Int):PyData:=.tuple [zB st,.bool w,zB wi]
def In9(xs:List Int):Prop:=∀ x∈xs,0<=x/\x<=9
structure Zk(pots:Nat)(st wi:List Int):Prop where
 sl:st.length=pots
 wl:wi.length=pots
 sn:In9 st
 wn:In9 wi
def In9.snoc(h:In9 xs)(h1:0<=x)(h2:x<=9):In9 (xs++ [x]):=by
 intro y hy
 rcases xM.mp hy with hy | hy
 ·erw[h y hy]
 ·have:y=x:= ~~~hy
  subst this;exact#[h1,h2]
def VP (cf:CF):Prop:=∀ b,zU b->∀ (pots size:Nat),pots<=1000->size<=1000->zab pots size (cf "_law_lacks" [b,.d (.int pots),.d (.int size)])
structure Cl where
 st:List Int
 w:Bool
 wi:List Int
def Cl.D(c:Cl):PyData:=ji c.st c.w c.wi
def zJ(n:Nat)(i:Int):lay n (.int i)=true:=by cases n<;>rfl
def zeI(n:Nat)(i:Bool):lay n (.bool i)=true:=by cases n<;>rfl
def ZK(h:∀ x∈xs,lay n x=true):lay (n+1) (.list xs)=true:=by rw[lay];exact xG.mpr h
def Jv(h:∀ x∈xs,lay n x=true):lay (n+1) (.tuple xs)=true:=by rw[lay];exact xG.mpr h
def zeJ(n:Nat)(c:Cl):lay (n+2) c.D=true:=Jv λx h=>by
 have:x=zB c.st∨x=.bool c.w∨x=zB c.wi:= ~~~h
 rcases this with rfl | rfl | rfl
 ·exact Jv λx h=>by let(i,_,rfl):=xu.mp h;exact zJ _ _
 ·erw[zeI _ _]
 ·exact Jv λx h=>by let(i,_,rfl):=xu.mp h;exact zJ _ _
def Yn(n:Nat)(cs:List Cl):lay (n+3) (.list (cs.map Cl.D))=true:=ZK λx h=>by
 let(c,_,rfl):=xu.mp h
 erw[zeJ _ _]
def Ze(h:lay n d=true):PyData.eqv d d=true:=PySem.SeqAt.eqv_refl d (je n d h).1
def zM(i j:Int):PyData.eqv (.int i) (.int j)=(i==j):=rfl
def qE(xs:Ac):Aa:=xs.map λ(i:Nat)=>.int (i:Int)
def zA(cs:List Cl):PyData:=.list (cs.map Cl.D)
def Bolt(pots:Nat)(cs:List Cl):Prop:=cs.length<=1000/\∀ c∈cs,Zk pots c.st c.wi
def jW{xs:List Int}(h:d<xs.length):atI (xs.map PyData.int) (d:Int)=some (.int (xs.getD d 0)):=by
 let e:(xs.map PyData.int)[d]?=some (.int (xs.getD d 0)):=by rw[xf,xb h,xF,xb h];rfl
 unfold atI ixN
 rw[if_pos (by lia),if_pos (by rw[xl];lia)]
 simpa using e
def Qg{α:Type}(a b c:α):atI [a,b,c] 0=some a:=rfl
def vR{α:Type}(a b c:α):atI [a,b,c] 1=some b:=rfl
def Qh{α:Type}(a b c:α):atI [a,b,c] 2=some c:=rfl
def zgJ(e:qS xs=pre++d::post):∃ x,xs[pre.length]?=some x/\d=.tuple [.int pre.length,x]:=ZJ (by rw[e];simp)
def zcd(xs:Ac):(qE xs).length=xs.length:=by simp[qE]
def jj{α:Type}(l:List α):l.filter (λ_=>true)=l:=List.filter_eq_self.mpr λ_ _=>rfl
def Jl (cf:CF):Prop:=∀ i:Int,cf "_law_whole" [.d (.int i)]=.ok (.d (.bool true)) [none]
def zf8(cf:CF):Jl λ_=>runI 1 [false] [] Qr cf:=λi=>by
 push_cast [Qr]
def Wl (cf:CF):Prop:=∀ xs:Ac,xs.length<=1000->cf "_law_wholes" [.d (.list (qE xs))]=.ok (.d (.bool true)) [none]
def zcJ(cf:CF)(hw:Jl cf):Wl λ_=>runI 1 [false] [] ν2 cf:=λxs hl=>by
 let e:=qZ (k:=1) (t:=.nm 0 1) (cond:=fYes) (elt:=(jb3.ev cf).1) (ds:=qE xs) (U:= [@&(.list (qE xs))]) (λ_=>true) (λ_=>.bool true) (by
  intro x hx
  let(i,_,rfl):=xu.mp hx
  refine#[_,_,by simp[tgF];rfl,rfl,by simp,λ_=>#[.dat (.bool true),[@&(.list (qE xs)),@&(.int i)],?_,rfl,by simp]]
  simp![jb3,hw (i:Int),OV.view,OV.views,q8,ixN,atI])
 let hz:xs.length<=1000000:=by lia
 let hb:qt (List.map (λ_=>PyData.bool true) (List.filter (λ_=>true) (qE xs)))=some ((qE xs).map λ_=>true):=by
  rw[jj,<- jM,xw];rfl
 let ha:((qE xs).map λ_=>true).all id=true:=by simp
 simp![ν2,zcd,hz,OV.view,OV.views,q8,ixN,atI]
 rw[e]
 simp only[Option.bind_some,gAll,hb,uB,ha,outs];rfl
def YF(s:String):PyData.strOk (Str.ofString s)=true:=by
 rw[Str.ofString_eq_toList]
 unfold PyData.strOk
 rw[Array.all_eq_true]
 intro i hi
 let key:∀ c:Char,c.toNat<0x110000:=λc=>by
  have:=c.valid
  rcases this with h | h
  ·let h1:c.toNat<0xd800:=h
   lia
  ·erw[h.2]
 grind
def zgX(sep:Str)(ys:Ab):Txt.join sep ys=Str.join sep ys:=StrLaws.glued_eq_join sep ys
inductive Deed where
 |hang (n:Str) (k:Int)
 |fold (n:Str)
 |twin (n m:Str)
 |wish (n:Str) (k:Int) (sh:List Int)
 |wax (n:Str) (cs:List Int)
 |dip (ns:Ab) (k:Int)
 |boil (ns:Ab)
 |brew (k:Int)
def qJ(ns:Ab):PyData:=.tuple (ns.map .str)
def Deed.D:Deed->PyData
 |.hang n k=>.tuple [.str "hang",.str n,.int k]
 |.fold n=>.tuple [.str "fold",.str n]
 |.twin n m=>.tuple [.str "twin",.str n,.str m]
 |.wish n k sh=>.tuple [.str "wish",.str n,.int k,zB sh]
 |.wax n cs=>.tuple [.str "wax",.str n,zB cs]
 |.dip ns k=>.tuple [.str "dip",qJ ns,.int k]
 |.boil ns=>.tuple [.str "boil",qJ ns]
 |.brew k=>.tuple [.str "brew",.int k]
def Nm(x:Str):Prop:=1<=x.length/\x.length<=8/\∀ c∈x.cps.toList,97<=c/\c<=122
def Nm.ok(h:Nm x):PyData.strOk x=true:=by
 unfold PyData.strOk
 rw[Array.all_eq_true]
 intro i hi
 have:=(h.2.2 x.cps[i] (by simp)).2
 simp only[x0];lia
def Ks (cf:CF):runI 0 [] [] Zm cf []=.ok (.d (.str "abcdefghijklmnopqrstuvwxyz")) []:=by
 push_cast [Zm]
def vM (cf:CF):Prop:=cf "_law_letters" []=.ok (.d (.str "abcdefghijklmnopqrstuvwxyz")) []
def zb5 (h0:0<=i) (h1:i<26):∃ c:Nat,atI ("abcdefghijklmnopqrstuvwxyz" :Str).cps.toList i=some c/\97<=c/\c<=122:=by
 have:∀ n:Nat,n<26->∃ c:Nat,atI ("abcdefghijklmnopqrstuvwxyz" :Str).cps.toList (n:Int)=some c/\97<=c/\c<=122:=by
  intro n hn
  let key:∀ n:Fin 26,("abcdefghijklmnopqrstuvwxyz" :Str).cps.toList[(n:Nat)]?=some (97+(n:Nat)):=by decide +kernel
  exact#[97+n,qN (key #[n,hn]),by lia,by lia]
 let e:i=((i.toNat:Nat):Int):=by lia
 rw[e]
 exact this i.toNat (by lia)
def zaE(x:PyData):(OV.d x).view=x:=rfl
def wT (cf:CF):Prop:=∀ b,zU b->∃ (n:Str) (b':OV),Nm n/\zU b'/\cf "_law_named" [b]=.ok (.d (.str n)) [some b']
def zeV(cf:CF)(ht:qK cf)(hl:vM cf):wT λ_=>runI 2 [true] [0] Qq cf:=λb hb=>by
 let(r,b1,h1,nh,hb1,e1):=ht b hb 8 (by decide) (by decide)
 let(ys,U',e2,(b2,cs,hcl,lu,hb2,rfl,rfl)):=qL (k:=1) (t:=.nm 0 2) (cond:=fYes) (elt:=(jbb.ev cf).1) (ds:=zV (1+r.toNat)) (U:= [some b1,@&(.int (1+r))])
  (λpre ys U=>∃(b2:OV)(cs:Ac),cs.length=pre.length/\(∀ c∈cs,97<=c/\c<=122)/\zU b2/\ys=cs.map (λc=>.str #[(List.toArray [c])])/\U= [some b2,@&(.int (1+r))]) #[b1,[],rfl,(λ_ h=>nomatch h),hb1,rfl,rfl] (by
   rintro pre d post e ys U ⟨b2,cs,hcl,lu,hb2,rfl,rfl⟩
   let(j,b3,g1,g2,bh,e3):=ht b2 hb2 26 (by decide) (by decide)
   let(c,hc,dj,di):=zb5 g1 g2
   refine#[[some b2,@&(.int (1+r)),@&d],true,_,rfl,rfl,λ_=>#[.dat (.str #[(List.toArray [c])]),[some b3,@&(.int (1+r)),@&d],.str #[(List.toArray [c])],?_,rfl,b3,cs++ [c],by simp[hcl],?_,bh,by simp,rfl],λz=>nomatch z]
   ·let hz:("abcdefghijklmnopqrstuvwxyz" :Str).length<=1000000:=by decide
    let dv:cf "_law_letters" []=.ok (.d (.str "abcdefghijklmnopqrstuvwxyz")) []:=hl
    rwa[("abcdefghijklmnopqrstuvwxyz" :Str)=abc]
    simp![jbb,dv,e3,zgL,hz,hc,zaE]
   ·intro x hx
    rcases xM.mp hx with hx | hx
    ·erw[lu x hx]
    ·have:x=c:= ~~~hx
     subst this;exact#[dj,di])
 rw[zC]at hcl
 let hj:Str.join "" (cs.map λc=>(⟨(List.toArray [c])⟩:Str))=⟨cs.toArray⟩:=PyProof.Rows.join_ones cs
 let hm:(cs.map λc=>PyData.str ⟨(List.toArray [c])⟩)=(cs.map λc=>(⟨(List.toArray [c])⟩:Str)).map .str:=by rw[xw];rfl
 let hs:=vg (cs.map λc=>(#[(List.toArray [c])]:Str))
 let AL:((cs.map λc=>(⟨(List.toArray [c])⟩:Str)).map (·.length)).sum=cs.length:=by
  clear hs hm hj e2 lu hcl
  induction cs with
  |nil=>rfl
  |cons c r ih=>simp only[xr,List.sum_cons,ih,xo];show 1+_=_;lia
 let hlen:(cs.map λc=>(⟨(List.toArray [c])⟩:Str)).length=cs.length:=by simp
 let hg:WG "" (.list (cs.map λc=>PyData.str ⟨(List.toArray [c])⟩))=some (.str ⟨cs.toArray⟩):=by
  unfold WG
  simp only[hm,hs]
  rw[if_pos #[by rw[AL,hlen];lia,by decide],zgX,hj]
 refine#[#[cs.toArray],b2,#[by show 1<=cs.toArray.size;simp;lia,by show cs.toArray.size<=8;simp;lia,λc hc=>lu c (~~~hc)],hb2,?_]
 let hz: -1000000<=1+r/\1+r<=1000000:=by lia
 let hr:(1+r).toNat=1+r.toNat:=by lia
 let ao:1+r.toNat<=1000000:=by lia
 rwa[(cs.map λc=>PyData.str #[(List.toArray [c])])=CS,({ cps:=cs.toArray }:Str)=nm]
 unfold Qq
 rwa[jbb=body]
 simp![e1,hz,ao,hr,e2,zC,hg,zaE]
def Kz(h:Str.ofString x=Str.ofString y):x=y:=by
 rw[Str.ofString_eq_toList,Str.ofString_eq_toList]at h
 let h1:x.toList.map Char.toNat=y.toList.map Char.toNat:=by grind
 let key:∀ a b:List Char,a.map Char.toNat=b.map Char.toNat->a=b:=by
  intro a
  induction a with
  |nil=>intro b e;cases b with
   |nil=>rfl
   |cons _ _=>cases e
  |cons c r ih=>
   intro b e
   cases b with
   |nil=>cases e
   |cons d s=>
    rw[xr,xr,List.cons.injEq]at e
    rw[ih s e.2,show c=d from Char.ext (UInt32.toNat_inj.mp e.1)]
 erw[String.toList_inj.mp (key _ _ h1)]
def wq(x y:String):PyData.eqv (.str (Str.ofString x)) (.str (Str.ofString y))=decide (x=y):=by
 show decide (Str.ofString x=Str.ofString y)=_
 by_cases h:x=y
 ·subst h;simp
 ·rw[Xa h,Xa (λe=>h (Kz e))]
def ν9(s:String)(n:Nat):lay n (.str (Str.ofString s))=true:=by
 have:=YF s
 cases n<;>exact this
def cs1{x y:String}:cmpD .Eq (.str (Str.ofString x)) (.str (Str.ofString y))=some (decide (x=y)):=by
 let h2:cmpD .Eq (.str (Str.ofString x)) (.str (Str.ofString y))=some (PyData.eqv (.str (Str.ofString x)) (.str (Str.ofString y))):=by
  simp[cmpD,ν9]
 rw[h2,wq x y]
abbrev ch(c:Nat):Str:=#[(List.toArray [c])]
def zdg{α:Type}(xs:List α):(qt (xs.map λ_=>PyData.bool true)).map (λbs=>PyData.bool (bs.all id))=some (.bool true):=by
 have:qt (xs.map λ_=>PyData.bool true)=some (xs.map λ_=>true):=by
  induction xs with
  |nil=>rfl
  |cons a r ih=>simp[qt,ih]
 rw[this]
 simp
def ziY(cf:CF){body:IE}(hb:body=.sin (.x 0 1) (.gstr x z)){cs:Ac}{D:OV}(h:∀ c∈cs,Txt.contains z (ch c)=true) :
  qM 1 (.nm 0 1) fYes (body.ev cf).1 (cs.map λc=>PyData.str (ch c)) [] [some D]=.ok (cs.map λ_=>PyData.bool true,[some D]):=by
 let e:=qZ (k:=1) (t:=.nm 0 1) (cond:=fYes) (elt:=(body.ev cf).1) (U:= [some D]) (λ_=>true) (λ_=>.bool true) (by
  intro y hy
  let(c,hc,rfl):=xu.mp hy
  let hz:=h c hc
  refine#[[some D,@&(.str (ch c))],_,rfl,rfl,rfl,λ_=>#[.dat (.bool true),[some D,@&(.str (ch c))],?_,rfl,rfl]]
  subst hb
  rwa[ch c=cc]
  simp![Kf,hz])
 rw[jj,xw]at e
 erw[e]
def Kr:∀ c:Nat,97<=c->c<=122->Txt.contains (Str.ofString "abcdefghijklmnopqrstuvwxyz") (ch c)=true:=λc h1 h2=>by
 have:∀ k:Fin 26,Txt.contains (Str.ofString "abcdefghijklmnopqrstuvwxyz") (ch (97+(k:Nat)))=true:=by decide +kernel
 let e:=this #[c-97,by lia]
 have:97+(c-97)=c:=by lia
 simp only[this]at e
 erw[e]
def zc3{x:Str}(h:∀ c∈x.cps.toList,c<=127):x.cps.all (·<128)=true:=by
 rw[Array.all_eq_true]
 intro i hi
 have:=h x.cps[i] (by simp)
 simp only[x0];lia
def Wf (cf:CF):Prop:=∀ n,Nm n->cf "is_name" [.d (.str n)]=.ok (.d (.bool true)) [none]
def Ko(cf:CF):Wf λ_=>runI 1 [false] [] J4 cf:=λn h=>by
 let(h1,h2,h3):=h
 let ha:=zc3 (x:=n) λc hc=>by have:=(h3 c hc).2;lia
 let e:=ziY cf (body:=Qx) rfl (cs:=n.cps.toList) (D:=.d (.str n)) λc hc=>Kr c (h3 c hc).1 (h3 c hc).2
 let eb:=zdg n.cps.toList
 let hs:QK n=n.cps.toList.map λc=>PyData.str (ch c):=rfl
 let hz:n.length<=1000000:=by lia
 let Eu:(1:Int)<=(n.length:Int):=by lia
 let Et:(n.length:Int)<=8:=by lia
 let hi3:=h1
 let hcl:(n.cps.toList.map λc=>PyData.str (ch c)).length<=1000000:=by simp;exact hz
 unfold J4
 rwa[Qx=B,(n.cps.toList.map λ_=>PyData.bool true)=BB,(n.cps.toList.map λc=>PyData.str (ch c))=CC]
 simp![Yg,yf,ha,hs,hz,hcl,Eu,Et,hi3,h2,e,eb]
def tps(l:Ao):Aa:=l.map λp=>.tuple [p.1,p.2]
def prs(l:Ao):List OV:=(tps l).map .d
def KF(l:Ao):leaves (prs l)=some (tps l):=Yo _
def qi(x y:String):(Str.ofString x=Str.ofString y)=(x=y):=propext #[Kz,λh=>by rw[h]]
def hV (pots:Int) (first:PyData) (dn un:Ao) (pl:Ad):OV:=.o "House" ["pots","first","done","undone","places"] [.d (.int pots),.d first,.l (prs dn),.l (prs un),.m pl]
def stV (fr:Aa) (cl:Ad):PyData:=.dict [(.none,.str "Stand"),(.str "fresh",.list fr),(.str "cloths",.dict (cl.map dK))]
def zE(x:PyData):(OV.d x).view=x:=rfl
def wZ (fr:Aa) (cl:Ad):(OV.o "Stand" ["fresh","cloths"] [.d (.list fr),.d (.dict (cl.map dK))]).view=stV fr cl:=rfl
def Zj(x y:String):(Str.ofString x==Str.ofString y)=decide (x=y):=by
 by_cases h:x=y
 ·subst h;simp
 ·rw[Xa h]
  erw[x9.mpr λe=>h (Kz e)]
def qO (fr:Aa) (cl:Ad):zeo "Stand" "fresh" (stV fr cl)=some (.list fr):=rfl
def qj (fr:Aa) (cl:Ad):zeo "Stand" "cloths" (stV fr cl)=some (.dict (cl.map dK)):=rfl
def QG (cf:CF):Prop:=∀ a b,cf "Stand.__init__" [.o "Stand" [] [],.d a,.d b]=.ok (.d .none) [some (.o "Stand" ["fresh","cloths"] [.d a,.d b]),none,none]
def zfT(cf:CF):QG λ_=>runI 3 [true,false,false] [0] ZM cf:=λa b=>rfl
def zcX (cf:CF):Prop:=∀ p:Nat,p<=12->cf "new_stand" [.d (.int p)]=.ok (.d (stV (List.replicate p (.bool true)) [])) [none]
end Wx
local macro_rules
  | `(tactic| dsimp! [$xs,*])=>do
    let ys←("fDget derD fAttr fFdat objF ixF fFlen fFtru fFlast fFfrz updF setO sFset sFapp zD wD fMeth fMake fOwnD fNewD fDnil fDone fDcopy fCompD hid loopG fStd fItems fKeys fSortD fMul sRaise sDisp sStar sDupd fNo fNoV gDin gDnin".splitOn " ").toArray.mapM fun s=>`(Lean.Parser.Tactic.simpLemma| $(Lean.mkIdent ("L3."++s).toName):ident)
    `(tactic| simp! [$ys,*,$xs,*])
namespace Wx
open PySem L2 L3
def zjH(cf:CF)(hs:QG cf):zcX λ_=>runI 1 [false] [] Qy cf:=λp hp=>by
 let h:=hs (.list (List.replicate p (.bool true))) (.dict [])
 let hz:(0:Int)<=p/\(p:Int)<=1000000:=by lia
 let ao:p<=1000000:=by lia
 let hv:(OV.m []).view=.dict []:=rfl
 let hw:=wZ (List.replicate p (.bool true)) []
 dsimp! [Qy,h,hz,ao,hv,zE,hw]
 rfl
def VM (cf:CF):Prop:=∀ p:Nat,p<=12->cf "House.__init__" [.o "House" [] [],.d (.int p)]=.ok (.d .none) [some (hV p (stV (List.replicate p (.bool true)) []) [] [] []),none]
def zeA(cf:CF)(hn:zcX cf):VM λ_=>runI 2 [true,false] [0] jv cf:=λp hp=>by
 let h:=hn p hp
 rwa[stV (List.replicate p (.bool true)) []=D]
 push_cast [jv,h,hV,prs,tps,qi,cs1]
def ZL(first:PyData)(dn:Ao):PyData:=match dn.getLast? with
 |some p=>p.2
 |none=>first
def Jj (cf:CF):Prop:=∀ (p:Int) (f:PyData) (dn un:Ao) (pl:Ad),cf "House.now" [hV p f dn un pl]=.ok (.d (ZL f dn)) [some (hV p f dn un pl)]
def zjI(cf:CF):Jj λ_=>runI 1 [true] [0] Zf cf:=λp f dn un pl=>by
 cases q:dn.getLast? with
 |none=>
  have:dn= []:=List.getLast?_eq_none_iff.mp q
  subst this
  push_cast [Zf,hV,prs,tps,ZL,qi,cs1]
 |some x=>
  let ax:dn≠ []:=λz=>by rw[z]at q;cases q
  let h1:prs dn≠ []:=by cases dn with
   |nil=>erw[absurd rfl ax]
   |cons _ _=>erw[λz=>nomatch z]
  let h2:(prs dn).getLast?=some (.d (.tuple [x.1,x.2])):=by
   unfold prs tps
   rw[List.getLast?_map,List.getLast?_map,q];rfl
  let hi:atI [x.1,x.2] 1=some x.2:=rfl
  simp only[hV,ZL,q]
  rwa[prs dn=P]
  dsimp! [Zf,h1,h2,hi,qi]
def νc (cf:CF):Prop:=∀ (fr:Aa) (cl:Ad) (n:Str),cf "check_hangs" [.d (stV fr cl),.d (.str n)]=if (zN cl n).isSome then .ok (.d .none) [none,none] else .bad
def zeu(cf:CF):νc λ_=>runI 2 [false,false] [] jK cf:=λfr cl n=>by
 let h1:=qj fr cl
 let h2:=zT cl
 rwa[stV fr cl=D]
 cases q:zN cl n<;>(first | (push_cast [jK,h1,h2,q,fAttr,gDnin,cs1];done) | simp![jK,h1,h2,q,fAttr,gDnin,sRaise])
def Jh (cf:CF):Prop:=∀ (p:Int) (f:PyData) (dn un:Ao) (pl:Ad) (fr:Aa) (cl:Ad) (n:Str),ZL f dn=stV fr cl->cf "House.cloth" [hV p f dn un pl,.d (.str n)]=match zN cl n with
 |some d=>.ok (.d d) [some (hV p f dn un pl),none]
 |none=>.bad
def zdi(cf:CF)(hn:Jj cf)(hh:νc cf):Jh λ_=>runI 3 [true,false] [0] jJ cf:=λp f dn un pl fr cl n hq=>by
 let e1:=hn p f dn un pl
 let e2:=hh fr cl n
 rw[hq]at e1
 let h1:=qj fr cl
 let h2:=zT cl
 let ay:hV p f dn un pl=.o "House" ["pots","first","done","undone","places"] [.d (.int p),.d f,.l (prs dn),.l (prs un),.m pl]:=rfl
 rwa[stV fr cl=D,[OV.d (.int p),.d f,.l (prs dn),.l (prs un),.m pl]=XS,hV p f dn un pl=HH]
 subst ay
 cases q:zN cl n with
 |none=>
  rw[q]at e2
  dsimp! [jJ,e1,e2,h1,h2,q,zE,qi]
 |some d=>
  rw[q]at e2
  dsimp! [jJ,e1,e2,h1,h2,q,zE,qi]
def zs(p:Nat):PyData:=.tuple (List.replicate p (.int 0))
def jU(p:Nat):PyData:=.tuple [zs p,.bool false,zs p]
def YT (cf:CF):Prop:=∀ p s:Nat,p<=12->s<=40->cf "bare" [.d (.int p),.d (.int s)]=.ok (.l ((List.replicate s (jU p)).map .d)) [none,none]
def zjF{p:Nat}(hp:p<=12):binD .Mult (.tuple [.int 0]) (.int p)=some (zs p):=by
 let h1:(0:Int)<=p/\(p:Int)<1000000/\ [PyData.int 0].length*(p:Int).toNat<=1000000:=#[by lia,by lia,by rw[xV];lia]
 let e:binD .Mult (.tuple [.int 0]) (.int p)=if (0:Int)<=p/\(p:Int)<1000000/\ [PyData.int 0].length*(p:Int).toNat<=1000000 then some (.tuple (List.replicate (p:Int).toNat [.int 0]).flatten) else none:=by
  rw[binD]
 rw[e,if_pos h1]
 unfold zs
 simp
def mul_one(p:Int)(S:OV)(ν:PyData)(G:PyData->PyData->Option PyData)(hb:G (.tuple [.int 0]) (.int p)=some ν):fBin G (fTup (fCons (fC (.int 0)) fNil)) (fVar 0) [@&(.int p),some S,none]=.ok (.dat ν,[@&(.int p),some S,none]):=by
 simp[fBin,fTup,fCons,fC,fNil,fVar,R.bind,R.get,derf,derS,derSs,hb]
def zi6(hz:s<=1000000)(ao: -1000000<=S/\S<=1000000)(hn:S.toNat=s)(B:EM FV)(e:qM 1 (.nm 0 3) fYes B (zV s) [] [o0,@&(.int S),o2]=.ok (ys,[o0,@&(.int S),o2])):fComp 3 1 (.nm 0 3) (fRange (fVar 1)) fYes B [o0,@&(.int S),o2]=.ok (ys,[o0,@&(.int S),o2]):=by
 simp[fComp,fRange,fVar,R.bind,R.get,derf,ao,hn,zC,hz,e]
def zc8(e1:A1 [some P,some S,none]=.ok (.next,[some P,some S,some ν]))(e2:A2 [some P,some S,some ν]=.ok (.ret LL,[some P,some S,some ν])):fin [false,false] (sSeq A1 A2 [some P,some S,none])=.ok LL [none,none]:=by
 simp[sSeq,e1,e2,fin,outs]
def zgm(hb:G (.tuple [.int 0]) (.int P)=some ν):sAsg [] 2 (fD (fBin G (fTup (fCons (fC (.int 0)) fNil)) (fVar 0))) [@&(.int P),some S,none]=.ok (.next,[@&(.int P),some S,@&ν]):=by
 let q1:=mul_one P S ν G hb
 unfold sAsg fD
 rw[q1];rfl
def zgn(hz:s<=1000000)(ao: -1000000<=S/\S<=1000000)(hn:S.toNat=s)(B:EM FV)(e:qM 1 (.nm 0 3) fYes B (zV s) [] [o0,@&(.int S),o2]=.ok (ys,[o0,@&(.int S),o2])):sRet (fOwn (fComp 3 1 (.nm 0 3) (fRange (fVar 1)) fYes B)) [o0,@&(.int S),o2]=.ok (.ret (.l (ys.map .d)),[o0,@&(.int S),o2]):=by
 let q2:=zi6 hz ao hn B e
 unfold sRet fOwn
 rw[q2];rfl
def zgp(cf:CF)(ds:Aa):qM 1 (.nm 0 3) fYes (jav.ev cf).1 ds [] [o0,o1,@&ν]=.ok (ds.map λ_=>.tuple [ν,.bool false,ν],[o0,o1,@&ν]):=by
 let e:=qZ (k:=1) (t:=.nm 0 3) (cond:=fYes) (elt:=(jav.ev cf).1) (ds:=ds) (U:= [o0,o1,@&ν]) (λ_=>true) (λ_=>.tuple [ν,.bool false,ν]) (by
  intro x hx
  refine#[[o0,o1,@&ν,@&x],_,rfl,rfl,rfl,λ_=>#[.dat (.tuple [ν,.bool false,ν]),[o0,o1,@&ν,@&x],?_,rfl,rfl]]
  simp![jav])
 rw[jj]at e
 erw[e]
def zgo:jb8.ex cf []=sSeq (sAsg [] 2 (fD (fBin (binD .Mult) (fTup (fCons (fC (.int 0)) fNil)) (fVar 0)))) (sRet (fOwn (fComp 3 1 (.nm 0 3) (fRange (fVar 1)) fYes (jav.ev cf).1))):=rfl
def zgq(cf:CF):YT λ_=>runI 3 [false,false] [] jb8 cf:=λp s hp hs=>by
 let e:=zgp cf (o0:=some (.d (.int p))) (o1:=some (.d (.int s))) (ν:=zs p) (zV s)
 rw[List.map_const',zC]at e
 let f1:=zgm (S:=.d (.int s)) (zjF hp)
 let f2:=zgn (by lia) (by lia) (by lia) _ e
 let hB:jU p=.tuple [zs p,.bool false,zs p]:=rfl
 rw[hB]
 erw[(if_pos rfl).trans ?_]
 rw[zgo]
 erw[zc8 f1 f2]
def Qk (cf:CF):Prop:=∀ (fr:Aa) (cl ch:Ad),cl.length+ch.length<=1000000->cf "with_cloths" [.d (stV fr cl),.d (.dict (ch.map dK))]=.ok (.d (stV fr (zO cl ch))) [none,none]
def ja(ds:Ad):(OV.m ds).view=.dict (ds.map dK):=rfl
def ziA(cf:CF)(hs:QG cf):Qk λ_=>runI 3 [false,false] [] ZD cf:=λfr cl ch hl=>by
 let h1:=qj fr cl
 let h2:=zT cl
 let h3:=qO fr cl
 let h4:=zT ch
 let e1:=hs (.list fr) (.dict ((zO cl ch).map dK))
 let hv:=ja (zO cl ch)
 let hw:=wZ fr (zO cl ch)
 generalize hMC:zO cl ch=MC at e1 hv hw |-
 dsimp! [ZD,hMC,h1,h2,h3,h4,e1,hv,hw,hl,zE]
def QF (cf:CF):Prop:=∀ (fr:Aa) (cl:Ad) (n:Str),Nm n->zN cl n=none->cf "check_new" [.d (stV fr cl),.d (.str n)]=.ok (.d .none) [none,none]
def Yr(cf:CF)(hi:Wf cf):QF λ_=>runI 2 [false,false] [] Qw cf:=λfr cl n hn hv=>by
 let e1:=hi n hn
 let h1:=qj fr cl
 let h2:=zT cl
 dsimp! [Qw,e1,h1,h2,hv,zE]
def YZ (cf:CF):Prop:=∀ (fr:Aa) (cl:Ad) (n:Str) (k:Nat),Nm n->zN cl n=none->fr.length<=12->cl.length<=1000->k<=40->cf "behind_hang" [.d (stV fr cl),.d (.list [.str n,.int k])]=.ok (.d (stV fr (zO cl [(n,.list (List.replicate k (jU fr.length)))]))) [none,none]
def qm(xs:Aa):(OV.l (xs.map .d)).view=.list xs:=by rw[OV.view,OV.views_d]
def zgR(cf:CF)(hw:Qk cf)(hc:QF cf)(hb:YT cf):YZ λ_=>runI 4 [false,false] [] Zz cf:=λfr cl n k hn hv hf hl hk=>by
 let e1:=hc fr cl n hn hv
 let e2:=hb fr.length k hf hk
 let e3:=hw fr cl [(n,.list (List.replicate k (jU fr.length)))] (by simp;lia)
 let h1:=qO fr cl
 let hv2:=qm (List.replicate k (jU fr.length))
 let hm:=ja [(n,PyData.list (List.replicate k (jU fr.length)))]
 let ck:(0:Int)<=k:=by lia
 let c9:(k:Int)<=40:=by lia
 rwa[PyData.dict (List.map dK [(n,PyData.list (List.replicate k (jU fr.length)))])=MD,OV.l ((List.replicate k (jU fr.length)).map .d)=BL]
 dsimp! [Zz,e1,e2,e3,h1,hv2,hm,ck,c9,zE]
def yP (cf:CF) (S D S':PyData):Prop:=cf "behind" [.d S,.d D]=.ok (.d S') [none,none]
def zjh(cf:CF)(hn:Jj cf)(p:Int)(f:PyData)(dn un:Ao)(D S':PyData)(hl:dn.length<1000000)(hb:yP cf (ZL f dn) D S'):runI 4 [true,false] [0] Qb cf [hV p f dn un [],.d D]=.ok (.d .none) [some (hV p f (dn++ [(D,S')]) [] []),none]:=by
 let e1:=hn p f dn un []
 let e2:cf "behind" [.d (ZL f dn),.d D]=.ok (.d S') [none,none]:=hb
 let h1:(prs dn).length=dn.length:=by unfold prs tps;simp
 let h2:=KF dn
 let h3:(tps dn++ [PyData.tuple [D,S']]).map OV.d=prs (dn++ [(D,S')]):=by unfold prs tps;simp
 let h4:(tps dn).length<1000000:=by unfold tps;simpa using hl
 let hv:(OV.m []).view=.dict []:=rfl
 let hu:unD []=some []:=rfl
 simp only[hV]at *
 let AY:prs []= []:=rfl
 dsimp! [Qb,e1,e2,h1,h2,h3,h4,hv,hu,AY,zE,qi]
def zc1{ds:Aa}:Option.map (λbs=>PyData.bool (bs.all id)) (qt (ds.map λ_=>PyData.bool true))=some (.bool true):=by
 have:(ds.map λ_=>PyData.bool true)=(ds.map λ_=>true).map .bool:=by rw[xw];rfl
 rw[this,jM]
 simp
def wx(x:PyData):(OV.d x).view=x:=rfl
def Jk (cf:CF):Prop:=∀ (xs:List Int) (pots:Nat),xs.length=pots->pots<=1000->cf "_law_shades" [.d (zB xs),.d (.int pots)]=.ok (.d (.bool true)) [none,none]
def zcy(cf:CF)(hw:Jl cf):Jk λ_=>runI 2 [false,false] [] ZZ cf:=λxs pots h hl=>by
 let e:=qZ (k:=1) (t:=.nm 0 2) (cond:=fYes) (elt:=(jby.ev cf).1) (ds:=xs.map .int) (U:= [@&(zB xs),@&(.int pots)]) (λ_=>true) (λ_=>.bool true) (by
  intro x hx
  let(i,_,rfl):=xu.mp hx
  refine#[[@&(zB xs),@&(.int pots),@&(.int i)],_,rfl,rfl,by simp,λ_=>#[.dat (.bool true),[@&(zB xs),@&(.int pots),@&(.int i)],?_,rfl,by simp]]
  simp![jby,hw i,wx])
 rw[jj]at e
 let a1:=zc1 (ds:=xs.map .int)
 let aq:(xs.map PyData.int).length=pots:= ~~~h
 unfold zB at e |-
 rwa[xs.map PyData.int=X]
 let hz:X.length<=1000000:=by lia
 let hq:((pots:Int)==(pots:Int))=true:=by simp
 let ao:pots<=1000000:=by lia
 simp![ZZ,aq,zJ,zM,hq,hz,ao,e,a1]
def zcS(pots:Nat)(cs:List Cl):Prop:=∀ c∈cs,c.st.length=pots/\c.wi.length=pots
def Bolt.kind(h:Bolt pots cs):zcS pots cs:=λc hc=>#[(h.2 c hc).sl,(h.2 c hc).wl]
def zgZ(cf:CF)(hs:Jk cf)(hp:pots<=1000)(hk:zcS pots cs):runI 3 [false,false] [] jq cf [.d (zA cs),.d (.int pots)]=.ok (.d (.bool true)) [none,none]:=by
 let(U',e,(o2,rfl)):=zY (t:=.nm 2 2) (body:=jbu.ex cf []) (ds:=cs.map Cl.D) (U:= [@&(zA cs),@&(.int pots),none])
  (λpre U=>∃ o2:Option OV,U= [@&(zA cs),@&(.int pots),o2]) #[_,rfl] (by
   rintro pre x post e U ⟨o2,rfl⟩
   let hx:x∈cs.map Cl.D:=by rw[e];simp
   let(c,hc,rfl):=xu.mp hx
   let(h1,h2):=hk c hc
   let e1:=hs c.st pots h1 hp
   let e2:=hs c.wi pots h2 hp
   refine#[[@&(zA cs),@&(.int pots),some (.d c.D)],[@&(zA cs),@&(.int pots),some (.d c.D)],rfl,?_,_,rfl]
   unfold Cl.D ji
   rwa[zB c.st=A,zB c.wi=B]
   push_cast [jbu,e1,e2,a0,a1,a2,zJ,zM,wx])
 unfold zA at *
 push_cast [jq,e]
def zcT (cf:CF):Prop:=∀ (pots:Nat) (cs:List Cl),pots<=1000->zcS pots cs->cf "_law_cells_kind" [.d (zA cs),.d (.int pots)]=.ok (.d (.bool true)) [none,none]
def zc0(cf:CF)(hk:zcT cf)(hp:pots<=1000)(h:zcS pots cs):runI 3 [false,false,false] [] Ql cf [.d (zA cs),.d (zA cs),.d (.int pots)]=.ok (.d (.bool true)) [none,none,none]:=by
 let e:=hk pots cs hp h
 let hy:lay 20 (zA cs)=true:=Yn 17 _
 let hq:=Ze hy
 push_cast [Ql,e,hy,hq,wx]
def K6 (cf:CF):Prop:=∀ (pots:Nat) (cs:List Cl),pots<=1000->zcS pots cs->cf "_law_alike" [.d (zA cs),.d (zA cs),.d (.int pots)]=.ok (.d (.bool true)) [none,none,none]
def WJ(d:Nat)(st:List Int):List Int:=(List.range st.length).map λk=>st.getD k 0+(if k=d then 1 else 0)
def qq(d:Nat)(c:Cl):Cl:=if c.w then c else #[WJ d c.st,c.w,c.wi]
def qh(d:Nat)(c:Cl):Bool:= !c.w&&decide (9<=c.st.getD d 0)
def Yi(d:Nat)(st:List Int):(WJ d st).length=st.length:=by unfold WJ;simp
def zeB(h:d<st.length):st.take d++ [st.getD d 0+1]++st.drop (d+1)=WJ d st:=by
 apply xU
 intro k
 unfold WJ
 rw[xf]
 by_cases hk:k<st.length
 ·rw[um hk]
  simp only[uB]
  rw[uw]
  by_cases h1:k<d
  ·rw[xc (by simp;lia),xW h1,xb hk,if_neg (by lia),xF,xb hk]
   simp
  ·rw[xp (by simp;lia)]
   by_cases h2:k=d
   ·subst h2
    rw[if_pos rfl]
    have:k-(st.take k).length=0:=by simp;lia
    rw[this];rfl
   ·rw[if_neg h2]
    have:k-(st.take d).length=(k-d-1)+1:=by simp;lia
    rw[this,List.singleton_append,uf,List.getElem?_drop,show d+1+(k-d-1)=k by lia,xb hk,xF,xb hk]
    simp
 ·rw[xE (by simp;lia),xE (by simp;lia)];rfl
def yD(h:d<=n)(z:Nat):HT.sIx n z (some (d:Int))=d:=by
 show (if (d:Int)<0 then ((d:Int)+(n:Int)).toNat else min ((d:Int).toNat) n)=d
 rw[if_neg (by lia)]
 simp;lia
def VF (cf:CF):Prop:=∀ (st:List Int) (d:Nat),d<st.length->st.length<=1000->cf "deepened" [.d (zB st),.d (.int d)]=.ok (.d (zB (WJ d st))) [none,none]
def Yb(cf:CF):VF λ_=>runI 2 [false,false] [] Je cf:=λst d h hl=>by
 let a1:=jW h
 let hn:(st.map PyData.int).length=st.length:=by simp
 let s1:HT.sIx (st.map PyData.int).length (st.map PyData.int).length (some (d:Int))=d:=by rw[hn];exact yD (by lia) _
 let s2:HT.sIx (st.map PyData.int).length 0 (some ((d:Int)+1))=d+1:=by
  have:=yD (n:=st.length) (d:=d+1) (by lia) 0
  rw[hn];exact this
 let c1:Jr (st.map PyData.int) none (some (d:Int))=(st.take d).map PyData.int:=by
  unfold Jr
  rw[s1]
  have:HT.sIx (st.map PyData.int).length 0 none=0:=rfl
  rw[this];simp
 let c2:Jr (st.map PyData.int) (some ((d:Int)+1)) none=(st.drop (d+1)).map PyData.int:=by
  unfold Jr
  rw[s2]
  have:HT.sIx (st.map PyData.int).length (st.map PyData.int).length none=st.length:=by rw[hn];rfl
  rw[this,List.map_drop]
  exact uo (by simp)
 let ax:¬ (HT.sIx (st.map PyData.int).length 0 none=0/\HT.sIx (st.map PyData.int).length (st.map PyData.int).length (some (d:Int))=(st.map PyData.int).length):=by rw[s1,hn];lia
 let A9:¬ (HT.sIx (st.map PyData.int).length 0 (some ((d:Int)+1))=0/\HT.sIx (st.map PyData.int).length (st.map PyData.int).length none=(st.map PyData.int).length):=by rw[s2];lia
 let z1:((st.take d).map PyData.int).length+1<=1000000:=by simp;lia
 let z2:((st.take d).map PyData.int).length+1+((st.drop (d+1)).map PyData.int).length<=1000000:=by simp;lia
 let lq:(st.take d).map PyData.int++.int (st.getD d 0+1)::(st.drop (d+1)).map PyData.int=(WJ d st).map PyData.int:=by
  rw[<- zeB h]
  simp
 unfold zB
 rw[<- lq]
 rwa[(st.take d).map PyData.int=T1,(st.drop (d+1)).map PyData.int=T2,st.map PyData.int=X]
 simp only[Je]
 simp![zal,zem,zel,ax,A9,c1,c2,a1,z1,z2]
def zgA(cf:CF)(hb:Bolt pots cs)(hd:d<pots) :
  qM 3 (.tp (.cons (.nm 0 2) (.cons (.nm 1 3) (.cons (.nm 2 4) .nil)))) fYes (jaz.ev cf).1 (cs.map Cl.D) [] [@&(zA cs),@&(.int d)]=.ok ((cs.map (qh d)).map .bool,[@&(zA cs),@&(.int d)]):=by
 let(ys,U',e,hy,rfl):=qL (k:=3) (t:=.tp (.cons (.nm 0 2) (.cons (.nm 1 3) (.cons (.nm 2 4) .nil)))) (cond:=fYes) (elt:=(jaz.ev cf).1) (ds:=cs.map Cl.D) (U:= [@&(zA cs),@&(.int d)])
  (λpre ys U=>ys=((cs.take pre.length).map (qh d)).map .bool/\U= [@&(zA cs),@&(.int d)]) #[rfl,rfl] (by
   rintro pre x post e ys U ⟨hy,rfl⟩
   let hlt:pre.length<cs.length:=by have:=congrArg List.length e;simp at this;lia
   let iw:x=(cs[pre.length]).D:=by
    have:(cs.map Cl.D)[pre.length]?=some x:=by rw[e];simp
    rw[xf,xb hlt]at this
    simpa using this.symm
   let hc:=hb.2 _ (xI hlt)
   let hnx:(cs.take (pre.length+1)).map (qh d)=(cs.take pre.length).map (qh d)++ [qh d cs[pre.length]]:=by
    rw[xZ,xb hlt,xv];rfl
   rwa[cs[pre.length]=c]
   subst iw
   let a1:=jW (xs:=c.st) (d:=d) (by rw[hc.sl];exact hd)
   refine#[[@&(zA cs),@&(.int d),@&(zB c.st),@&(.bool c.w),@&(zB c.wi)],true,_,rfl,rfl,λ_=>#[.dat (.bool (qh d c)),[@&(zA cs),@&(.int d),@&(zB c.st),@&(.bool c.w),@&(zB c.wi)],.bool (qh d c),?_,rfl,?_,rfl],λh=>nomatch h]
   ·unfold qh zB
    cases hw:c.w with
    |true=>push_cast [jaz]
    |false=>simp![jaz,a1]
   ·rw[hy]
    simp only[xm,xo,xP,ui]
    rw[hnx,xv];rfl)
 grind
def zgB(cf:CF)(Bq:VF cf)(hp:pots<=1000)(hb:Bolt pots cs)(hd:d<pots) :
  qM 3 (.tp (.cons (.nm 0 2) (.cons (.nm 1 3) (.cons (.nm 2 4) .nil)))) fYes (ja0.ev cf).1 (cs.map Cl.D) [] [@&(zA cs),@&(.int d)]=.ok ((cs.map (qq d)).map Cl.D,[@&(zA cs),@&(.int d)]):=by
 let(ys,U',e,hy,rfl):=qL (k:=3) (t:=.tp (.cons (.nm 0 2) (.cons (.nm 1 3) (.cons (.nm 2 4) .nil)))) (cond:=fYes) (elt:=(ja0.ev cf).1) (ds:=cs.map Cl.D) (U:= [@&(zA cs),@&(.int d)])
  (λpre ys U=>ys=((cs.take pre.length).map (qq d)).map Cl.D/\U= [@&(zA cs),@&(.int d)]) #[rfl,rfl] (by
   rintro pre x post e ys U ⟨hy,rfl⟩
   let hlt:pre.length<cs.length:=by have:=congrArg List.length e;simp at this;lia
   let iw:x=(cs[pre.length]).D:=by
    have:(cs.map Cl.D)[pre.length]?=some x:=by rw[e];simp
    rw[xf,xb hlt]at this
    simpa using this.symm
   let hc:=hb.2 _ (xI hlt)
   let hnx:(cs.take (pre.length+1)).map (qq d)=(cs.take pre.length).map (qq d)++ [qq d cs[pre.length]]:=by
    rw[xZ,xb hlt,xv];rfl
   rwa[cs[pre.length]=c]
   subst iw
   let e1:=Bq c.st d (by rw[hc.sl];exact hd) (by rw[hc.sl];exact hp)
   refine#[[@&(zA cs),@&(.int d),@&(zB c.st),@&(.bool c.w),@&(zB c.wi)],true,_,rfl,rfl,λ_=>#[.dat (qq d c).D,[@&(zA cs),@&(.int d),@&(zB c.st),@&(.bool c.w),@&(zB c.wi)],(qq d c).D,?_,rfl,?_,rfl],λh=>nomatch h]
   ·unfold qq
    cases hw:c.w with
    |true=>simp![ja0,hw,Cl.D,ji]
    |false=>push_cast [ja0,hw,Cl.D,ji,e1,wx]
   ·rw[hy]
    simp only[xm,xo,xP,ui]
    rw[hnx,xv];rfl)
 grind
def vQ(bs:List Bool):Option.map (λbs=>PyData.bool (bs.any id)) (qt (bs.map .bool))=some (.bool (bs.any id)):=by rw[jM];rfl
def za8(cf:CF)(Bq:VF cf)(hp:pots<=1000)(hb:Bolt pots cs)(hd:d<pots) :
  runI 2 [false,false] [] ZN cf [.d (zA cs),.d (.int d)]=if cs.any (qh d) then .bad else .ok (.l ((cs.map (qq d)).map λc=>.d c.D)) [none,none]:=by
 let e1:=zgA cf hb hd
 let e2:=zgB cf Bq hp hb hd
 let hz:cs.length<=1000000:=by have:=hb.1;lia
 let hb1:=vQ (cs.map (qh d))
 let ha:(cs.map (qh d)).any id=cs.any (qh d):=by rw[uI];rfl
 rw[ha]at hb1
 let aq:((cs.map (qh d)).map PyData.bool).length<=1000000:= ~~~hz
 let d4:((cs.map (qq d)).map Cl.D).map OV.d=(cs.map (qq d)).map λc=>OV.d c.D:=by rw[xw];rfl
 rw[<- d4]
 unfold zA at *
 let fj:(cs.map Cl.D).length<=1000000:= ~~~hz
 rwa[(cs.map (qh d)).map PyData.bool=BB,(cs.map (qq d)).map Cl.D=DD,cs.map Cl.D=X,cs.any (qh d)=b]
 cases b with
 |true=>simp![ZN,e1,hb1,fj,aq,sRaise]
 |false=>push_cast [ZN,e1,e2,hb1,fj,aq]
def kU(cf:CF)(d:Int):runI 2 [false,false] [] ZN cf [.d (zA []),.d (.int d)]=.ok (.l []) [none,none]:=by
 push_cast [ZN,zA,qM,loopG,qt]
def yQ (cf:CF):Prop:=(∀ (pots:Nat) (cs:List Cl) (d:Nat),pots<=1000->Bolt pots cs->d<pots->cf "dipped" [.d (zA cs),.d (.int d)]=if cs.any (qh d) then .bad else .ok (.l ((cs.map (qq d)).map λc=>.d c.D)) [none,none])/\∀ d:Int,cf "dipped" [.d (zA []),.d (.int d)]=.ok (.l []) [none,none]
def K9 (cf:CF):Prop:=∀ (cs:List Cl) (a:Int),cs.length<=1000->cf "has_cell" [.d (zA cs),.d (.int a)]=.ok (.d (.bool (decide (0<=a/\a<cs.length)))) [none,none]
def zjo(cf:CF):K9 λ_=>runI 2 [false,false] [] j6 cf:=λcs a hl=>by
 let fj:(cs.map Cl.D).length=cs.length:=by simp
 unfold zA
 rwa[cs.map Cl.D=X]
 by_cases h1:0<=a
 ·by_cases h2:a<cs.length
  ·let h3:a<(X.length:Int):=by lia
   simp![j6,fj,h1,h2]
  ·simp![j6,fj,h1,h2]
 ·simp![j6,fj,h1]
def in9(i:Int):Bool:=decide (0<=i)&&decide (i<=9)
def zcn(xs:List Int)(pots:Nat):Bool:=decide (xs.length=pots)&&xs.all in9
def zcY (cf:CF):Prop:=∀ (xs:List Int) (pots:Nat),xs.length<=1000->cf "is_picture" [.d (zB xs),.d (.int pots)]=.ok (.d (.bool (zcn xs pots))) [none,none]
def zj1(cf:CF):zcY λ_=>runI 2 [false,false] [] jZ cf:=λxs pots hl=>by
 let e:=qZ (k:=1) (t:=.nm 0 2) (cond:=fYes) (elt:=(jbp.ev cf).1) (ds:=xs.map .int) (U:= [@&(zB xs),@&(.int pots)]) (λ_=>true) (λx=>match x with | .int i=>.bool (in9 i) | _=>.none) (by
  intro x hx
  let(i,_,rfl):=xu.mp hx
  refine#[[@&(zB xs),@&(.int pots),@&(.int i)],_,rfl,rfl,by simp,λ_=>#[.dat (.bool (in9 i)),[@&(zB xs),@&(.int pots),@&(.int i)],?_,rfl,by simp]]
  unfold in9
  by_cases h1:0<=i
  ·simp![jbp,h1]
  ·simp![jbp,h1])
 rw[jj,xw]at e
 let em:(xs.map ((λx=>match x with | .int i=>PyData.bool (in9 i) | _=>.none)∘PyData.int))=(xs.map in9).map .bool:=by rw[xw];rfl
 rw[em]at e
 let hb1:=jM (xs.map in9)
 let ha:(xs.map in9).all id=xs.all in9:=by rw[List.all_map];rfl
 let aq:(xs.map PyData.int).length=xs.length:=by simp
 let oa:((xs.map in9).map PyData.bool).length<=1000000:=by simp;lia
 let hz:xs.length<=1000000:=by lia
 unfold zcn
 rw[<- ha]
 unfold zB at *
 rwa[(xs.map in9).map PyData.bool=BB,xs.map in9=B2,xs.map PyData.int=X]
 by_cases hp:xs.length=pots
 ·let hq:((xs.length:Int)==(pots:Int))=true:=by rw[beq_iff_eq];lia
  simp![jZ,aq,zJ,zM,hq,hp,hz,e,hb1,oa]
  let oe:pots<=1000000:=by lia
  simp![oe,hb1]
 ·let hq:((xs.length:Int)==(pots:Int))=false:=by
   rw[x9];lia
  simp![jZ,aq,zJ,zM,hq,hp]
def qy(a:Nat)(xs:List Int)(cs:List Cl):List Cl:=match cs[a]? with
 |some c=>cs.take a++#[c.st,c.w,xs]::cs.drop (a+1)
 |none=>cs
def zga(cs:List Cl)(a:Int)(xs:List Int)(pots:Nat):RF:=if 0<=a/\a<cs.length then (if zcn xs pots then .ok (.l ((qy a.toNat xs cs).map λc=>.d c.D)) [none,none,none] else .bad) else .bad
def zjd{α:Type}(X:List α)(h:a<=X.length):Jr X none (some (a:Int))=X.take a:=by
 unfold Jr
 rw[yD h]
 have:HT.sIx X.length 0 none=0:=rfl
 rw[this];simp
def zjc{α:Type}(X:List α)(h:a<=X.length):Jr X (some (a:Int)) none=X.drop a:=by
 unfold Jr
 rw[yD h]
 have:HT.sIx X.length X.length none=X.length:=rfl
 rw[this]
 exact uo (by simp)
def kg (cf:CF):Prop:=∀ (pots:Nat) (cs:List Cl) (a:Int) (xs:List Int),pots<=1000->Bolt pots cs->xs.length<=1000->cf "with_wish" [.d (zA cs),.d (.int a),.d (zB xs)]=zga cs a xs pots
def ziz(cf:CF)(hh:K9 cf)(hp:zcY cf):kg λ_=>runI 6 [false,false,false] [] jP cf:=λpots cs a xs mz hb hl=>by
 let e1:=hh cs a hb.1
 unfold zga
 by_cases h:0<=a/\a<cs.length
 ·let hd:decide (0<=a/\a<(cs.length:Int))=true:= ~~~h
  rw[hd]at e1
  obtain⟨j,rfl⟩:∃ j:Nat,a=j:=#[a.toNat,by lia]
  let hj:j<cs.length:=by lia
  let hc:=hb.2 _ (xI hj)
  let m9:cs[j]?=some cs[j]:=xb hj
  let a1:atI (cs.map Cl.D) (j:Int)=some (cs[j]).D:=qN (by rw[xf,m9];rfl)
  let hw:qy (j:Int).toNat xs cs=cs.take j++⟨(cs[j]).st,(cs[j]).w,xs⟩::cs.drop (j+1):=by
   unfold qy
   simp[m9]
  rw[if_pos h,hw]
  rwa[cs[j]=c]
  let e2:=hp xs pots hl
  let hsl:(c.st.map PyData.int).length=pots:=by rw[xl];exact hc.sl
  let c1:Jr (cs.map Cl.D) none (some (j:Int))=(cs.take j).map Cl.D:=by rw[zjd _ (by simp;lia),List.map_take]
  let c2:Jr (cs.map Cl.D) (some ((j:Int)+1)) none=(cs.drop (j+1)).map Cl.D:=by
   have:=zjc (cs.map Cl.D) (a:=j+1) (by simp;lia)
   rw[List.map_drop];exact this
  let z1:((cs.take j).map Cl.D).length+1<=1000000:=by have:=hb.1;simp;lia
  let z2:((cs.take j).map Cl.D).length+1+((cs.drop (j+1)).map Cl.D).length<=1000000:=by have:=hb.1;simp;lia
  let z3:((cs.take j).map Cl.D).length<=1000000:=by lia
  let z4:((cs.drop (j+1)).map Cl.D).length<=1000000:=by lia
  let lq:((cs.take j++(⟨c.st,c.w,xs⟩:Cl)::cs.drop (j+1)).map λc=>OV.d c.D)=((cs.take j).map Cl.D).map OV.d++OV.d (.tuple [zB c.st,.bool c.w,zB xs])::((cs.drop (j+1)).map Cl.D).map OV.d:=by
   rw[xv,xr,xw,xw];rfl
  rw[lq]
  unfold zA at *
  rwa[(cs.take j).map Cl.D=T1,(cs.drop (j+1)).map Cl.D=T2,cs.map Cl.D=X,zB xs=Y]
  let hcd:c.D=.tuple [.tuple (c.st.map PyData.int),.bool c.w,zB c.wi]:=rfl
  let af:zB c.st=.tuple (c.st.map PyData.int):=rfl
  rw[hcd]at a1
  rw[af]
  rwa[c.st.map PyData.int=S1,zB c.wi=W1,c.w=w]
  cases tm:zcn xs pots with
  |true=>
   rw[tm]at e2
   simp![jP,e1,a1,hsl,e2,zgK,zek,zem,zel,c1,c2,z1,z2,z3,z4,wx]
  |false=>
   rw[tm]at e2
   simp![jP,e1,a1,hsl,e2,sRaise,wx]
 ·let hd:decide (0<=a/\a<(cs.length:Int))=false:= ~~~h
  rw[hd]at e1
  rw[if_neg h]
  rwa[zA cs=B]
  simp![jP,e1,sRaise,wx]
def Qi(n:Nat)(i:Int):Bool:=decide (0<=i/\i<(n:Int))
def kW(xs:List Int):Bool:=decide ((Tab.dedup xs).length<xs.length)
def yN(xs:List Int)(i:Nat)(c:Cl):Cl:=#[c.st,c.w||xs.contains (i:Int),c.wi]
def yO(xs:List Int)(cs:List Cl)(k:Nat):List Cl:=(List.range k).filterMap λi=>(cs[i]?).map (yN xs i)
def jl(xs:List Int)(cs:List Cl):List Cl:=yO xs cs cs.length
def Vz(xs:List Int)(h:cs[k]?=some c):yO xs cs (k+1)=yO xs cs k++ [yN xs k c]:=by
 unfold yO
 rw[ut,List.filterMap_append]
 congr 1
 rw[ug,h];rfl
def zf7(xs:List Int)(cs:List Cl)(k:Nat):(yO xs cs k).length<=k:=by
 have:=List.length_filterMap_le (λi=>(cs[i]?).map (yN xs i)) (List.range k)
 rw[ux]at this;exact this
def yo(xs:List Int)(i:Int):inD (.int i) (xs.map .int)=xs.contains i:=by
 unfold inD
 rw[uI]
 induction xs with
 |nil=>rfl
 |cons x xs ih=>
  rw[xT,ih,List.contains_cons]
  congr 1
  show PyData.eqv (.int x) (.int i)=(i==x)
  rw[zM,Bool.eq_iff_iff,beq_iff_eq,beq_iff_eq]
  exact#[Eq.symm,Eq.symm]
def JY(xs:List Int):(∀ x∈xs.map PyData.int,lay 20 x=true)=True:=eq_true λx hx=>by
 let(i,_,rfl):=xu.mp hx
 erw[zJ _ _]
def zkR(cs:List Cl)(xs:List Int):RF:=if xs.all (Qi cs.length) then (if kW xs then .bad else .ok (.l ((jl xs cs).map λc=>.d c.D)) [none,none]) else .bad
def zis(cf:CF){cs:List Cl}{xs:List Int} :
  qM 4 (.tp (.cons (.nm 0 2) (.cons (.tp (.cons (.nm 1 3) (.cons (.nm 2 4) (.cons (.nm 3 5) .nil)))) .nil))) fYes (ja1.ev cf).1 (qS (cs.map Cl.D)) [] [@&(zA cs),@&(zB xs)]=.ok ((jl xs cs).map Cl.D,[@&(zA cs),@&(zB xs)]):=by
 let(ys,U',e,hy,rfl):=qL (k:=4) (t:=.tp (.cons (.nm 0 2) (.cons (.tp (.cons (.nm 1 3) (.cons (.nm 2 4) (.cons (.nm 3 5) .nil)))) .nil))) (cond:=fYes) (elt:=(ja1.ev cf).1) (ds:=qS (cs.map Cl.D)) (U:= [@&(zA cs),@&(zB xs)])
  (λpre ys U=>ys=(yO xs cs pre.length).map Cl.D/\U= [@&(zA cs),@&(zB xs)]) #[rfl,rfl] (by
   rintro pre x post e ys U ⟨hy,rfl⟩
   obtain⟨c,hc,rfl⟩:∃ c,cs[pre.length]?=some c/\x=.tuple [.int (pre.length:Nat),c.D]:=by
    let h1:(qS (cs.map Cl.D))[pre.length]?=some x:=by rw[e];simp
    let(y,mw,hy2):=ZJ h1
    rw[xf]at mw
    cases q:cs[pre.length]? with
    |none=>rw[q]at mw;cases mw
    |some c=>
     rw[q]at mw
     cases mw
     exact#[c,rfl,hy2]
   let hin:=yo xs (pre.length:Int)
   let hal:=JY xs
   let hnx:=Vz xs hc
   refine#[[@&(zA cs),@&(zB xs),@&(.int (pre.length:Nat)),@&(zB c.st),@&(.bool c.w),@&(zB c.wi)],true,_,rfl,rfl,λ_=>#[.dat (yN xs pre.length c).D,[@&(zA cs),@&(zB xs),@&(.int (pre.length:Nat)),@&(zB c.st),@&(.bool c.w),@&(zB c.wi)],(yN xs pre.length c).D,?_,rfl,?_,rfl],λh=>nomatch h]
   ·unfold yN Cl.D ji
    let iu:zB xs=.tuple (xs.map .int):=rfl
    rw[iu]
    rwa[zB c.st=A,zB c.wi=B,xs.map PyData.int=X,xs.contains (pre.length:Int)=ci]
    cases hw:c.w with
    |true=>push_cast [ja1]
    |false=>push_cast [ja1,hin,hal,zJ]
   ·rw[hy]
    simp only[xm,xo,xP,ui]
    rw[hnx,xv];rfl)
 rw[e,hy]
 have:(qS (cs.map Cl.D)).length=cs.length:=by simp[qS]
 rw[this];rfl
def ke (cf:CF):Prop:=∀ (cs:List Cl) (xs:List Int),cs.length<=1000->xs.length<=60->cf "with_wax" [.d (zA cs),.d (zB xs)]=zkR cs xs
def zit(cf:CF)(hh:K9 cf):ke λ_=>runI 2 [false,false] [] j7 cf:=λcs xs hl hx=>by
 let e1:=qZ (k:=1) (t:=.nm 0 2) (cond:=fYes) (elt:=(jce.ev cf).1) (ds:=xs.map .int) (U:= [@&(zA cs),@&(zB xs)]) (λ_=>true) (λx=>match x with | .int i=>.bool (Qi cs.length i) | _=>.none) (by
  intro x hx
  let(i,_,rfl):=xu.mp hx
  let e:=hh cs i hl
  refine#[[@&(zA cs),@&(zB xs),@&(.int i)],_,rfl,rfl,by simp,λ_=>#[.dat (.bool (Qi cs.length i)),[@&(zA cs),@&(zB xs),@&(.int i)],?_,rfl,by simp]]
  unfold Qi
  rwa[zA cs=B]
  push_cast [jce,e,wx])
 rw[jj,xw]at e1
 let em:(xs.map ((λx=>match x with | .int i=>PyData.bool (Qi cs.length i) | _=>.none)∘PyData.int))=(xs.map (Qi cs.length)).map .bool:=by rw[xw];rfl
 rw[em]at e1
 let hb1:=jM (xs.map (Qi cs.length))
 let ha:(xs.map (Qi cs.length)).all id=xs.all (Qi cs.length):=by rw[List.all_map];rfl
 let e2:=zis cf (cs:=cs) (xs:=xs)
 let hio:=Kk xs
 let hdl:=Tab.dedup_len xs
 let aq:(xs.map PyData.int).length=xs.length:=by simp
 let hz:xs.length<=1000000:=by lia
 let oa:((xs.map (Qi cs.length)).map PyData.bool).length<=1000000:=by simp;lia
 let t9:(qS (cs.map Cl.D)).length<=1000000:=by simp[qS];lia
 let hcl:(cs.map Cl.D).length<=1000000:=by simp;lia
 let d4:((jl xs cs).map Cl.D).map OV.d=(jl xs cs).map λc=>OV.d c.D:=by rw[xw];rfl
 unfold zkR kW
 rw[<- d4,<- ha]
 unfold zA zB at *
 rwa[(jl xs cs).map Cl.D=WW,(xs.map (Qi cs.length)).map PyData.bool=BB,xs.map (Qi cs.length)=B2,xs.map PyData.int=X,cs.map Cl.D=Y]
 cases hal:B2.all id with
 |false=>
  simp![j7,aq,hz,e1,hb1,oa,hal,sRaise]
 |true=>
  by_cases hd:(Tab.dedup xs).length<xs.length
  ·let ax:(((Tab.dedup xs).length:Int)==(xs.length:Int))=false:=by rw[x9];lia
   simp![j7,aq,hz,e1,hb1,oa,hal,Ye,hio,hx,hd,zJ,zM,ax,sRaise]
  ·let ax:(((Tab.dedup xs).length:Int)==(xs.length:Int))=true:=by rw[beq_iff_eq];lia
   let heq:(Tab.dedup xs).length=xs.length:=by lia
   simp![j7,aq,hz,e1,hb1,oa,hal,Ye,hio,hx,hd,zJ,zM,heq,e2,t9,hcl]
def Y2 (cf:CF):Prop:=∀ (cs:List Cl) (xs:List Int),cs.length<=1000->cf "_law_wax" [.d (zA cs),.d (zB xs)]=.ok (.l ((jl xs cs).map λc=>.d c.D)) [none,none]
def zg2(cf:CF):Y2 λ_=>runI 2 [false,false] [] JM cf:=λcs xs hl=>by
 let(ys,U',e,hy,rfl):=qL (k:=1) (t:=.nm 0 2) (cond:=fYes) (elt:=(jbf.ev cf).1) (ds:=zV cs.length) (U:= [@&(zA cs),@&(zB xs)])
  (λpre ys U=>ys=(yO xs cs pre.length).map Cl.D/\U= [@&(zA cs),@&(zB xs)]) #[rfl,rfl] (by
   rintro pre x post e ys U ⟨hy,rfl⟩
   let h1:(zV cs.length)[pre.length]?=some x:=by rw[e];simp
   let(hlt,rfl):=jf h1
   let hc:cs[pre.length]?=some cs[pre.length]:=xb hlt
   let a1:atI (cs.map Cl.D) (pre.length:Int)=some (cs[pre.length]).D:=qN (by rw[xf,hc];rfl)
   let hin:=yo xs (pre.length:Int)
   let hal:=JY xs
   let hnx:=Vz xs hc
   rwa[cs[pre.length]=c]
   let hcd:c.D=.tuple [zB c.st,.bool c.w,zB c.wi]:=rfl
   rw[hcd]at a1
   let b0:atI [zB c.st,PyData.bool c.w,zB c.wi] 0=some (zB c.st):=rfl
   let b1:atI [zB c.st,PyData.bool c.w,zB c.wi] 1=some (.bool c.w):=rfl
   let b2:atI [zB c.st,PyData.bool c.w,zB c.wi] 2=some (zB c.wi):=rfl
   refine#[[@&(zA cs),@&(zB xs),@&(.int (pre.length:Nat))],true,_,rfl,rfl,λ_=>#[.dat (yN xs pre.length c).D,[@&(zA cs),@&(zB xs),@&(.int (pre.length:Nat))],(yN xs pre.length c).D,?_,rfl,?_,rfl],λh=>nomatch h]
   ·unfold yN Cl.D ji
    let iu:zB xs=.tuple (xs.map .int):=rfl
    let lz:zA cs=.list (cs.map Cl.D):=rfl
    rw[iu,lz]
    rwa[cs.map Cl.D=Y,zB c.st=A,zB c.wi=B,xs.map PyData.int=X,xs.contains (pre.length:Int)=ci]
    cases hw:c.w with
    |true=>
     rw[hw]at a1 b0 b1 b2
     push_cast [jbf,a1,b0,b1,b2]
    |false=>
     rw[hw]at a1 b0 b1 b2
     push_cast [jbf,a1,b0,b1,b2,hin,hal,zJ]
   ·rw[hy]
    simp only[xm,xo,xP,ui]
    rw[hnx,xv];rfl)
 rw[zC]at hy
 subst hy
 let hz: -1000000<=(cs.length:Int)/\(cs.length:Int)<=1000000:=by lia
 let ao:cs.length<=1000000:=by lia
 let aq:(cs.map Cl.D).length=cs.length:=by simp
 let d4:((yO xs cs cs.length).map Cl.D).map OV.d=(jl xs cs).map λc=>OV.d c.D:=by rw[xw];rfl
 rw[<- d4]
 unfold zA at *
 rwa[(yO xs cs cs.length).map Cl.D=WW,cs.map Cl.D=Y]
 simp![JM,aq,hz,ao,zC,e]
def zmd (xs:List Int) (size:Nat):Str:=if xs.all (Qi size) then (if kW xs then "Twice" else "") else "NoCell"
def zeR(cf:CF)(hb:Bolt pots cs)(hd:d<pots) :
  runI 2 [false,false] [] ZW cf [.d (zA cs),.d (.int d)]=.ok (.d (.bool (cs.any (qh d)))) [none,none]:=by
 let(ys,U',e,hy,rfl):=qL (k:=1) (t:=.nm 0 2) (cond:=fYes) (elt:=(ja5.ev cf).1) (ds:=cs.map Cl.D) (U:= [@&(zA cs),@&(.int d)])
  (λpre ys U=>ys=((cs.take pre.length).map (qh d)).map .bool/\U= [@&(zA cs),@&(.int d)]) #[rfl,rfl] (by
   rintro pre x post e ys U ⟨hy,rfl⟩
   let hlt:pre.length<cs.length:=by have:=congrArg List.length e;simp at this;lia
   let iw:x=(cs[pre.length]).D:=by
    have:(cs.map Cl.D)[pre.length]?=some x:=by rw[e];simp
    rw[xf,xb hlt]at this
    simpa using this.symm
   let hc:=hb.2 _ (xI hlt)
   let hnx:(cs.take (pre.length+1)).map (qh d)=(cs.take pre.length).map (qh d)++ [qh d cs[pre.length]]:=by
    rw[xZ,xb hlt,xv];rfl
   rwa[cs[pre.length]=c]
   subst iw
   let hdl:d<c.st.length:=by rw[hc.sl];exact hd
   let a1:=jW (xs:=c.st) (d:=d) hdl
   let h9:c.st.getD d 0<=9:=by
    rw[xF,xb hdl]
    erw[(hc.sn _ (xI hdl)).2]
   let hq:(c.st.getD d 0==9)=decide (9<=c.st.getD d 0):=by
    rw[Bool.eq_iff_iff,beq_iff_eq,x0];lia
   refine#[[@&(zA cs),@&(.int d),some (.d c.D)],true,_,rfl,rfl,λ_=>#[.dat (.bool (qh d c)),[@&(zA cs),@&(.int d),some (.d c.D)],.bool (qh d c),?_,rfl,?_,rfl],λh=>nomatch h]
   ·unfold qh Cl.D ji
    rw[<- hq]
    rwa[c.st.getD d 0=g]
    let a0:atI [zB c.st,PyData.bool c.w,zB c.wi] 0=some (zB c.st):=rfl
    let a2:atI [zB c.st,PyData.bool c.w,zB c.wi] 1=some (.bool c.w):=rfl
    unfold zB at *
    rwa[c.st.map PyData.int=X,c.wi.map PyData.int=Y]
    cases hw:c.w with
    |true=>
     rw[hw]at a0 a2
     push_cast [ja5,a0,a2]
    |false=>
     rw[hw]at a0 a2
     simp![ja5,a0,a2,a1,zJ,zM]
   ·rw[hy]
    simp only[xm,xo,xP,ui]
    rw[hnx,xv];rfl)
 let ht:(cs.take (cs.map Cl.D).length)=cs:=by grind
 rw[ht]at hy
 subst hy
 let hz:cs.length<=1000000:=by have:=hb.1;lia
 let hb1:=vQ (cs.map (qh d))
 let ha:(cs.map (qh d)).any id=cs.any (qh d):=by rw[uI];rfl
 rw[ha]at hb1
 let aq:((cs.map (qh d)).map PyData.bool).length<=1000000:= ~~~hz
 unfold zA at *
 let fj:(cs.map Cl.D).length<=1000000:= ~~~hz
 rwa[(cs.map (qh d)).map PyData.bool=BB,cs.map Cl.D=X,cs.any (qh d)=b]
 push_cast [ZW,e,hb1,fj,aq]
def zb6(cf:CF)(d:Int):runI 2 [false,false] [] ZW cf [.d (zA []),.d (.int d)]=.ok (.d (.bool false)) [none,none]:=by
 push_cast [ZW,zA,qM,loopG,loopG,qt]
def zg0(cf:CF)(hl:st.length<=1000){d:Nat}{o0 o2 o4 o5:Option OV} :
  qM 1 (.nm 0 6) fYes (jap.ev cf).1 (zV st.length) [] [o0,@&(.int d),o2,@&(zB st),o4,o5]=.ok ((WJ d st).map .int,[o0,@&(.int d),o2,@&(zB st),o4,o5]):=by
 let e:=qZ (k:=1) (t:=.nm 0 6) (cond:=fYes) (elt:=(jap.ev cf).1) (ds:=zV st.length) (U:= [o0,@&(.int d),o2,@&(zB st),o4,o5]) (λ_=>true) (λx=>match x with | .int i=>.int (st.getD i.toNat 0+(if i.toNat=d then 1 else 0)) | _=>.none) (by
  intro x hx
  let(i,hi,rfl):=xu.mp hx
  let bx:i<st.length:= ~~~hi
  let a1:=jW (xs:=st) (d:=i) bx
  refine#[[o0,@&(.int d),o2,@&(zB st),o4,o5,@&(.int i)],_,rfl,rfl,by simp,λ_=>#[.dat (.int (st.getD i 0+(if i=d then 1 else 0))),[o0,@&(.int d),o2,@&(zB st),o4,o5,@&(.int i)],?_,rfl,by simp]]
  let hq:((i:Int)==(d:Int))=decide (i=d):=by
   rw[Bool.eq_iff_iff,beq_iff_eq,x0];lia
  unfold zB
  rwa[st.getD i 0=g,st.map PyData.int=X]
  by_cases hid:i=d
  ·subst hid
   simp![jap,a1,zJ,zM]
  ·let hn:((i:Int)==(d:Int))=false:=by rw[hq];simpa using hid
   simp![jap,a1,zJ,zM,hn,hid])
 rw[e,jj]
 unfold zV WJ
 rw[xw,xw]
 rfl
def zg1(cf:CF)(hp:pots<=1000)(hb:Bolt pots cs)(d:Nat) :
  runI 6 [false,false] [] ZH cf [.d (zA cs),.d (.int d)]=.ok (.l ((cs.map (qq d)).map λc=>.d c.D)) [none,none]:=by
 let(U',e,(o3,o4,o5,rfl)):=zY (t:=.tp (.cons (.nm 3 3) (.cons (.nm 4 4) (.cons (.nm 5 5) .nil)))) (body:=ja4.ex cf []) (ds:=cs.map Cl.D) (U:= [@&(zA cs),@&(.int d),some (.l []),none,none,none])
  (λpre U=>∃ o3 o4 o5:Option OV,U= [@&(zA cs),@&(.int d),some (.l (((cs.take pre.length).map (qq d)).map λc=>.d c.D)),o3,o4,o5]) #[_,_,_,rfl] (by
   rintro pre x post e U ⟨o3,o4,o5,rfl⟩
   let hlt:pre.length<cs.length:=by have:=congrArg List.length e;simp at this;lia
   let iw:x=(cs[pre.length]).D:=by
    have:(cs.map Cl.D)[pre.length]?=some x:=by rw[e];simp
    rw[xf,xb hlt]at this
    simpa using this.symm
   let hc:=hb.2 _ (xI hlt)
   let hnx:(cs.take (pre.length+1)).map (qq d)=(cs.take pre.length).map (qq d)++ [qq d cs[pre.length]]:=by
    rw[xZ,xb hlt,xv];rfl
   let hz:(((cs.take pre.length).map (qq d)).map λc=>OV.d c.D).length<1000000:=by
    have:=hb.1
    simp;lia
   rwa[cs[pre.length]=c]
   subst iw
   let hpl:(pre++ [c.D]).length=pre.length+1:=by simp
   rw[hpl,hnx,xv]
   let e1:=zg0 cf (st:=c.st) (by rw[hc.sl];exact hp) (d:=d) (o0:=some (.d (zA cs))) (o2:=some (.l (((cs.take pre.length).map (qq d)).map λc=>.d c.D))) (o4:=some (.d (.bool c.w))) (o5:=some (.d (zB c.wi)))
   let bf: -1000000<=(c.st.length:Int)/\(c.st.length:Int)<=1000000:=by rw[hc.sl];lia
   let ao:c.st.length<=1000000:=by rw[hc.sl];lia
   let oe:((WJ d c.st).map PyData.int).length<=1000000:=by simp[Yi];rw[hc.sl];lia
   rwa[((cs.take pre.length).map (qq d)).map (λc=>OV.d c.D)=AA]
   refine#[[@&(zA cs),@&(.int d),some (.l AA),@&(zB c.st),@&(.bool c.w),@&(zB c.wi)],[@&(zA cs),@&(.int d),some (.l (AA++ [.d (qq d c).D])),@&(zB (qq d c).st),@&(.bool c.w),@&(zB c.wi)],rfl,?_,_,_,_,rfl]
   unfold qq
   let c5:(c.st.map PyData.int).length=c.st.length:=by simp
   cases hw:c.w with
   |true=>
    simp![ja4,hw,Cl.D,ji,hz]
   |false=>
    rw[hw]at e1
    unfold zB at *
    rwa[c.st.map PyData.int=X]
    generalize hY:(WJ d c.st).map PyData.int=Y at *
    generalize hZ:c.wi.map PyData.int=ν at *
    simp![ja4,hw,Cl.D,ji,zB,c5,bf,ao,oe,e1,hz,zC]
    exact#[#[hY.symm,hZ.symm],hY.symm])
 let ht:(cs.take (cs.map Cl.D).length)=cs:=by grind
 rw[ht]at e
 unfold zA at *
 rwa[cs.map Cl.D=X,(cs.map (qq d)).map (λc=>OV.d c.D)=DD]
 push_cast [ZH,e]
def zeP(cf:CF)(d:Int):runI 6 [false,false] [] ZH cf [.d (zA []),.d (.int d)]=.ok (.l []) [none,none]:=by
 push_cast [ZH,zA,jp]
def VO (cf:CF):Prop:=(∀ (pots:Nat) (cs:List Cl) (d:Nat),Bolt pots cs->d<pots->cf "_law_full" [.d (zA cs),.d (.int d)]=.ok (.d (.bool (cs.any (qh d)))) [none,none])/\∀ d:Int,cf "_law_full" [.d (zA []),.d (.int d)]=.ok (.d (.bool false)) [none,none]
def zcU (cf:CF):Prop:=(∀ (pots:Nat) (cs:List Cl) (d:Nat),pots<=1000->Bolt pots cs->cf "_law_dip" [.d (zA cs),.d (.int d)]=.ok (.l ((cs.map (qq d)).map λc=>.d c.D)) [none,none])/\∀ d:Int,cf "_law_dip" [.d (zA []),.d (.int d)]=.ok (.l []) [none,none]
def yY{α:Type}{k:Nat}{t:IT}{elt:EM FV}(g f:α->PyData){xs:List α}{U:Gv}
  (hs:∀ a∈xs,∃ U2 u U4,tgF t (g a) (U++List.replicate k none)=some U2/\elt U2=.ok (u,U4)/\derS U4 u=some (f a)/\U4.take U.length=U) :
  qM k t fYes elt (xs.map g) [] U=.ok (xs.map f,U):=by
 let(ys,U',e,hy,rfl):=qL (k:=k) (cond:=fYes) (λpre ys U'=>ys=(xs.take pre.length).map f/\U'=U) (ds:=xs.map g) (U:=U) #[rfl,rfl] (by
  rintro pre d post e ys U' ⟨rfl,rfl⟩
  let hlen:pre.length<xs.length:=by
   have:=congrArg List.length e
   simp at this;lia
  let hd:d=g xs[pre.length]:=by
   let h1:(xs.map g)[pre.length]?=some d:=by rw[e];simp
   rw[xf,xb hlen]at h1
   erw[(Option.some.inj h1).symm]
  let(U2,u,U4,e1,e2,e3,e4):=hs xs[pre.length] (xI hlen)
  rw[<- hd]at e1
  refine#[U2,true,U2,e1,rfl,λ_=>#[u,U4,f xs[pre.length],e2,e3,?_,e4],λz=>nomatch z]
  rw[xm,xV,xZ,xv,xb hlen]
  rfl)
 rw[e]
 rw[hy]
 simp
def zjg{α:Type}{k:Nat}{t:IT}{ek ev:EM FV}(g:α->PyData)(ky:α->Str)(f:α->PyData){U:Gv}:∀(xs:List α)(acc:Ad),
  (∀ a∈xs,∃ U2 U4,tgF t (g a) (U++List.replicate k none)=some U2/\itD ek ev U2=.ok ((ky a,f a),U4)/\U4.take U.length=U) ->
  loopG k t fYes (itD ek ev) (λys y=>zW ys y.1 y.2) (xs.map g) acc U=.ok (zO acc (xs.map λa=>(ky a,f a)),U)
 |[],acc,_=>rfl
 |x::xs,acc,h=>by
  let(U2,U4,e1,e2,e3):=h x (by simp)
  let ih:=zjg g ky f (U:=U) xs (zW acc (ky x) (f x)) λa ha=>h a (by simp[ha])
  rw[xr,loopG,e1]
  simp only[fYes,e2,e3]
  erw[ih]
section
variable {β:Type}
def Yy{v:β}(h:n∉c.map (·.1)):zW c n v=c++ [(n,v)]:=by
 unfold zW
 grind
def valG_none{c:List (Str×β)}:zN c n=none↔n∉c.map (·.1):=by
 unfold zN
 rw[Option.map_eq_none_iff,List.find?_eq_none]
 constructor
 ·intro h z
  let(p,hp,e):=xu.mp z
  exact h p hp (~~~e)
 ·intro h p hp z
  exact h (xu.mpr #[p,hp,~~~z])
def jR(h:zN c n=some v):(n,v)∈c:=by
 unfold zN at h
 let(p,e,rfl):=uJ.mp h
 grind
def Vv(c:List (Str×β))(n:Str)(v:β):(zW c n v).map (·.1)=if n∈c.map (·.1) then c.map (·.1) else c.map (·.1)++ [n]:=by
 by_cases h:n∈c.map (·.1)
 ·rw[if_pos h]
  unfold zW
  rw[if_pos (by
   grind),xw]
  apply uA
  intro p hp
  show (if p.1=n then (p.1,v) else p).1=p.1
  split<;>rfl
 ·rw[if_neg h,Yy h];simp
def W7(h:(c.map (·.1)).Nodup)(n:Str)(v:β):((zW c n v).map (·.1)).Nodup:=by
 rw[Vv]
 split
 ·erw[h]
 next hn=>
  rw[xH]
  exact⟨h,by simp,λa ha b hb e=>hn (by
   grind)⟩
def W6(h:p∈zW c n v):p∈c∨p=(n,v):=by
 unfold zW at h
 split at h
 ·let(q,hq,e):=xu.mp h
  split at e
  next hn=>
   exact .inr (by rw[<- e,hn])
  ·exact .inl (by rw[<- e];exact hq)
 ·rcases xM.mp h with h | h
  ·erw[.inl h]
  ·exact .inr (~~~h)
def ww(v:β)(h:m≠n):zN (zW c n v) m=zN c m:=by
 unfold zN zW
 split
 ·congr 1
  rw[List.find?_map]
  have:((λp:Str×β=>decide (p.1=m))∘λp:Str×β=>if p.1=n then (p.1,v) else p)=λp=>decide (p.1=m):=by
   funext p
   show decide ((if p.1=n then (p.1,v) else p).1=m)=_
   split<;>rfl
  rw[this]
  cases q:c.find? λp=>decide (p.1=m) with
  |none=>rfl
  |some p=>
   grind
 grind
def Ky(c L:List (Str×β))(n:Str)(v:β):zO c (L++ [(n,v)])=zW (zO c L) n v:=by
 unfold zO;rw[List.foldl_append];rfl
def QT:∀(L c:List (Str×β)){m:Str},m∉L.map (·.1)->zN (zO c L) m=zN c m
 |[],c,m,_=>rfl
 |p::L,c,m,h=>by
  have:=QT L (zW c p.1 p.2) (λz=>h (by simp only[xr,xC];exact .inr z))
  rw[ww _ (λe=>h (by simp[e]))]at this
  erw[this]
def J1:∀(L c:List (Str×β)),(L.map (·.1)).Nodup->(∀ p∈L,p.1∉c.map (·.1))->zO c L=c++L
 |[],c,_,_=>by simp[zO]
 |p::L,c,h,hd=>by
  rw[xr,xB]at h
  let e:=Yy (v:=p.2) (hd p (by simp))
  let ih:=J1 L (c++ [p]) h.2 (λq hq z=>by
   rw[xv,xM]at z
   rcases z with z | z
   ·exact hd q (by simp[hq]) z
   ·have:q.1=p.1:= ~~~z
    exact h.1 (xu.mpr #[q,hq,this]))
  show zO (zW c p.1 p.2) L=_
  rw[e,show (c++ [(p.1,p.2)])=c++ [p] from rfl,ih];simp
def J0:∀(L:List (Str×β)){c:List (Str×β)}{p:Str×β},p∈zO c L->p∈c∨p∈L
 |[],c,p,h=>.inl h
 |x::L,c,p,h=>by
  rcases J0 L h with h | h
  ·rcases W6 h with h | h
   ·erw[.inl h]
   ·exact .inr (by simp[h])
  ·exact .inr (by simp[h])
def wo:∀(L:List (Str×β)){c:List (Str×β)},(c.map (·.1)).Nodup->((zO c L).map (·.1)).Nodup
 |[],_,h=>h
 |x::L,c,h=>wo L (W7 h x.1 x.2)
variable {γ:Type}(f:β->γ)
def zf3(c:List (Str×β))(n:Str):zN (c.map λp=>(p.1,f p.2)) n=(zN c n).map f:=by
 unfold zN
 rw[List.find?_map]
 have:((λp:Str×γ=>decide (p.1=n))∘λp:Str×β=>(p.1,f p.2))=λp=>decide (p.1=n):=rfl
 rw[this,Option.map_map,Option.map_map];rfl
def Yx(c:List (Str×β))(n:Str)(v:β):zW (c.map λp=>(p.1,f p.2)) n (f v)=(zW c n v).map λp=>(p.1,f p.2):=by
 unfold zW
 rw[uI]
 have:((λp:Str×γ=>decide (p.1=n))∘λp:Str×β=>(p.1,f p.2))=λp=>decide (p.1=n):=rfl
 rw[this]
 split
 ·rw[xw,xw]
  apply uA
  intro p _
  show (if p.1=n then (p.1,f v) else (p.1,f p.2))=_
  show _=((if p.1=n then (p.1,v) else p).1,f (if p.1=n then (p.1,v) else p).2)
  split<;>rfl
 ·rw[xv];rfl
def WR:∀(L c:List (Str×β)),zO (c.map λp=>(p.1,f p.2)) (L.map λp=>(p.1,f p.2))=(zO c L).map λp=>(p.1,f p.2)
 |[],_=>rfl
 |p::L,c=>by
  have:=WR L (zW c p.1 p.2)
  rw[<- Yx]at this
  erw[this]
def Ve(c:List (Str×β))(n:Str):qz (c.map λp=>(p.1,f p.2)) n=(qz c n).map λp=>(p.1,f p.2):=by
 unfold qz
 rw[List.filter_map];rfl
end
abbrev Cls:=List (Str×List Cl)
def frD(fr:List Bool):Aa:=fr.map .bool
def clD(c:Cls):Ad:=c.map λp=>(p.1,zA p.2)
def stA(fr:List Bool)(c:Cls):PyData:=stV (frD fr) (clD c)
def qd(c:Cls)(n:Str):List Cl:=(zN c n).getD []
def jh(p:Nat):Cl:=#[List.replicate p 0,false,List.replicate p 0]
def ql(c:Cl):Cl:=#[c.st,false,c.wi]
def zag(p:Nat):(jh p).D=jU p:=by
 unfold jh Cl.D ji zB jU zs
 simp
def zaK(p k:Nat):PyData.list (List.replicate k (jU p))=zA (List.replicate k (jh p)):=by
 unfold zA
 rw[uq,zag]
def Deed.fr:Deed->List Bool->List Bool
 |.dip _ k,fr=>fr.set k.toNat false
 |.brew k,fr=>fr.set k.toNat true
 |_,fr=>fr
def Deed.cl(p:Nat):Deed->Cls->Cls
 |.hang n k,c=>zW c n (List.replicate k.toNat (jh p))
 |.fold n,c=>qz c n
 |.twin n m,c=>zW c m (qd c n)
 |.wish n k sh,c=>zW c n (qy k.toNat sh (qd c n))
 |.wax n xs,c=>zW c n (jl xs (qd c n))
 |.dip ns k,c=>zO c (ns.map λn=>(n,(qd c n).map (qq k.toNat)))
 |.boil ns,c=>zO c (ns.map λn=>(n,(qd c n).map ql))
 |.brew _,c=>c
def QM(aa:Ab)(fr:List Bool)(c:Cls):Deed->Prop
 |.hang n k=>n∈aa/\zN c n=none/\0<=k/\k<=40
 |.fold n=>∃ cs,zN c n=some cs
 |.twin n m=>(∃ cs,zN c n=some cs)/\m∈aa/\zN c m=none
 |.wish n k sh=>∃ cs,zN c n=some cs/\0<=k/\k<cs.length/\sh.length=fr.length/\In9 sh
 |.wax n xs=>∃ cs,zN c n=some cs/\xs.all (Qi cs.length)=true/\kW xs=false/\xs.length<=60
 |.dip ns k=>0<=k/\k<fr.length/\fr[k.toNat]?=some true/\ns.Nodup/\ns.length<=60/\∀ n∈ns,∃ cs,zN c n=some cs/\cs.any (qh k.toNat)=false
 |.boil ns=>ns.Nodup/\ns.length<=60/\∀ n∈ns,∃ cs,zN c n=some cs
 |.brew k=>0<=k/\k<fr.length/\fr[k.toNat]?=some false
def Clo(p:Nat)(cs:List Cl):Prop:=cs.length<=40/\∀ c∈cs,Zk p c.st c.wi
structure StOk(aa:Ab)(p:Nat)(fr:List Bool)(c:Cls):Prop where
 hp:p<=12
 hl:fr.length=p
 hb:∀ q∈c,Clo p q.2
 nd:(c.map (·.1)).Nodup
 np:∀ q∈c,q.1∈aa
def WS:∀{l T:Ab},l.Nodup->(∀ x∈l,x∈T)->l.length<=T.length
 |[],_,_,_=>xS _
 |a::l,T,hn,hs=>by
  rw[xB]at hn
  let ha:=hs a (by simp)
  have:=WS hn.2 (λx hx=>by
   let hx2:=hs x (by simp[hx])
   let ax:x≠a:=λe=>hn.1 (e ▸ hx)
   exact (List.mem_erase_of_ne ax).mpr hx2)
  let h1:=List.length_erase_of_mem ha
  let h2:=List.length_pos_of_mem ha
  simp only[xo];lia
def StOk.len(h:StOk aa p fr c):c.length<=aa.length:=by
 have:=WS h.nd (λx hx=>by
  let(q,hq,rfl):=xu.mp hx
  exact h.np q hq)
 rwa [xl]at this
def StOk.clo(h:StOk aa p fr c)(e:zN c n=some cs):Clo p cs:=h.hb _ (jR e)
def StOk.bolt(h:StOk aa p fr c)(e:zN c n=some cs):Bolt p cs:=#[xD (h.clo e).1 (by decide),(h.clo e).2]
def qr(e:zN c n=some cs):qd c n=cs:=by unfold qd;rw[e];rfl
def zao(p:Nat):In9 (List.replicate p 0):=λx hx=>by
 have:=List.eq_of_mem_replicate hx
 lia
def zaM(hk:k<=40):Clo p (List.replicate k (jh p)):=⟨~~~hk,λc hc=>by
 rw[List.eq_of_mem_replicate hc]
 exact#[by simp[jh],by simp[jh],zao p,zao p]⟩
def zaN(h:Clo p cs):Clo p (cs.map ql):=⟨~~~h.1,λc hc=>by
 let(a,ha,rfl):=xu.mp hc
 have:=h.2 a ha
 exact#[this.sl,this.wl,this.sn,this.wn]⟩
def zdf(xs:List Int)(h:Clo p cs):Clo p (jl xs cs):=⟨xD (zf7 xs cs _) h.1,λc hc=>by
 let(i,_,e):=uC.mp hc
 cases q:cs[i]? with
 |none=>rw[q]at e;cases e
 |some c0=>
  rw[q]at e
  cases e
  have:=h.2 c0 (xO q)
  exact#[this.sl,this.wl,this.sn,this.wn]⟩
def zaO(h:Clo p cs)(h1:sh.length=p)(h2:In9 sh):Clo p (qy a sh cs):=by
 unfold qy
 cases q:cs[a]? with
 |none=>erw[h]
 |some c=>
  let ha:=(xa.mp q).1
  refine#[by have:=h.1;simp;lia,λx hx=>?_]
  rcases xM.mp hx with hx | hx
  ·erw[h.2 x (List.mem_of_mem_take hx)]
  ·rcases xC.mp hx with rfl | hx
   ·have:=h.2 c (xO q)
    exact#[this.sl,h1,this.sn,h2]
   ·erw[h.2 x (List.mem_of_mem_drop hx)]
def zde(h:Clo p cs)(hf:cs.any (qh d)=false):Clo p (cs.map (qq d)):=⟨~~~h.1,λc hc=>by
 let(a,ha,rfl):=xu.mp hc
 let k:=h.2 a ha
 let hn:qh d a=false:=by grind
 unfold qq
 split
 ·erw[k]
 next hw=>
  refine#[by rw[Yi];exact k.sl,k.wl,λx hx=>?_,k.wn]
  let(i,hi,rfl):=xu.mp hx
  let bx:i<a.st.length:= ~~~hi
  let g:a.st.getD i 0=a.st[i]:=by rw[xF,xb bx];rfl
  let b:=k.sn _ (xI bx)
  rw[g]
  split
  next e=>
   subst e
   unfold qh at hn
   let DY:a.w=false:= ~~~hw
   rw[DY,g]at hn
   simp at hn
   lia
  ·lia⟩
def StOk.put(h:StOk aa p fr c)(hn:n∈aa)(hb:Clo p cs):StOk aa p fr (zW c n cs):=⟨h.hp,h.hl,λq hq=>by
  rcases W6 hq with hq | rfl
  ·erw[h.hb q hq]
  ·exact hb,W7 h.nd _ _,λq hq=>by
  rcases W6 hq with hq | rfl
  ·erw[h.np q hq]
  ·exact hn⟩
def StOk.merge(h:StOk aa p fr c)(hL:∀ q∈L,q.1∈aa/\Clo p q.2):StOk aa p fr (zO c L):=⟨h.hp,h.hl,λq hq=>by
  rcases J0 L hq with hq | hq
  ·erw[h.hb q hq]
  ·exact (hL q hq).2,wo L h.nd,λq hq=>by
  rcases J0 L hq with hq | hq
  ·erw[h.np q hq]
  ·exact (hL q hq).1⟩
def StOk.step(h:StOk aa p fr c)(g:QM aa fr c d):StOk aa p (d.fr fr) (d.cl p c):=by
 cases d with
 |hang n k=>exact h.put g.1 (zaM (by have:=g.2.2.2;lia))
 |fold n=>
  refine#[h.hp,h.hl,λq hq=>h.hb q ((ur.mp hq).1),?_,λq hq=>h.np q ((ur.mp hq).1)]
  erw[h.nd.sublist (List.Sublist.map _ List.filter_sublist)]
 |twin n m=>
  let((cs,e),hm,_):=g
  show StOk aa p fr (zW c m (qd c n))
  rw[qr e]
  erw[h.put hm (h.clo e)]
 |wish n k sh=>
  let(cs,e,_,_,h1,h2):=g
  show StOk aa p fr (zW c n (qy k.toNat sh (qd c n)))
  rw[qr e]
  exact h.put (h.np _ (jR e)) (zaO (h.clo e) (by rw[h1,h.hl]) h2)
 |wax n xs=>
  let(cs,e,_):=g
  show StOk aa p fr (zW c n (jl xs (qd c n)))
  rw[qr e]
  erw[h.put (h.np _ (jR e)) (zdf xs (h.clo e))]
 |dip ns k=>
  let(_,_,_,_,_,hh):=g
  have:=h.merge (L:=ns.map λn=>(n,(qd c n).map (qq k.toNat))) (λq hq=>by
   let(n,hn,rfl):=xu.mp hq
   let(cs,e,hf):=hh n hn
   let hm:=h.np _ (jR e)
   refine#[hm,?_]
   show Clo p ((qd c n).map _)
   rw[qr e]
   exact zde (h.clo e) hf)
  exact#[this.hp,by show (fr.set _ _).length=p;rw[xK];exact h.hl,this.hb,this.nd,this.np]
 |boil ns=>
  let(_,_,hh):=g
  exact h.merge (L:=ns.map λn=>(n,(qd c n).map ql)) (λq hq=>by
   let(n,hn,rfl):=xu.mp hq
   let(cs,e):=hh n hn
   let hm:=h.np _ (jR e)
   refine#[hm,?_]
   show Clo p ((qd c n).map _)
   rw[qr e]
   exact zaN (h.clo e))
 |brew k=>exact#[h.hp,by show (fr.set _ _).length=p;rw[xK];exact h.hl,h.hb,h.nd,h.np]
def QD(cs:List Cl):(OV.l (cs.map λc=>.d c.D)).view=zA cs:=by
 have:=qm (cs.map Cl.D)
 rw[xw]at this
 erw[this]
def zZ(c:Cls)(n:Str):zN (clD c) n=(zN c n).map zA:=zf3 zA c n
def jL(c:Cls)(n:Str)(cs:List Cl):zW (clD c) n (zA cs)=clD (zW c n cs):=Yx zA c n cs
def JJ (cf:CF):Prop:=∀ cs:List Cl,cs.length<=1000->cf "boiled" [.d (zA cs)]=.ok (.l ((cs.map ql).map λc=>.d c.D)) [none]
def kt(cf:CF):JJ λ_=>runI 1 [false] [] WX cf:=λcs hl=>by
 let e:=yY (k:=3) (t:=.tp (.cons (.nm 0 1) (.cons (.nm 1 2) (.cons (.nm 2 3) .nil)))) (elt:=(jcb.ev cf).1) Cl.D (λc=>(ql c).D) (xs:=cs) (U:= [@&(zA cs)]) (by
  intro c hc
  refine#[[@&(zA cs),@&(zB c.st),@&(.bool c.w),@&(zB c.wi)],.dat (ql c).D,[@&(zA cs),@&(zB c.st),@&(.bool c.w),@&(zB c.wi)],rfl,?_,rfl,rfl]
  unfold ql Cl.D ji
  push_cast [jcb,cs1])
 let hz:(cs.map Cl.D).length<=1000000:=by simp;lia
 let d4:(cs.map λc=>(ql c).D).map OV.d=(cs.map ql).map λc=>OV.d c.D:=by rw[xw,xw];rfl
 rw[<- d4]
 unfold zA at *
 push_cast [WX,e,hz,cs1]
def K8 (cf:CF):Prop:=∀ (fr:List Bool) (cl:Ad) (d:Nat),d<fr.length->cf "check_dye" [.d (stV (frD fr) cl),.d (.int d)]=.ok (.d .none) [none,none]
def zjj(cf:CF):K8 λ_=>runI 2 [false,false] [] Qv cf:=λfr cl d hd=>by
 let h1:=qO (frD fr) cl
 let hz:(frD fr).length=fr.length:=by simp[frD]
 let h2:(0:Int)<=(d:Int):=by lia
 let h3:(d:Int)<(fr.length:Int):=by lia
 push_cast [Qv,h1,hz,h2,h3,cs1]
def zdp{α:Type}[DecidableEq α]:∀{l acc:List α},l.Nodup->(∀ x∈l,x∉acc)->l.foldl PyProof.Rows.step_dedup acc=acc++l
 |[],acc,_,_=>by simp
 |x::l,acc,hn,hd=>by
  rw[xB]at hn
  let e:PyProof.Rows.step_dedup acc x=acc++ [x]:=by
   unfold PyProof.Rows.step_dedup
   rw[if_neg]
   intro z
   let(y,hy,q):=List.any_eq_true.mp z
   exact hd x (by simp) (by rw[<- eq_of_beq q];exact hy)
  rw[List.foldl_cons,e,zdp hn.2 (λy hy z=>by
   grind)]
  simp
def wd{α:Type}[DecidableEq α]{l:List α}(h:l.Nodup):Tab.dedup l=l:=by
 unfold Tab.dedup
 rw[zdp h (by simp)];rfl
def ZG (cf:CF):Prop:=∀ (fr:Aa) (cl:Ad) (ns:Ab) (v:PyData),(v=qJ ns∨v=.list (ns.map .str))->ns.Nodup->ns.length<=60->(∀ n∈ns,(zN cl n).isSome=true)->cf "check_names" [.d (stV fr cl),.d v]=.ok (.d .none) [none,none]
def za2(cf:CF)(hh:νc cf):ZG λ_=>runI 3 [false,false] [] ZC cf:=λfr cl ns v hv hn hl ha=>by
 let(U',e,(o2,rfl)):=zY (t:=.nm 2 2) (body:=jcd.ex cf []) (ds:=ns.map .str) (U:= [@&(stV fr cl),@&v,none])
  (λpre U=>∃ o2:Option OV,U= [@&(stV fr cl),@&v,o2]) #[_,rfl] (by
   rintro pre x post e U ⟨o2,rfl⟩
   let hx:x∈ns.map PyData.str:=by rw[e];simp
   let(n,hm,rfl):=xu.mp hx
   let e1:=hh fr cl n
   rw[if_pos (ha n hm)]at e1
   refine#[_,[@&(stV fr cl),@&v,@&(.str n)],rfl,?_,_,rfl]
   push_cast [jcd,e1,cs1])
 let hs:=vg ns
 let hd:=wd hn
 let aq:(ns.map PyData.str).length=ns.length:=by simp
 unfold qJ at hv
 unfold ZC
 let hz:ns.length<=1000000:=by lia
 rcases hv with rfl | rfl <;>
 dsimp! [e,zej,yg,hs,hd,hl,aq,hz,zJ,zM,zE]
def ZE(U:Gv)(F:Aa):q8 U (.dat (.list F))=some F:=rfl
def zad (cf:CF):Prop:=∀ (fr:List Bool) (cl:Ad) (d:Nat) (b:Bool),d<fr.length->cf "with_pot" [.d (stV (frD fr) cl),.d (.int d),.d (.bool b)]=.ok (.d (stV (frD (fr.set d b)) cl)) [none,none,none]
def zj2(cf:CF)(hs:QG cf):zad λ_=>runI 4 [false,false,false] [] Jf cf:=λfr cl d b hd=>by
 let h1:=qO (frD fr) cl
 let h2:=qj (frD fr) cl
 let hz:((frD fr).map OV.d).length=fr.length:=by simp[frD]
 let e1:=hs (.list (frD (fr.set d b))) (.dict (cl.map dK))
 let hw:=wZ (frD (fr.set d b)) cl
 let af:((frD fr).map OV.d).set d (.d (.bool b))=(frD (fr.set d b)).map OV.d:=by
  unfold frD
  rw[ua,ua]
 let hv:=qm (frD (fr.set d b))
 let hg:(frD fr)[d]?=some (.bool fr[d]):=by unfold frD;rw[xf,xb hd];rfl
 let h4:¬ ((d:Int)<0):=by lia
 let h5:(d:Int)<(fr.length:Int):=by lia
 let h6:(d:Int).toNat=d:=by lia
 let h7:(0:Int)<=(d:Int):=by lia
 let hi:ixN ((frD fr).map OV.d).length (d:Int)=some d:=by
  unfold ixN
  rw[hz,if_pos h7,if_pos h5,h6]
 dsimp! [Jf,ZE,h1,h2,e1,hw,af,hv,hg,hi,hz,h4,h5,h6,h7,zE,ixN]
def YV (cf:CF):Prop:=∀ (fr:List Bool) (cl:Ad) (d:Nat),fr[d]?=some false->cf "behind_brew" [.d (stV (frD fr) cl),.d (.list [.int d])]=.ok (.d (stV (frD (fr.set d true)) cl)) [none,none]
def Yf{d:Nat}(h:fr[d]?=some b):atI (frD fr) (d:Int)=some (.bool b):=qN (by unfold frD;rw[xf,h];rfl)
def zgt(cf:CF)(hd:K8 cf)(hp:zad cf):YV λ_=>runI 3 [false,false] [] Zx cf:=λfr cl d h=>by
 let hlt:=(xa.mp h).1
 let e1:=hd fr cl d hlt
 let e2:=hp fr cl d true hlt
 let h1:=qO (frD fr) cl
 let h2:=Yf h
 push_cast [Zx,e1,e2,h1,h2,h3,cs1]
def YY (cf:CF):Prop:=∀ (fr:Aa) (cl:Ad) (n:Str),(zN cl n).isSome=true->(cl.map (·.1)).Nodup->cl.length<=1000->(∀ p∈cl,PyData.strOk p.1=true)->PyData.strOk n=true->cf "behind_fold" [.d (stV fr cl),.d (.list [.str n])]=.ok (.d (stV fr (qz cl n))) [none,none]
def yk (cf:CF) (h1:zeo "Stand" "cloths" D=some (.dict (cl.map dK))) (ay:PyData.strOk n=true){o1:Option OV}:∀ (xs acc:Ad),(∀ p∈xs,zN cl p.1=some p.2/\PyData.strOk p.1=true) ->
  loopG 1 (.nm 0 3) (jag.ev cf) (itD (jax.ev cf).1 (jay.ev cf).1) (λys y=>zW ys y.1 y.2) (xs.map λp=>.str p.1) acc [@&D,o1,@&(.str n)]=.ok (zO acc (qz xs n),[@&D,o1,@&(.str n)])
 |[],acc,_=>rfl
 |p::xs,acc,h=>by
  let hv:=(h p (by simp)).1
  let h2:=zT cl
  let hy:lay 20 (.str p.1)=true:=(h p (by simp)).2
  let hy2:lay 20 (.str n)=true:=ay
  let hq:PyData.eqv (.str p.1) (.str n)=decide (p.1=n):=by
   show (p.1==n)=_
   grind
  let Cg:PyData.eqv (.str n) (.str n)=true:=by
   show (n==n)=true
   simp
  let et:tgF (.nm 0 3) (PyData.str p.1) ([@&D,o1,@&(.str n)]++List.replicate 1 none)=some [@&D,o1,@&(.str n),@&(.str p.1)]:=rfl
  rw[xr,loopG,et]
  by_cases hn:p.1=n
  ·let ec:jag.ev cf [@&D,o1,@&(.str n),@&(.str p.1)]=.ok (false,[@&D,o1,@&(.str n),@&(.str p.1)]):=by
    push_cast [jag,hy,hy2,hq,Cg,hn,cs1]
   let ed:qz (p::xs) n=qz xs n:=by
    unfold qz
    grind
   simp only[ec]
   rw[ed]
   exact yk cf h1 ay xs acc λq hq=>h q (by simp[hq])
  ·let ec:jag.ev cf [@&D,o1,@&(.str n),@&(.str p.1)]=.ok (true,[@&D,o1,@&(.str n),@&(.str p.1)]):=by
    push_cast [jag,hy,hy2,hq,Cg,hn,cs1]
   let ei:itD (jax.ev cf).1 (jay.ev cf).1 [@&D,o1,@&(.str n),@&(.str p.1)]=.ok ((p.1,p.2),[@&D,o1,@&(.str n),@&(.str p.1)]):=by
    dsimp! [itD,jax,jay,h1,h2,hv]
   let ed:qz (p::xs) n=p::qz xs n:=by
    unfold qz
    rw[uj,if_pos (~~~hn)]
   simp only[ec,ei]
   rw[ed]
   exact yk cf h1 ay xs (zW acc p.1 p.2) λq hq=>h q (by simp[hq])
def QU{β:Type}:∀{c:List (Str×β)}{p:Str×β},(c.map (·.1)).Nodup->p∈c->zN c p.1=some p.2
 |q::c,p,hn,hp=>by
  rw[xr,xB]at hn
  unfold zN
  rw[xY]
  by_cases e:q.1=p.1
  ·rcases xC.mp hp with rfl | hp
   ·simp
   ·erw[absurd (xu.mpr #[p,hp,e.symm]) hn.1]
  ·rcases xC.mp hp with rfl | hp
   ·erw[absurd rfl e]
   ·have:=QU hn.2 hp
    unfold zN at this
    simpa [e] using this
def zgN(cf:CF)(hs:QG cf)(hh:νc cf):YY λ_=>runI 3 [false,false] [] Zy cf:=λfr cl n h hn hl hk ay=>by
 let h1:=qj fr cl
 let h2:=zT cl
 let h3:=qO fr cl
 let e1:=hh fr cl n
 rw[if_pos h]at e1
 let e2:=hs (.list fr) (.dict ((qz cl n).map dK))
 let hw:=wZ fr (qz cl n)
 let hv:=ja (qz cl n)
 let e3:=yk cf h1 (n:=n) ay (o1:=some (.d (.list [.str n]))) cl [] (λp hp=>#[QU hn hp,hk p hp])
 let e4:=J1 (qz cl n) [] (hn.sublist (List.Sublist.map _ List.filter_sublist)) (by simp)
 rw[e4,uO]at e3
 let h5:atI [PyData.str n] 0=some (.str n):=rfl
 let hz:(cl.map λp=>PyData.str p.1).length<=1000000:=by simp;lia
 rwa[stV fr cl=D,stV fr (qz cl n)=D2]
 generalize hDG:qz cl n=DG at *
 generalize hKY:(cl.map λp=>PyData.str p.1)=KY at *
 rwa[cl.map dK=CD]
 unfold Zy
 rwa[jag=B1,jax=B2,jay=B3]
 let ao:cl.length<=1000000:=by lia
 dsimp! [e1,e2,e3,h1,h2,h3,h5,hw,hv,hz,ao,hKY,zE]
def Y8 (cf:CF):Prop:=∀ (fr:Aa) (cl:Ad) (n m:Str) (v:PyData),Nm m->zN cl n=some v->zN cl m=none->cl.length<=1000->cf "behind_twin" [.d (stV fr cl),.d (.list [.str n,.str m])]=.ok (.d (stV fr (zW cl m v))) [none,none]
def zim(cf:CF)(hw:Qk cf)(hh:νc cf)(hc:QF cf):Y8 λ_=>runI 4 [false,false] [] ZA cf:=λfr cl n m v hm h hq hl=>by
 let e1:=hh fr cl n
 rw[if_pos (by rw[h];rfl)]at e1
 let e2:=hc fr cl m hm hq
 let e3:cf "with_cloths" [.d (stV fr cl),.d (.dict ([(m,v)].map dK))]=.ok (.d (stV fr (zW cl m v))) [none,none]:=hw fr cl [(m,v)] (by simp;lia)
 let h1:=qj fr cl
 let h2:=zT cl
 let hv:=ja [(m,v)]
 rwa[stV fr cl=D,stV fr (zW cl m v)=D2,PyData.dict ([(m,v)].map dK)=MD,cl.map dK=CD]
 dsimp! [ZA,e1,e2,e3,h,h1,h2,hv,zE]
def Y9 (cf:CF):Prop:=∀ (fr:Aa) (cl:Ad) (n:Str) (cs:List Cl) (xs:List Int),zN cl n=some (zA cs)->cs.length<=1000->xs.length<=60->xs.all (Qi cs.length)=true->kW xs=false->cl.length<=1000->cf "behind_wax" [.d (stV fr cl),.d (.list [.str n,zB xs])]=.ok (.d (stV fr (zW cl n (zA (jl xs cs))))) [none,none]
def zir(cf:CF)(hw:Qk cf)(hh:νc cf)(hx:ke cf):Y9 λ_=>runI 4 [false,false] [] Qd cf:=λfr cl n cs xs h hc my hx2 mx hl=>by
 let e1:=hh fr cl n
 rw[if_pos (by rw[h];rfl)]at e1
 let e2:=hx cs xs hc my
 unfold zkR at e2
 rw[if_pos hx2,mx,if_neg (by decide)]at e2
 let e3:cf "with_cloths" [.d (stV fr cl),.d (.dict ([(n,zA (jl xs cs))].map dK))]=.ok (.d (stV fr (zW cl n (zA (jl xs cs))))) [none,none]:=hw fr cl [(n,zA (jl xs cs))] (by simp;lia)
 let h1:=qj fr cl
 let h2:=zT cl
 let hv:=ja [(n,zA (jl xs cs))]
 let hb:=QD (jl xs cs)
 rwa[stV fr cl=D,stV fr (zW cl n (zA (jl xs cs)))=D2,PyData.dict ([(n,zA (jl xs cs))].map dK)=MD,cl.map dK=CD,OV.l ((jl xs cs).map λc=>.d c.D)=WL,zA (jl xs cs)=WB,zA cs=BB,zB xs=XX]
 dsimp! [Qd,e1,e2,e3,h,h1,h2,hv,hb,zE]
def VT (cf:CF):Prop:=∀ (fr:Aa) (cl:Ad) (n:Str) (p:Nat) (cs:List Cl) (a:Nat) (xs:List Int),zN cl n=some (zA cs)->Bolt p cs->p<=1000->a<cs.length->xs.length=p->In9 xs->cl.length<=1000->cf "behind_wish" [.d (stV fr cl),.d (.list [.str n,.int a,zB xs])]=.ok (.d (stV fr (zW cl n (zA (qy a xs cs))))) [none,none]
def zf9(cf:CF)(hw:Qk cf)(hh:νc cf)(hx:kg cf):VT λ_=>runI 5 [false,false] [] ZB cf:=λfr cl n p cs a xs h hc hp ha my hx2 hl=>by
 let e1:=hh fr cl n
 rw[if_pos (by rw[h];rfl)]at e1
 let e2:=hx p cs a xs hp hc (by lia)
 unfold zga at e2
 let tm:zcn xs p=true:=by
  unfold zcn
  rw[xi,xG]
  exact#[~~~my,λx hm=>by have:=hx2 x hm;simp[in9,this]]
 rw[if_pos (by lia),if_pos tm,show ((a:Int)).toNat=a from by lia]at e2
 let e3:cf "with_cloths" [.d (stV fr cl),.d (.dict ([(n,zA (qy a xs cs))].map dK))]=.ok (.d (stV fr (zW cl n (zA (qy a xs cs))))) [none,none]:=hw fr cl [(n,zA (qy a xs cs))] (by simp;lia)
 let h1:=qj fr cl
 let h2:=zT cl
 let hv:=ja [(n,zA (qy a xs cs))]
 let hb:=QD (qy a xs cs)
 rwa[stV fr cl=D,stV fr (zW cl n (zA (qy a xs cs)))=D2,PyData.dict ([(n,zA (qy a xs cs))].map dK)=MD,cl.map dK=CD,OV.l ((qy a xs cs).map λc=>.d c.D)=WL,zA (qy a xs cs)=WB,zA cs=BB,zB xs=XX,(a:Int)=AA]
 dsimp! [ZB,e1,e2,e3,h,h1,h2,hv,hb,zE]
def zi0{α:Type}(x:α):atI [x] 0=some x:=rfl
def VD (cf:CF):Prop:=∀ (fr:Aa) (c:Cls) (ns:Ab),ns.Nodup->ns.length<=60->(∀ n∈ns,∃ cs,zN c n=some cs/\cs.length<=1000)->c.length<=1000->cf "behind_boil" [.d (stV fr (clD c)),.d (.list [qJ ns])]=.ok (.d (stV fr (clD (zO c (ns.map λn=>(n,(qd c n).map ql)))))) [none,none]
def vZ(c:Cls)(f:List Cl->List Cl){ns:Ab}(hn:ns.Nodup):zO [] (ns.map λn=>(n,zA (f (qd c n))))=ns.map λn=>(n,zA (f (qd c n))):=by
 have:=J1 (ns.map λn=>(n,zA (f (qd c n)))) [] (by rw[xw];simpa [Function.comp_def] using hn) (by simp)
 simpa using this
def Vn(c:Cls)(f:List Cl->List Cl)(ns:Ab):zO (clD c) (ns.map λn=>(n,zA (f (qd c n))))=clD (zO c (ns.map λn=>(n,f (qd c n)))):=by
 have:=WR zA (ns.map λn=>(n,f (qd c n))) c
 rw[xw]at this
 erw[this]
def zdc(cf:CF)(hw:Qk cf)(Br:ZG cf)(hx:JJ cf):VD λ_=>runI 3 [false,false] [] Zw cf:=λfr c ns hn hl ha hc=>by
 let e1:=Br fr (clD c) ns _ (.inl rfl) hn hl (λn hm=>by
  let(cs,e,_):=ha n hm
  rw[zZ,e];rfl)
 let e3:=hw fr (clD c) (ns.map λn=>(n,zA ((qd c n).map ql))) (by simp[clD];lia)
 rw[Vn c (·.map ql)]at e3
 let h1:=qj fr (clD c)
 let h2:=zT (clD c)
 let e2:=zjg (k:=1) (t:=.nm 0 3) (ek:=(jbl.ev cf).1) (ev:=(jbm.ev cf).1) PyData.str id (λn=>zA ((qd c n).map ql)) (U:= [@&(stV fr (clD c)),@&(.list [qJ ns]),@&(qJ ns)]) ns [] (by
  intro n hm
  let(cs,e,hcl):=ha n hm
  let ev:=hx cs hcl
  let vb:=QD (cs.map ql)
  let b7:zN (clD c) n=some (zA cs):=by rw[zZ,e];rfl
  rw[qr e]
  refine#[_,[@&(stV fr (clD c)),@&(.list [qJ ns]),@&(qJ ns),@&(.str n)],rfl,?_,rfl]
  rwa[stV fr (clD c)=D,(clD c).map dK=CD,OV.l ((cs.map ql).map λc=>.d c.D)=WL,zA (cs.map ql)=WB,zA cs=BB]
  dsimp! [itD,jbl,jbm,ev,vb,b7,h1,h2,zE])
 let ek:=vZ c (·.map ql) hn
 dsimp only [id]at e2
 rw[ek]at e2
 let hv:=ja (ns.map λn=>(n,zA ((qd c n).map ql)))
 let hz:(ns.map PyData.str).length<=1000000:=by simp;lia
 rwa[stV fr (clD c)=D,stV fr (clD (zO c (ns.map λn=>(n,(qd c n).map ql))))=D2,(ns.map λn=>(n,zA ((qd c n).map ql)))=ML]
 unfold Zw
 rwa[jbl=B1,jbm=B2]
 unfold qJ at *
 rwa[ns.map PyData.str=NS]
 dsimp! [e1,e2,e3,zi0,hv,hz,zE]
def YX (cf:CF):Prop:=∀ (fr:List Bool) (c:Cls) (ns:Ab) (d:Nat),d<13->fr.length<=12->fr[d]?=some true->ns.Nodup->ns.length<=60->(∀ n∈ns,∃ cs,zN c n=some cs/\Bolt fr.length cs/\cs.any (qh d)=false)->c.length<=1000->cf "behind_dip" [.d (stV (frD fr) (clD c)),.d (.list [qJ ns,.int d])]=.ok (.d (stV (frD (fr.set d false)) (clD (zO c (ns.map λn=>(n,(qd c n).map (qq d))))))) [none,none]
def zgz(cf:CF)(hw:Qk cf)(Br:ZG cf)(EC:K8 cf)(mz:zad cf)(hx:yQ cf):YX λ_=>runI 5 [false,false] [] Qc cf:=λfr c ns d h0 hf hfd hn hl ha hc=>by
 let hlt:=(xa.mp hfd).1
 let e0:=EC fr (clD c) d hlt
 let e1:=Br (frD fr) (clD c) ns _ (.inl rfl) hn hl (λn hm=>by
  let(cs,e,_):=ha n hm
  rw[zZ,e];rfl)
 let e3:=hw (frD fr) (clD c) (ns.map λn=>(n,zA ((qd c n).map (qq d)))) (by simp[clD];lia)
 rw[Vn c (·.map (qq d))]at e3
 let e4:=mz fr (clD (zO c (ns.map λn=>(n,(qd c n).map (qq d))))) d false hlt
 let h1:=qj (frD fr) (clD c)
 let h2:=zT (clD c)
 let h3:=qO (frD fr) (clD c)
 let h4:=Yf hfd
 let e2:=zjg (k:=1) (t:=.nm 0 5) (ek:=(jbn.ev cf).1) (ev:=(jbo.ev cf).1) PyData.str id (λn=>zA ((qd c n).map (qq d))) (U:= [@&(stV (frD fr) (clD c)),@&(.list [qJ ns,.int d]),@&(qJ ns),@&(.int d),none]) ns [] (by
  intro n hm
  let(cs,e,EH,Ey):=ha n hm
  let ev:=hx.1 fr.length cs d (by lia) EH hlt
  rw[Ey,if_neg (by decide)]at ev
  let vb:=QD (cs.map (qq d))
  let b7:zN (clD c) n=some (zA cs):=by rw[zZ,e];rfl
  rw[qr e]
  refine#[_,[@&(stV (frD fr) (clD c)),@&(.list [qJ ns,.int d]),@&(qJ ns),@&(.int d),none,@&(.str n)],rfl,?_,rfl]
  rwa[stV (frD fr) (clD c)=D,(clD c).map dK=CD,OV.l ((cs.map (qq d)).map λc=>.d c.D)=WL,zA (cs.map (qq d))=WB,zA cs=BB]
  dsimp! [itD,jbn,jbo,ev,vb,b7,h1,h2,zE])
 let ek:=vZ c (·.map (qq d)) hn
 dsimp only [id]at e2
 rw[ek]at e2
 let hv:=ja (ns.map λn=>(n,zA ((qd c n).map (qq d))))
 let hz:(ns.map PyData.str).length<=1000000:=by simp;lia
 rwa[stV (frD fr) (clD c)=D,stV (frD (fr.set d false)) (clD (zO c (ns.map λn=>(n,(qd c n).map (qq d)))))=D3,stV (frD fr) (clD (zO c (ns.map λn=>(n,(qd c n).map (qq d)))))=D2,(ns.map λn=>(n,zA ((qd c n).map (qq d))))=ML,frD fr=F]
 unfold Qc
 rwa[jbn=B1,jbo=B2]
 unfold qJ at *
 rwa[ns.map PyData.str=NS,(d:Int)=I]
 dsimp! [e0,e1,e2,e3,e4,h3,h4,hv,hz,zE]
structure K7(cf:CF):Prop where
 hang:YZ cf
 fold:YY cf
 twin:Y8 cf
 wish:VT cf
 wax:Y9 cf
 dip:YX cf
 boil:VD cf
 brew:YV cf
def w5 (cf:CF):Prop:=∀ (aa:Ab) (p:Nat) (fr:List Bool) (c:Cls) (d:Deed),aa.length<=60->(∀ n∈aa,Nm n)->StOk aa p fr c->QM aa fr c d->cf "behind" [.d (stA fr c),.d d.D]=.ok (.d (stA (d.fr fr) (d.cl p c))) [none,none]
def zaL(cf:CF)(h:K7 cf):w5 λ_=>runI 5 [false,false] [] qp cf:=λaa p fr c d hpl m6 S G=>by
 let hcl:=S.len
 let hdl:(clD c).length<=1000:=by simp[clD];lia
 unfold stA
 cases d with
 |hang n k=>
  let(hn,hv,ck,c9):=G
  let(j,rfl):=xx ck
  let e1:=h.hang (frD fr) (clD c) n j (m6 n hn) (by rw[zZ,hv];rfl) (by simp[frD];have:=S.hl;have:=S.hp;lia) hdl (by lia)
  let Ez:(frD fr).length=p:=by simp[frD];exact S.hl
  rw[Ez,zaK,show zO (clD c) [(n,zA (List.replicate j (jh p)))]=zW (clD c) n (zA (List.replicate j (jh p))) from rfl,jL]at e1
  show _=RF.ok (.d (stV (frD fr) (clD (zW c n (List.replicate (j:Int).toNat (jh p)))))) [none,none]
  rw[show (j:Int).toNat=j from by lia]
  show runI 5 [false,false] [] qp cf [.d (stV (frD fr) (clD c)),.d (.tuple [.str "hang",.str n,.int j])]=_
  rwa[stV (frD fr) (clD c)=D,stV (frD fr) (clD (zW c n (List.replicate j (jh p))))=D2]
  dsimp! [qp,e1,zE,Zj,List.lookup]
 |fold n=>
  let(cs,hv):=G
  let e1:=h.fold (frD fr) (clD c) n (by rw[zZ,hv];rfl) (by simpa [clD,Function.comp_def] using S.nd) hdl (λq hq=>by
   let(z,hz,rfl):=xu.mp hq
   exact (m6 _ (S.np z hz)).ok) (m6 _ (S.np _ (jR hv))).ok
  rw[show qz (clD c) n=clD (qz c n) from Ve zA c n]at e1
  show runI 5 [false,false] [] qp cf [.d (stV (frD fr) (clD c)),.d (.tuple [.str "fold",.str n])]=RF.ok (.d (stV (frD fr) (clD (qz c n)))) [none,none]
  rwa[stV (frD fr) (clD c)=D,stV (frD fr) (clD (qz c n))=D2]
  dsimp! [qp,e1,zE,Zj,List.lookup]
 |twin n m=>
  let((cs,hv),hm,hvm):=G
  let e1:=h.twin (frD fr) (clD c) n m (zA cs) (m6 m hm) (by rw[zZ,hv];rfl) (by rw[zZ,hvm];rfl) hdl
  rw[jL]at e1
  show runI 5 [false,false] [] qp cf [.d (stV (frD fr) (clD c)),.d (.tuple [.str "twin",.str n,.str m])]=RF.ok (.d (stV (frD fr) (clD (zW c m (qd c n))))) [none,none]
  rw[qr hv]
  rwa[stV (frD fr) (clD c)=D,stV (frD fr) (clD (zW c m cs))=D2]
  dsimp! [qp,e1,zE,Zj,List.lookup]
 |wish n k sh=>
  let(cs,hv,ck,c9,g6,cz):=G
  let(j,rfl):=xx ck
  let e1:=h.wish (frD fr) (clD c) n p cs j sh (by rw[zZ,hv];rfl) (S.bolt hv) (by have:=S.hp;lia) (by lia) (by rw[g6,S.hl]) cz hdl
  rw[jL]at e1
  show runI 5 [false,false] [] qp cf [.d (stV (frD fr) (clD c)),.d (.tuple [.str "wish",.str n,.int j,zB sh])]=RF.ok (.d (stV (frD fr) (clD (zW c n (qy (j:Int).toNat sh (qd c n)))))) [none,none]
  rw[qr hv,show (j:Int).toNat=j from by lia]
  rwa[stV (frD fr) (clD c)=D,stV (frD fr) (clD (zW c n (qy j sh cs)))=D2,zB sh=SD]
  dsimp! [qp,e1,zE,Zj,List.lookup]
 |wax n xs=>
  let(cs,hv,my,hx2,mx):=G
  let e1:=h.wax (frD fr) (clD c) n cs xs (by rw[zZ,hv];rfl) (S.bolt hv).1 mx my hx2 hdl
  rw[jL]at e1
  show runI 5 [false,false] [] qp cf [.d (stV (frD fr) (clD c)),.d (.tuple [.str "wax",.str n,zB xs])]=RF.ok (.d (stV (frD fr) (clD (zW c n (jl xs (qd c n)))))) [none,none]
  rw[qr hv]
  rwa[stV (frD fr) (clD c)=D,stV (frD fr) (clD (zW c n (jl xs cs)))=D2,zB xs=SD]
  dsimp! [qp,e1,zE,Zj,List.lookup]
 |dip ns k=>
  let(ck,c9,hfd,hn,hl,ha):=G
  let(j,rfl):=xx ck
  rw[show (j:Int).toNat=j from by lia]at *
  let hlf:=S.hl
  let hlp:=S.hp
  let e1:=h.dip fr c ns j (by lia) (by lia) hfd hn hl (λn hm=>by
   let(cs,e,hf):=ha n hm
   exact#[cs,e,by rw[hlf];exact S.bolt e,hf]) (by lia)
  show runI 5 [false,false] [] qp cf [.d (stV (frD fr) (clD c)),.d (.tuple [.str "dip",qJ ns,.int j])]=RF.ok (.d (stV (frD (fr.set (j:Int).toNat false)) (clD (zO c (ns.map λn=>(n,(qd c n).map (qq (j:Int).toNat))))))) [none,none]
  rw[show (j:Int).toNat=j from by lia]
  rwa[stV (frD fr) (clD c)=D,stV (frD (fr.set j false)) (clD (zO c (ns.map λn=>(n,(qd c n).map (qq j)))))=D2,qJ ns=SD]
  dsimp! [qp,e1,zE,Zj,List.lookup]
 |boil ns=>
  let(hn,hl,ha):=G
  let e1:=h.boil (frD fr) c ns hn hl (λn hm=>by
   let(cs,e):=ha n hm
   exact#[cs,e,(S.bolt e).1]) (by lia)
  show runI 5 [false,false] [] qp cf [.d (stV (frD fr) (clD c)),.d (.tuple [.str "boil",qJ ns])]=RF.ok (.d (stV (frD fr) (clD (zO c (ns.map λn=>(n,(qd c n).map ql)))))) [none,none]
  rwa[stV (frD fr) (clD c)=D,stV (frD fr) (clD (zO c (ns.map λn=>(n,(qd c n).map ql))))=D2,qJ ns=SD]
  dsimp! [qp,e1,zE,Zj,List.lookup]
 |brew k=>
  let(ck,c9,hfd):=G
  let(j,rfl):=xx ck
  rw[show (j:Int).toNat=j from by lia]at *
  let e1:=h.brew fr (clD c) j hfd
  show runI 5 [false,false] [] qp cf [.d (stV (frD fr) (clD c)),.d (.tuple [.str "brew",.int j])]=RF.ok (.d (stV (frD (fr.set (j:Int).toNat true)) (clD c))) [none,none]
  rw[show (j:Int).toNat=j from by lia]
  rwa[stV (frD fr) (clD c)=D,stV (frD (fr.set j true)) (clD c)=D2]
  dsimp! [qp,e1,zE,Zj,List.lookup]
def zH(p:Nat)(fr:List Bool)(c:Cls):Aa:= [.int p,.list (frD fr),.dict ((clD c).map dK)]
abbrev zG(p:Nat)(fr:List Bool)(c:Cls):PyData:=.list (zH p fr c)
def kL2(p:Nat)(fr:List Bool)(c:Cls):atI (zH p fr c) 2=some (.dict ((clD c).map dK)):=rfl
def Wg (cf:CF):Prop:=∀ cs:List Cl,cs.length<=1000->cf "_law_boil" [.d (zA cs)]=.ok (.l ((cs.map ql).map λc=>.d c.D)) [none]
def zb4(cf:CF):Wg λ_=>runI 1 [false] [] QX cf:=λcs hl=>by
 let(ys,U',e,hy,rfl):=qL (k:=1) (t:=.nm 0 1) (cond:=fYes) (elt:=(jbs.ev cf).1) (ds:=zV cs.length) (U:= [@&(zA cs)])
  (λpre ys U=>ys=((cs.take pre.length).map ql).map Cl.D/\U= [@&(zA cs)]) #[rfl,rfl] (by
   rintro pre x post e ys U ⟨rfl,rfl⟩
   let h1:(zV cs.length)[pre.length]?=some x:=by rw[e];simp
   let(hlt,rfl):=jf h1
   let hc:=xb hlt
   let a1:atI (cs.map Cl.D) (pre.length:Int)=some (cs[pre.length]).D:=qN (by rw[xf,hc];rfl)
   let hnx:(cs.take (pre.length+1)).map ql=(cs.take pre.length).map ql++ [ql cs[pre.length]]:=by
    rw[xZ,hc,xv];rfl
   rwa[cs[pre.length]=c]
   refine#[[@&(zA cs),@&(.int (pre.length:Nat))],true,_,rfl,rfl,λ_=>#[.dat (ql c).D,[@&(zA cs),@&(.int (pre.length:Nat))],(ql c).D,?_,rfl,?_,rfl],λh=>nomatch h]
   ·unfold ql
    let lz:zA cs=.list (cs.map Cl.D):=rfl
    rw[lz]
    unfold Cl.D ji at *
    rwa[zB c.st=A,zB c.wi=B,(cs.map λc=>PyData.tuple [zB c.st,PyData.bool c.w,zB c.wi])=Y]
    push_cast [jbs,a1,Qg,Qh,cs1]
   ·simp only[xm,xo,xP,ui]
    rw[hnx,xv];rfl)
 rw[zC,uz]at hy
 subst hy
 let hz: -1000000<=(cs.length:Int)/\(cs.length:Int)<=1000000:=by lia
 let ao:cs.length<=1000000:=by lia
 let aq:(cs.map Cl.D).length=cs.length:=by simp
 let d4:((cs.map ql).map Cl.D).map OV.d=(cs.map ql).map λc=>OV.d c.D:=by rw[xw];rfl
 rw[<- d4]
 unfold zA at *
 rwa[(cs.map ql).map Cl.D=WW,cs.map Cl.D=Y]
 simp![QX,aq,hz,ao,zC,e]
def Wo(n:Nat)(h:∀ i:Nat,∃ U2 u U4,tgF t (.int i) (U++List.replicate k none)=some U2/\B U2=.ok (u,U4)/\derS U4 u=some y/\U4.take U.length=U):qM k t fYes B (zV n) [] U=.ok (List.replicate n y,U):=by
 let e:=yY (λi:Nat=>.int i) (λ_=>y) (xs:=List.range n) (U:=U) (λi _=>h i)
 have:(List.range n).map (λi:Nat=>PyData.int i)=zV n:=rfl
 rw[this]at e
 rw[e,List.map_const',ux]
def Y0 (cf:CF):Prop:=∀ p:Nat,p<=12->cf "_law_kept" [.d (.int p)]=.ok (.l ((zH p (List.replicate p true) []).map .d)) [none]
def zgY(cf:CF):Y0 λ_=>runI 1 [false] [] QZ cf:=λp hp=>by
 let e:=Wo (k:=1) (t:=.nm 0 1) (B:=(ja7.ev cf).1) (U:= [@&(.int p)]) (y:=.bool true) p (λi=>#[[@&(.int p),@&(.int i)],.dat (.bool true),[@&(.int p),@&(.int i)],rfl,by push_cast [ja7,cs1],rfl,rfl])
 let hz: -1000000<=(p:Int)/\(p:Int)<=1000000:=by lia
 let ao:p<=1000000:=by lia
 let fq:(p:Int).toNat=p:=by lia
 let v1:=qm (List.replicate p (.bool true))
 let v2:(OV.m []).view=.dict []:=rfl
 let hk:zH p (List.replicate p true) []= [.int p,.list (List.replicate p (.bool true)),.dict []]:=by
  unfold zH frD clD
  rw[uq];rfl
 rw[hk]
 unfold QZ
 rwa[ja7=B1,List.replicate p (PyData.bool true)=RP]
 generalize hI:(p:Int)=I at *
 dsimp! [e,hz,ao,fq,v1,v2,zC,zE]
def VC (cf:CF):Prop:=∀ p s:Nat,p<=12->s<=40->cf "_law_blank" [.d (.int p),.d (.int s)]=.ok (.l ((List.replicate s (jh p)).map λc=>.d c.D)) [none,none]
def zdb(cf:CF):VC λ_=>runI 3 [false,false] [] Qn cf:=λp s hp hs=>by
 let e1:=Wo (k:=1) (t:=.nm 0 3) (B:=(ja2.ev cf).1) (U:= [@&(.int p),@&(.int s),none]) (y:=.int 0) p (λi=>#[[@&(.int p),@&(.int s),none,@&(.int i)],.dat (.int 0),[@&(.int p),@&(.int s),none,@&(.int i)],rfl,by push_cast [ja2,cs1],rfl,rfl])
 let e2:=Wo (k:=1) (t:=.nm 0 3) (B:=(ja3.ev cf).1) (U:= [@&(.int p),@&(.int s),@&(zs p)]) (y:=jU p) s (λi=>#[[@&(.int p),@&(.int s),@&(zs p),@&(.int i)],.dat (jU p),[@&(.int p),@&(.int s),@&(zs p),@&(.int i)],rfl,by unfold jU;generalize zs p=ν;push_cast [ja3,cs1],rfl,rfl])
 let hz: -1000000<=(p:Int)/\(p:Int)<=1000000:=by lia
 let ao:p<=1000000:=by lia
 let fq:(p:Int).toNat=p:=by lia
 let gz: -1000000<=(s:Int)/\(s:Int)<=1000000:=by lia
 let E7:s<=1000000:=by lia
 let E8:(s:Int).toNat=s:=by lia
 let Cd:zs p=.tuple (List.replicate p (.int 0)):=rfl
 let d4:(List.replicate s (jh p)).map (λc=>OV.d c.D)=(List.replicate s (jU p)).map OV.d:=by
  rw[uq,uq,zag]
 let c5:(List.replicate p (PyData.int 0)).length<=1000000:=by simp;lia
 rw[d4]
 rw[Cd]at e2
 unfold Qn
 rwa[ja2=B1,ja3=B2,List.replicate p (PyData.int 0)=ν0,List.replicate s (jU p)=ν1]
 generalize hI:(p:Int)=I at *
 generalize hJ:(s:Int)=J at *
 simp![e1,e2,hz,ao,fq,gz,E7,E8,c5,zC,zE]
def zc4{α:Type}(a b:α):atI [a,b] 0=some a:=rfl
def zc5{α:Type}(a b:α):atI [a,b] 1=some b:=rfl
def zk0{α:Type}(a b c d:α):atI [a,b,c,d] 0=some a:=rfl
def zk1{α:Type}(a b c d:α):atI [a,b,c,d] 1=some b:=rfl
def zk2{α:Type}(a b c d:α):atI [a,b,c,d] 2=some c:=rfl
def zk3{α:Type}(a b c d:α):atI [a,b,c,d] 3=some d:=rfl
def VA(sh:List Int)(h:cs[a]?=some c):qy a sh cs=cs.set a #[c.st,c.w,sh]:=by
 unfold qy
 rw[h]
 let hlt:=(xa.mp h).1
 rw[List.set_eq_take_append_cons_drop,if_pos hlt]
def Qf (cf:CF):Prop:=∀ (aa:Ab) (p:Nat) (fr:List Bool) (c:Cls) (d:Deed),aa.length<=60->StOk aa p fr c->QM aa fr c d->cf "_law_did" [.d (zG p fr c),.d d.D]=.ok (.l ((zH p (d.fr fr) (d.cl p c)).map .d)) [none,none]
structure ziT(cf:CF):Prop where
 blank:VC cf
 wax:Y2 cf
 dip:zcU cf
 boil:Wg cf
def zbR{f:List Cl->List Cl}(hn:n∉pre):zO c ((pre++ [n]).map λm=>(m,f (qd c m)))=zW (zO c (pre.map λm=>(m,f (qd c m)))) n (f (qd c n))/\zN (zO c (pre.map λm=>(m,f (qd c m)))) n=zN c n:=by
 constructor
 ·rw[xv]
  erw[Ky c _ n _]
 ·refine QT _ _ ?_
  rw[xw]
  simpa [Function.comp_def] using hn
def Vo{β:Type}:∀(L c:List (Str×β)),(zO c L).length<=c.length+L.length
 |[],c=>by simp[zO]
 |p::L,c=>by
  let h1:=Vo L (zW c p.1 p.2)
  let h2:=wf c p.1 p.2
  show (zO (zW c p.1 p.2) L).length<=_
  simp only[xo];lia
def zdq(cf:CF)(body:IB){F:List Cl->List Cl}{c:Cls}{K D S:OV}{o4:Option OV}(hc:c.length<=1000) :
  ∀(ns:Ab),ns.Nodup->ns.length<=60 ->
  (∀ n∈ns,∀(c1:Cls)(o5:Option OV),c1.length<=2000->zN c1 n=zN c n->body.ex cf [] [some K,some D,some S,some (.m (clD c1)),o4,@&(.str n)]=.ok (.next,[some K,some D,some S,some (.m (clD (zW c1 n (F (qd c n))))),o4,@&(.str n)])) ->
  ∃ o5,jp (.nm 5 5) (body.ex cf []) (ns.map .str) [some K,some D,some S,some (.m (clD c)),o4,none]=.ok (.next,[some K,some D,some S,some (.m (clD (zO c (ns.map λn=>(n,F (qd c n)))))),o4,o5]):=by
 intro ns hn hl hb
 let(U',e,(o5,rfl)):=zY (t:=.nm 5 5) (ds:=ns.map .str) (U:= [some K,some D,some S,some (.m (clD c)),o4,none])
  (λpre U=>∃ o5:Option OV,U= [some K,some D,some S,some (.m (clD (zO c ((ns.take pre.length).map λn=>(n,F (qd c n)))))),o4,o5]) #[none,rfl] (by
   rintro pre x post e U ⟨o5,rfl⟩
   let hlt:pre.length<ns.length:=by have:=congrArg List.length e;simp at this;lia
   let hx:x=.str ns[pre.length]:=by
    have:(ns.map PyData.str)[pre.length]?=some x:=by rw[e];simp
    rw[xf,xb hlt]at this
    simpa using this.symm
   subst hx
   let hnx:ns.take (pre.length+1)=ns.take pre.length++ [ns[pre.length]]:=by rw[xZ,xb hlt];rfl
   let Ed:ns[pre.length]∉ns.take pre.length:=λz=>by
    let h2:(ns.take pre.length++ [ns[pre.length]]).Nodup:=by rw[<- hnx];exact hn.sublist (List.take_sublist _ _)
    rw[xH]at h2
    exact h2.2.2 _ z _ (by simp) rfl
   let(BM,rp):=zbR (c:=c) Ed
   let hlc:=Vo ((ns.take pre.length).map λn=>(n,F (qd c n))) c
   let hb1:=hb ns[pre.length] (xI hlt) (zO c ((ns.take pre.length).map λn=>(n,F (qd c n)))) o5 (by
    rw[xl,xJ]at hlc;lia) rp
   refine#[[some K,some D,some S,some (.m (clD (zO c ((ns.take pre.length).map λn=>(n,F (qd c n)))))),o4,@&(.str ns[pre.length])],_,rfl,hb1,@&(.str ns[pre.length]),?_]
   rw[xm,xV,hnx,BM])
 refine#[o5,?_]
 rw[e,xl,uz]
def zjf(cf:CF)(h:ziT cf):Qf λ_=>runI 6 [false,false] [] qQ cf:=λaa p fr c d hpl S G=>by
 let hcl:=S.len
 let hlf:=S.hl
 let hlp:=S.hp
 let hz:(clD c).length<1000000:=by simp[clD];lia
 let k0:atI (zH p fr c) 0=some (.int p):=rfl
 let k1:atI (zH p fr c) 1=some (.list (frD fr)):=rfl
 let k2:atI (zH p fr c) 2=some (.dict ((clD c).map dK)):=rfl
 let hu:=zT (clD c)
 let hK:zG p fr c=.list (zH p fr c):=rfl
 rw[hK]
 cases d with
 |hang n k=>
  let(hn,hv,ck,c9):=G
  let(j,rfl):=xx ck
  let e1:=h.blank p j hlp (by lia)
  let vb:=QD (List.replicate j (jh p))
  let ep:=jL c n (List.replicate j (jh p))
  let v1:=qm (frD fr)
  let v2:=ja (clD (zW c n (List.replicate j (jh p))))
  let hf:zH p ((Deed.hang n j).fr fr) ((Deed.hang n j).cl p c)= [.int p,.list (frD fr),.dict ((clD (zW c n (List.replicate j (jh p)))).map dK)]:=rfl
  let hD:(Deed.hang n j).D=.tuple [.str "hang",.str n,.int j]:=rfl
  rw[hf,hD]
  rwa[zH p fr c=KL,OV.l ((List.replicate j (jh p)).map λc=>.d c.D)=WL,zA (List.replicate j (jh p))=WB,clD (zW c n (List.replicate j (jh p)))=C2,(clD c).map dK=CD,clD c=C1,frD fr=F,(j:Int)=J]
  unfold qQ
  rwa[qu=B1,qv=B2]
  dsimp! [k0,k1,k2,hu,e1,vb,ep,v1,v2,hz,Qg,vR,Qh,ZE,wq,ν9,JE,zE]
 |fold n=>
  let(cs,hv):=G
  let b7:zN (clD c) n=some (zA cs):=by rw[zZ,hv];rfl
  let ep:qz (clD c) n=clD (qz c n):=Ve zA c n
  let v1:=qm (frD fr)
  let v2:=ja (clD (qz c n))
  let hf:zH p ((Deed.fold n).fr fr) ((Deed.fold n).cl p c)= [.int p,.list (frD fr),.dict ((clD (qz c n)).map dK)]:=rfl
  let hD:(Deed.fold n).D=.tuple [.str "fold",.str n]:=rfl
  rw[hf,hD]
  rwa[zH p fr c=KL,clD (qz c n)=C2,(clD c).map dK=CD,clD c=C1,frD fr=F]
  unfold qQ
  rwa[qu=B1,qv=B2]
  dsimp! [k0,k1,k2,hu,b7,ep,v1,v2,hz,zc4,zc5,ZE,wq,ν9,YA,zE]
 |twin n m=>
  let((cs,hv),hm,hvm):=G
  let b7:zN (clD c) n=some (zA cs):=by rw[zZ,hv];rfl
  let ep:=jL c m cs
  let v1:=qm (frD fr)
  let v2:=ja (clD (zW c m cs))
  let hf:zH p ((Deed.twin n m).fr fr) ((Deed.twin n m).cl p c)= [.int p,.list (frD fr),.dict ((clD (zW c m cs)).map dK)]:=by
   show zH p fr (zW c m (qd c n))=_
   rw[qr hv];rfl
  let hD:(Deed.twin n m).D=.tuple [.str "twin",.str n,.str m]:=rfl
  rw[hf,hD]
  rwa[zH p fr c=KL,clD (zW c m cs)=C2,(clD c).map dK=CD,clD c=C1,frD fr=F]
  unfold qQ
  rwa[qu=B1,qv=B2]
  dsimp! [k0,k1,k2,hu,b7,ep,v1,v2,hz,Qg,vR,Qh,ZE,wq,ν9,JE,zE]
 |wax n xs=>
  let(cs,hv,my,hx2,mx):=G
  let b7:zN (clD c) n=some (zA cs):=by rw[zZ,hv];rfl
  let e1:=h.wax cs xs (S.bolt hv).1
  let vb:=QD (jl xs cs)
  let ep:=jL c n (jl xs cs)
  let v1:=qm (frD fr)
  let v2:=ja (clD (zW c n (jl xs cs)))
  let hf:zH p ((Deed.wax n xs).fr fr) ((Deed.wax n xs).cl p c)= [.int p,.list (frD fr),.dict ((clD (zW c n (jl xs cs))).map dK)]:=by
   show zH p fr (zW c n (jl xs (qd c n)))=_
   rw[qr hv];rfl
  let hD:(Deed.wax n xs).D=.tuple [.str "wax",.str n,zB xs]:=rfl
  rw[hf,hD]
  rwa[zH p fr c=KL,OV.l ((jl xs cs).map λc=>.d c.D)=WL,zA (jl xs cs)=WB,clD (zW c n (jl xs cs))=C2,(clD c).map dK=CD,clD c=C1,frD fr=F,zB xs=XX,zA cs=BB]
  unfold qQ
  rwa[qu=B1,qv=B2]
  dsimp! [k0,k1,k2,hu,b7,e1,vb,ep,v1,v2,hz,Qg,vR,Qh,ZE,wq,ν9,JE,zE]
 |wish n k sh=>
  let(cs,hv,ck,c9,g6,cz):=G
  let(j,rfl):=xx ck
  let hj:j<cs.length:=by lia
  let b7:zN (clD c) n=some (zA cs):=by rw[zZ,hv];rfl
  let m9:cs[j]?=some cs[j]:=xb hj
  let hws:=VA sh m9
  let ep:=jL c n (qy j sh cs)
  let v1:=qm (frD fr)
  let v2:=ja (clD (zW c n (qy j sh cs)))
  let v3:=qm (cs.map Cl.D)
  let a1:atI (cs.map Cl.D) (j:Int)=some (cs[j]).D:=qN (by rw[xf,m9];rfl)
  let hcd:(cs[j]).D=.tuple [zB (cs[j]).st,.bool (cs[j]).w,zB (cs[j]).wi]:=rfl
  let gj:((cs.map Cl.D).map OV.d)[j]?=some (.d (cs[j]).D):=by rw[xf,xf,m9];rfl
  let c8:((cs.map Cl.D).map OV.d).set j (.d (.tuple [zB (cs[j]).st,.bool (cs[j]).w,zB sh]))=((qy j sh cs).map Cl.D).map OV.d:=by
   rw[hws,ua,ua];rfl
  let v4:=qm ((qy j sh cs).map Cl.D)
  let hi:ixN ((cs.map Cl.D).map OV.d).length (j:Int)=some j:=by
   unfold ixN
   rw[if_pos (by lia),if_pos (by simp;lia)];simp
  let hf:zH p ((Deed.wish n j sh).fr fr) ((Deed.wish n j sh).cl p c)= [.int p,.list (frD fr),.dict ((clD (zW c n (qy j sh cs))).map dK)]:=by
   show zH p fr (zW c n (qy (j:Int).toNat sh (qd c n)))=_
   rw[qr hv,show (j:Int).toNat=j from by lia];rfl
  let hD:(Deed.wish n j sh).D=.tuple [.str "wish",.str n,.int j,zB sh]:=rfl
  let lz:zA cs=.list (cs.map Cl.D):=rfl
  let Bv:zA (qy j sh cs)=.list ((qy j sh cs).map Cl.D):=rfl
  rw[hf,hD]
  rw[lz]at b7
  rw[Bv]at ep
  let a2:atI ((cs.map Cl.D).map OV.d) (j:Int)=some (.d (cs[j]).D):=qN gj
  rw[hcd]at a1 a2 gj
  rwa[zH p fr c=KL,clD (zW c n (qy j sh cs))=C2,(qy j sh cs).map Cl.D=W2,(clD c).map dK=CD,clD c=C1,frD fr=F,zB sh=XX,zB (cs[j]).st=A1,zB (cs[j]).wi=A2,(cs[j]).w=A3]
  generalize hY:(cs.map Cl.D).map OV.d=Y at *
  rwa[cs.map Cl.D=Y1,(j:Int)=J]
  unfold qQ
  rwa[qu=B1,qv=B2]
  dsimp! [k0,k1,k2,hu,b7,a1,a2,gj,hY,c8,hi,ep,v1,v2,v3,v4,hz,zk0,zk1,zk2,zk3,Qg,vR,Qh,ZE,wq,ν9,JE,zE]
 |dip ns k=>
  let(ck,c9,hfd,hn,hl,ha):=G
  let(j,rfl):=xx ck
  rw[show (j:Int).toNat=j from by lia]at *
  let hj:j<fr.length:=by lia
  let af:((frD fr).map OV.d).set j (.d (.bool false))=(frD (fr.set j false)).map OV.d:=by
   unfold frD
   rw[ua,ua]
  let hg:((frD fr).map OV.d)[j]?=some (.d (.bool fr[j])):=by unfold frD;rw[xf,xf,xb hj];rfl
  let hi:ixN ((frD fr).map OV.d).length (j:Int)=some j:=by
   unfold ixN
   rw[if_pos (by lia),if_pos (by simp[frD];lia)];simp
  let(o5,e1):=zdq cf qu (F:=λl=>l.map (qq j)) (c:=c) (K:=.d (.list (zH p fr c))) (D:=.d (.tuple [.str "dip",qJ ns,.int j])) (S:=.l ((frD (fr.set j false)).map OV.d)) (o4:=none) (by lia) ns hn hl (by
   intro n hm c1 o5 dj og
   let(cs,e,hf):=ha n hm
   let q1:=h.dip.1 p cs j (by lia) (S.bolt e)
   let vb:=QD (cs.map (qq j))
   let ep:=jL c1 n (cs.map (qq j))
   let b7:zN (clD c1) n=some (zA cs):=by rw[zZ,og,e];rfl
   let bf:(clD c1).length<1000000:=by simp[clD];lia
   rw[qr e]
   rwa[clD (zW c1 n (cs.map (qq j)))=C2,clD c1=C1,OV.l ((cs.map (qq j)).map λc=>.d c.D)=WL,zA (cs.map (qq j))=WB,zA cs=BB,qJ ns=NS,(j:Int)=J,PyData.list (zH p fr c)=KP,OV.l ((frD (fr.set j false)).map OV.d)=SS]
   dsimp! [qu,q1,vb,ep,b7,bf,Qh,JE,zE])
  let v1:=qm (frD (fr.set j false))
  let v2:=ja (clD (zO c (ns.map λn=>(n,(qd c n).map (qq j)))))
  let hf:zH p ((Deed.dip ns j).fr fr) ((Deed.dip ns j).cl p c)= [.int p,.list (frD (fr.set j false)),.dict ((clD (zO c (ns.map λn=>(n,(qd c n).map (qq j))))).map dK)]:=by
   show zH p (fr.set (j:Int).toNat false) (zO c (ns.map λn=>(n,(qd c n).map (qq (j:Int).toNat))))=_
   rw[show (j:Int).toNat=j from by lia];rfl
  let hD:(Deed.dip ns j).D=.tuple [.str "dip",qJ ns,.int j]:=rfl
  let AE:(ns.map PyData.str).length<=1000000:=by simp;lia
  rw[hf,hD]
  rwa[zH p fr c=KL,clD (zO c (ns.map λn=>(n,(qd c n).map (qq j))))=C2,(clD c).map dK=CD,clD c=C1,frD (fr.set j false)=F2]
  generalize hFO:(frD fr).map OV.d=FO at *
  rwa[frD fr=F,fr[j]=g]
  unfold qQ
  rwa[qu=B1,qv=B2]
  unfold qJ at *
  rwa[ns.map PyData.str=NS,(j:Int)=J]
  dsimp! [k0,k1,k2,hu,e1,af,hg,hi,hFO,v1,v2,hz,AE,Qg,vR,Qh,ZE,wq,ν9,zE]
 |boil ns=>
  let(hn,hl,ha):=G
  let(o5,e1):=zdq cf qv (F:=λl=>l.map ql) (c:=c) (K:=.d (.list (zH p fr c))) (D:=.d (.tuple [.str "boil",qJ ns])) (S:=.l ((frD fr).map OV.d)) (o4:=none) (by lia) ns hn hl (by
   intro n hm c1 o5 dj og
   let(cs,e):=ha n hm
   let q1:=h.boil cs (S.bolt e).1
   let vb:=QD (cs.map ql)
   let ep:=jL c1 n (cs.map ql)
   let b7:zN (clD c1) n=some (zA cs):=by rw[zZ,og,e];rfl
   let bf:(clD c1).length<1000000:=by simp[clD];lia
   rw[qr e]
   rwa[clD (zW c1 n (cs.map ql))=C2,clD c1=C1,OV.l ((cs.map ql).map λc=>.d c.D)=WL,zA (cs.map ql)=WB,zA cs=BB,qJ ns=NS,PyData.list (zH p fr c)=KP,OV.l ((frD fr).map OV.d)=SS]
   dsimp! [qv,q1,vb,ep,b7,bf,JE,zE])
  let v1:=qm (frD fr)
  let v2:=ja (clD (zO c (ns.map λn=>(n,(qd c n).map ql))))
  let hf:zH p ((Deed.boil ns).fr fr) ((Deed.boil ns).cl p c)= [.int p,.list (frD fr),.dict ((clD (zO c (ns.map λn=>(n,(qd c n).map ql)))).map dK)]:=rfl
  let hD:(Deed.boil ns).D=.tuple [.str "boil",qJ ns]:=rfl
  let AE:(ns.map PyData.str).length<=1000000:=by simp;lia
  rw[hf,hD]
  rwa[zH p fr c=KL,clD (zO c (ns.map λn=>(n,(qd c n).map ql)))=C2,(clD c).map dK=CD,clD c=C1,frD fr=F]
  unfold qQ
  rwa[qu=B1,qv=B2]
  unfold qJ at *
  rwa[ns.map PyData.str=NS]
  dsimp! [k0,k1,k2,hu,e1,v1,v2,hz,AE,zc4,zc5,ZE,wq,ν9,zE]
 |brew k=>
  let(ck,c9,hfd):=G
  let(j,rfl):=xx ck
  rw[show (j:Int).toNat=j from by lia]at *
  let hj:j<fr.length:=by lia
  let af:((frD fr).map OV.d).set j (.d (.bool true))=(frD (fr.set j true)).map OV.d:=by
   unfold frD
   rw[ua,ua]
  let hg:((frD fr).map OV.d)[j]?=some (.d (.bool fr[j])):=by unfold frD;rw[xf,xf,xb hj];rfl
  let hi:ixN ((frD fr).map OV.d).length (j:Int)=some j:=by
   unfold ixN
   rw[if_pos (by lia),if_pos (by simp[frD];lia)];simp
  let v1:=qm (frD (fr.set j true))
  let v2:=ja (clD c)
  let hf:zH p ((Deed.brew j).fr fr) ((Deed.brew j).cl p c)= [.int p,.list (frD (fr.set j true)),.dict ((clD c).map dK)]:=by
   show zH p (fr.set (j:Int).toNat true) c=_
   rw[show (j:Int).toNat=j from by lia];rfl
  let hD:(Deed.brew j).D=.tuple [.str "brew",.int j]:=rfl
  rw[hf,hD]
  rwa[zH p fr c=KL]
  generalize u2:(clD c).map dK=CD at *
  rwa[clD c=C1,frD (fr.set j true)=F2]
  generalize hFO:(frD fr).map OV.d=FO at *
  rwa[frD fr=F,fr[j]=g]
  unfold qQ
  rwa[qu=B1,qv=B2,(j:Int)=J]
  dsimp! [k0,k1,k2,hu,af,hg,hi,hFO,v1,v2,hz,zc4,zc5,ZE,wq,ν9,zE]
def zgu{k:Nat}{t:IT}{cond:EM Bool}{elt:EM FV}(P:Nat->Bool){ds:Aa}{U:Gv}
  (h:∀(i:Nat)(d:PyData),ds[i]?=some d->∃ U2 U3,tgF t d (U++List.replicate k none)=some U2/\cond U2=.ok (P i,U3)/\U3.take U.length=U/\(P i=true->∃ u U4,elt U3=.ok (u,U4)/\derS U4 u=some (.int (i:Nat))/\U4.take U.length=U)) :
  qM k t cond elt ds [] U=.ok (qE ((List.range ds.length).filter P),U):=by
 let(ys,U',e,hy,rfl):=qL (k:=k) (λpre ys U'=>ys=qE ((List.range pre.length).filter P)/\U'=U) (ds:=ds) (U:=U) #[rfl,rfl] (by
  rintro pre d post e ys U' ⟨rfl,rfl⟩
  let hd:ds[pre.length]?=some d:=by rw[e];simp
  let(U2,U3,e1,e2,e3,h4):=h pre.length d hd
  refine#[U2,P pre.length,U3,e1,e2,λhp=>?_,λhp=>#[?_,e3]]
  ·let(u,U4,BM,rp,E9):=h4 hp
   refine#[u,U4,.int (pre.length:Nat),BM,rp,?_,E9]
   rw[xm,xV,ut,uH]
   unfold qE
   simp[hp]
  ·rw[xm,xV,ut,uH]
   simp[hp])
 rw[e,hy]
def rdP(fr:List Bool)(i:Nat):Bool:=fr.getD i false
def jn(fr:List Bool):Ac:=(List.range fr.length).filter (rdP fr)
def zbX(cf:CF)(fr:List Bool){o0:Option OV}:qM 2 (.tp (.cons (.nm 0 1) (.cons (.nm 1 2) .nil))) (jbi.ev cf) (jbj.ev cf).1 (qS (frD fr)) [] [o0]=.ok (qE (jn fr),[o0]):=by
 let e:=zgu (k:=2) (t:=.tp (.cons (.nm 0 1) (.cons (.nm 1 2) .nil))) (cond:=jbi.ev cf) (elt:=(jbj.ev cf).1) (rdP fr) (ds:=qS (frD fr)) (U:= [o0]) (by
  intro i d hd
  let(x,hx,rfl):=ZJ hd
  unfold frD at hx
  rw[xf]at hx
  cases hb:fr[i]? with
  |none=>rw[hb]at hx;cases hx
  |some b=>
   rw[hb]at hx
   cases hx
   let hr:rdP fr i=b:=by unfold rdP;rw[xF,hb];rfl
   rw[hr]
   refine#[[o0,@&(.int i),@&(.bool b)],[o0,@&(.int i),@&(.bool b)],rfl,?_,rfl,λ_=>#[.dat (.int i),[o0,@&(.int i),@&(.bool b)],?_,rfl,rfl]]
   ·generalize (i:Int)=I
    push_cast [jbi,cs1]
   ·generalize (i:Int)=I
    push_cast [jbj,cs1])
 rw[e]
 have:(qS (frD fr)).length=fr.length:=by simp[qS,frD]
 rw[this];rfl
def JL (cf:CF):Prop:=∀ (p:Int) (f:PyData) (dn un:Ao) (pl:Ad) (fr:List Bool) (cl:Ad),fr.length<=12->ZL f dn=stV (frD fr) cl->cf "House.ready" [hV p f dn un pl]=.ok (.l ((qE (jn fr)).map .d)) [some (hV p f dn un pl)]
def Kh(cf:CF)(hn:Jj cf):JL λ_=>runI 1 [true] [0] Zu cf:=λp f dn un pl fr cl hq hs=>by
 let e1:=hn p f dn un pl
 rw[hs]at e1
 let h1:=qO (frD fr) cl
 let e2:=zbX cf fr (o0:=some (hV p f dn un pl))
 let hl:(qS (frD fr)).length<=1000000:=by simp[qS,frD];lia
 let hl2:(frD fr).length<=1000000:=by simp[frD];lia
 let ay:hV p f dn un pl=.o "House" ["pots","first","done","undone","places"] [.d (.int p),.d f,.l (prs dn),.l (prs un),.m pl]:=rfl
 rwa[hV p f dn un pl=HH]
 subst ay
 unfold Zu
 dsimp! [e1,h1,e2,hl,hl2,zE,qi]
def QQ(cl:Ad):Ab:=qX (cl.map (·.1))
def Wc (cf:CF):Prop:=∀ (p:Int) (f:PyData) (dn un:Ao) (pl:Ad) (fr:Aa) (cl:Ad),cl.length<64->ZL f dn=stV fr cl->cf "House.names" [hV p f dn un pl]=.ok (.l (((QQ cl).map .str).map .d)) [some (hV p f dn un pl)]
def zbW(cf:CF)(hn:Jj cf):Wc λ_=>runI 1 [true] [0] Zt cf:=λp f dn un pl fr cl hl hs=>by
 let e1:=hn p f dn un pl
 rw[hs]at e1
 let h1:=qj fr cl
 let h2:=zT cl
 let ay:hV p f dn un pl=.o "House" ["pots","first","done","undone","places"] [.d (.int p),.d f,.l (prs dn),.l (prs un),.m pl]:=rfl
 let hk:QQ cl=qX (cl.map (·.1)):=rfl
 rw[hk]
 rwa[hV p f dn un pl=HH]
 subst ay
 dsimp! [Zt,e1,h1,h2,hl,zE,qi]
def j0(g:Cl->List Int)(cs:List Cl):Aa:=cs.map λc=>zB (g c)
def VL(nm:Str)(g:Cl->List Int)(cf:CF):Prop:=∀(p:Int)(f:PyData)(dn un:Ao)(pl:Ad)(fr:Aa)(cl:Ad)(n:Str)(cs:List Cl),cs.length<=1000->ZL f dn=stV fr cl->zN cl n=some (zA cs)->cf nm [hV p f dn un pl,.d (.str n)]=.ok (.l ((j0 g cs).map .d)) [some (hV p f dn un pl),none]
def Ki(cf:CF)(hc:Jh cf)(p:Int)(f:PyData)(dn un:Ao)(pl:Ad)(fr:Aa)(cl:Ad)(n:Str)(cs:List Cl)(hl:cs.length<=1000)(hq:ZL f dn=stV fr cl)(hv:zN cl n=some (zA cs)):runI 2 [true,false] [0] j4 cf [hV p f dn un pl,.d (.str n)]=.ok (.l ((j0 Cl.st cs).map .d)) [some (hV p f dn un pl),none]:=by
 let e1:=hc p f dn un pl fr cl n hq
 rw[hv]at e1
 let e2:=yY (k:=3) (t:=.tp (.cons (.nm 0 2) (.cons (.nm 1 3) (.cons (.nm 2 4) .nil)))) (elt:=(jb4.ev cf).1) Cl.D (λc=>zB c.st) (xs:=cs) (U:= [some (hV p f dn un pl),@&(.str n)]) (by
  intro c hc
  refine#[[some (hV p f dn un pl),@&(.str n),@&(zB c.st),@&(.bool c.w),@&(zB c.wi)],.dat (zB c.st),[some (hV p f dn un pl),@&(.str n),@&(zB c.st),@&(.bool c.w),@&(zB c.wi)],rfl,?_,rfl,rfl]
  push_cast [jb4,cs1])
 let hz:(cs.map Cl.D).length<=1000000:=by simp;lia
 let ay:hV p f dn un pl=.o "House" ["pots","first","done","undone","places"] [.d (.int p),.d f,.l (prs dn),.l (prs un),.m pl]:=rfl
 rwa[hV p f dn un pl=HH]
 subst ay
 unfold j4
 unfold zA j0 at *
 rwa[cs.map Cl.D=Y]
 dsimp! [e1,e2,hz,zE,qi]
def Kj(cf:CF)(hc:Jh cf)(p:Int)(f:PyData)(dn un:Ao)(pl:Ad)(fr:Aa)(cl:Ad)(n:Str)(cs:List Cl)(hl:cs.length<=1000)(hq:ZL f dn=stV fr cl)(hv:zN cl n=some (zA cs)):runI 2 [true,false] [0] j5 cf [hV p f dn un pl,.d (.str n)]=.ok (.l ((j0 Cl.wi cs).map .d)) [some (hV p f dn un pl),none]:=by
 let e1:=hc p f dn un pl fr cl n hq
 rw[hv]at e1
 let e2:=yY (k:=3) (t:=.tp (.cons (.nm 0 2) (.cons (.nm 1 3) (.cons (.nm 2 4) .nil)))) (elt:=(jb7.ev cf).1) Cl.D (λc=>zB c.wi) (xs:=cs) (U:= [some (hV p f dn un pl),@&(.str n)]) (by
  intro c hc
  refine#[[some (hV p f dn un pl),@&(.str n),@&(zB c.st),@&(.bool c.w),@&(zB c.wi)],.dat (zB c.wi),[some (hV p f dn un pl),@&(.str n),@&(zB c.st),@&(.bool c.w),@&(zB c.wi)],rfl,?_,rfl,rfl]
  push_cast [jb7,cs1])
 let hz:(cs.map Cl.D).length<=1000000:=by simp;lia
 let ay:hV p f dn un pl=.o "House" ["pots","first","done","undone","places"] [.d (.int p),.d f,.l (prs dn),.l (prs un),.m pl]:=rfl
 rwa[hV p f dn un pl=HH]
 subst ay
 unfold j5
 unfold zA j0 at *
 rwa[cs.map Cl.D=Y]
 dsimp! [e1,e2,hz,zE,qi]
def wxP(cs:List Cl)(i:Nat):Bool:=match cs[i]? with
 |some c=>c.w
 |none=>false
def wS(cs:List Cl):Ac:=(List.range cs.length).filter (wxP cs)
def We (cf:CF):Prop:=∀ (p:Int) (f:PyData) (dn un:Ao) (pl:Ad) (fr:Aa) (cl:Ad) (n:Str) (cs:List Cl),cs.length<=1000->ZL f dn=stV fr cl->zN cl n=some (zA cs)->cf "House.waxed" [hV p f dn un pl,.d (.str n)]=.ok (.l ((qE (wS cs)).map .d)) [some (hV p f dn un pl),none]
def zbY(cf:CF)(hc:Jh cf):We λ_=>runI 2 [true,false] [0] Zv cf:=λp f dn un pl fr cl n cs hl hq hv=>by
 let e1:=hc p f dn un pl fr cl n hq
 rw[hv]at e1
 let e2:=zgu (k:=4) (t:=.tp (.cons (.nm 0 2) (.cons (.tp (.cons (.nm 1 3) (.cons (.nm 2 4) (.cons (.nm 3 5) .nil)))) .nil))) (cond:=jb5.ev cf) (elt:=(jb6.ev cf).1) (wxP cs) (ds:=qS (cs.map Cl.D)) (U:= [some (hV p f dn un pl),@&(.str n)]) (by
  intro i d hd
  let(x,hx,rfl):=ZJ hd
  rw[xf]at hx
  cases hb:cs[i]? with
  |none=>rw[hb]at hx;cases hx
  |some c=>
   rw[hb]at hx
   cases hx
   let hr:wxP cs i=c.w:=by unfold wxP;rw[hb]
   rw[hr]
   refine#[[some (hV p f dn un pl),@&(.str n),@&(.int i),@&(zB c.st),@&(.bool c.w),@&(zB c.wi)],[some (hV p f dn un pl),@&(.str n),@&(.int i),@&(zB c.st),@&(.bool c.w),@&(zB c.wi)],rfl,?_,rfl,λ_=>#[.dat (.int i),[some (hV p f dn un pl),@&(.str n),@&(.int i),@&(zB c.st),@&(.bool c.w),@&(zB c.wi)],?_,rfl,rfl]]
   ·generalize (i:Int)=I
    push_cast [jb5,cs1]
   ·generalize (i:Int)=I
    push_cast [jb6,cs1])
 let t9:(qS (cs.map Cl.D)).length=cs.length:=by simp[qS]
 rw[t9]at e2
 let hz:cs.length<=1000000:=by lia
 let ao:(cs.map Cl.D).length=cs.length:=by simp
 let ay:hV p f dn un pl=.o "House" ["pots","first","done","undone","places"] [.d (.int p),.d f,.l (prs dn),.l (prs un),.m pl]:=rfl
 rwa[hV p f dn un pl=HH]
 subst ay
 unfold Zv wS
 unfold zA at *
 dsimp! [e1,e2,hz,ao,t9,zE,qi]
def QV (cf:CF):Prop:=∀ (p:Nat) (g:Cl->List Int) (cs:List Cl),p<=12->cs.length<=1000->(∀ c∈cs,(g c).length=p)->cf "_law_pictures" [.d (.list (j0 g cs)),.d (.list (j0 g cs))]=.ok (.d (.bool true)) [none,none]
def zeK(n:Nat)(g:Cl->List Int)(cs:List Cl):lay (n+2) (.list (j0 g cs))=true:=ZK λx h=>by
 let(c,_,rfl):=xu.mp h
 exact Jv λx h=>by let(i,_,rfl):=xu.mp h;exact zJ _ _
def Yv(cf:CF)(hs:Jk cf):QV λ_=>runI 2 [false,false] [] j1 cf:=λp g cs hp hl hg=>by
 let e:=yY (k:=1) (t:=.nm 0 2) (elt:=(jbx.ev cf).1) (λc=>zB (g c)) (λ_=>.bool true) (xs:=cs) (U:= [@&(.list (j0 g cs)),@&(.list (j0 g cs))]) (by
  intro c hc
  let h1:=hg c hc
  let e1:=hs (g c) p h1 (by lia)
  refine#[[@&(.list (j0 g cs)),@&(.list (j0 g cs)),@&(zB (g c))],.dat (.bool true),[@&(.list (j0 g cs)),@&(.list (j0 g cs)),@&(zB (g c))],rfl,?_,rfl,rfl]
  let aq:((g c).map PyData.int).length=p:= ~~~h1
  unfold zB at *
  simp![jbx,e1,aq,zE])
 let hy:=zeK 18 g cs
 let hq:=Ze hy
 let ha:=zc1 (ds:=j0 g cs)
 let hpl:(j0 g cs).map (λ_=>PyData.bool true)=cs.map λ_=>PyData.bool true:=by unfold j0;rw[xw];rfl
 rw[hpl]at ha
 let hz:(j0 g cs).length<=1000000:=by simp[j0];lia
 let ao:(cs.map λ_=>PyData.bool true).length<=1000000:=by simp;lia
 let D9:(cs.map λc=>zB (g c))=j0 g cs:=rfl
 rw[D9]at e
 unfold j1
 simp![e,hy,hq,ha,hz,ao,zE]
def ze3(cf:CF)(p:Nat)(fr:List Bool)(c:Cls)(hl:fr.length=p):qM 1 (.nm 0 8) (jbc.ev cf) (jbd.ev cf).1 (zV p) [] [o0,@&(zG p fr c),o2,o3,o4,o5,o6,o7]=.ok (qE (jn fr),[o0,@&(zG p fr c),o2,o3,o4,o5,o6,o7]):=by
 let e:=zgu (k:=1) (t:=.nm 0 8) (cond:=jbc.ev cf) (elt:=(jbd.ev cf).1) (rdP fr) (ds:=zV p) (U:= [o0,@&(zG p fr c),o2,o3,o4,o5,o6,o7]) (by
  intro i d hd
  let(hlt,rfl):=jf hd
  let hb:fr[i]?=some fr[i]:=xb (by lia)
  let hr:rdP fr i=fr[i]:=by unfold rdP;rw[xF,hb];rfl
  let a2:=Yf hb
  rw[hr]
  refine#[[o0,@&(zG p fr c),o2,o3,o4,o5,o6,o7,@&(.int i)],[o0,@&(zG p fr c),o2,o3,o4,o5,o6,o7,@&(.int i)],rfl,?_,rfl,λ_=>#[.dat (.int i),[o0,@&(zG p fr c),o2,o3,o4,o5,o6,o7,@&(.int i)],?_,rfl,rfl]]
  ·let hK:zG p fr c=.list (zH p fr c):=rfl
   let k1:atI (zH p fr c) 1=some (.list (frD fr)):=rfl
   push_cast [jbc,k1,a2,cs1]
  ·generalize zG p fr c=KL at *
   push_cast [jbd,cs1])
 rw[e,zC]
 unfold jn
 rw[hl]
def Vk(xs:Ac):lay 20 (.list (qE xs))=true:=ZK λx h=>by
 let(i,_,rfl):=xu.mp h
 erw[zJ _ _]
def zeL{ss:Ab}(h:∀ s∈ss,PyData.strOk s=true):lay 20 (.list (ss.map .str))=true:=ZK λx hx=>by
 let(s,hs,rfl):=xu.mp hx
 erw[h s hs]
structure zac(cf:CF):Prop where
 ready:JL cf
 names:Wc cf
 stains:VL "House.stains" Cl.st cf
 wishes:VL "House.wishes" Cl.wi cf
 waxed:We cf
 pics:QV cf
 wholes:Wl cf
def YE(cf:CF)(h:zac cf){P:Int}{dn un:Ao}{pl:Ad}(hq:ZL f dn=stA fr c)(hp:p<=12)(hv:zN c n=some cs)(hb:Bolt p cs){o2 o3 o4 o6 o7:Option OV} :
  jbe.ex cf [0] [some (hV P f dn un pl),@&(zG p fr c),o2,o3,o4,@&(.str n),o6,o7]=.ok (.next,[some (hV P f dn un pl),@&(zG p fr c),o2,o3,o4,@&(.str n),@&(zA cs),@&(.list (qE (wS cs)))]):=by
 let b7:zN (clD c) n=some (zA cs):=by rw[zZ,hv];rfl
 let e1:=h.stains P f dn un pl (frD fr) (clD c) n cs hb.1 hq b7
 let e2:=h.wishes P f dn un pl (frD fr) (clD c) n cs hb.1 hq b7
 let e3:=h.waxed P f dn un pl (frD fr) (clD c) n cs hb.1 hq b7
 let q1:=h.pics p Cl.st cs hp hb.1 (λc hc=>(hb.2 c hc).sl)
 let q2:=h.pics p Cl.wi cs hp hb.1 (λc hc=>(hb.2 c hc).wl)
 let q3:=h.wholes (wS cs) (by
  have:=uk (wxP cs) (List.range cs.length)
  rw[ux]at this
  have:=hb.1
  unfold wS;lia)
 let v1:=qm (j0 Cl.st cs)
 let v2:=qm (j0 Cl.wi cs)
 let v3:=qm (qE (wS cs))
 let c1:=yY (k:=1) (t:=.nm 0 8) (elt:=(jbz.ev cf).1) Cl.D (λc=>zB c.st) (xs:=cs) (U:= [some (hV P f dn un pl),@&(zG p fr c),o2,o3,o4,@&(.str n),@&(zA cs),o7]) (by
  intro c' hc
  refine#[[some (hV P f dn un pl),@&(zG p fr c),o2,o3,o4,@&(.str n),@&(zA cs),o7,some (.d c'.D)],.dat (zB c'.st),[some (hV P f dn un pl),@&(zG p fr c),o2,o3,o4,@&(.str n),@&(zA cs),o7,some (.d c'.D)],rfl,?_,rfl,rfl]
  unfold Cl.D ji
  push_cast [jbz,Qg,cs1])
 let c2:=yY (k:=1) (t:=.nm 0 8) (elt:=(jb0.ev cf).1) Cl.D (λc=>zB c.wi) (xs:=cs) (U:= [some (hV P f dn un pl),@&(zG p fr c),o2,o3,o4,@&(.str n),@&(zA cs),o7]) (by
  intro c' hc
  refine#[[some (hV P f dn un pl),@&(zG p fr c),o2,o3,o4,@&(.str n),@&(zA cs),o7,some (.d c'.D)],.dat (zB c'.wi),[some (hV P f dn un pl),@&(zG p fr c),o2,o3,o4,@&(.str n),@&(zA cs),o7,some (.d c'.D)],rfl,?_,rfl,rfl]
  unfold Cl.D ji
  push_cast [jb0,Qh,cs1])
 let c3:=zgu (k:=1) (t:=.nm 0 8) (cond:=jb1.ev cf) (elt:=(jb2.ev cf).1) (wxP cs) (ds:=zV cs.length) (U:= [some (hV P f dn un pl),@&(zG p fr c),o2,o3,o4,@&(.str n),@&(zA cs),@&(.list (qE (wS cs)))]) (by
  intro i d hd
  let(hlt,rfl):=jf hd
  let hb:cs[i]?=some cs[i]:=xb hlt
  let hr:wxP cs i=(cs[i]).w:=by unfold wxP;rw[hb]
  let a1:atI (cs.map Cl.D) (i:Int)=some (cs[i]).D:=qN (by rw[xf,hb];rfl)
  let hcd:(cs[i]).D=.tuple [zB (cs[i]).st,.bool (cs[i]).w,zB (cs[i]).wi]:=rfl
  rw[hr]
  rw[hcd]at a1
  let lz:zA cs=.list (cs.map Cl.D):=rfl
  refine#[[some (hV P f dn un pl),@&(zG p fr c),o2,o3,o4,@&(.str n),@&(.list (cs.map Cl.D)),@&(.list (qE (wS cs))),@&(.int i)],[some (hV P f dn un pl),@&(zG p fr c),o2,o3,o4,@&(.str n),@&(.list (cs.map Cl.D)),@&(.list (qE (wS cs))),@&(.int i)],rfl,?_,rfl,λ_=>#[.dat (.int i),[some (hV P f dn un pl),@&(zG p fr c),o2,o3,o4,@&(.str n),@&(.list (cs.map Cl.D)),@&(.list (qE (wS cs))),@&(.int i)],?_,rfl,rfl]]
  ·generalize zB (cs[i]).st=A at *
   push_cast [jb1,a1,vR,cs1]
  ·generalize cs.map Cl.D=Y at *
   push_cast [jb2,cs1])
 rw[zC]at c3
 let DU:qE ((List.range cs.length).filter (wxP cs))=qE (wS cs):=rfl
 rw[DU]at c3
 let hy:=Vk (wS cs)
 let hqv:=Ze hy
 let hK:zG p fr c=.list (zH p fr c):=rfl
 let k2:atI (zH p fr c) 2=some (.dict ((clD c).map dK)):=rfl
 let hu:=zT (clD c)
 let hl:=hb.1
 let hz:(cs.map Cl.D).length=cs.length:=by simp
 let bf:cs.length<=1000000:=by lia
 let ao: -1000000<=(cs.length:Int)/\(cs.length:Int)<=1000000:=by lia
 let lz:zA cs=.list (cs.map Cl.D):=rfl
 let fm:(cs.map λc=>zB c.st)=j0 Cl.st cs:=rfl
 let D6:(cs.map λc=>zB c.wi)=j0 Cl.wi cs:=rfl
 rw[fm]at c1
 rw[D6]at c2
 unfold zG zA at *
 let ay:hV P f dn un pl=.o "House" ["pots","first","done","undone","places"] [.d (.int P),.d f,.l (prs dn),.l (prs un),.m pl]:=rfl
 rwa[hV P f dn un pl=HH]
 subst ay
 unfold jbe
 dsimp! [k2,hu,b7,e1,e2,e3,q1,q2,q3,c1,c2,c3,v1,v2,v3,hy,hqv,hz,bf,ao,zC,zE,qi]
def Wi (cf:CF):Prop:=∀ (aa:Ab) (p:Nat) (fr:List Bool) (c:Cls) (P:Int) (f:PyData) (dn un:Ao) (pl:Ad),aa.length<=60->(∀ n∈aa,Nm n)->StOk aa p fr c->ZL f dn=stA fr c->cf "_law_stands" [hV P f dn un pl,.d (zG p fr c)]=.ok (.d (.bool true)) [some (hV P f dn un pl),none]
def WQ(h:n∈QQ (clD c)):∃ cs,zN c n=some cs:=by
 let h1:=(jg _).mem_iff.mp h
 cases q:zN c n with
 |some cs=>exact#[cs,rfl]
 |none=>
  have:=valG_none.mp q
  erw[absurd ?_ this]
  let e:(clD c).map (·.1)=c.map (·.1):=by unfold clD;rw[xw];rfl
  rw[<- e];exact h1
def KM(cf:CF)(h:zac cf):Wi λ_=>runI 8 [true,false] [0] Zn cf:=λaa p fr c P f dn un pl hpl m6 S hq=>by
 let hcl:=S.len
 let hlf:=S.hl
 let hlp:=S.hp
 let hdl:(clD c).length<64:=by simp[clD];lia
 let e1:=h.ready P f dn un pl fr (clD c) (by lia) hq
 let e2:=h.names P f dn un pl (frD fr) (clD c) hdl hq
 let hrl:(jn fr).length<=12:=by
  have:=uk (rdP fr) (List.range fr.length)
  rw[ux]at this
  unfold jn;lia
 let e3:=h.wholes (jn fr) (by lia)
 let e4:=ze3 cf p fr c hlf (o0:=some (hV P f dn un pl)) (o2:=some (.d (.list (qE (jn fr))))) (o3:=some (.d (.list ((QQ (clD c)).map .str)))) (o4:=none) (o5:=none) (o6:=none) (o7:=none)
 let(U',e5,(o5,o6,o7,rfl)):=zY (t:=.nm 5 5) (body:=jbe.ex cf [0]) (ds:=(QQ (clD c)).map .str) (U:= [some (hV P f dn un pl),@&(zG p fr c),@&(.list (qE (jn fr))),@&(.list ((QQ (clD c)).map .str)),@&(.list (qE (jn fr))),none,none,none])
  (λpre U=>∃ o5 o6 o7:Option OV,U= [some (hV P f dn un pl),@&(zG p fr c),@&(.list (qE (jn fr))),@&(.list ((QQ (clD c)).map .str)),@&(.list (qE (jn fr))),o5,o6,o7]) #[none,none,none,rfl] (by
   rintro pre x post e U ⟨o5,o6,o7,rfl⟩
   let hx:x∈(QQ (clD c)).map PyData.str:=by rw[e];simp
   let(n,hm,rfl):=xu.mp hx
   let(cs,hv):=WQ hm
   exact#[_,_,rfl,YE cf h hq hlp hv (S.bolt hv),_,_,_,rfl])
 let v1:=qm (qE (jn fr))
 let v2:=qm ((QQ (clD c)).map .str)
 let hy:=Vk (jn fr)
 let hqv:=Ze hy
 let hy2:=zeL (λs hs=>by
  let(cs,hv):=WQ hs
  exact (m6 _ (S.np _ (jR hv))).ok)
 let hqv2:=Ze hy2
 let hK:zG p fr c=.list (zH p fr c):=rfl
 let k0:atI (zH p fr c) 0=some (.int p):=rfl
 let k2:atI (zH p fr c) 2=some (.dict ((clD c).map dK)):=rfl
 let hu:=zT (clD c)
 let hz: -1000000<=(p:Int)/\(p:Int)<=1000000:=by lia
 let ao:p<=1000000:=by lia
 let fq:(p:Int).toNat=p:=by lia
 unfold zG QQ at *
 let ay:hV P f dn un pl=.o "House" ["pots","first","done","undone","places"] [.d (.int P),.d f,.l (prs dn),.l (prs un),.m pl]:=rfl
 rwa[hV P f dn un pl=HH]
 subst ay
 generalize cu:(qX ((clD c).map (·.1))).map PyData.str=KS at *
 unfold Zn
 dsimp! [k0,k2,hu,e1,e2,e3,e4,e5,v1,v2,hy,hqv,hy2,hqv2,hz,ao,fq,hdl,cu,zC,zE,qi]
def zce(f:PyData)(dn:Ao)(D S:PyData):ZL f (dn++ [(D,S)])=S:=by
 unfold ZL
 rw[List.getLast?_append];rfl
def wy(cf:CF):Prop:=∀(aa:Ab)(p:Nat)(fr:List Bool)(c:Cls)(d:Deed)(P:Int)(f:PyData)(dn un:Ao),aa.length<=60->(∀ n∈aa,Nm n)->StOk aa p fr c->QM aa fr c d->dn.length<1000000->ZL f dn=stA fr c ->
 cf "House.do" [hV P f dn un [],.d d.D]=.ok (.d .none) [some (hV P f (dn++ [(d.D,stA (d.fr fr) (d.cl p c))]) [] []),none]
def zk9(cf:CF)(hn:Jj cf)(hb:w5 cf):wy λ_=>runI 4 [true,false] [0] Qb cf:=λaa p fr c d P f dn un h1 h2 S G hl hq=>
 zjh cf hn P f dn un d.D _ hl (by unfold yP;rw[hq];exact hb aa p fr c d h1 h2 S G)
def qP(ns:Ab):PyData:=.list (ns.map .str)
def nmB (n:Str):Bool:=decide (0<n.length)&&decide (n.length<9)&&n.cps.toList.all λc=>Txt.contains (Str.ofString "abcdefghijklmnopqrstuvwxyz") (ch c)
def zjG (c:Cls) (n:Str):Str:=if nmB n then (if (zN c n).isSome then "Taken" else "") else "NoName"
def zjn (c:Cls) (ns:Ab):Str:=if ns.all (λn=>(zN c n).isSome) then (if (Tab.dedup ns).length<ns.length then "Twice" else "") else "NoCloth"
def zaP{α:Type}(f:α->Bool)(xs:List α):(qt (xs.map λa=>PyData.bool (f a))).map (λbs=>PyData.bool (bs.any id))=some (.bool (xs.any f)):=by
 have:qt (xs.map λa=>PyData.bool (f a))=some (xs.map f):=by
  induction xs with
  |nil=>rfl
  |cons a r ih=>simp[qt,ih]
 rw[this]
 simp[uI]
def dipW(p:Nat)(fr:List Bool)(c:Cls)(ns:Ab)(d:Int):Str :=
 if d<0∨(p:Int)<=d then "NoDye" else if fr[d.toNat]?=some true then (if zjn c ns= "" then (if ns.any (λn=>(qd c n).any (qh d.toNat)) then "TooDeep" else "") else zjn c ns) else "Spent"
def zma(p:Nat)(cs:List Cl)(a:Int)(sh:List Int):Str :=
 if a<0∨(cs.length:Int)<=a then "NoCell" else if sh.length=p then (if sh.any (λx=>decide (x<0)||decide (9<x)) then "BadWish" else "") else "BadWish"
def Deed.w(p:Nat)(fr:List Bool)(c:Cls):Deed->Str
 |.hang n k=>if zjG c n= "" then (if 0<=k/\k<=40 then "" else "BadSize") else zjG c n
 |.fold n=>if (zN c n).isSome then "" else "NoCloth"
 |.twin n m=>if (zN c n).isSome then zjG c m else "NoCloth"
 |.wish n a sh=>match zN c n with | some cs=>zma p cs a sh | none=> "NoCloth"
 |.wax n xs=>match zN c n with | some cs=>zmd xs cs.length | none=> "NoCloth"
 |.dip ns d=>dipW p fr c ns d
 |.boil ns=>zjn c ns
 |.brew d=>if d<0∨(p:Int)<=d then "NoDye" else if fr[d.toNat]?=some true then "StillFresh" else ""
def dvw(x:PyData):(OV.d x).view=x:=rfl
def zji(xs:Aa):(OV.l (xs.map .d)).view=.list xs:=by rw[OV.view,OV.views_d]
def Yj{n k:Nat}(h:k<=n):vH n (k:Int)=k:=by
 unfold vH
 rw[if_neg (by lia)]
 simp;lia
def zcQ(ds:Aa)(al:Bool)(x:RF):Prop:=∃(sub ps:Aa)(b':OV),sub.Sublist ds/\ps.Perm sub/\(al=true->sub=ds)/\zU b'/\x=.ok (.l (ps.map .d)) [some b',none,none]
def zgx(cf:CF)(ht:qK cf){b:OV}(hb:zU b){ds:Aa}(hl:ds.length<=1000){al:Bool}:zcQ ds al (runI 5 [true,false,false] [0] QY cf [b,.d (.list ds),.d (.bool al)]):=by
 let(U',e,(sub,ps,b',o4,h1,h2,h3,hb',rfl)):=zY (t:=.nm 4 4) (body:=jao.ex cf [0]) (ds:=ds) (U:= [some b,@&(.list ds),@&(.bool al),some (.l []),none])
  (λpre U=>∃(sub ps:Aa)(b':OV)(o4:Option OV),sub.Sublist pre/\ps.Perm sub/\(al=true->sub=pre)/\zU b'/\U= [some b',@&(.list ds),@&(.bool al),some (.l (ps.map .d)),o4]) #[[],[],b,none,.slnil,.refl _,λ_=>rfl,hb,rfl] (by
   rintro pre x post e U ⟨sub,ps,b1,o4,h1,h2,h3,hb1,rfl⟩
   let hlt:=QL e
   let hsl:=h1.length_le
   let hpl:=h2.length_eq
   let ins:∀ b2,zU b2->∃ (j:Nat) (b3:OV),j<=ps.length/\zU b3/\cf "_law_take" [b2,.d (.int ((ps.length:Int)+1))]=.ok (.d (.int (j:Int))) [some b3,none]:=λb2 hb2=>by
    let(r,b3,g1,g2,bh,e3):=ht b2 hb2 ((ps.length:Int)+1) (by lia) (by lia)
    obtain⟨j,rfl⟩:∃ k:Nat,r=k:=#[r.toNat,by lia]
    exact#[j,b3,by lia,bh,e3]
   let put:∀ j,j<=ps.length->(ps.take j++x::ps.drop j).Perm (sub++ [x]):=λj _=>by
    let p1:(ps.take j++x::ps.drop j).Perm (x::(ps.take j++ps.drop j)):=List.perm_middle
    rw[List.take_append_drop]at p1
    erw[p1.trans ((h2.cons x).trans (List.perm_append_singleton x sub).symm)]
   let hz:ps.length<1000000:=by lia
   let tu:∀ j,(ps.take j++x::ps.drop j).map OV.d=(ps.map OV.d).take j++.d x::(ps.map OV.d).drop j:=λj=>by rw[xv,xr,List.map_take,List.map_drop]
   cases al with
   |true=>
    let(j,b3,hj,bh,e3):=ins b1 hb1
    let hi:=Yj hj
    let c9: -1000000<=(j:Int)/\(j:Int)<=1000000:=by lia
    refine#[[some b1,@&(.list ds),@&(.bool true),some (.l (ps.map .d)),@&x],[some b3,@&(.list ds),@&(.bool true),some (.l ((ps.take j++x::ps.drop j).map .d)),@&x],rfl,?_,sub++ [x],ps.take j++x::ps.drop j,b3,@&x,h1.append (List.Sublist.refl _),put j hj,λ_=>by rw[h3 rfl],bh,rfl]
    rw[tu]
    simp![jao,e3,dvw,zji,zcv,hz,hi,c9]
   |false=>
    let(r,b2,g1,g2,hb2,e2):=ht b1 hb1 4 (by decide) (by decide)
    by_cases hr:0<r
    ·let(j,b3,hj,bh,e3):=ins b2 hb2
     let hi:=Yj hj
     let c9: -1000000<=(j:Int)/\(j:Int)<=1000000:=by lia
     refine#[[some b1,@&(.list ds),@&(.bool false),some (.l (ps.map .d)),@&x],[some b3,@&(.list ds),@&(.bool false),some (.l ((ps.take j++x::ps.drop j).map .d)),@&x],rfl,?_,sub++ [x],ps.take j++x::ps.drop j,b3,@&x,h1.append (List.Sublist.refl _),put j hj,(λh=>nomatch h),bh,rfl]
     rw[tu]
     simp![jao,e2,hr,e3,dvw,zji,zcv,hz,hi,c9]
    ·refine#[[some b1,@&(.list ds),@&(.bool false),some (.l (ps.map .d)),@&x],[some b2,@&(.list ds),@&(.bool false),some (.l (ps.map .d)),@&x],rfl,?_,sub,ps,b2,@&x,List.Sublist.trans h1 (List.sublist_append_left _ _),h2,(λh=>nomatch h),hb2,rfl]
     push_cast [jao,e2,hr,dvw])
 refine#[sub,ps,b',h1,h2,h3,hb',?_]
 push_cast [QY,e]
def VE (cf:CF):Prop:=∀ b,zU b->∀ (ds:Aa) (al:Bool),ds.length<=1000->zcQ ds al (cf "_law_deal" [b,.d (.list ds),.d (.bool al)])
def zcl{ps sub:Aa}{xs:Ab}(h1:sub.Sublist (xs.map .str))(h2:ps.Perm sub):∃ ns:Ab,ps=ns.map .str/\ns.length<=xs.length:=by
 let hm:∀ x∈ps,∃ n:Str,x=.str n:=λx hx=>by
  let(n,_,e):=xu.mp (h1.subset (h2.mem_iff.mp hx))
  exact#[n,e.symm]
 let hl:ps.length<=xs.length:=by
  have:=h1.length_le
  rw[h2.length_eq];simpa using this
 clear h1 h2
 suffices H:∃ ns:Ab,ps=ns.map .str by
  let(ns,rfl):=H
  exact#[ns,rfl,~~~hl]
 clear hl
 induction ps with
 |nil=>exact#[[],rfl]
 |cons x ps ih=>
  let(n,rfl):=hm x (by simp)
  let(ns,rfl):=ih λy hy=>hm y (by simp[hy])
  exact#[n::ns,rfl]
def yM(ns:Ab):(OV.l (ns.map λn=>.d (.str n))).view=.list (ns.map .str):=by
 have:=zji (ns.map PyData.str)
 rw[xw]at this;exact this
section
local macro_rules|`(#[$a])=>`(.cons $a .nil)|`(#[$a,$b,*])=>`(.cons $a #[$b,*])|`(.($n:num))=>`(.x $n $n)|`(($n:num :))=>`(.k $n)
def jca:IE:=.tup #[.x 0 4,.(3),.x 1 5,.x 2 6]
def jbk:IB:=#[.aug 2 2 (.new (.comp 4 3 [3] ["word","at","dye","name"] (.tp #[.nm 0 4,.nm 1 5,.nm 2 6]) (.list (.call (.call "bars" 2 #[.g (.t "Stand" "cloths" .(0)) .(3),.t "Stand" "fresh" .(0)]))) .yes jca))]
def J2:IB:=#[.e (.call (.call "check_names" 2 #[.(0),.(1)])),.a 2 2 (.own (.lst .nil)),.loop (.nm 3 3) (.list .(1)) jbk,.ret (.move 2 2)]
def jw:IB:=#[.ret (.call "bars_of" 2 #[.call (.m 0 0 "House" "now" "House.now" 1 .nil),.(1)])]
def jaf:IB:=#[.f (.and (.dnin .(5) (.ix .(2) (2:))) (.p .Gt (.call (.call "_law_take" 2 (.io 0 0 #[(5:)]))) (0:))) #[.a 6 6 (.dat (.call (.call "_law_take" 2 (.io 0 0 #[(5:)])))),.f (.p .Eq .(4) (0:)) #[.a 6 6 (.dat (.ix (.new (.lst #[(40:),(23:),(12:)])) (.call (.call "_law_take" 2 (.io 0 0 #[(3:)]))))),.a 4 4 (.dat (1:))] .nil,.e (.call (.m 1 1 "House" "do" "House.do" 2 #[.tup #[.q "hang",.(5),.(6)]])),.a 2 2 (.dat (.call (.call "_law_did" 2 #[.(2),.tup #[.q "hang",.(5),.(6)]])))] .nil]
def Qm:IB:=#[.a 4 4 (.dat (.call (.call "_law_take" 2 (.io 0 0 #[(9:)])))),.loop (.nm 5 5) (.list .(3)) jaf,.ret (.dat .(2))]
def jba:IE:=.min (9:) (.n .Add (.ix (.x 1 7) (.x 0 10)) (.int (.ix (.ix (.x 2 5) (.x 3 6)) (.x 0 10))))
def jar:IB:=#[.a 7 7 (.dat (.ix (.ix (.g (.ix .(2) (2:)) .(4)) .(6)) (0:))),.a 8 8 (.dat (.tup #[.q "wish",.(4),.(6),.tuple (.new (.comp 10 1 [7,5,6] ["_law_k","_law_stain","_law_bits","_law_at"] (.nm 0 10) (.range (.ix .(2) (0:))) .yes jba))])),.e (.call (.m 1 1 "House" "do" "House.do" 2 #[.(8)])),.a 2 2 (.dat (.call (.call "_law_did" 2 #[.(2),.(8)])))]
def jas:IB:=#[.a 5 5 (.dat (.call (.call "_law_lacks" 3 (.io 0 0 #[.ix .(2) (0:),.len (.g (.ix .(2) (2:)) .(4))])))),.loop (.nm 6 6) (.range (.len (.g (.ix .(2) (2:)) .(4)))) jar]
def jaj:IB:=#[.f (.not (.ix (.ix .(2) (1:)) .(9))) #[.e (.call (.m 1 1 "House" "do" "House.do" 2 #[.tup #[.q "brew",.(9)]])),.a 2 2 (.dat (.call (.call "_law_did" 2 #[.(2),.tup #[.q "brew",.(9)]])))] .nil]
def ZX:IB:=#[.loop (.nm 4 4) (.list .(3)) jas,.loop (.nm 9 9) (.range (.ix .(2) (0:))) jaj,.ret (.dat .(2))]
def jbt:IB:=#[.a 2 2 (.dat (.new (.cat .(2) (.g (.ix .(0) (2:)) .(3)))))]
def Zl:IB:=#[.a 2 2 (.dat (.new (.lst .nil))),.loop (.nm 3 3) (.list .(1)) jbt,.ret (.dat .(2))]
def qR:IB:=#[.ret (.call "_law_deal" 3 (.io 0 0 #[.new (.sortD (.ix .(1) (2:))),.p .Gt (.call (.call "_law_take" 2 (.io 0 0 #[(3:)]))) (0:)]))]
def jah:IE:=.call (.call "_law_full" 2 #[.g (.ix .(1) (2:)) (.x 0 9),.x 2 4])
def jai:IB:=#[.a 8 8 (.dat (.call (.call "_law_take" 2 (.io 0 0 #[.n .Add .(5) (1:)])))),.f (.and (.p .Lt .(8) .(5)) (.p .NotIn .(8) .(6))) #[.app 6 6 .(8)] .nil]
def jaq:IB:=#[.a 5 5 (.dat (.len (.g (.ix .(1) (2:)) (.ix .(2) (0:))))),.a 6 6 (.own (.lst .nil)),.loop (.nm 7 7) (.range (.call (.call "_law_take" 2 (.io 0 0 #[(5:)])))) jai,.ret (.dat (.tup #[.q "wax",.ix .(2) (0:),.tuple .(6)]))]
def jaa:IB:=.cons (.f (.or (.p .Lt .(3) (4:)) (.p .Eq (.len .(2)) (0:))) #[.ret (.dat (.tup #[.q "boil",.tuple .(2)]))] .nil) jaq
def qU:IB:=.cons (.a 2 2 (.dat (.call (.call "_law_deal" 3 (.io 0 0 #[.new (.sortD (.ix .(1) (2:))),.p .Eq (.call (.call "_law_take" 2 (.io 0 0 #[(3:)]))) (0:)]))))) (.cons (.a 3 3 (.dat (.call (.call "_law_take" 2 (.io 0 0 #[(7:)]))))) (.cons (.f (.and (.p .Lt .(3) (3:)) (.p .Gt (.ix .(1) (0:)) (0:))) #[.a 4 4 (.dat (.call (.call "_law_take" 2 (.io 0 0 #[.ix .(1) (0:)])))),.f (.not (.ix (.ix .(1) (1:)) .(4))) #[.ret (.dat (.tup #[.q "brew",.(4)]))] .nil,.f (.not (.any (.new (.comp 9 1 [1,4] ["_law_name","_law_kept_here","_law_dye"] (.nm 0 9) (.list .(2)) .yes jah)))) #[.ret (.dat (.tup #[.q "dip",.tuple .(2),.(4)]))] .nil] .nil) jaa))
def jal:IC:=.one (.dnin (.x 0 8) (.ix .(1) (2:)))
def jbg:IE:=.x 0 8
def jbh:IE:=.call (.call "_law_take" 2 (.io 1 0 #[(10:)]))
def jat:IB:=#[.a 7 7 (.dat (.tuple (.new (.comp 8 1 [0] ["_law_dye","_law_box_here"] (.nm 0 8) (.range (.ix .(1) (0:))) .yes jbh)))),.ret (.dat (.tup #[.q "wish",.(6),.call (.call "_law_take" 2 (.io 0 0 #[.len (.g (.ix .(1) (2:)) .(6))])),.(7)]))]
def jam:IB:=.cons (.f (.p .Eq (.len (.g (.ix .(1) (2:)) .(6))) (0:)) #[.ret (.call "_law_easy" 2 (.io 0 0 #[.(1)]))] .nil) jat
def jan:IB:=.cons (.f (.and (.p .Eq .(5) (2:)) (.p .Gt (.len .(3)) (0:))) #[.ret (.dat (.tup #[.q "twin",.(6),.ix .(3) (.call (.call "_law_take" 2 (.io 0 0 #[.len .(3)])))]))] .nil) jam
def jau:IB:=.cons (.a 6 6 (.dat (.ix .(4) (.call (.call "_law_take" 2 (.io 0 0 #[.len .(4)])))))) (.cons (.f (.and (.p .Eq .(5) (1:)) (.p .Gt (.len .(4)) (1:))) #[.ret (.dat (.tup #[.q "fold",.(6)]))] .nil) jan)
def jab:IB:=.cons (.f (.or (.p .Gt .(5) (3:)) (.p .Eq (.len .(4)) (0:))) #[.ret (.call "_law_easy" 2 (.io 0 0 #[.(1)]))] .nil) jau
def ν3:IB:=.cons (.a 3 3 (.dat (.new (.comp 8 1 [1] ["_law_name","_law_kept_here"] (.nm 0 8) (.list .(2)) jal jbg)))) (.cons (.a 4 4 (.dat (.new (.sortD (.ix .(1) (2:)))))) (.cons (.a 5 5 (.dat (.call (.call "_law_take" 2 (.io 0 0 #[(9:)]))))) (.cons (.f (.and (.p .Eq .(5) (0:)) (.p .Gt (.len .(3)) (0:))) #[.ret (.dat (.tup #[.q "hang",.ix .(3) (.call (.call "_law_take" 2 (.io 0 0 #[.len .(3)]))),.call (.call "_law_take" 2 (.io 0 0 #[(5:)]))]))] .nil) jab)))
def ja9:IB:=#[.a 7 7 (.dat (.call (.call "_law_wide" 3 (.io 0 0 #[.(5),.(4)])))),.e (.call (.m 1 1 "House" "do" "House.do" 2 #[.(7)])),.a 5 5 (.dat (.call (.call "_law_did" 2 #[.(5),.(7)])))]
def Q0:IB:=#[.a 4 4 (.dat (.call (.call "_law_pool" 1 (.io 0 0 .nil)))),.a 5 5 (.dat (.call (.call "_law_begun" 4 (.io 0 0 (.io 1 1 #[.call (.call "_law_kept" 1 #[.(2)]),.(4)]))))),.loop (.nm 6 6) (.range (.call (.call "_law_take" 2 (.io 0 0 #[.(3)])))) ja9,.ret (.dat .(5))]
def ja6:IB:=#[.app 2 2 (.tup #[.(4),.(3),.(5),.(6)])]
def jbv:IB:=#[.loop (.tp #[.nm 4 4,.nm 5 5,.nm 6 6]) (.list (.call (.call "_law_bars" 2 #[.g (.ix .(0) (2:)) .(3),.ix .(0) (1:)]))) ja6]
def jr:IB:=#[.a 2 2 (.own (.lst .nil)),.loop (.nm 3 3) (.list .(1)) jbv,.ret (.move 2 2)]
end
def Y7 (cf:CF):Prop:=∀ b,zU b->∃ (p:Nat) (b':OV),p<=12/\zU b'/\cf "_law_pots" [b]=.ok (.d (.int p)) [some b']
def zhq(cf:CF)(ht:qK cf):Y7 λ_=>runI 1 [true] [0] ZY cf:=λb hb=>by
 let(r,b1,g,g',hb1,e1):=ht b hb 8 (by decide) (by decide)
 by_cases h:r=0
 ·subst h
  let(q,b2,g2,rj,hb2,e2):=ht b1 hb1 13 (by decide) (by decide)
  let(p,rfl):=xx g2
  exact#[p,b2,by lia,hb2,by push_cast [ZY,e1,e2]]
 ·let(q,b2,g2,rj,hb2,e2):=ht b1 hb1 6 (by decide) (by decide)
  let(p,rfl):=xx g2
  let h':(r==0)=false:=x9.mpr h
  exact#[p,b2,by lia,hb2,by dsimp! [ZY,e1,h',e2,zM,zJ,zE]]
def Za(c:Cls):Aa:=(qX ((clD c).map (·.1))).map .str
def WP(c:Cls):(Za c).length=c.length:=by
 unfold Za;rw[xl,(jg _).length_eq];simp[clD]
def Kp(S:StOk aa p fr c):(qX ((clD c).map (·.1))).Nodup:=by
 rw[(jg _).nodup_iff]
 have:(clD c).map (·.1)=c.map (·.1):=by unfold clD;rw[xw];rfl
 rw[this];exact S.nd
def yr(h:n∈qX ((clD c).map (·.1))):∃ cs,zN c n=some cs:=WQ h
structure Qj(c:Cls)(ns:Ab):Prop where
 nd:ns.Nodup
 len:ns.length<=50
 lc:ns.length<=c.length
 at':∀ n∈ns,∃ cs,zN c n=some cs
def Wz{cf:CF}(hd:VE cf){b:OV}(hb:zU b)(S:StOk aa p fr c)(hp:aa.length<=50)(al:Bool):∃(ns:Ab)(b':OV),Qj c ns/\zU b' /\
  cf "_law_deal" [b,.d (.list (Za c)),.d (.bool al)]=.ok (.l (ns.map λn=>.d (.str n))) [some b',none,none]:=by
 let hl:=S.len
 let(sub,ps,b1,s1,s2,_,hb1,e1):=hd b hb (Za c) al (by rw[WP];lia)
 let(ns,rfl,hn):=zcl s1 s2
 let hk:(qX ((clD c).map (·.1))).length=c.length:=by rw[(jg _).length_eq];simp[clD]
 let inj:∀ l:Ab,l.Nodup->(l.map PyData.str).Nodup:=λl h=>by
  rw[List.nodup_iff_pairwise_ne]at *
  rw[List.pairwise_map]
  erw[h.imp λh e=>h (PyData.str.inj e)]
 let hnd:ns.Nodup:=by
  have:=(s2.nodup_iff).mpr ((inj _ (Kp S)).sublist s1)
  rw[List.nodup_iff_pairwise_ne]at *
  rw[List.pairwise_map]at this
  exact this.imp λh e=>h (by rw[e])
 refine#[ns,b1,#[hnd,by lia,by lia,λn h=>yr ?_],hb1,?_]
 ·let h1:=s1.subset (s2.mem_iff.mp (xu.mpr #[n,h,rfl]))
  let(m,hm,e):=xu.mp h1
  cases e;exact hm
 ·rw[e1,xw];rfl
def zcR(aa:Ab)(fr:List Bool)(c:Cls)(x:RF):Prop:=∃(d:Deed)(b':OV),QM aa fr c d/\zU b'/\x=.ok (.d d.D) [some b',none]
def VG (cf:CF):Prop:=∀ b,zU b->∀ (aa:Ab) (p:Nat) (fr:List Bool) (c:Cls),StOk aa p fr c->aa.length<=50->zcR aa fr c (cf "_law_easy" [b,.d (zG p fr c)])
def zeQ(xs:List Int):leaves (xs.map λi=>OV.d (.int i))=some (xs.map .int):=by
 have:=Yo (xs.map PyData.int)
 rw[xw]at this;exact this
def zee{cf:CF}(ht:qK cf){b:OV}(hb:zU b){size m:Nat}(hs:size<=40)(hm:m<=5){o1 o2 o3 o4:Option OV}:∃(xs:List Int)(b':OV)(o7 o8:Option OV),zU b'/\xs.all (Qi size)=true/\xs.Nodup/\xs.length<=m /\
  jp (.nm 7 7) (jai.ex cf [0]) (zV m) [some b,o1,o2,o3,o4,@&(.int size),some (.l []),none,none]=.ok (.next,[some b',o1,o2,o3,o4,@&(.int size),some (.l (xs.map λi=>.d (.int i))),o7,o8]):=by
 let(U',e,b',xs,o7,o8,h1,h2,h3,h4,rfl):=zY (t:=.nm 7 7) (body:=jai.ex cf [0]) (ds:=zV m) (U:= [some b,o1,o2,o3,o4,@&(.int size),some (.l []),none,none])
  (λpre U=>∃(b':OV)(xs:List Int)(o7 o8:Option OV),zU b'/\xs.all (Qi size)=true/\xs.Nodup/\xs.length<=pre.length/\U= [some b',o1,o2,o3,o4,@&(.int size),some (.l (xs.map λi=>.d (.int i))),o7,o8]) #[b,[],none,none,hb,rfl,.nil,xh _,rfl] (by
   rintro pre x post e U ⟨b1,xs,o7,o8,hb1,ha,hn,hl,rfl⟩
   let hlen:pre.length<m:=by
    have:=congrArg List.length e
    rw[zC]at this
    simp at this;lia
   let(r,b2,g,g',hb2,e2):=ht b1 hb1 ((size:Int)+1) (by lia) (by lia)
   let hz:xs.length<1000000:=by lia
   let aq:(xs.map λi=>OV.d (.int i)).length=xs.length:=by simp
   refine#[[some b1,o1,o2,o3,o4,@&(.int size),some (.l (xs.map λi=>.d (.int i))),@&x,o8],?_]
   by_cases hlt:r<(size:Int)
   ·let Ce:(OV.l (xs.map λi=>.d (.int i))).view=.list (xs.map .int):=by rw[OV.view,OV.views_map,xw];rfl
    let hin:=yo xs r
    let hal:=JY xs
    cases hc:xs.contains r with
    |true=>
     rw[hc]at hin
     refine#[[some b2,o1,o2,o3,o4,@&(.int size),some (.l (xs.map λi=>.d (.int i))),@&x,@&(.int r)],rfl,?_,b2,xs,_,_,hb2,ha,hn,by simp;lia,rfl]
     push_cast [jai,zJ,zM,e2,hlt,Ce,hin,hal,zE]
    |false=>
     rw[hc]at hin
     let g8:r∉xs:= ~~~hc
     refine#[[some b2,o1,o2,o3,o4,@&(.int size),some (.l ((xs++ [r]).map λi=>.d (.int i))),@&x,@&(.int r)],rfl,?_,b2,xs++ [r],_,_,hb2,?_,?_,by simp;lia,rfl]
     ·rw[xv]
      dsimp! [jai,zJ,zM,e2,hlt,Ce,hin,hal,aq,hz,zE]
     ·rw[List.all_append,ha]
      simp[Qi,g,hlt]
     ·rw[xH]
      exact#[hn,by simp,λa h1 b h2 h3=>g8 (by rw[List.mem_singleton.mp h2]at h3;exact h3 ▸ h1)]
   ·refine#[[some b2,o1,o2,o3,o4,@&(.int size),some (.l (xs.map λi=>.d (.int i))),@&x,@&(.int r)],rfl,?_,b2,xs,_,_,hb2,ha,hn,by simp;lia,rfl]
    push_cast [jai,zJ,zM,e2,hlt,zE])
 rw[zC]at h4
 exact#[xs,b',o7,o8,h1,h2,h3,h4,e]
def zcZ(aa:Ab)(fr:List Bool)(c:Cls)(x:R (FL×Gv)):Prop:=∃(d:Deed)(b':OV)(o1 o2 o3 o4 o5 o6 o7 o8:Option OV),QM aa fr c d/\zU b'/\x=.ok (.ret (.d d.D),[some b',o1,o2,o3,o4,o5,o6,o7,o8])
section
variable {cf:CF}(ht:qK cf){b:OV}(hb:zU b){aa:Ab}{p:Nat}{fr:List Bool}{c:Cls}(S:StOk aa p fr c){o3 o4:Option OV}
include ht hb S
def zgH{n:Str}{ns:Ab}(hS:Qj c (n::ns)):zcZ aa fr c (jaq.ex cf [0] [some b,@&(zG p fr c),@&(.list ((n::ns).map .str)),o3,o4,none,none,none,none]):=by
 let(cs,g):=hS.at' n (by simp)
 let hcl:=(S.clo g).1
 let(r,b1,g1,rk,hb1,e1):=ht b hb 5 (by decide) (by decide)
 let(m,rfl):=xx g1
 let(xs,b2,o7,o8,hb2,h1,h2,h3,e2):=zee ht hb1 (size:=cs.length) (m:=m) (by lia) (by lia) (o1:=some (.d (zG p fr c))) (o2:=some (.d (.list ((n::ns).map .str)))) (o3:=o3) (o4:=o4)
 let hd:kW xs=false:=by unfold kW;rw[wd h2];simp
 refine#[.wax n xs,b2,@&(zG p fr c),@&(.list ((n::ns).map .str)),o3,o4,@&(.int cs.length),some (.l (xs.map λi=>.d (.int i))),o7,o8,#[cs,g,h1,hd,by lia],hb2,?_]
 let k2:atI (zH p fr c) 2=some (.dict ((clD c).map dK)):=rfl
 let hu:=zT (clD c)
 let hv:=zZ c n
 rw[g]at hv
 replace hv:zN (clD c) n=some (zA cs):=hv
 let hK:zG p fr c=.list (zH p fr c):=rfl
 let hN:(n::ns).map PyData.str=.str n::ns.map .str:=rfl
 let a0:atI (PyData.str n::ns.map .str) 0=some (.str n):=qN (j:=0) rfl
 let EN:zA cs=.list (cs.map Cl.D):=rfl
 let aq:(cs.map Cl.D).length=cs.length:=by simp
 let lv:=zeQ xs
 let bf: -1000000<=(m:Int)/\(m:Int)<=1000000:=by lia
 let hrl:=zC m
 let ao:m<=1000000:=by lia
 let hD:(Deed.wax n xs).D=.tuple [.str "wax",.str n,.tuple (xs.map .int)]:=rfl
 rw[EN]at hv
 rw[hK]at e2 |-
 rw[hN]at e2 |-
 rw[hD]
 unfold jaq
 dsimp! [k2,hu,hv,a0,aq,e1,e2,lv,bf,ao,hrl,zE,qi]
def zgI{ns:Ab}{w:Int}(hS:Qj c ns)(h3:o3=some (.d (.int w))):zcZ aa fr c (jaa.ex cf [0] [some b,@&(zG p fr c),@&(.list (ns.map .str)),o3,o4,none,none,none,none]):=by
 subst h3
 let hs:∀ s,(IB.cons s jaq).ex cf [0]=sSeq (s.ex cf [0]) (jaq.ex cf [0]):=λs=>rfl
 by_cases hw:w<4∨ns= []
 ·refine#[.boil ns,b,@&(zG p fr c),@&(.list (ns.map .str)),@&(.int w),o4,none,none,none,none,#[hS.nd,by have:=hS.len;lia,hS.at'],hb,?_]
  let hD:(Deed.boil ns).D=.tuple [.str "boil",.tuple (ns.map .str)]:=rfl
  rw[hD]
  rcases hw with hw | rfl
  ·generalize ns.map PyData.str=NS at *
   unfold jaa
   dsimp! [hs,hw,zJ,zM,zE,qi]
  ·by_cases hw:w<4
   ·unfold jaa
    dsimp! [hs,hw,zJ,zM,zE,qi]
   ·unfold jaa
    dsimp! [hs,hw,zJ,zM,zE,qi]
 ·obtain⟨n,ns,rfl⟩:∃ n r,ns=n::r:=by
   cases ns with
   |nil=>erw[absurd (.inr rfl) hw]
   |cons n r=>exact#[n,r,rfl]
  let(d,b2,gy,gx,gw,cg,cb,b6,bj,bc,G,hb2,e):=zgH ht hb S hS (o3:=some (.d (.int w))) (o4:=o4)
  refine#[d,b2,gy,gx,gw,cg,cb,b6,bj,bc,G,hb2,?_]
  let DX:¬ w<4:=λh=>hw (.inl h)
  let DW:(((ns.length:Int)+1)==0)=false:=by simp;lia
  let hN:(n::ns).map PyData.str=.str n::ns.map .str:=rfl
  let tq:(ns.map PyData.str).length=ns.length:=by simp
  rw[hN]at e |-
  unfold jaa
  dsimp! [hs,DX,DW,tq,e,zJ,zM,zE,qi]
end
def zgF(cf:CF)(hf:VO cf){aa:Ab}{p:Nat}{fr:List Bool}{c:Cls}(S:StOk aa p fr c){q:Nat}(hq:q<p)(ns:Ab)(ha:∀ n∈ns,∃ cs,zN c n=some cs){o0 o2 o3:Option OV} :
  qM 1 (.nm 0 9) fYes (jah.ev cf).1 (ns.map .str) [] [o0,@&(zG p fr c),o2,o3,@&(.int q),none,none,none,none]=.ok (ns.map λn=>PyData.bool ((qd c n).any (qh q)),[o0,@&(zG p fr c),o2,o3,@&(.int q),none,none,none,none]):=by
 erw[yY PyData.str (λn=>PyData.bool ((qd c n).any (qh q))) λn hc=>?_]
 let(cs,hv):=ha n hc
 refine#[[o0,@&(zG p fr c),o2,o3,@&(.int q),none,none,none,none,@&(.str n)],.dat (.bool ((qd c n).any (qh q))),[o0,@&(zG p fr c),o2,o3,@&(.int q),none,none,none,none,@&(.str n)],rfl,?_,rfl,rfl]
 let hw:zN (clD c) n=some (zA cs):=by rw[zZ,hv];rfl
 let ef:=hf.1 p cs q (S.bolt hv) hq
 rw[qr hv]
 push_cast [jah,kL2,zT,hw,ef,cs1]
def zgG(cf:CF)(ht:qK cf)(hd:VE cf)(hf:VO cf):VG λ_=>runI 9 [true,false] [0] qU cf:=λb hb aa p fr c S hp=>by
 let(r0,b0,g0,FA,qx,e0):=ht b hb 3 (by decide) (by decide)
 let(ns,b1,hS,hb1,e1):=Wz hd qx S hp (r0==0)
 let(w,b2,g2,rj,hb2,e2):=ht b1 hb1 7 (by decide) (by decide)
 let tail:=λ(b:OV)(hb:zU b)(o4:Option OV)=>zgI ht hb S (o3:=some (.d (.int w))) (o4:=o4) hS rfl
 let hpl:=S.len
 let k0:atI (zH p fr c) 0=some (.int p):=rfl
 let k1:atI (zH p fr c) 1=some (.list (frD fr)):=rfl
 let k2:atI (zH p fr c) 2=some (.dict ((clD c).map dK)):=rfl
 let hu:=zT (clD c)
 let cn:(clD c).length<64:=by simp[clD];lia
 let hK:zG p fr c=.list (zH p fr c):=rfl
 let hs:∀ s,(IB.cons s jaa).ex cf [0]=sSeq (s.ex cf [0]) (jaa.ex cf [0]):=λs=>rfl
 let lv:=yM ns
 unfold Za at e1
 generalize cu:(qX ((clD c).map (·.1))).map PyData.str=KS at e1
 let out:∀ b' (d:Deed) (G:QM aa fr c d) (o1 o2 o3 o4 o5 o6 o7 o8:Option OV),zU b'->runI 9 [true,false] [0] qU cf [b,.d (zG p fr c)]=fin [true,false] (.ok (.ret (.d d.D),[some b',o1,o2,o3,o4,o5,o6,o7,o8]))->zcR aa fr c (runI 9 [true,false] [0] qU cf [b,.d (zG p fr c)]) :=
  λb' d G o1 o2 o3 o4 o5 o6 o7 o8 hb' e=>#[d,b',G,hb',e]
 by_cases hA:w<3/\0<p
 ·let(BF,fw):=hA
  let l4:(0:Int)<(p:Int):=by lia
  let hp12:=S.hp
  let(q,b3,g3,BI,bh,e3):=ht b2 hb2 (p:Int) (by lia) (by lia)
  let(q,rfl):=xx g3
  let hq:q<p:=by lia
  let hl:=S.hl
  let df:fr[q]?=some fr[q]:=xb (by lia)
  let a1:=Yf df
  cases hv:fr[q] with
  |false=>
   rw[hv]at a1 df
   refine out b3 (.brew q) #[by lia,by lia,df] (@&(zG p fr c)) (@&(.list (ns.map .str))) (@&(.int w)) (@&(.int q)) none none none none bh ?_
   let hD:(Deed.brew q).D=.tuple [.str "brew",.int q]:=rfl
   rw[hD,hK]
   clear out tail df hv
   rwa[ns.map PyData.str=NS,(ns.map λn=>OV.d (.str n))=X,frD fr=FF,zH p fr c=K,(clD c).map dK=CD,clD c=C1,(q:Int)=Q,(p:Int)=P]
   unfold qU
   rwa[jaa=B4]
   dsimp! [hs,k0,k1,k2,hu,cn,cu,e0,e1,e2,e3,a1,BF,l4,lv,zJ,zM,zE,qi]
  |true=>
   rw[hv]at a1 df
   let e4:=zgF cf hf S hq ns hS.at' (o0:=some b3) (o2:=some (.d (.list (ns.map .str)))) (o3:=some (.d (.int w)))
   let eb:=zaP (λn=>(qd c n).any (qh q)) ns
   let hz:(ns.map PyData.str).length<=1000000:=by have:=hS.len;simp;lia
   cases hAA:(ns.any λn=>(qd c n).any (qh q)) with
   |false=>
    rw[hAA]at eb
    let gm:∀ n∈ns,∃ cs,zN c n=some cs/\cs.any (qh q)=false:=λn hn=>by
     let(cs,h):=hS.at' n hn
     have:=List.any_eq_false.mp hAA n hn
     rw[qr h]at this
     exact#[cs,h,~~~this]
    refine out b3 (.dip ns q) #[by lia,by lia,df,hS.nd,by have:=hS.len;lia,gm] (@&(zG p fr c)) (@&(.list (ns.map .str))) (@&(.int w)) (@&(.int q)) none none none none bh ?_
    let hD:(Deed.dip ns q).D=.tuple [.str "dip",.tuple (ns.map .str),.int q]:=rfl
    rw[hD]
    rw[hK]at e4 |-
    clear out tail df hv gm hAA
    rwa[(ns.map λn=>PyData.bool ((qd c n).any (qh q)))=BB,ns.map PyData.str=NS,(ns.map λn=>OV.d (.str n))=X,frD fr=FF,zH p fr c=K,(clD c).map dK=CD,clD c=C1,(q:Int)=Q,(p:Int)=P]
    unfold qU
    rwa[jaa=B4,jah=B1]
    dsimp! [hs,k0,k1,k2,hu,cn,cu,e0,e1,e2,e3,e4,eb,hz,a1,BF,l4,lv,zJ,zM,zE,qi]
   |true=>
    rw[hAA]at eb
    let(d,b4,o1,o2,o3,o4,o5,o6,o7,o8,G,ib,e5):=tail b3 bh (@&(.int q))
    erw[out b4 d G o1 o2 o3 o4 o5 o6 o7 o8 ib ?_]
    rw[hK]at e4 e5 |-
    clear out tail df hv hAA G
    rwa[(ns.map λn=>PyData.bool ((qd c n).any (qh q)))=BB,ns.map PyData.str=NS,(ns.map λn=>OV.d (.str n))=X,frD fr=FF,zH p fr c=K,(clD c).map dK=CD,clD c=C1,(q:Int)=Q,(p:Int)=P,d.D=DD]
    unfold qU
    rwa[jaa=B4,jah=B1]
    dsimp! [hs,k0,k1,k2,hu,cn,cu,e0,e1,e2,e3,e4,e5,eb,hz,a1,BF,l4,lv,zJ,zM,zE,qi]
 ·let(d,b4,o1,o2,o3,o4,o5,o6,o7,o8,G,ib,e5):=tail b2 hb2 none
  erw[out b4 d G o1 o2 o3 o4 o5 o6 o7 o8 ib ?_]
  rw[hK]at e5 |-
  let rg:¬ (w<3)∨(w<3/\(p:Int)=0):=by lia
  clear out tail G
  rwa[ns.map PyData.str=NS,(ns.map λn=>OV.d (.str n))=X,zH p fr c=K,(clD c).map dK=CD,clD c=C1,(p:Int)=P,d.D=DD]
  unfold qU
  rwa[jaa=B4,jah=B1]
  rcases rg with h | ⟨h,h0⟩
  ·dsimp! [hs,k0,k2,hu,cn,cu,e0,e1,e2,e5,h,lv,zJ,zM,zE,qi]
  ·dsimp! [hs,k0,k2,hu,cn,cu,e0,e1,e2,e5,h,h0,lv,zJ,zM,zE,qi]
def VS (cf:CF):Prop:=∀ b,zU b->∀ (aa:Ab) (p:Nat) (fr:List Bool) (c:Cls) (qs:Ab),StOk aa p fr c->aa.length<=50->(∀ n∈qs,n∈aa)->qs.length<=50->∃ (d:Deed) (b':OV),QM aa fr c d/\zU b'/\cf "_law_wide" [b,.d (zG p fr c),.d (qP qs)]=.ok (.d d.D) [some b',none,none]
def zae(aa:Ab)(fr:List Bool)(c:Cls)(x:R (FL×Gv)):Prop:=∃(d:Deed)(b':OV)(o1 o2 o3 o4 o5 o6 o7:Option OV),QM aa fr c d/\zU b'/\x=.ok (.ret (.d d.D),[some b',o1,o2,o3,o4,o5,o6,o7])
def ziq{cf:CF}(ht:qK cf){b:OV}(hb:zU b)(m:Nat){o1 o2 o3 o4 o5 o6 o7:Option OV} :
  ∃(xs:List Int)(b':OV),zU b'/\xs.length=m/\In9 xs/\qM 1 (.nm 0 8) fYes (jbh.ev cf).1 (zV m) [] [some b,o1,o2,o3,o4,o5,o6,o7]=.ok (xs.map .int,[some b',o1,o2,o3,o4,o5,o6,o7]):=by
 let(ys,U',e,b',xs,hb',hl,h9,hy,rfl):=qL (k:=1) (t:=.nm 0 8) (cond:=fYes) (elt:=(jbh.ev cf).1) (ds:=zV m) (U:= [some b,o1,o2,o3,o4,o5,o6,o7])
  (λpre ys U=>∃(b':OV)(xs:List Int),zU b'/\xs.length=pre.length/\In9 xs/\ys=xs.map .int/\U= [some b',o1,o2,o3,o4,o5,o6,o7]) #[b,[],hb,rfl,(λ_ h=>nomatch h),rfl,rfl] (by
   rintro pre d post e ys U ⟨b0,xs,qx,hl,h9,rfl,rfl⟩
   let(r,b1,g1,g2,hb1,e1):=ht b0 qx 10 (by decide) (by decide)
   refine#[[some b0,o1,o2,o3,o4,o5,o6,o7,@&d],true,_,rfl,rfl,λ_=>#[.dat (.int r),[some b1,o1,o2,o3,o4,o5,o6,o7,@&d],.int r,?_,rfl,b1,xs++ [r],hb1,by simp[hl],h9.snoc g1 (by lia),by simp,rfl],λz=>nomatch z]
   push_cast [jbh,e1,cs1])
 exact#[xs,b',hb',by rw[zC]at hl;exact hl,h9,by rw[e,hy]]
def zi1{xs:Ab}{j:Nat}(h:j<xs.length):atI (xs.map PyData.str) (j:Int)=some (.str xs[j]):=qN (by rw[xf,xb h];rfl)
def qI(c:Cls)(qs:Ab):Ab:=qs.filter λn=>(zN c n).isNone
def zgQ(cf:CF){p:Nat}{fr:List Bool}{c:Cls}(qs:Ab){o0 o2 o3 o4 o5 o6 o7:Option OV} :
  qM 1 (.nm 0 8) (jal.ev cf) (jbg.ev cf).1 (qs.map .str) [] [o0,@&(zG p fr c),o2,o3,o4,o5,o6,o7]=.ok ((qI c qs).map .str,[o0,@&(zG p fr c),o2,o3,o4,o5,o6,o7]):=by
 rw[qZ (λd=>match d with | .str n=>(zN c n).isNone | _=>false) id]
 ·rw[List.map_id,List.filter_map];rfl
 ·intro d hd
  let(n,hn,rfl):=xu.mp hd
  refine#[[o0,@&(zG p fr c),o2,o3,o4,o5,o6,o7,@&(.str n)],[o0,@&(zG p fr c),o2,o3,o4,o5,o6,o7,@&(.str n)],rfl,?_,rfl,λ_=>#[.dat (.str n),_,rfl,rfl,rfl]]
  let hv:=zZ c n
  cases g:zN c n with
  |none=>
   rw[g]at hv
   show _=R.ok ((zN c n).isNone,_)
   rw[g]
   push_cast [jal,kL2,zT,hv,cs1]
  |some cs=>
   rw[g]at hv
   show _=R.ok ((zN c n).isNone,_)
   rw[g]
   push_cast [jal,kL2,zT,hv,cs1]
section
variable {cf:CF}(ht:qK cf)(hE:VG cf){b:OV}(hb:zU b){aa:Ab}{p:Nat}{fr:List Bool}{c:Cls}(S:StOk aa p fr c)(hp:aa.length<=50){o2 o3 o4 o5:Option OV}
include ht hb S
def ziv{n:Str}{cs:List Cl}(g:zN c n=some cs)(h0:0<cs.length):zae aa fr c (jat.ex cf [0] [some b,@&(zG p fr c),o2,o3,o4,o5,@&(.str n),none]):=by
 let hcl:=(S.clo g).1
 let hp12:=S.hp
 let(xs,b1,hb1,hl,h9,e1):=ziq ht hb p (o1:=some (.d (zG p fr c))) (o2:=o2) (o3:=o3) (o4:=o4) (o5:=o5) (o6:=some (.d (.str n))) (o7:=none)
 let(r,b2,g2,rj,hb2,e2):=ht b1 hb1 (cs.length:Int) (by lia) (by lia)
 let(j,rfl):=xx g2
 refine#[.wish n j xs,b2,@&(zG p fr c),o2,o3,o4,o5,@&(.str n),@&(zB xs),#[cs,g,by lia,by lia,by rw[hl,S.hl],h9],hb2,?_]
 let k0:atI (zH p fr c) 0=some (.int p):=rfl
 let k2:atI (zH p fr c) 2=some (.dict ((clD c).map dK)):=rfl
 let hu:=zT (clD c)
 let hv:=zZ c n
 rw[g]at hv
 replace hv:zN (clD c) n=some (.list (cs.map Cl.D)):=hv
 let hK:zG p fr c=.list (zH p fr c):=rfl
 let aq:(cs.map Cl.D).length=cs.length:=by simp
 let hD:(Deed.wish n j xs).D=.tuple [.str "wish",.str n,.int j,zB xs]:=rfl
 let bf: -1000000<=(p:Int)/\(p:Int)<=1000000:=by lia
 let ao:p<=1000000:=by lia
 let hrl:=zC p
 rw[hK]at e1 |-
 rw[hD]
 unfold zB
 unfold jat
 dsimp! [k0,k2,hu,hv,aq,e1,e2,bf,ao,hrl,zE,qi]
include hE hp
def ziw{n:Str}{cs:List Cl}(g:zN c n=some cs):zae aa fr c (jam.ex cf [0] [some b,@&(zG p fr c),o2,o3,o4,o5,@&(.str n),none]):=by
 let k2:atI (zH p fr c) 2=some (.dict ((clD c).map dK)):=rfl
 let hu:=zT (clD c)
 let hv:=zZ c n
 rw[g]at hv
 replace hv:zN (clD c) n=some (.list (cs.map Cl.D)):=hv
 let hK:zG p fr c=.list (zH p fr c):=rfl
 let hs:∀ s,(IB.cons s jat).ex cf [0]=sSeq (s.ex cf [0]) (jat.ex cf [0]):=λs=>rfl
 by_cases h0:cs= []
 ·subst h0
  let(d,b1,G,hb1,e1):=hE b hb aa p fr c S hp
  refine#[d,b1,@&(zG p fr c),o2,o3,o4,o5,@&(.str n),none,G,hb1,?_]
  unfold jam
  dsimp! [hs,k2,hu,hv,e1,zJ,zM,zE,qi]
 ·let hlen:0<cs.length:=List.length_pos_iff.mpr h0
  let(d,b1,gy,gx,gw,cg,cb,b6,bj,G,hb1,e1):=ziv ht hb S g hlen (o2:=o2) (o3:=o3) (o4:=o4) (o5:=o5)
  refine#[d,b1,gy,gx,gw,cg,cb,b6,bj,G,hb1,?_]
  let aq:(cs.map Cl.D).length=cs.length:=by simp
  let h1:((cs.length:Int)==0)=false:=by simp;lia
  rw[hK]at e1 |-
  unfold jam
  dsimp! [hs,k2,hu,hv,aq,h0,h1,e1,zJ,zM,zE,qi]
def zix{n:Str}{cs:List Cl}{w:Int}{qs:Ab}(g:zN c n=some cs)(hq:∀ n∈qs,n∈aa)(iz:qs.length<=50):zae aa fr c (jan.ex cf [0] [some b,@&(zG p fr c),o2,@&(.list ((qI c qs).map .str)),o4,@&(.int w),@&(.str n),none]):=by
 let hs:∀ s,(IB.cons s jam).ex cf [0]=sSeq (s.ex cf [0]) (jam.ex cf [0]):=λs=>rfl
 let aq:((qI c qs).map PyData.str).length=(qI c qs).length:=by simp
 let lj:(qI c qs).length<=qs.length:=uk _ _
 by_cases hA:w=2/\0<(qI c qs).length
 ·let(rfl,fw):=hA
  let l4:(0:Int)<((qI c qs).length:Int):=by lia
  let(r,b1,g1,rk,hb1,e1):=ht b hb ((qI c qs).length:Int) (by lia) (by lia)
  let(j,rfl):=xx g1
  let hj:j<(qI c qs).length:=by lia
  let hm:=ur.mp (xI hj)
  refine#[.twin n (qI c qs)[j],b1,@&(zG p fr c),o2,@&(.list ((qI c qs).map .str)),o4,@&(.int 2),@&(.str n),none,#[#[cs,g],hq _ hm.1,~~~hm.2],hb1,?_]
  let a1:=zi1 hj
  let hD:∀ m,(Deed.twin n m).D=.tuple [.str "twin",.str n,.str m]:=λm=>rfl
  rw[hD]
  unfold jan
  dsimp! [hs,aq,fw,l4,e1,a1,zJ,zM,zE,qi]
 ·let(d,b1,gy,gx,gw,cg,cb,b6,bj,G,hb1,e1):=ziw ht hE hb S hp g (o2:=o2) (o3:=some (.d (.list ((qI c qs).map .str)))) (o4:=o4) (o5:=some (.d (.int w)))
  refine#[d,b1,gy,gx,gw,cg,cb,b6,bj,G,hb1,?_]
  let rg:(w==2)=false∨(w=2/\(qI c qs).length=0):=by
   by_cases hw:w=2
   ·erw[.inr #[hw,Nat.eq_zero_of_not_pos λz=>hA #[hw,z]]]
   ·erw[.inl (x9.mpr hw)]
  unfold jan
  rcases rg with h | ⟨rfl,h⟩
  ·dsimp! [hs,aq,h,e1,zJ,zM,zE,qi]
  ·dsimp! [hs,aq,h,e1,zJ,zM,zE,qi]
def ziy{w:Int}{qs:Ab}(hq:∀ n∈qs,n∈aa)(iz:qs.length<=50):zae aa fr c (jab.ex cf [0] [some b,@&(zG p fr c),o2,@&(.list ((qI c qs).map .str)),@&(.list (Za c)),@&(.int w),none,none]):=by
 let hs:∀ s,(IB.cons s jau).ex cf [0]=sSeq (s.ex cf [0]) (jau.ex cf [0]):=λs=>rfl
 let AS:∀ s,(IB.cons s jan).ex cf [0]=sSeq (s.ex cf [0]) (jan.ex cf [0]):=λs=>rfl
 let hkl:=WP c
 let hpl:=S.len
 by_cases hA:3<w∨c.length=0
 ·let(d,b1,G,hb1,e1):=hE b hb aa p fr c S hp
  refine#[d,b1,@&(zG p fr c),o2,@&(.list ((qI c qs).map .str)),@&(.list (Za c)),@&(.int w),none,none,G,hb1,?_]
  unfold jab
  by_cases h3:3<w
  ·dsimp! [hs,h3,e1,zJ,zM,zE,qi]
  ·let h4:c.length=0:=hA.resolve_left h3
   rw[h4]at hkl
   dsimp! [hs,h3,hkl,e1,zJ,zM,zE,qi]
 ·let DV:¬ 3<w:=λz=>hA (.inl z)
  let fu:c.length≠0:=λz=>hA (.inr z)
  let dj:((c.length:Int)==0)=false:=x9.mpr (by lia)
  let(r,b1,g1,rk,hb1,e1):=ht b hb (c.length:Int) (by lia) (by lia)
  let(j,rfl):=xx g1
  let Ft:(qX ((clD c).map (·.1))).length=c.length:=by rw[(jg _).length_eq];simp[clD]
  let hj:j<(qX ((clD c).map (·.1))).length:=by lia
  let(cs,g):=yr (xI hj)
  let a1:atI (Za c) (j:Int)=some (.str (qX ((clD c).map (·.1)))[j]):=zi1 hj
  rwa[(qX ((clD c).map (·.1)))[j]=n]
  by_cases hB:w=1/\1<c.length
  ·let(rfl,EZ):=hB
   let EY:(1:Int)<(c.length:Int):=by lia
   refine#[.fold n,b1,@&(zG p fr c),o2,@&(.list ((qI c qs).map .str)),@&(.list (Za c)),@&(.int 1),@&(.str n),none,#[cs,g],hb1,?_]
   let hD:(Deed.fold n).D=.tuple [.str "fold",.str n]:=rfl
   rw[hD]
   unfold jab
   unfold jau
   dsimp! [AS,hkl,fu,dj,EZ,EY,e1,a1,zJ,zM,zE,qi]
  ·let(d,b2,gy,gx,gw,cg,cb,b6,bj,G,hb2,e2):=zix ht hE hb1 S hp g hq iz (o2:=o2) (o4:=some (.d (.list (Za c)))) (w:=w)
   refine#[d,b2,gy,gx,gw,cg,cb,b6,bj,G,hb2,?_]
   let E1:(w==1)=false∨(w=1/\c.length=1):=by
    by_cases hw:w=1
    ·exact .inr #[hw,by have:¬ 1<c.length:=λz=>hB #[hw,z];lia]
    ·erw[.inl (x9.mpr hw)]
   unfold jab
   unfold jau
   rcases E1 with h | ⟨rfl,h⟩
   ·dsimp! [AS,hkl,fu,dj,DV,h,e1,a1,e2,zJ,zM,zE,qi]
   ·let h1:((1:Nat):Int)=1:=rfl
    rw[h]at hkl e1
    rw[h1]at e1
    dsimp! [AS,hkl,e1,a1,e2,zJ,zM,zE,qi]
end
def ziu(cf:CF)(ht:qK cf)(hE:VG cf):VS λ_=>runI 8 [true,false,false] [0] ν3 cf:=λb hb aa p fr c qs S hp hq iz=>by
 let hs:∀ s,(IB.cons s jab).ex cf [0]=sSeq (s.ex cf [0]) (jab.ex cf [0]):=λs=>rfl
 let(w,b1,g1,rk,hb1,e1):=ht b hb 9 (by decide) (by decide)
 let e0:=zgQ cf (p:=p) (fr:=fr) (c:=c) qs (o0:=some b) (o2:=some (.d (qP qs))) (o3:=none) (o4:=none) (o5:=none) (o6:=none) (o7:=none)
 let k2:atI (zH p fr c) 2=some (.dict ((clD c).map dK)):=rfl
 let hu:=zT (clD c)
 let hK:zG p fr c=.list (zH p fr c):=rfl
 let hpl:=S.len
 let cn:(clD c).length<64:=by simp[clD];lia
 let lj:(qI c qs).length<=qs.length:=uk _ _
 let aq:((qI c qs).map PyData.str).length=(qI c qs).length:=by simp
 let AW:(qs.map PyData.str).length<=1000000:=by simp;lia
 let cu:(qX ((clD c).map (·.1))).map PyData.str=Za c:=rfl
 by_cases hA:w=0/\0<(qI c qs).length
 ·let(rfl,fw):=hA
  let l4:(0:Int)<((qI c qs).length:Int):=by lia
  let(r,b2,g2,rj,hb2,e2):=ht b1 hb1 ((qI c qs).length:Int) (by lia) (by lia)
  let(j,rfl):=xx g2
  let hj:j<(qI c qs).length:=by lia
  let hm:=ur.mp (xI hj)
  let(s,b3,g3,BI,bh,e3):=ht b2 hb2 5 (by decide) (by decide)
  refine#[.hang (qI c qs)[j] s,b3,#[hq _ hm.1,~~~hm.2,by lia,by lia],bh,?_]
  let a1:=zi1 hj
  let hD:∀ m,(Deed.hang m s).D=.tuple [.str "hang",.str m,.int s]:=λm=>rfl
  rw[hD]
  unfold qP at *
  rw[hK]at e0 |-
  rwa[(qI c qs)[j]=M,(qI c qs).map PyData.str=GN,qs.map PyData.str=QS,zH p fr c=K,(clD c).map dK=CD,Za c=KD,clD c=C1,(j:Int)=J]
  unfold ν3
  rwa[jab=B8,jal=B1,jbg=B2]
  dsimp! [hs,k2,hu,cn,cu,AW,e0,aq,fw,l4,e1,e2,e3,a1,zJ,zM,zE,qi]
 ·let(d,b2,gy,gx,gw,cg,cb,b6,bj,G,hb2,e2):=ziy ht hE hb1 S hp hq iz (o2:=some (.d (qP qs))) (w:=w)
  refine#[d,b2,G,hb2,?_]
  let rg:(w==0)=false∨(w=0/\(qI c qs).length=0):=by
   by_cases hw:w=0
   ·erw[.inr #[hw,Nat.eq_zero_of_not_pos λz=>hA #[hw,z]]]
   ·erw[.inl (x9.mpr hw)]
  unfold qP at *
  rw[hK]at e0 e2 |-
  rwa[(qI c qs).map PyData.str=GN,qs.map PyData.str=QS,zH p fr c=K,(clD c).map dK=CD,Za c=KD,clD c=C1,d.D=DD]
  unfold ν3
  rwa[jab=B8,jal=B1,jbg=B2]
  rcases rg with h | ⟨rfl,h⟩
  ·dsimp! [hs,k2,hu,cn,cu,AW,e0,aq,h,e1,e2,zJ,zM,zE,qi]
  ·dsimp! [hs,k2,hu,cn,cu,AW,e0,aq,h,e1,e2,zJ,zM,zE,qi]
def zgS(xs:Ab)(n:Str):inD (.str n) (xs.map .str)=xs.contains n:=by
 unfold inD
 induction xs with
 |nil=>rfl
 |cons x xs ih=>
  rw[xr,xT,List.contains_cons,ih,Bool.beq_comm (a:=n)]
  rfl
def Y5(L:Nat)(U:Gv):Prop:=∃(b:OV)(ns:Ab)(o2 o3:Option OV),zU b/\(∀ n∈ns,Nm n)/\ns.length<=L/\(1<=L->1<=ns.length)/\U= [some b,some (.l (ns.map λn=>.d (.str n))),o2,o3]
def zcq(cf:CF)(hn:wT cf){L:Nat}(hL:L<60){U:Gv}{x:PyData}(h:Y5 L U) :
  ∃ U1 U2,tgF (.nm 2 2) x U=some U1/\jak.ex cf [0] U1=.ok (.next,U2)/\Y5 (L+1) U2:=by
 let(b,ns,o2,o3,hb,hN,hl,hl1,rfl):=h
 let(n,b1,Ef,hb1,e1):=hn b hb
 let Co:lay 20 (.str n)=true:=Ef.ok
 let hal:(ns.map PyData.str).all (lay 20)=true:=by
  rw[List.all_map,xG]
  erw[λy hy=>(hN y hy).ok]
 let hin:=zgS ns n
 let vv:=yM ns
 let hz:ns.length<1000000:=by lia
 let fj:(ns.map λn=>OV.d (.str n)).length=ns.length:=by simp
 refine#[[some b,some (.l (ns.map λn=>.d (.str n))),@&x,o3],?_]
 by_cases g:n∈ns
 ·let hc:ns.contains n=true:= ~~~g
  refine#[[some b1,some (.l (ns.map λn=>.d (.str n))),@&x,@&(.str n)],rfl,?_,b1,ns,_,_,hb1,hN,by lia,λ_=>List.length_pos_of_mem g,rfl]
  rw[hc]at hin
  rwa[(ns.map λn=>OV.d (.str n))=X,ns.map PyData.str=Y]
  push_cast [jak,e1,Co,hal,hin,vv,qi,cs1]
 ·let hc:ns.contains n=false:= ~~~g
  refine⟨[some b1,some (.l ((ns++ [n]).map λn=>.d (.str n))),@&x,@&(.str n)],rfl,?_,b1,ns++ [n],_,_,hb1,by
   grind,by simp;lia,by simp,rfl⟩
  rw[hc]at hin
  rw[xv]
  rwa[(ns.map λn=>OV.d (.str n))=X,ns.map PyData.str=Y]
  dsimp! [jak,e1,Co,hal,hin,vv,fj,hz,zE,qi]
def Y6 (cf:CF):Prop:=∀ b,zU b->∃ (ns:Ab) (b':OV),1<=ns.length/\ns.length<=4/\(∀ n∈ns,Nm n)/\zU b'/\cf "_law_pool" [b]=.ok (.l (ns.map λn=>.d (.str n))) [some b']
def zhp(cf:CF)(ht:qK cf)(hn:wT cf):Y6 λ_=>runI 4 [true] [0] Q1 cf:=λb hb=>by
 let(r,b1,g1,rk,hb1,e1):=ht b hb 3 (by decide) (by decide)
 let(m,rfl):=xx g1
 let(U',e,b',ns,o2,o3,hb',hN,hl,hl1,rfl):=zY (t:=.nm 2 2) (body:=jak.ex cf [0]) (ds:=zV (2+m)) (U:= [some b1,some (.l []),none,none])
  (λpre U=>Y5 pre.length U) #[b1,[],none,none,hb1,(λ_ h=>nomatch h),xh _,id,rfl] (by
   intro pre x post ex U hI
   let hlen:pre.length<2+m:=by
    have:=congrArg List.length ex
    rw[zC]at this
    simp at this;lia
   let(U1,U2,a1,a2,a3):=zcq cf hn (by lia) hI (x:=x)
   exact#[U1,U2,a1,a2,by rw[xm];exact a3])
 rw[zC]at hl hl1
 refine#[ns,b',hl1 (by lia),by lia,hN,hb',?_]
 let bf: -1000000<=(2:Int)+(m:Int)/\(2:Int)+(m:Int)<=1000000:=by lia
 let ao:((2:Int)+(m:Int)).toNat=2+m:=by lia
 let oe:2+m<=1000000:=by lia
 let hrl:=zC (2+m)
 rwa[(ns.map λn=>OV.d (.str n))=X]
 unfold Q1
 rwa[jak=B]
 dsimp! [e,e1,bf,ao,oe,hrl,zE,qi]
structure Hs(aa:Ab)(p:Nat)(f:PyData)(L:Nat)(fr:List Bool)(c:Cls)(dn:Ao):Prop where
 S:StOk aa p fr c
 q:ZL f dn=stA fr c
 l:dn.length<=L
def Hs.step{d:Deed}(h:Hs aa p f L fr c dn)(G:QM aa fr c d):Hs aa p f (L+1) (d.fr fr) (d.cl p c) (dn++ [(d.D,stA (d.fr fr) (d.cl p c))]):=#[h.S.step G,zce _ _ _ _,by have:=h.l;simp;lia]
def Hs.mono(h:Hs aa p f L fr c dn)(g:L<=L'):Hs aa p f L' fr c dn:=#[h.S,h.q,xD h.l g]
def jN (P:Int) (f:PyData) (dn:Ao):∃ XS,hV P f dn [] []=.o "House" ["pots","first","done","undone","places"] XS:=#[_,rfl]
def ZS{cf:CF}(ho:wy cf)(hi:Qf cf){aa:Ab}{p:Nat}{f:PyData}{L:Nat}{fr:List Bool}{c:Cls}{dn:Ao}(hp:aa.length<=50)(hN:∀ n∈aa,Nm n)(h:Hs aa p f L fr c dn)(hL:L<1000000){d:Deed}(G:QM aa fr c d)(P:Int) :
  cf "House.do" [hV P f dn [] [],.d d.D]=.ok (.d .none) [some (hV P f (dn++ [(d.D,stA (d.fr fr) (d.cl p c))]) [] []),none]/\cf "_law_did" [.d (.list (zH p fr c)),.d d.D]=.ok (.l ((zH p (d.fr fr) (d.cl p c)).map .d)) [none,none] :=
 #[ho aa p fr c d P f dn [] (by lia) hN h.S G (by have:=h.l;lia) h.q,hi aa p fr c d (by lia) h.S G]
def zcO(aa:Ab)(p:Nat)(P:Int)(f:PyData)(o3:Option OV)(L:Nat)(U:Gv):Prop:=∃(b:OV)(fr:List Bool)(c:Cls)(dn:Ao)(g:Int)(o5 o6:Option OV),zU b/\Hs aa p f L fr c dn /\
 U= [some b,some (hV P f dn [] []),@&(zG p fr c),o3,@&(.int g),o5,o6]
def zc9{cf:CF}(ht:qK cf)(ho:wy cf)(hi:Qf cf){aa:Ab}{p:Nat}{P:Int}{f:PyData}{o3:Option OV}{L:Nat}{U:Gv}{n:Str}(hp:aa.length<=50)(hN:∀ n∈aa,Nm n)(hL:L<1000000)(hn:n∈aa)(h:zcO aa p P f o3 L U) :
  ∃ U1 U2,tgF (.nm 5 5) (.str n) U=some U1/\jaf.ex cf [0,1] U1=.ok (.next,U2)/\zcO aa p P f o3 (L+1) U2:=by
 let(b,fr,c,dn,g,o5,o6,hb,H,rfl):=h
 let k2:atI (zH p fr c) 2=some (.dict ((clD c).map dK)):=rfl
 let hu:=zT (clD c)
 let hv:=zZ c n
 let hK:zG p fr c=.list (zH p fr c):=rfl
 let(X1,g1):=jN P f dn
 refine#[[some b,some (hV P f dn [] []),@&(zG p fr c),o3,@&(.int g),@&(.str n),o6],?_]
 cases hc:zN c n with
 |some cs=>
  refine#[_,rfl,?_,b,fr,c,dn,g,@&(.str n),o6,hb,H.mono (by lia),rfl]
  rw[hc]at hv
  push_cast [jaf,k2,hu,hv,cs1]
 |none=>
  rw[hc]at hv
  let(r,b1,g2,rj,hb1,e1):=ht b hb 5 (by decide) (by decide)
  by_cases hr:0<r
  ·let(s,b2,g3,BI,hb2,e2):=ht b1 hb1 5 (by decide) (by decide)
   by_cases hg:g=0
   ·subst hg
    let(t,b3,g4,Fy,bh,e3):=ht b2 hb2 3 (by decide) (by decide)
    obtain⟨k,hk,ck,c9⟩:∃ k:Int,atI [PyData.int 40,.int 23,.int 12] t=some (.int k)/\0<=k/\k<=40:=by
     have:t=0∨t=1∨t=2:=by lia
     rcases this with rfl | rfl | rfl
     ·exact#[40,rfl,by lia,by lia]
     ·exact#[23,rfl,by lia,by lia]
     ·exact#[12,rfl,by lia,by lia]
    let G:QM aa fr c (.hang n k):=#[hn,hc,ck,c9]
    let(e4,e5):=ZS ho hi hp hN H hL G P
    refine#[[some b3,some (hV P f (dn++ [((Deed.hang n k).D,stA ((Deed.hang n k).fr fr) ((Deed.hang n k).cl p c))]) [] []),@&(zG p ((Deed.hang n k).fr fr) ((Deed.hang n k).cl p c)),o3,@&(.int 1),@&(.str n),@&(.int k)],rfl,?_,b3,_,_,_,1,_,_,bh,H.step G,rfl]
    let vv:=qm (zH p ((Deed.hang n k).fr fr) ((Deed.hang n k).cl p c))
    let d7:zG p ((Deed.hang n k).fr fr) ((Deed.hang n k).cl p c)=.list (zH p ((Deed.hang n k).fr fr) ((Deed.hang n k).cl p c)):=rfl
    let hD:(Deed.hang n k).D=.tuple [.str "hang",.str n,.int k]:=rfl
    rw[hK,d7]
    rw[g1]at e4 |-
    rwa[hV P f (dn++ [((Deed.hang n k).D,stA ((Deed.hang n k).fr fr) ((Deed.hang n k).cl p c))]) [] []=H2]
    rw[hD]at e4 e5
    dsimp! [jaf,k2,hu,hv,hr,e1,e2,e3,hk,e4,e5,vv,zJ,zM,zE,qi]
   ·let Ex:(g==0)=false:=x9.mpr hg
    let G:QM aa fr c (.hang n s):=#[hn,hc,g3,by lia]
    let(e4,e5):=ZS ho hi hp hN H hL G P
    refine#[[some b2,some (hV P f (dn++ [((Deed.hang n s).D,stA ((Deed.hang n s).fr fr) ((Deed.hang n s).cl p c))]) [] []),@&(zG p ((Deed.hang n s).fr fr) ((Deed.hang n s).cl p c)),o3,@&(.int g),@&(.str n),@&(.int s)],rfl,?_,b2,_,_,_,g,_,_,hb2,H.step G,rfl]
    let vv:=qm (zH p ((Deed.hang n s).fr fr) ((Deed.hang n s).cl p c))
    let d7:zG p ((Deed.hang n s).fr fr) ((Deed.hang n s).cl p c)=.list (zH p ((Deed.hang n s).fr fr) ((Deed.hang n s).cl p c)):=rfl
    let hD:(Deed.hang n s).D=.tuple [.str "hang",.str n,.int s]:=rfl
    rw[hK,d7]
    rw[g1]at e4 |-
    rwa[hV P f (dn++ [((Deed.hang n s).D,stA ((Deed.hang n s).fr fr) ((Deed.hang n s).cl p c))]) [] []=H2]
    rw[hD]at e4 e5
    dsimp! [jaf,k2,hu,hv,hr,e1,e2,Ex,e4,e5,vv,zJ,zM,zE,qi]
  ·refine#[[some b1,some (hV P f dn [] []),@&(zG p fr c),o3,@&(.int g),@&(.str n),o6],rfl,?_,b1,fr,c,dn,g,_,_,hb1,H.mono (by lia),rfl]
   rw[hK,g1]
   rwa[zH p fr c=K]
   push_cast [jaf,k2,hu,hv,e1,hr,cs1]
def VB(cf:CF):Prop:=∀ b,zU b->∀(aa qs:Ab)(p:Nat)(fr:List Bool)(c:Cls)(P:Int)(f:PyData)(dn:Ao)(L:Nat),aa.length<=50->(∀ n∈aa,Nm n)->(∀ n∈qs,n∈aa)->qs.length<=50->Hs aa p f L fr c dn->L<=1000 ->
 ∃ (b':OV) (fy:List Bool) (c':Cls) (cm:Ao),zU b'/\Hs aa p f (L+qs.length) fy c' cm/\cf "_law_begun" [b,hV P f dn [] [],.d (zG p fr c),.d (qP qs)]=.ok (.d (zG p fy c')) [some b',some (hV P f cm [] []),none,none]
def zda(cf:CF)(ht:qK cf)(ho:wy cf)(hi:Qf cf):VB λ_=>runI 7 [true,true,false,false] [0,1] Qm cf:=λb hb aa qs p fr c P f dn L h1 h2 hq iz H hL=>by
 let(g,b1,g1,rk,hb1,e1):=ht b hb 9 (by decide) (by decide)
 let(U',e,b',fy,c',cm,g',o5,o6,hb',H',rfl):=zY (t:=.nm 5 5) (body:=jaf.ex cf [0,1]) (ds:=qs.map .str) (U:= [some b1,some (hV P f dn [] []),@&(zG p fr c),@&(qP qs),@&(.int g),none,none])
  (λpre U=>zcO aa p P f (@&(qP qs)) (L+pre.length) U) #[b1,fr,c,dn,g,none,none,hb1,H,rfl] (by
   intro pre x post ex U hI
   let hx:x∈qs.map PyData.str:=by rw[ex];simp
   let hlen:pre.length<qs.length:=by
    have:=congrArg List.length ex
    simp at this;lia
   let(n,hn,rfl):=xu.mp hx
   let(U1,U2,a1,a2,a3):=zc9 ht ho hi h1 h2 (by lia) (hq n hn) hI
   exact#[U1,U2,a1,a2,by rw[xm];exact a3])
 rw[xl]at H'
 refine#[b',fy,c',cm,hb',H',?_]
 unfold qP at *
 unfold Qm
 dsimp! [e,e1,zE,qi]
def zcV(aa:Ab)(p:Nat)(P:Int)(f:PyData)(o2 o3:Option OV)(qs:Ab)(L:Nat)(U:Gv):Prop:=∃(b:OV)(fr:List Bool)(c:Cls)(dn:Ao)(o6 o7:Option OV),zU b/\Hs aa p f L fr c dn /\
 U= [some b,some (hV P f dn [] []),o2,o3,@&(qP qs),@&(zG p fr c),o6,o7]
def zb9{cf:CF}(hw:VS cf)(ho:wy cf)(hi:Qf cf){aa qs:Ab}{p:Nat}{P:Int}{f:PyData}{o2 o3:Option OV}{L:Nat}{U:Gv}{x:PyData}(hp:aa.length<=50)(hN:∀ n∈aa,Nm n)(hq:∀ n∈qs,n∈aa)(iz:qs.length<=50)(hL:L<1000000)(h:zcV aa p P f o2 o3 qs L U) :
  ∃ U1 U2,tgF (.nm 6 6) x U=some U1/\ja9.ex cf [0,1] U1=.ok (.next,U2)/\zcV aa p P f o2 o3 qs (L+1) U2:=by
 let(b,fr,c,dn,o6,o7,hb,H,rfl):=h
 let(d,b1,G,hb1,e1):=hw b hb aa p fr c qs H.S hp hq iz
 let(e2,e3):=ZS ho hi hp hN H hL G P
 refine#[[some b,some (hV P f dn [] []),o2,o3,@&(qP qs),@&(zG p fr c),@&x,o7],[some b1,some (hV P f (dn++ [(d.D,stA (d.fr fr) (d.cl p c))]) [] []),o2,o3,@&(qP qs),@&(zG p (d.fr fr) (d.cl p c)),@&x,some (.d d.D)],rfl,?_,b1,_,_,_,_,_,hb1,H.step G,rfl]
 let vv:=qm (zH p (d.fr fr) (d.cl p c))
 let hK:zG p fr c=.list (zH p fr c):=rfl
 let d7:zG p (d.fr fr) (d.cl p c)=.list (zH p (d.fr fr) (d.cl p c)):=rfl
 let(X1,g1):=jN P f dn
 rw[d7]
 rw[hK]at e1 |-
 rw[g1]at e2 |-
 dsimp! [ja9,e1,e2,e3,vv,zE,qi]
def Y3(cf:CF):Prop:=∀ b,zU b->∀(p m:Nat),p<=12->1<=m->m<=60->∃(aa:Ab)(b':OV)(fr:List Bool)(c:Cls)(dn:Ao),aa.length<=4/\(∀ n∈aa,Nm n)/\zU b'/\Hs aa p (stA (List.replicate p true) []) 100 fr c dn /\
 cf "_law_made" [b,hV p (stA (List.replicate p true) []) [] [] [],.d (.int p),.d (.int m)]=.ok (.d (zG p fr c)) [some b',some (hV p (stA (List.replicate p true) []) dn [] []),none,none]
def zg3(cf:CF)(ht:qK cf)(mz:Y6 cf)(hk:Y0 cf)(EJ:VB cf)(hw:VS cf)(ho:wy cf)(hi:Qf cf):Y3 λ_=>runI 8 [true,true,false,false] [0,1] Q0 cf:=λb hb p m hp m1 m2=>by
 let(ns,b1,n1,n2,hN,hb1,e1):=mz b hb
 let e2:=hk p hp
 let S0:StOk ns p (List.replicate p true) []:=#[hp,by simp,by simp,by simp,by simp]
 let H0:Hs ns p (stA (List.replicate p true) []) 0 (List.replicate p true) [] []:=#[S0,rfl,xh _]
 let(b2,CN,c1,mq,hb2,H1,e3):=EJ b1 hb1 ns ns p _ _ p _ _ 0 (by lia) hN (λn h=>h) (by lia) H0 (by lia)
 let(r,b3,g,g',bh,e4):=ht b2 hb2 (m:Int) (by lia) (by lia)
 let(k,rfl):=xx g
 let(U',e,b',fy,c',cm,o6,o7,hb',H',rfl):=zY (t:=.nm 6 6) (body:=ja9.ex cf [0,1]) (ds:=zV k) (U:= [some b3,some (hV p (stA (List.replicate p true) []) mq [] []),@&(.int p),@&(.int m),@&(qP ns),@&(zG p CN c1),none,none])
  (λpre U=>zcV ns p p (stA (List.replicate p true) []) (@&(.int p)) (@&(.int m)) ns (0+ns.length+pre.length) U) #[b3,CN,c1,mq,none,none,bh,H1,rfl] (by
   intro pre x post ex U hI
   let hlen:pre.length<k:=by
    have:=congrArg List.length ex
    rw[zC]at this
    simp at this;lia
   let(U1,U2,a1,a2,a3):=zb9 hw ho hi (by lia) hN (λn h=>h) (by lia) (by lia) hI (x:=x)
   exact#[U1,U2,a1,a2,by rw[xm];exact a3])
 rw[zC]at H'
 refine#[ns,b',fy,c',cm,n2,hN,hb',H'.mono (by lia),?_]
 let bf: -1000000<=(k:Int)/\(k:Int)<=1000000:=by lia
 let ao:k<=1000000:=by lia
 let hrl:=zC k
 let vv:=yM ns
 let vk:=qm (zH p (List.replicate p true) [])
 let hK:zG p (List.replicate p true) []=.list (zH p (List.replicate p true) []):=rfl
 rw[hK]at e3
 let(X0,q0):=jN p (stA (List.replicate p true) []) []
 unfold qP at *
 unfold Q0
 dsimp! [e,e1,e2,e3,e4,vv,vk,bf,ao,hrl,zE,qi]
def bw (g:Int) (f:Bool):Option Str:=if g<0 then some "spare" else if 1<g then some "deep" else if g=1/\f=false then some "spent" else none
def bwD(g:Int)(f:Bool):PyData:=match bw g f with
 |some w=>.str w
 |none=>.none
def qw(fr:List Bool)(c:Cl)(i n:Nat):Aa:=(List.range n).filterMap λd=>(bw (c.wi.getD d 0-c.st.getD d 0) (fr.getD d false)).map λw=>.tuple [.str w,.int (i:Nat),.int (d:Nat)]
def zR(fr:List Bool)(cs:List Cl)(n:Nat):Aa:=(List.range n).flatMap λi=>match cs[i]? with
 |some c=>qw fr c i c.st.length
 |none=> []
def ν5(fr:List Bool)(c:Cl)(i n:Nat):(qw fr c i n).length<=n:=by
 have:=List.length_filterMap_le (λd=>(bw (c.wi.getD d 0-c.st.getD d 0) (fr.getD d false)).map λw=>PyData.tuple [.str w,.int (i:Nat),.int (d:Nat)]) (List.range n)
 rw[ux]at this;exact this
def QP(fr:List Bool)(c:Cl)(i n:Nat):qw fr c i (n+1)=qw fr c i n++(match bw (c.wi.getD n 0-c.st.getD n 0) (fr.getD n false)with | some w=> [PyData.tuple [.str w,.int (i:Nat),.int (n:Nat)]] | none=> []):=by
 unfold qw
 rw[ut,List.filterMap_append]
 congr 1
 cases e:bw (c.wi.getD n 0-c.st.getD n 0) (fr.getD n false) with
 |none=>rw[ug,e];rfl
 |some w=>rw[ug,e];rfl
def Zo(fr:List Bool)(cs:List Cl)(n:Nat)(c:Cl)(h:cs[n]?=some c):zR fr cs (n+1)=zR fr cs n++qw fr c n c.st.length:=by
 unfold zR
 rw[ut,List.flatMap_append]
 congr 1
 simp[h]
def jX{pots:Nat}(fr:List Bool){cs:List Cl}(h:∀ c∈cs,Zk pots c.st c.wi):∀ n,(zR fr cs n).length<=n*pots
 |0=>by simp[zR]
 |n+1=>by
  let ih:=jX fr h n
  cases e:cs[n]? with
  |none=>
   have:zR fr cs (n+1)=zR fr cs n:=by
    unfold zR
    rw[ut,List.flatMap_append]
    simp[e]
   rw[this,Nat.succ_mul];lia
  |some c=>
   rw[Zo fr cs n c e,xm,Nat.succ_mul]
   let h1:=ν5 fr c n c.st.length
   let h2:=(h c (xO e)).sl
   lia
def ziR(x:PyData):Prop:=∃(w:Str)(i d:Int),x=.tuple [.str w,.int i,.int d]/\PyData.strOk w=true
def zk5{g:Int}{f:Bool}{w:Str}(h:bw g f=some w):PyData.strOk w=true:=by
 unfold bw at h
 split at h
 ·cases h;decide +kernel
 ·split at h
  ·cases h;decide +kernel
  ·split at h
   ·cases h;decide +kernel
   ·cases h
def yW{fr:List Bool}{c:Cl}{i n:Nat}:∀ x∈qw fr c i n,ziR x:=λx hx=>by
 let(d,_,e):=uC.mp hx
 cases q:bw (c.wi.getD d 0-c.st.getD d 0) (fr.getD d false) with
 |none=>rw[q]at e;cases e
 |some w=>rw[q]at e;cases e;exact#[w,_,_,rfl,zk5 q]
def Qs{fr:List Bool}{cs:List Cl}{n:Nat}:∀ x∈zR fr cs n,ziR x:=λx hx=>by
 let(i,_,e):=List.mem_flatMap.mp hx
 split at e
 ·erw[yW x e]
 ·cases e
def ziB(cf:CF)(g:Int)(f:Bool):runI 2 [false,false] [] jx cf [.d (.int g),.d (.bool f)]=.ok (.d (bwD g f)) [none,none]:=by
 by_cases h1:g<0
 ·simp![jx,bwD,bw,h1,OV.view,OV.views,q8,ixN,atI]
 ·by_cases h2:1<g
  ·simp![jx,bwD,bw,h1,h2,OV.view,OV.views,q8,ixN,atI]
  ·by_cases h3:g=1
   ·cases f<;>simp![jx,bwD,bw,h3,zJ,zM,OV.view,OV.views,q8,ixN,atI]
   ·simp![jx,bwD,bw,h1,h2,h3,zJ,zM,OV.view,OV.views,q8,ixN,atI]
def ki (cf:CF):Prop:=∀ (g:Int) (f:Bool),cf "bar_word" [.d (.int g),.d (.bool f)]=.ok (.d (bwD g f)) [none,none]
def Wm{xs:List Bool}{d:Nat}(h:d<xs.length):atI (xs.map PyData.bool) (d:Int)=some (.bool (xs.getD d false)) :=
 qN (by rw[xf,xb h,xF,xb h];rfl)
def zgr(cf:CF)(hw:ki cf){rows:PyData}{fr:List Bool}{c:Cl}{i:Nat}{told:Aa}{pots:Nat}(hc:Zk pots c.st c.wi)(hf:fr.length=pots)(hp:pots<=100)(ht:told.length<=100000){o5 o7 o8:Option OV} :
  ∃ bj bc:Option OV,jp (.nm 7 7) (jaw.ex cf []) (zV pots) [@&rows,@&(.list (fr.map .bool)),some (.l (told.map .d)),@&(.int i),@&(zB c.st),o5,@&(zB c.wi),o7,o8]
   = .ok (.next,[@&rows,@&(.list (fr.map .bool)),some (.l ((told++qw fr c i pots).map .d)),@&(.int i),@&(zB c.st),o5,@&(zB c.wi),bj,bc]):=by
 let(U',e,(bj,bc,rfl)):=zY (t:=.nm 7 7) (body:=jaw.ex cf []) (ds:=zV pots) (U:= [@&rows,@&(.list (fr.map .bool)),some (.l (told.map .d)),@&(.int i),@&(zB c.st),o5,@&(zB c.wi),o7,o8])
  (λpre U=>∃ o7 o8:Option OV,U= [@&rows,@&(.list (fr.map .bool)),some (.l ((told++qw fr c i pre.length).map .d)),@&(.int i),@&(zB c.st),o5,@&(zB c.wi),o7,o8]) #[o7,o8,by simp[qw]] (by
   rintro pre x post e U ⟨o7,o8,rfl⟩
   let(rfl,hlt):=j8 e
   let a1:=jW (xs:=c.st) (d:=pre.length) (by rw[hc.sl];exact hlt)
   let a2:=jW (xs:=c.wi) (d:=pre.length) (by rw[hc.wl];exact hlt)
   let a3:=Wm (xs:=fr) (d:=pre.length) (by rw[hf];exact hlt)
   let hlen:=ν5 fr c i pre.length
   let hz:told.length+(qw fr c i pre.length).length<1000000:=by lia
   let hq:=hw (c.wi.getD pre.length 0-c.st.getD pre.length 0) (fr.getD pre.length false)
   simp only[xm,xo,xP,ui]
   rw[QP]
   rwa[c.wi.getD pre.length 0=z1,c.st.getD pre.length 0=z2,fr.getD pre.length false=z3]
   refine#[_,[@&rows,@&(.list (fr.map .bool)),some (.l ((told++(qw fr c i pre.length++(match bw (z1-z2) z3 with | some w=> [PyData.tuple [.str w,.int (i:Nat),.int (pre.length:Nat)]] | none=> []))).map .d)),@&(.int i),@&(zB c.st),o5,@&(zB c.wi),@&(.int pre.length),@&(bwD (z1-z2) z3)],by simp[tgF];rfl,?_,_,_,rfl]
   unfold bwD at hq |-
   cases hbw:bw (z1-z2) z3 with
   |none=>
    rw[hbw]at hq
    simp![jaw,zB,a1,a2,a3,hq,isN,OV.view,OV.views,q8]
   |some w=>
    rw[hbw]at hq
    simp![jaw,zB,a1,a2,a3,hq,hz,isN,OV.view,OV.views,q8])
 rw[zC]at *
 exact#[bj,bc,e]
def qB(fr:List Bool):PyData:=.list (fr.map .bool)
def zgs(cf:CF)(hw:ki cf){pots:Nat}{cs:List Cl}(hl:cs.length<=100)(hk:∀ c∈cs,Zk pots c.st c.wi){fr:List Bool}(hf:fr.length=pots)(hp:pots<=100) :
  runI 9 [false,false] [] KB cf [.d (zA cs),.d (qB fr)]=.ok (.l ((zR fr cs cs.length).map .d)) [none,none]:=by
 let(U',e,(o3,o4,o5,o6,o7,o8,rfl)):=zY (t:=.tp (.cons (.nm 3 3) (.cons (.tp (.cons (.nm 4 4) (.cons (.nm 5 5) (.cons (.nm 6 6) .nil)))) .nil))) (body:=jb9.ex cf []) (ds:=qS (cs.map Cl.D)) (U:= [@&(zA cs),@&(qB fr),some (.l []),none,none,none,none,none,none])
  (λpre U=>∃ o3 o4 o5 o6 o7 o8:Option OV,U= [@&(zA cs),@&(qB fr),some (.l ((zR fr cs pre.length).map .d)),o3,o4,o5,o6,o7,o8]) #[none,none,none,none,none,none,by simp[zR]] (by
   rintro pre x post e U ⟨o3,o4,o5,o6,o7,o8,rfl⟩
   let(y,hy,rfl):=zgJ e
   rw[xf]at hy
   cases hc:cs[pre.length]? with
   |none=>rw[hc]at hy;cases hy
   |some c=>
    rw[hc]at hy
    have:y=c.D:= ~~~hy.symm
    subst this
    let ok:=hk c (xO hc)
    let hpl:pre.length<cs.length:=(xa.mp hc).1
    let hbl:=jX fr hk pre.length
    let lx:(zR fr cs pre.length).length<=100000:=xD hbl (xD (Nat.mul_le_mul (by lia:pre.length<=100) hp) (by decide))
    let(bj,bc,e1):=zgr cf hw (rows:=zA cs) (i:=pre.length) (told:=zR fr cs pre.length) ok hf hp lx (o5:=some (.d (.bool c.w))) (o7:=o7) (o8:=o8)
    let bf: -1000000<=(pots:Int)/\(pots:Int)<=1000000:=by lia
    refine#[[@&(zA cs),@&(qB fr),some (.l ((zR fr cs pre.length).map .d)),@&(.int pre.length),@&(zB c.st),@&(.bool c.w),@&(zB c.wi),o7,o8],_,by simp[tgF,tgFs,Cl.D,ji],?_,@&(.int pre.length),@&(zB c.st),@&(.bool c.w),@&(zB c.wi),bj,bc,rfl]
    simp only[xm,xo,xP,ui]
    rw[Zo fr cs pre.length c hc,ok.sl]
    simp only[qB]
    simp![jb9,ok.sl,bf,OV.view,OV.views,q8,ixN,atI,zB]
    simp only[zB]at e1
    rw[e1];simp)
 rw[Vf,xl]at *
 simp![KB,zA,qB,OV.view,OV.views,q8,ixN,atI]
 simp only[zA,qB]at e
 rw[e]
 simp[outs]
def zeM(cf:CF){cs:List Cl}{fr:List Bool}{c:Cl}{i:Nat}(hi:cs[i]?=some c){told:Aa}{pots:Nat}(hc:Zk pots c.st c.wi)(hf:fr.length=pots)(hp:pots<=100)(ht:told.length<=100000){o4 o5:Option OV} :
  ∃ cg cb:Option OV,jp (.nm 4 4) (jae.ex cf []) (zV pots) [@&(zA cs),@&(qB fr),some (.l (told.map .d)),@&(.int i),o4,o5]
   = .ok (.next,[@&(zA cs),@&(qB fr),some (.l ((told++qw fr c i pots).map .d)),@&(.int i),cg,cb]):=by
 let(U',e,(cg,cb,rfl)):=zY (t:=.nm 4 4) (body:=jae.ex cf []) (ds:=zV pots) (U:= [@&(zA cs),@&(qB fr),some (.l (told.map .d)),@&(.int i),o4,o5])
  (λpre U=>∃ o4 o5:Option OV,U= [@&(zA cs),@&(qB fr),some (.l ((told++qw fr c i pre.length).map .d)),@&(.int i),o4,o5]) #[o4,o5,by simp[qw]] (by
   rintro pre x post e U ⟨o4,o5,rfl⟩
   let(rfl,hlt):=j8 e
   let a0:atI (cs.map Cl.D) (i:Int)=some c.D:=qN (by rw[xf,hi];rfl)
   let a1:=jW (xs:=c.st) (d:=pre.length) (by rw[hc.sl];exact hlt)
   let a2:=jW (xs:=c.wi) (d:=pre.length) (by rw[hc.wl];exact hlt)
   let a3:=Wm (xs:=fr) (d:=pre.length) (by rw[hf];exact hlt)
   let hlen:=ν5 fr c i pre.length
   let hz:told.length+(qw fr c i pre.length).length<1000000:=by lia
   simp only[xm,xo,xP,ui]
   rw[QP]
   rwa[c.wi.getD pre.length 0=z1,c.st.getD pre.length 0=z2,fr.getD pre.length false=z3]
   refine#[_,[@&(zA cs),@&(qB fr),some (.l ((told++(qw fr c i pre.length++(match bw (z1-z2) z3 with | some w=> [PyData.tuple [.str w,.int (i:Nat),.int (pre.length:Nat)]] | none=> []))).map .d)),@&(.int i),@&(.int pre.length),@&(.int (z1-z2))],by simp[tgF];rfl,?_,_,_,rfl]
   generalize hg:z1-z2=g
   by_cases h1:g<0
   ·let h2:¬ (2<=g):=by lia
    let h3:¬ (g=1):=by lia
    simp![jae,zA,qB,a0,OV.view,OV.views,q8,Qg,Qh,Cl.D,ji,zB,a1,a2,a3,hg,hz,bw,h1,h2,h3,zJ,zM]
   ·by_cases h2:1<g
    ·let mf:2<=g:=by lia
     let h3:¬ (g=1):=by lia
     simp![jae,zA,qB,a0,OV.view,OV.views,q8,Qg,Qh,Cl.D,ji,zB,a1,a2,a3,hg,hz,bw,h1,h2,mf,h3,zJ,zM]
    ·let mf:¬ (2<=g):=by lia
     by_cases h3:g=1
     ·cases z3<;>simp![jae,zA,qB,a0,OV.view,OV.views,q8,Qg,Qh,Cl.D,ji,zB,a1,a2,a3,hg,hz,bw,h3,zJ,zM]
     ·simp![jae,zA,qB,a0,OV.view,OV.views,q8,Qg,Qh,Cl.D,ji,zB,a1,a2,a3,hg,hz,bw,h1,h2,mf,h3,zJ,zM])
 rw[zC]at *
 exact#[cg,cb,e]
def zeN(cf:CF){pots:Nat}{cs:List Cl}(hl:cs.length<=100)(hk:∀ c∈cs,Zk pots c.st c.wi){fr:List Bool}(hf:fr.length=pots)(hp:pots<=100) :
  runI 6 [false,false] [] QW cf [.d (zA cs),.d (qB fr)]=.ok (.l ((zR fr cs cs.length).map .d)) [none,none]:=by
 let(U',e,(o3,o4,o5,rfl)):=zY (t:=.nm 3 3) (body:=jbq.ex cf []) (ds:=zV cs.length) (U:= [@&(zA cs),@&(qB fr),some (.l []),none,none,none])
  (λpre U=>∃ o3 o4 o5:Option OV,U= [@&(zA cs),@&(qB fr),some (.l ((zR fr cs pre.length).map .d)),o3,o4,o5]) #[none,none,none,by simp[zR]] (by
   rintro pre x post e U ⟨o3,o4,o5,rfl⟩
   let(rfl,hlt):=j8 e
   let hc:cs[pre.length]?=some cs[pre.length]:=xb hlt
   generalize cs[pre.length]=c at hc
   let ok:=hk c (xO hc)
   let a0:atI (cs.map Cl.D) (pre.length:Int)=some c.D:=qN (by rw[xf,hc];rfl)
   let hbl:=jX fr hk pre.length
   let lx:(zR fr cs pre.length).length<=100000:=xD hbl (xD (Nat.mul_le_mul (by lia:pre.length<=100) hp) (by decide))
   let(cg,cb,e1):=zeM cf hc (told:=zR fr cs pre.length) ok hf hp lx (o4:=o4) (o5:=o5)
   let bf: -1000000<=(pots:Int)/\(pots:Int)<=1000000:=by lia
   refine#[[@&(zA cs),@&(qB fr),some (.l ((zR fr cs pre.length).map .d)),@&(.int pre.length),o4,o5],_,by simp[tgF],?_,@&(.int pre.length),cg,cb,rfl]
   simp only[xm,xo,xP,ui]
   rw[Zo fr cs pre.length c hc,ok.sl]
   simp only[zA]at e1 |-
   simp![jbq,ok.sl,bf,OV.view,OV.views,q8,a0,Qg,Cl.D,ji,zB]
   rw[e1];simp)
 let bf: -1000000<=(cs.length:Int)/\(cs.length:Int)<=1000000:=by lia
 rw[zC]at *
 simp![QW,zA,bf,OV.view,OV.views,q8,ixN,atI]
 simp only[zA]at e
 rw[e]
 simp[outs]
def YU (cf:CF):Prop:=∀ (pots:Nat) (cs:List Cl) (fr:List Bool),cs.length<=100->(∀ c∈cs,Zk pots c.st c.wi)->fr.length=pots->pots<=100->cf "bars" [.d (zA cs),.d (qB fr)]=.ok (.l ((zR fr cs cs.length).map .d)) [none,none]
def zaa (cf:CF):Prop:=∀ (pots:Nat) (cs:List Cl) (fr:List Bool),cs.length<=100->(∀ c∈cs,Zk pots c.st c.wi)->fr.length=pots->pots<=100->cf "_law_bars" [.d (zA cs),.d (qB fr)]=.ok (.l ((zR fr cs cs.length).map .d)) [none,none]
def QE(n:Str):PyData->PyData
 |.tuple [w,i,d]=>.tuple [w,.str n,i,d]
 |_=>.none
def qY(fr:List Bool)(c:Cls)(n:Str):Aa:=(zR fr (qd c n) (qd c n).length).map (QE n)
def qA(fr:List Bool)(c:Cls)(ns:Ab):Aa:=ns.flatMap (qY fr c)
def Jm(fr:List Bool)(c:Cls)(ns:Ab)(n:Str):qA fr c (ns++ [n])=qA fr c ns++qY fr c n:=by simp[qA]
section
variable {aa:Ab}{p:Nat}{fr:List Bool}{c:Cls}(S:StOk aa p fr c)
include S
def Zp{n:Str}{cs:List Cl}(g:zN c n=some cs):(qY fr c n).length<=480:=by
 unfold qY
 rw[xl,qr g]
 let h:=jX fr (S.clo g).2 cs.length
 let h1:=(S.clo g).1
 let h2:=S.hp
 erw[xD h (Nat.mul_le_mul h1 h2)]
def Zd:∀{ns:Ab},(∀ n∈ns,∃ cs,zN c n=some cs)->(qA fr c ns).length<=ns.length*480
 |[],_=>xS _
 |n::ns,h=>by
  let(cs,g):=h n (by simp)
  let h1:=Zp S g
  let h2:=Zd (ns:=ns) λm hm=>h m (by simp[hm])
  unfold qA at *
  rw[List.flatMap_cons,xm,xo]
  lia
end
def w4 (cf:CF):Prop:=∀ (aa:Ab) (p:Nat) (fr:List Bool) (c:Cls) (ns:Ab),StOk aa p fr c->Qj c ns->cf "bars_of" [.d (stA fr c),.d (qP ns)]=.ok (.l ((qA fr c ns).map .d)) [none,none]
def Vi{ns:Ab}(h:∀ n∈ns,∃ cs,zN c n=some cs):∀ n∈ns,(zN (clD c) n).isSome=true:=λn hn=>by
 let(cs,g):=h n hn
 rw[zZ,g];rfl
def W4{xs:Ab}(e:xs.map PyData.str=pre++d::post):∃(a:Ab)(n:Str),pre=a.map .str/\d=.str n/\n∈xs/\(∀ m∈a,m∈xs)/\a++ [n] <+: xs:=by
 let(a,b,rfl,rfl,h):=List.map_eq_append_iff.mp e
 let(n,r,rfl,rfl,_):=List.map_eq_cons_iff.mp h
 exact#[a,n,rfl,rfl,by simp,λm hm=>by simp[hm],r,by simp]
def yT{cf:CF}(hb:YU cf){aa:Ab}{p:Nat}{fr:List Bool}{c:Cls}(S:StOk aa p fr c){n:Str}{cs:List Cl}(g:zN c n=some cs){told:Aa}(ht:told.length<=100000){o1:Option OV} :
  jbk.ex cf [] [@&(stA fr c),o1,some (.l (told.map .d)),@&(.str n)]=.ok (.next,[@&(stA fr c),o1,some (.l ((told++qY fr c n).map .d)),@&(.str n)]):=by
 let hcl:=S.clo g
 let hp:=S.hp
 let e1:=hb p cs fr (by have:=hcl.1;lia) hcl.2 S.hl (by lia)
 let hlen:=Zp S g
 let e2:=qZ (k:=3) (t:=.tp (.cons (.nm 0 4) (.cons (.nm 1 5) (.cons (.nm 2 6) .nil)))) (cond:=fYes) (elt:=(jca.ev cf).1) (ds:=zR fr cs cs.length) (U:= [@&(stA fr c),o1,some (.l (told.map .d)),@&(.str n)]) (λ_=>true) (QE n) (by
  intro d hd
  let(w,i,j,rfl,_):=Qs d hd
  refine#[[@&(stA fr c),o1,some (.l (told.map .d)),@&(.str n),@&(.str w),@&(.int i),@&(.int j)],_,rfl,rfl,rfl,λ_=>#[.dat (.tuple [.str w,.str n,.int i,.int j]),[@&(stA fr c),o1,some (.l (told.map .d)),@&(.str n),@&(.str w),@&(.int i),@&(.int j)],?_,rfl,rfl]]
  push_cast [jca,cs1])
 rw[jj]at e2
 let hv:zN (clD c) n=some (zA cs):=by rw[zZ,g];rfl
 let vv:=qm (zR fr cs cs.length)
 let h1:=qO (frD fr) (clD c)
 let h2:=qj (frD fr) (clD c)
 let hu:=zT (clD c)
 let hbl:(zR fr cs cs.length).length<=480:=by
  unfold qY at hlen;rw[xl,qr g]at hlen;exact hlen
 let hz:(zR fr cs cs.length).length<=1000000:=by lia
 let ao:told.length+(zR fr cs cs.length).length<=1000000:=by lia
 unfold qY
 rw[qr g,xv]
 unfold qB at e1
 let hfr:List.map PyData.bool fr=frD fr:=rfl
 rw[hfr]at e1
 unfold stA at *
 unfold jbk
 dsimp! [h1,h2,hu,hv,e1,e2,vv,hz,ao,zcu,zE,qi]
def kq(cf:CF)(hc:ZG cf)(hb:YU cf):w4 λ_=>runI 4 [false,false] [] J2 cf:=λaa p fr c ns S hS=>by
 let hsl:=hS.len
 let e1:=hc (frD fr) (clD c) ns (qP ns) (.inr rfl) hS.nd (by have:=hS.len;lia) (Vi hS.at')
 let(U',e,(o3,rfl)):=zY (t:=.nm 3 3) (body:=jbk.ex cf []) (ds:=ns.map .str) (U:= [@&(stA fr c),@&(qP ns),some (.l []),none])
  (λpre U=>∃ o3:Option OV,U= [@&(stA fr c),@&(qP ns),some (.l ((qA fr c (pre.filterMap λd=>match d with | .str n=>some n | _=>none)).map .d)),o3]) #[none,rfl] (by
   rintro pre x post e U ⟨o3,rfl⟩
   let(a,n,rfl,rfl,hn,ha,bp):=W4 e
   let(cs,g):=hS.at' n hn
   let m7:∀ l:Ab,(l.map PyData.str).filterMap (λd=>match d with | .str n=>some n | _=>none)=l:=λl=>by
    rw[uE];exact List.filterMap_some
   let hla:=Zd S (ns:=a) λm hm=>hS.at' m (ha m hm)
   let l0:a.length<=50:=by have:=bp.length_le;simp at this;lia
   refine#[_,_,rfl,?_,@&(.str n),rfl]
   let e2:=yT hb S g (told:=qA fr c a) (by lia) (o1:=some (.d (qP ns)))
   rw[<- Jm]at e2
   let h3:=m7 (a++ [n])
   rw[xv]at h3
   rw[m7 a,show (a.map PyData.str++ [PyData.str n])=a.map PyData.str++ [n].map PyData.str from rfl,h3]
   exact e2)
 let m7:(ns.map PyData.str).filterMap (λd=>match d with | .str n=>some n | _=>none)=ns:=by
  rw[uE];exact List.filterMap_some
 rw[m7]at e
 unfold qP stA at *
 unfold J2
 dsimp! [e1,e,zE,qi]
def VJ (cf:CF):Prop:=∀ (aa:Ab) (p:Nat) (fr:List Bool) (c:Cls) (P:Int) (f:PyData) (dn:Ao) (ns:Ab),StOk aa p fr c->ZL f dn=stA fr c->Qj c ns->cf "House.hindered" [hV P f dn [] [],.d (qP ns)]=.ok (.l ((qA fr c ns).map .d)) [some (hV P f dn [] []),none]
def zey(cf:CF)(hn:Jj cf)(hb:w4 cf):VJ λ_=>runI 2 [true,false] [0] jw cf:=λaa p fr c P f dn ns S hq hS=>by
 let e1:=hn P f dn [] []
 let e2:=hb aa p fr c ns S hS
 rw[hq]at e1
 let(X1,g1):=jN P f dn
 rw[g1]at e1 |-
 dsimp! [jw,e1,e2,zE,qi]
def vK{β:Type}(c:List (Str×β))(n:Str)(v:β):zN (zW c n v) n=some v:=by
 unfold zN zW
 split
 next h=>
  induction c with
  |nil=>simp at h
  |cons q c ih=>
   rw[xr]
   by_cases hq:q.1=n
   ·rw[if_pos hq,List.find?_cons_of_pos (by simp[hq])];rfl
   ·rw[if_neg hq,List.find?_cons_of_neg (by simp[hq])]
    exact ih (by simpa [hq] using h)
 next h=>
  rw[List.find?_append,List.find?_eq_none.mpr (λq hq=>by
   intro z
   exact h (List.any_eq_true.mpr #[q,hq,z]))]
  simp
def zlM(cf:CF){st:List Int}{row:List Bool}{rows:List (List Bool)}{p j:Nat}(h1:st.length=p)(h9:In9 st)(h2:row.length=p)(hr:rows[j]?=some row){o0 o1 o2 o3 o4 o8 o9:Option OV} :
  ∃ sh:List Int,sh.length=p/\In9 sh/\qM 1 (.nm 0 10) fYes (jba.ev cf).1 (zV p) [] [o0,o1,o2,o3,o4,@&(.list (rows.map qH)),@&(.int j),@&(zB st),o8,o9]=.ok (sh.map .int,[o0,o1,o2,o3,o4,@&(.list (rows.map qH)),@&(.int j),@&(zB st),o8,o9]):=by
 let(ys,U',e,sh,hl,BG,hy,rfl):=qL (k:=1) (t:=.nm 0 10) (cond:=fYes) (elt:=(jba.ev cf).1) (ds:=zV p) (U:= [o0,o1,o2,o3,o4,@&(.list (rows.map qH)),@&(.int j),@&(zB st),o8,o9])
  (λpre ys U=>∃ sh:List Int,sh.length=pre.length/\In9 sh/\ys=sh.map .int/\U= [o0,o1,o2,o3,o4,@&(.list (rows.map qH)),@&(.int j),@&(zB st),o8,o9]) #[[],rfl,(λ_ h=>nomatch h),rfl,rfl] (by
   rintro pre d post e ys U ⟨sh,hl,BG,rfl,rfl⟩
   let(rfl,hlt):=j8 e
   let a1:=jW (xs:=st) (d:=pre.length) (by lia)
   let a2:=Wm (xs:=row) (d:=pre.length) (by lia)
   let a3:atI (rows.map qH) (j:Int)=some (.list (row.map .bool)):=qN (by rw[xf,hr];rfl)
   let hz:0<=st.getD pre.length 0/\st.getD pre.length 0<=9:=by
    have:st.getD pre.length 0=st[pre.length]'(by lia):=by rw[xF,xb (by lia)];rfl
    rw[this];exact h9 _ (xI _)
   rwa[st.getD pre.length 0=z,row.getD pre.length false=v]
   obtain⟨i,hi⟩:∃ i:Int,(if v then (1:Int) else 0)=i:=#[_,rfl]
   refine#[[o0,o1,o2,o3,o4,@&(.list (rows.map qH)),@&(.int j),@&(zB st),o8,o9,@&(.int pre.length)],true,_,rfl,rfl,λ_=>#[.dat (.int (if z+i<9 then z+i else 9)),[o0,o1,o2,o3,o4,@&(.list (rows.map qH)),@&(.int j),@&(zB st),o8,o9,@&(.int pre.length)],.int (if z+i<9 then z+i else 9),?_,rfl,sh++ [if z+i<9 then z+i else 9],by simp[hl],BG.snoc (by split<;>lia) (by split<;>lia),by simp,rfl],λz=>nomatch z]
   unfold zB
   dsimp! [jba,a1,a2,a3,hi,zE])
 rw[zC]at hl
 exact#[sh,hl,BG,by rw[e,hy]]
def Like(c0 c:Cls):Prop:=c.map (·.1)=c0.map (·.1)/\∀ n u6,zN c0 n=some u6->∃ cs,zN c n=some cs/\cs.length=u6.length
def Like.refl(c:Cls):Like c c:=#[rfl,λ_ cs h=>#[cs,h,rfl]]
def Like.trans(a:Like c0 c1)(b:Like c1 c2):Like c0 c2:=⟨b.1.trans a.1,λn cs h=>by
 let(cs1,h1,l1):=a.2 n cs h
 let(Fh,h2,l2):=b.2 n cs1 h1
 exact#[Fh,h2,l2.trans l1]⟩
def zb7{c:Cls}{n:Str}{cs:List Cl}(g:zN c n=some cs)(j:Nat)(sh:List Int):Like c (zW c n (qy j sh cs)):=⟨by
 rw[Vv,if_pos (Decidable.byContradiction λz=>by rw[valG_none.mpr z]at g;cases g)],λm u6 h=>by
 by_cases e:m=n
 ·subst e
  rw[g]at h;cases h
  refine#[_,vK _ _ _,?_]
  cases q:cs[j]? with
  |none=>unfold qy;rw[q]
  |some c0=>rw[VA sh q,xK]
 ·exact#[u6,by rw[ww _ e];exact h,rfl]⟩
section
variable {cf:CF}(ho:wy cf)(hi:Qf cf){aa:Ab}(hp:aa.length<=50)(hN:∀ n∈aa,Nm n){p:Nat}{P:Int}{f:PyData}{L:Nat}
include ho hi hp hN
def zca(hL:L<990000){fr:List Bool}{c:Cls}{dn:Ao}(H:Hs aa p f L fr c dn){n:Str}{cs:List Cl}(g:zN c n=some cs){j:Nat}(hj:j<cs.length){rows:List (List Bool)}(hr:rows.length=cs.length)(oo:∀ r∈rows,r.length=p){o0 o3 o7 o8 o9:Option OV} :
  ∃(c':Cls)(cm:Ao)(bj bc:Option OV),Hs aa p f (L+1) fr c' cm/\Like c c' /\
   jar.ex cf [0,1] [o0,some (hV P f dn [] []),@&(zG p fr c),o3,@&(.str n),@&(.list (rows.map qH)),@&(.int j),o7,o8,o9]=.ok (.next,[o0,some (hV P f cm [] []),@&(zG p fr c'),o3,@&(.str n),@&(.list (rows.map qH)),@&(.int j),bj,bc,o9]):=by
 let hb:=(H.S.clo g).2 cs[j] (xI hj)
 let hp12:=H.S.hp
 let D4:rows[j]?=some rows[j]:=xb (by lia)
 let(sh,hl,h9,e1):=zlM cf hb.sl hb.sn (oo rows[j] (xI _)) D4 (o0:=o0) (o1:=some (hV P f dn [] [])) (o2:=some (.d (zG p fr c))) (o3:=o3) (o4:=some (.d (.str n))) (o8:=o8) (o9:=o9)
 let G:QM aa fr c (.wish n j sh):=#[cs,g,by lia,by lia,by rw[hl,H.S.hl],h9]
 let(e2,e3):=ZS ho hi hp hN H (by lia) G P
 refine#[(Deed.wish n j sh).cl p c,dn++ [((Deed.wish n j sh).D,stA ((Deed.wish n j sh).fr fr) ((Deed.wish n j sh).cl p c))],@&(zB cs[j].st),some (.d (Deed.wish n j sh).D),H.step G,?_,?_]
 ·show Like c (zW c n (qy j sh (qd c n)))
  rw[qr g]
  erw[zb7 g j sh]
 let hv:zN (clD c) n=some (.list (cs.map Cl.D)):=by rw[zZ,g];rfl
 let k0:atI (zH p fr c) 0=some (.int p):=rfl
 let k2:atI (zH p fr c) 2=some (.dict ((clD c).map dK)):=rfl
 let hu:=zT (clD c)
 let ar:atI (cs.map Cl.D) (j:Int)=some cs[j].D:=qN (by rw[xf,xb hj];rfl)
 let EX:cs[j].D=.tuple [zB cs[j].st,.bool cs[j].w,zB cs[j].wi]:=rfl
 let a0:atI [zB cs[j].st,.bool cs[j].w,zB cs[j].wi] 0=some (zB cs[j].st):=rfl
 let hK:zG p fr c=.list (zH p fr c):=rfl
 let d7:zG p fr ((Deed.wish n j sh).cl p c)=.list (zH p ((Deed.wish n j sh).fr fr) ((Deed.wish n j sh).cl p c)):=rfl
 let vv:=qm (zH p ((Deed.wish n j sh).fr fr) ((Deed.wish n j sh).cl p c))
 let hD:(Deed.wish n j sh).D=.tuple [.str "wish",.str n,.int j,.tuple (sh.map .int)]:=rfl
 let bf: -1000000<=(p:Int)/\(p:Int)<=1000000:=by lia
 let ao:p<=1000000:=by lia
 let hrl:=zC p
 let(X1,g1):=jN P f dn
 rw[d7]
 rw[EX]at ar
 rw[hK]at e1 |-
 rw[g1]at e1 e2 |-
 rw[hD]at e2 e3 |-
 unfold jar
 dsimp! [k0,k2,hu,hv,ar,a0,e1,e2,e3,vv,bf,ao,hrl,zE,qi]
def Kw(hL:L<900000){fr:List Bool}{c:Cls}{dn:Ao}(H:Hs aa p f L fr c dn){n:Str}{cs:List Cl}(g:zN c n=some cs){rows:List (List Bool)}(hr:rows.length=cs.length)(oo:∀ r∈rows,r.length=p){o0 o3 o6 o7 o8 o9:Option OV} :
  ∃(c':Cls)(cm:Ao)(b6 bj bc:Option OV),Hs aa p f (L+40) fr c' cm/\Like c c' /\
   jp (.nm 6 6) (jar.ex cf [0,1]) (zV cs.length) [o0,some (hV P f dn [] []),@&(zG p fr c),o3,@&(.str n),@&(.list (rows.map qH)),o6,o7,o8,o9]=.ok (.next,[o0,some (hV P f cm [] []),@&(zG p fr c'),o3,@&(.str n),@&(.list (rows.map qH)),b6,bj,bc,o9]):=by
 let hcl:=(H.S.clo g).1
 let(U',e,c',cm,b6,bj,bc,H',hk,rfl):=zY (t:=.nm 6 6) (body:=jar.ex cf [0,1]) (ds:=zV cs.length) (U:= [o0,some (hV P f dn [] []),@&(zG p fr c),o3,@&(.str n),@&(.list (rows.map qH)),o6,o7,o8,o9])
  (λpre U=>∃(c':Cls)(cm:Ao)(o6 o7 o8:Option OV),Hs aa p f (L+pre.length) fr c' cm/\Like c c'/\U= [o0,some (hV P f cm [] []),@&(zG p fr c'),o3,@&(.str n),@&(.list (rows.map qH)),o6,o7,o8,o9]) #[c,dn,o6,o7,o8,H,.refl c,rfl] (by
   rintro pre x post e U ⟨c1,mq,o6,o7,o8,H1,hk,rfl⟩
   let(rfl,hlt):=j8 e
   let(cs1,g1,l1):=hk.2 n cs g
   let(c2,f9,bj,bc,H2,t6,e2):=zca ho hi hp hN (L:=L+pre.length) (by lia) H1 g1 (j:=pre.length) (by lia) (rows:=rows) (by lia) oo (P:=P) (o0:=o0) (o3:=o3) (o7:=o7) (o8:=o8) (o9:=o9)
   exact#[_,_,rfl,e2,c2,f9,_,bj,bc,by rw[xm];exact H2,hk.trans t6,rfl])
 rw[zC]at H'
 exact#[c',cm,b6,bj,bc,H'.mono (by lia),hk,e]
end
def zcW(aa:Ab)(p:Nat)(P:Int)(f:PyData)(fr:List Bool)(c0:Cls)(o3:Option OV)(L:Nat)(U:Gv):Prop:=∃(b:OV)(c:Cls)(dn:Ao)(o4 o5 o6 o7 o8:Option OV),zU b/\Hs aa p f L fr c dn/\Like c0 c /\
 U= [some b,some (hV P f dn [] []),@&(zG p fr c),o3,o4,o5,o6,o7,o8,none]
section
variable {cf:CF}(ho:wy cf)(hi:Qf cf)(t5:VP cf){aa:Ab}(hp:aa.length<=50)(hN:∀ n∈aa,Nm n){p:Nat}{P:Int}{f:PyData}{L:Nat}{fr:List Bool}{c0:Cls}
include ho hi t5 hp hN
def Kx(hL:L<800000){o3:Option OV}{n:Str}{cs:List Cl}(g0:zN c0 n=some cs){U:Gv}(h:zcW aa p P f fr c0 o3 L U):∃ U1 U2,tgF (.nm 4 4) (.str n) U=some U1/\jas.ex cf [0,1] U1=.ok (.next,U2)/\zcW aa p P f fr c0 o3 (L+40) U2:=by
 let(b,c,dn,o4,o5,o6,o7,o8,hb,H,hk,rfl):=h
 let(cs1,g,l1):=hk.2 n cs g0
 let hcl:=(H.S.clo g).1
 let hp12:=H.S.hp
 let(rows,b1,hr,oo,hb1,e1):=t5 b hb p cs1.length (by lia) (by lia)
 let(c2,f9,b6,bj,bc,H2,t6,e2):=Kw ho hi hp hN (by lia) H g hr oo (P:=P) (o0:=some b1) (o3:=o3) (o6:=o6) (o7:=o7) (o8:=o8) (o9:=none)
 refine#[[some b,some (hV P f dn [] []),@&(zG p fr c),o3,@&(.str n),o5,o6,o7,o8,none],[some b1,some (hV P f f9 [] []),@&(zG p fr c2),o3,@&(.str n),@&(.list (rows.map qH)),b6,bj,bc,none],rfl,?_,b1,c2,f9,_,_,b6,bj,bc,hb1,H2,hk.trans t6,rfl]
 let hv:zN (clD c) n=some (.list (cs1.map Cl.D)):=by rw[zZ,g];rfl
 let k0:atI (zH p fr c) 0=some (.int p):=rfl
 let k2:atI (zH p fr c) 2=some (.dict ((clD c).map dK)):=rfl
 let hu:=zT (clD c)
 let aq:(cs1.map Cl.D).length=cs1.length:=by simp
 let hK:zG p fr c=.list (zH p fr c):=rfl
 let vr:=qm (rows.map qH)
 rw[xw]at vr
 let m7:(OV.d∘qH)=λr=>OV.d (qH r):=rfl
 rw[m7]at vr
 let bf: -1000000<=(cs1.length:Int)/\(cs1.length:Int)<=1000000:=by lia
 let ao:cs1.length<=1000000:=by lia
 let hrl:=zC cs1.length
 let(X1,g1):=jN P f dn
 rw[hK]at e2 |-
 unfold jas
 dsimp! [k0,k2,hu,hv,aq,e1,e2,vr,bf,ao,hrl,zE,qi]
end
def zcP(aa:Ab)(p:Nat)(P:Int)(f:PyData)(c:Cls)(o0 o3 o4 o5 o6 o7 o8:Option OV)(L:Nat)(U:Gv):Prop:=∃(fr:List Bool)(dn:Ao)(o9:Option OV),Hs aa p f (10000+L) fr c dn/\(∀ j<L,fr[j]?=some true) /\
 U= [o0,some (hV P f dn [] []),@&(zG p fr c),o3,o4,o5,o6,o7,o8,o9]
section
variable {cf:CF}(ho:wy cf)(hi:Qf cf){aa:Ab}(hp:aa.length<=50)(hN:∀ n∈aa,Nm n){p:Nat}{P:Int}{f:PyData}{c:Cls}
include ho hi hp hN
def zaW{j:Nat}(hj:j<p){o0 o3 o4 o5 o6 o7 o8:Option OV}{U:Gv}(h:zcP aa p P f c o0 o3 o4 o5 o6 o7 o8 j U) :
  ∃ U1 U2,tgF (.nm 9 9) (.int j) U=some U1/\jaj.ex cf [0,1] U1=.ok (.next,U2)/\zcP aa p P f c o0 o3 o4 o5 o6 o7 o8 (j+1) U2:=by
 let(fr,dn,o9,H,ha,rfl):=h
 let hl:=H.S.hl
 let hp12:=H.S.hp
 let df:fr[j]?=some fr[j]:=xb (by lia)
 let a1:=Yf df
 let k1:atI (zH p fr c) 1=some (.list (frD fr)):=rfl
 let hK:zG p fr c=.list (zH p fr c):=rfl
 let(X1,g1):=jN P f dn
 cases hv:fr[j] with
 |true=>
  rw[hv]at a1 df
  refine#[_,[o0,some (hV P f dn [] []),@&(zG p fr c),o3,o4,o5,o6,o7,o8,@&(.int j)],rfl,?_,fr,dn,_,H.mono (by lia),λi hi=>?_,rfl]
  ·rw[hK,g1]
   rwa[zH p fr c=K]
   push_cast [jaj,k1,a1,cs1]
  ·by_cases e:i=j
   ·rw[e];exact df
   ·exact ha i (by lia)
 |false=>
  rw[hv]at a1 df
  let G:QM aa fr c (.brew j):=#[by lia,by lia,df]
  let(e2,e3):=ZS ho hi hp hN H (by lia) G P
  refine#[_,[o0,some (hV P f (dn++ [((Deed.brew j).D,stA ((Deed.brew j).fr fr) ((Deed.brew j).cl p c))]) [] []),@&(zG p ((Deed.brew j).fr fr) ((Deed.brew j).cl p c)),o3,o4,o5,o6,o7,o8,@&(.int j)],rfl,?_,(Deed.brew j).fr fr,_,_,(H.step G).mono (by lia),λi hi=>?_,rfl]
  ·let vv:=qm (zH p ((Deed.brew j).fr fr) ((Deed.brew j).cl p c))
   let d7:zG p ((Deed.brew j).fr fr) ((Deed.brew j).cl p c)=.list (zH p ((Deed.brew j).fr fr) ((Deed.brew j).cl p c)):=rfl
   let hD:(Deed.brew j).D=.tuple [.str "brew",.int j]:=rfl
   rw[hK,d7]
   rw[g1]at e2 |-
   rwa[hV P f (dn++ [((Deed.brew j).D,stA ((Deed.brew j).fr fr) ((Deed.brew j).cl p c))]) [] []=H2]
   rw[hD]at e2 e3
   dsimp! [jaj,k1,a1,e2,e3,vv,zE,qi]
  ·show (fr.set (j:Int).toNat true)[i]?=some true
   rw[Int.toNat_natCast]
   by_cases e:i=j
   ·rw[e,xn (by lia)]
   ·rw[xg (Ne.symm e)];exact ha i (by lia)
end
def Wh(cf:CF):Prop:=∀ b,zU b->∀(aa:Ab)(p:Nat)(fr:List Bool)(c:Cls)(P:Int)(f:PyData)(dn:Ao),aa.length<=50->(∀ n∈aa,Nm n)->Hs aa p f 1000 fr c dn ->
 ∃ (b':OV) (fy:List Bool) (c':Cls) (cm:Ao),zU b'/\Hs aa p f 20000 fy c' cm/\(∀ j<p,fy[j]?=some true)/\cf "_law_mended" [b,hV P f dn [] [],.d (zG p fr c),.d (.list (Za c))]=.ok (.d (zG p fy c')) [some b',some (hV P f cm [] []),none,none]
def zcb(cf:CF)(ho:wy cf)(hi:Qf cf)(t5:VP cf):Wh λ_=>runI 10 [true,true,false,false] [0,1] ZX cf:=λb hb aa p fr c P f dn hp hN H=>by
 let hpl:=H.S.len
 let hkl:=WP c
 let(U1,e1,b1,c1,mq,o4,o5,o6,o7,o8,hb1,H1,hk,rfl):=zY (t:=.nm 4 4) (body:=jas.ex cf [0,1]) (ds:=Za c) (U:= [some b,some (hV P f dn [] []),@&(zG p fr c),@&(.list (Za c)),none,none,none,none,none,none])
  (λpre U=>zcW aa p P f fr c (@&(.list (Za c))) (1000+pre.length*40) U) #[b,c,dn,none,none,none,none,none,hb,H,.refl c,rfl] (by
   intro pre x post e U hI
   let hlt:=QL e
   let(a,n,_,rfl,hn,_,_):=W4 e
   let(cs,g):=yr hn
   let(U1,U2,a1,a2,a3):=Kx ho hi t5 hp hN (by lia) g hI
   exact#[U1,U2,a1,a2,by rw[xm,xV,Nat.add_mul];exact a3])
 let hp12:=H.S.hp
 let(U2,e2,dk,f9,o9,H2,ha,rfl):=zY (t:=.nm 9 9) (body:=jaj.ex cf [0,1]) (ds:=zV p) (U:= [some b1,some (hV P f mq [] []),@&(zG p fr c1),@&(.list (Za c)),o4,o5,o6,o7,o8,none])
  (λpre U=>zcP aa p P f c1 (some b1) (@&(.list (Za c))) o4 o5 o6 o7 o8 pre.length U) #[fr,mq,none,H1.mono (by lia),(λ_ h=>nomatch h),rfl] (by
   intro pre x post e U hI
   let(rfl,hlt):=j8 e
   let(U1,U2,a1,a2,a3):=zaW ho hi hp hN hlt hI
   exact#[U1,U2,a1,a2,by rw[xm];exact a3])
 rw[zC]at H2 ha
 refine#[b1,dk,c1,f9,hb1,H2.mono (by lia),ha,?_]
 let bf: -1000000<=(p:Int)/\(p:Int)<=1000000:=by lia
 let ao:p<=1000000:=by lia
 let hrl:=zC p
 let k0:atI (zH p fr c1) 0=some (.int p):=rfl
 let hK:zG p fr c1=.list (zH p fr c1):=rfl
 let(X0,q0):=jN P f dn
 let(X1,q1):=jN P f mq
 rw[hK]at e1 e2
 rw[q0]at e1 |-
 rw[q1]at e1 e2
 rwa[hV P f f9 [] []=H3,zG p dk c1=K2,zH p fr c1=K1,zG p fr c=K,Za c=KD]
 unfold ZX
 rwa[jas=B3,jaj=B4]
 dsimp! [k0,e1,e2,bf,ao,hrl,zE,qi]
def Wb (cf:CF):Prop:=∀ b,zU b->∀ (aa:Ab) (p:Nat) (fr:List Bool) (c:Cls),StOk aa p fr c->aa.length<=50->∃ (ns:Ab) (b':OV),Qj c ns/\zU b'/\cf "_law_group_names" [b,.d (zG p fr c)]=.ok (.l (ns.map λn=>.d (.str n))) [some b',none]
def zbT(cf:CF)(ht:qK cf)(hd:VE cf):Wb λ_=>runI 2 [true,false] [0] qR cf:=λb hb aa p fr c S hp=>by
 let(r,b1,g,g',hb1,e1):=ht b hb 3 (by decide) (by decide)
 let(ns,b2,hS,hb2,e2):=Wz hd hb1 S hp (decide (0<r))
 refine#[ns,b2,hS,hb2,?_]
 let hpl:=S.len
 let k2:atI (zH p fr c) 2=some (.dict ((clD c).map dK)):=rfl
 let hu:=zT (clD c)
 let cn:(clD c).length<64:=by simp[clD];lia
 let hK:zG p fr c=.list (zH p fr c):=rfl
 unfold Za at e2
 generalize cu:(qX ((clD c).map (·.1))).map PyData.str=KS at e2
 rw[hK]
 rwa[zH p fr c=K,(clD c).map dK=CD,clD c=C1,(ns.map λn=>OV.d (.str n))=X]
 by_cases h:0<r
 ·let h':decide (0<r)=true:= ~~~h
  rw[h']at e2
  dsimp! [qR,k2,hu,cn,cu,e1,e2,h,zJ,zM,zE,qi]
 ·let h':decide (0<r)=false:= ~~~h
  rw[h']at e2
  dsimp! [qR,k2,hu,cn,cu,e1,e2,h,zJ,zM,zE,qi]
def jY(l:Ab):(l.map PyData.str).filterMap (λd=>match d with | .str n=>some n | _=>none)=l:=by
 rw[uE];exact List.filterMap_some
def VH (cf:CF):Prop:=∀ (aa:Ab) (p:Nat) (fr:List Bool) (c:Cls) (ns:Ab),StOk aa p fr c->Qj c ns->cf "_law_house_bars" [.d (zG p fr c),.d (qP ns)]=.ok (.l ((qA fr c ns).map .d)) [none,none]
def zev(cf:CF){K:Option OV}{o1:Option OV}{n:Str}(ds told:Aa)(hd:∀ d∈ds,ziR d)(hl:told.length+ds.length<1000000){o4 o5 o6:Option OV}:∃ cg cb b6:Option OV,
  jp (.tp (.cons (.nm 4 4) (.cons (.nm 5 5) (.cons (.nm 6 6) .nil)))) (ja6.ex cf []) ds [K,o1,some (.l (told.map .d)),@&(.str n),o4,o5,o6]=.ok (.next,[K,o1,some (.l ((told++ds.map (QE n)).map .d)),@&(.str n),cg,cb,b6]):=by
 let(U',e,(cg,cb,b6,rfl)):=zY (t:=.tp (.cons (.nm 4 4) (.cons (.nm 5 5) (.cons (.nm 6 6) .nil)))) (body:=ja6.ex cf []) (ds:=ds) (U:= [K,o1,some (.l (told.map .d)),@&(.str n),o4,o5,o6])
  (λpre U=>∃ o4 o5 o6:Option OV,U= [K,o1,some (.l ((told++pre.map (QE n)).map .d)),@&(.str n),o4,o5,o6]) #[o4,o5,o6,by simp] (by
   rintro pre x post e U ⟨o4,o5,o6,rfl⟩
   let(w,i,j,rfl,_):=hd x (by rw[e];simp)
   let hlt:=QL e
   let hz:((told++pre.map (QE n)).map OV.d).length<1000000:=by simp;lia
   refine#[_,[K,o1,some (.l ((told++(pre++ [PyData.tuple [.str w,.int i,.int j]]).map (QE n)).map .d)),@&(.str n),@&(.str w),@&(.int i),@&(.int j)],rfl,?_,@&(.str w),@&(.int i),@&(.int j),rfl]
   let EO:(told++(pre++ [PyData.tuple [.str w,.int i,.int j]]).map (QE n)).map OV.d=(told++pre.map (QE n)).map OV.d++ [.d (.tuple [.str w,.str n,.int i,.int j])]:=by simp[QE]
   rw[EO]
   rwa[(told++pre.map (QE n)).map OV.d=X]
   dsimp! [ja6,hz,zE])
 exact#[cg,cb,b6,e]
def zew(cf:CF)(hb:zaa cf):VH λ_=>runI 7 [false,false] [] jr cf:=λaa p fr c ns S hS=>by
 let hsl:=hS.len
 let(U',e,(o3,o4,o5,o6,rfl)):=zY (t:=.nm 3 3) (body:=jbv.ex cf []) (ds:=ns.map .str) (U:= [@&(zG p fr c),@&(qP ns),some (.l []),none,none,none,none])
  (λpre U=>∃ o3 o4 o5 o6:Option OV,U= [@&(zG p fr c),@&(qP ns),some (.l ((qA fr c (pre.filterMap λd=>match d with | .str n=>some n | _=>none)).map .d)),o3,o4,o5,o6]) #[none,none,none,none,rfl] (by
   rintro pre x post e U ⟨o3,o4,o5,o6,rfl⟩
   let(a,n,rfl,rfl,hn,ha,bp):=W4 e
   let(cs,g):=hS.at' n hn
   let hla:=Zd S (ns:=a) λm hm=>hS.at' m (ha m hm)
   let l0:a.length<=50:=by have:=bp.length_le;simp at this;lia
   let hcl:=S.clo g
   let hp:=S.hp
   let hbl:=Zp S g
   unfold qY at hbl
   rw[xl,qr g]at hbl
   let e1:=hb p cs fr (by have:=hcl.1;lia) hcl.2 S.hl (by lia)
   let(cg,cb,b6,e2):=zev cf (K:=some (.d (zG p fr c))) (o1:=some (.d (qP ns))) (n:=n) (zR fr cs cs.length) (qA fr c a) (λd hd=>Qs d hd) (by lia) (o4:=o4) (o5:=o5) (o6:=o6)
   let hA:qA fr c a++(zR fr cs cs.length).map (QE n)=qA fr c (a++ [n]):=by rw[Jm];unfold qY;rw[qr g]
   rw[hA]at e2
   let h3:=jY (a++ [n])
   rw[xv]at h3
   rw[jY a,show (a.map PyData.str++ [PyData.str n])=a.map PyData.str++ [n].map PyData.str from rfl,h3]
   refine#[_,_,rfl,?_,@&(.str n),cg,cb,b6,rfl]
   let hv:zN (clD c) n=some (zA cs):=by rw[zZ,g];rfl
   let vv:=qm (zR fr cs cs.length)
   let k1:atI (zH p fr c) 1=some (.list (frD fr)):=rfl
   let k2:atI (zH p fr c) 2=some (.dict ((clD c).map dK)):=rfl
   let hu:=zT (clD c)
   let hK:zG p fr c=.list (zH p fr c):=rfl
   let hfr:qB fr=.list (frD fr):=rfl
   rw[hfr]at e1
   rw[hK]at e2 |-
   unfold jbv
   dsimp! [k1,k2,hu,hv,e1,e2,vv,zE,qi])
 rw[jY]at e
 unfold qP at *
 unfold jr
 dsimp! [e,zE,qi]
def qe(c:Cls)(ns:Ab):List Cl:=ns.flatMap (qd c)
def QO(c:Cls)(ns:Ab)(n:Str):qe c (ns++ [n])=qe c ns++qd c n:=by simp[qe]
def jV{aa:Ab}{p:Nat}{fr:List Bool}{c:Cls}(S:StOk aa p fr c):∀{ns:Ab},(∀ n∈ns,∃ cs,zN c n=some cs)->(qe c ns).length<=ns.length*40
 |[],_=>xS _
 |n::ns,h=>by
  let(cs,g):=h n (by simp)
  let h1:=(S.clo g).1
  let h2:=jV S (ns:=ns) λm hm=>h m (by simp[hm])
  unfold qe at *
  rw[List.flatMap_cons,xm,xo,qr g]
  lia
def yR{aa:Ab}{p:Nat}{fr:List Bool}{c:Cls}(S:StOk aa p fr c){ns:Ab}(h:∀ n∈ns,∃ cs,zN c n=some cs):∀ q∈qe c ns,Zk p q.st q.wi:=λq hq=>by
 let(n,hn,hm):=List.mem_flatMap.mp hq
 let(cs,g):=h n hn
 rw[qr g]at hm
 erw[(S.clo g).2 q hm]
def zdd{aa:Ab}{p:Nat}{fr:List Bool}{c:Cls}(S:StOk aa p fr c)(hp:aa.length<=4){ns:Ab}(h:Qj c ns):Bolt p (qe c ns):=⟨by
 let h1:=jV S h.at'
 let h2:=h.lc
 let h3:=S.len
 lia,yR S h.at'⟩
def w6 (cf:CF):Prop:=∀ (aa:Ab) (p:Nat) (fr:List Bool) (c:Cls) (ns:Ab),StOk aa p fr c->Qj c ns->cf "bolt_of" [.d (stA fr c),.d (qP ns)]=.ok (.l (((qe c ns).map Cl.D).map .d)) [none,none]
def ku(cf:CF)(hc:ZG cf):w6 λ_=>runI 4 [false,false] [] J3 cf:=λaa p fr c ns S hS=>by
 let hsl:=hS.len
 let e1:=hc (frD fr) (clD c) ns (qP ns) (.inr rfl) hS.nd (by have:=hS.len;lia) (Vi hS.at')
 let(U',e,(o3,rfl)):=zY (t:=.nm 3 3) (body:=jcc.ex cf []) (ds:=ns.map .str) (U:= [@&(stA fr c),@&(qP ns),some (.l []),none])
  (λpre U=>∃ o3:Option OV,U= [@&(stA fr c),@&(qP ns),some (.l (((qe c (pre.filterMap λd=>match d with | .str n=>some n | _=>none)).map Cl.D).map .d)),o3]) #[none,rfl] (by
   rintro pre x post e U ⟨o3,rfl⟩
   let(a,n,rfl,rfl,hn,ha,bp):=W4 e
   let(cs,g):=hS.at' n hn
   let hla:=jV S (ns:=a) λm hm=>hS.at' m (ha m hm)
   let l0:a.length<=50:=by have:=bp.length_le;simp at this;lia
   let hcl:=(S.clo g).1
   let h3:=jY (a++ [n])
   rw[xv]at h3
   rw[jY a,show (a.map PyData.str++ [PyData.str n])=a.map PyData.str++ [n].map PyData.str from rfl,h3,QO,qr g,xv,xv]
   refine#[_,[@&(stA fr c),@&(qP ns),some (.l (((qe c a).map Cl.D).map .d++(cs.map Cl.D).map .d)),@&(.str n)],rfl,?_,@&(.str n),rfl]
   let hv:zN (clD c) n=some (.list (cs.map Cl.D)):=by rw[zZ,g];rfl
   let h2:=qj (frD fr) (clD c)
   let hu:=zT (clD c)
   let hz:(((qe c a).map Cl.D).map OV.d).length+(cs.map Cl.D).length<=1000000:=by simp;lia
   unfold stA
   rwa[((qe c a).map Cl.D).map OV.d=TA,cs.map Cl.D=CS]
   dsimp! [jcc,h2,hu,hv,hz,zcu,zE,qi])
 rw[jY]at e
 unfold qP stA at *
 unfold J3
 dsimp! [e1,e,zE,qi]
def VI (cf:CF):Prop:=∀ (aa:Ab) (p:Nat) (fr:List Bool) (c:Cls) (P:Int) (f:PyData) (dn:Ao) (ns:Ab),StOk aa p fr c->ZL f dn=stA fr c->Qj c ns->cf "House.bolt" [hV P f dn [] [],.d (qP ns)]=.ok (.l (((qe c ns).map Cl.D).map .d)) [some (hV P f dn [] []),none]
def zex(cf:CF)(hn:Jj cf)(hb:w6 cf):VI λ_=>runI 2 [true,false] [0] Qa cf:=λaa p fr c P f dn ns S hq hS=>by
 let e1:=hn P f dn [] []
 let e2:=hb aa p fr c ns S hS
 rw[hq]at e1
 let(X1,g1):=jN P f dn
 rw[g1]at e1 |-
 dsimp! [Qa,e1,e2,zE,qi]
def VN (cf:CF):Prop:=∀ (aa:Ab) (p:Nat) (fr:List Bool) (c:Cls) (ns:Ab),StOk aa p fr c->Qj c ns->cf "_law_bolt_of" [.d (zG p fr c),.d (qP ns)]=.ok (.d (zA (qe c ns))) [none,none]
def zeO(cf:CF):VN λ_=>runI 4 [false,false] [] Zl cf:=λaa p fr c ns S hS=>by
 let hsl:=hS.len
 let(U',e,(o3,rfl)):=zY (t:=.nm 3 3) (body:=jbt.ex cf []) (ds:=ns.map .str) (U:= [@&(zG p fr c),@&(qP ns),@&(.list []),none])
  (λpre U=>∃ o3:Option OV,U= [@&(zG p fr c),@&(qP ns),@&(.list ((qe c (pre.filterMap λd=>match d with | .str n=>some n | _=>none)).map Cl.D)),o3]) #[none,rfl] (by
   rintro pre x post e U ⟨o3,rfl⟩
   let(a,n,rfl,rfl,hn,ha,bp):=W4 e
   let(cs,g):=hS.at' n hn
   let hla:=jV S (ns:=a) λm hm=>hS.at' m (ha m hm)
   let l0:a.length<=50:=by have:=bp.length_le;simp at this;lia
   let hcl:=(S.clo g).1
   let h3:=jY (a++ [n])
   rw[xv]at h3
   rw[jY a,show (a.map PyData.str++ [PyData.str n])=a.map PyData.str++ [n].map PyData.str from rfl,h3,QO,qr g,xv]
   refine#[_,[@&(zG p fr c),@&(qP ns),@&(.list ((qe c a).map Cl.D++cs.map Cl.D)),@&(.str n)],rfl,?_,@&(.str n),rfl]
   let hv:zN (clD c) n=some (.list (cs.map Cl.D)):=by rw[zZ,g];rfl
   let k2:atI (zH p fr c) 2=some (.dict ((clD c).map dK)):=rfl
   let hu:=zT (clD c)
   let hK:zG p fr c=.list (zH p fr c):=rfl
   let hz:((qe c a).map Cl.D).length+(cs.map Cl.D).length<=1000000:=by simp;lia
   rw[hK]
   rwa[(qe c a).map Cl.D=TA,cs.map Cl.D=CS]
   dsimp! [jbt,k2,hu,hv,hz,zek,zE,qi])
 rw[jY]at e
 unfold qP zA at *
 unfold Zl
 dsimp! [e,show (OV.l []).view=.list [] from rfl,zE,qi]
def ziQ(x:PyData):Prop:=∃(w n:Str)(i d:Int),x=.tuple [.str w,.str n,.int i,.int d]/\PyData.strOk w=true/\PyData.strOk n=true
def zc7{fr:List Bool}{c:Cls}{ns:Ab}(h:∀ n∈ns,PyData.strOk n=true):∀ x∈qA fr c ns,ziQ x:=λx hx=>by
 let(n,hn,hm):=List.mem_flatMap.mp hx
 let(y,hy,rfl):=xu.mp hm
 let(w,i,d,rfl,hw):=Qs y hy
 exact#[w,n,i,d,rfl,hw,h n hn]
def zeH{xs:Aa}(h:∀ x∈xs,ziQ x):lay 20 (.list xs)=true:=ZK λx hx=>by
 let(w,n,i,d,rfl,hw,hn):=h x hx
 erw[Jv λy hy=>?_]
 simp only[xC,List.not_mem_nil,or_false]at hy
 rcases hy with rfl | rfl | rfl | rfl
 ·erw[hw]
 ·erw[hn]
 ·rfl
 ·rfl
def YS (cf:CF):Prop:=∀ xs:Aa,(∀ x∈xs,ziQ x)->cf "_law_bars_kind" [.d (.list xs),.d (.int 4)]=.ok (.d (.bool true)) [none,none]
def bkind4(cf:CF)(hw:Jl cf):YS λ_=>runI 3 [false,false] [] jS cf:=λxs h=>by
 let(U',e,(o2,rfl)):=zY (t:=.nm 2 2) (body:=jbr.ex cf []) (ds:=xs) (U:= [@&(.list xs),@&(.int 4),none])
  (λpre U=>∃ o2:Option OV,U= [@&(.list xs),@&(.int 4),o2]) #[_,rfl] (by
   rintro pre x post e U ⟨o2,rfl⟩
   let(w,n,i,d,rfl,_,_):=h x (by rw[e];simp)
   let m1:atI [PyData.str w,.str n,.int i,.int d] (-1)=some (.int d):=rfl
   let m2:atI [PyData.str w,.str n,.int i,.int d] (-2)=some (.int i):=rfl
   let m0:atI [PyData.str w,.str n,.int i,.int d] 0=some (.str w):=rfl
   let h1:=hw i
   let h2:=hw d
   refine#[_,[@&(.list xs),@&(.int 4),@&(.tuple [.str w,.str n,.int i,.int d])],rfl,?_,_,rfl]
   dsimp! [jbr,m0,m1,m2,h1,h2,zJ,zM,zE,qi])
 unfold jS
 dsimp! [e,zE,qi]
end Wx
namespace L3
open PySem L2
section
variable [Cs]{K:Ah}{mg:Aq}{h:Heap}{d:DefI}
def el0{α:Type}{P:List α->Prop}(h:P []):∀ us:List α,us.length=0->P us:=λus e=>by
 rw[List.length_eq_zero_iff.mp e];exact h
def el1{α:Type}{P:List α->Prop}(h:∀ a0,P [a0]):∀ us:List α,us.length=1->P us:=λus e=>by
 match us,e with
 |[a0],_=>erw[h a0]
def el2{α:Type}{P:List α->Prop}(h:∀ a0 a1,P [a0,a1]):∀ us:List α,us.length=2->P us:=λus e=>by
 match us,e with
 |[a0,a1],_=>erw[h a0 a1]
def el3{α:Type}{P:List α->Prop}(h:∀ a0 a1 a2,P [a0,a1,a2]):∀ us:List α,us.length=3->P us:=λus e=>by
 match us,e with
 |[a0,a1,a2],_=>erw[h a0 a1 a2]
def el4{α:Type}{P:List α->Prop}(h:∀ a0 a1 a2 a3,P [a0,a1,a2,a3]):∀ us:List α,us.length=4->P us:=λus e=>by
 match us,e with
 |[a0,a1,a2,a3],_=>erw[h a0 a1 a2 a3]
def biOk(K:Ah)(L:Ab):Bool:=L.all λx=>match W.nsIn K mainGlobals x with
 |some none=>true
 |_=>false
def bi_all{L:Ab}(X:K.In h)(G:h.Ns mainGlobals mg)(hk:biOk K L=true)(x:Str)(hx:L.contains x=true):mg x=none:=by
 have:=xG.mp hk x (ul.mp hx)
 split at this
 ·exact W.mg_none_of X G (by assumption)
 ·cases this
def giOk(K:Ah)(L:List (Str×Int)):Bool:=L.all λp=>match W.nsIn K mainGlobals p.1 with
 |some (some (.int i _))=>decide (i=p.2)
 |_=>false
def gi_of{L:List (Str×Int)}(X:K.In h)(G:h.Ns mainGlobals mg)(hk:giOk K L=true)(x:Str)(i:Int)(hx:L.contains (x,i)=true):∃ t,mg x=some (.int i t):=by
 have:=xG.mp hk _ (ul.mp hx)
 split at this
 next e=>
  exact#[_,(W.mg_of X G e).trans (by rw[Xf this])]
 ·cases this
def gsOk(K:Ah)(L:List (Str×Str)):Bool:=L.all λp=>match W.nsIn K mainGlobals p.1 with
 |some (some (.str i _))=>decide (i=p.2)
 |_=>false
def gs_of{L:List (Str×Str)}(X:K.In h)(G:h.Ns mainGlobals mg)(hk:gsOk K L=true)(x:Str)(i:Str)(hx:L.contains (x,i)=true):∃ t,mg x=some (.str i t):=by
 have:=xG.mp hk _ (ul.mp hx)
 split at this
 next e=>
  exact#[_,(W.mg_of X G e).trans (by rw[Xf this])]
 ·cases this
def fkOk(K:Ah)(L:List (Str×Str)):Bool:=L.all λp=>match W.nsIn K mainGlobals p.1 with
 |some (some (.ref C))=>W.plainGet K C Str.empty&&(W.hasDictIn K C&&(W.plainOver K C&&((match W.findIn K (.ref C) "__setattr__" with
   |some (some (.builtin b))=>decide (b= "object.__setattr__")
   |_=>false)&&match W.findIn K (.ref C) p.2 with
   |some none=>true
   |_=>false)))
 |_=>false
def fk_all{L:List (Str×Str)}(X:K.In h)(G:h.Ns mainGlobals mg)(hk:fkOk K L=true)(c f:Str)(hx:L.contains (c,f)=true):Cls K ((csOf mg).adr c)/\NoAttr K ((csOf mg).adr c) f:=by
 have:=xG.mp hk _ (ul.mp hx)
 split at this
 next e=>
  simp only[xi]at this
  let(a1,a2,a3,a4,a5):=this
  erw[zlc X G #[e,a1,a2,a3,?_] ?_]
  ·split at a4
   ·grind
   ·cases a4
  ·split at a5
   ·assumption
   ·cases a5
 ·cases this
def AllX(K:Ah)(mg:Aq):List DefI->Prop
 |[]=>True
 |d::r=> @Dx (csOf mg) K mg d/\AllX K mg r
def dx_all{W:Wd}:{L:List DefI}->AllX K mg L->(∀ cf k,(L.all λd=>d.ok W cf k)=true)->∀ d∈L,@Dx (csOf mg) K mg d/\d.Ok W
 |[],_,_=>λd hd=>nomatch hd
 |e::r,a,ok=>λd hd=>by
  simp only[uc,xi]at ok
  rcases xC.mp hd with rfl | hd
  ·exact#[a.1,λcf k=>(ok cf k).1]
  ·erw[dx_all a.2 (λcf k=>(ok cf k).2) d hd]
end
end L3
namespace Wx
open PySem L2 L3
abbrev mkD(a:Str)(s:Stmt)(N:Ab)(m:List Bool)(io:Ac)(b:IB)(k:Kd):DefI:=#[a,s,N.take m.length,N,m,io,b,k]
abbrev mkF(a:Str)(s:Nat)(N:Ab)(n:Nat)(b:IB):DefI:=mkD a (top s) N (.replicate n false) [] b .fn
abbrev zje:=mkF "_wall" 0 ["k"] 1 J5
abbrev zdm:=mkF "bare" 18 ["pots","size","clear"] 2 jb8
abbrev vG:=mkF "with_wish" 19 ["bolt","at","wish","stain","waxed","gone"] 3 jP
abbrev yc:=mkF "with_wax" 20 ["bolt","cells"] 2 j7
abbrev kT:=mkF "dipped" 21 ["bolt","dye"] 2 ZN
abbrev kS:=mkF "boiled" 22 ["bolt"] 1 WX
abbrev ya:=mkF "has_cell" 23 ["bolt","at"] 2 j6
abbrev Wy:=mkF "is_picture" 24 ["shades","pots"] 2 jZ
abbrev V9:=mkF "deepened" 25 ["stain","dye"] 2 Je
abbrev Ya:=mkF "is_name" 29 ["text"] 1 J4
abbrev Q7:=mkD "Stand.__init__" (Zq 32 0) ["self","fresh","cloths"] [true,false,false] [0] ZM (.ini "Stand")
abbrev vF:=mkF "new_stand" 33 ["pots"] 1 Qy
abbrev wK:=mkF "behind_hang" 34 ["stand","parts","name","size"] 2 Zz
abbrev wJ:=mkF "behind_fold" 35 ["stand","parts","name"] 2 Zy
abbrev wL:=mkF "behind_twin" 36 ["stand","parts","name","new"] 2 ZA
abbrev wM:=mkF "behind_wish" 37 ["stand","parts","name","at","wish"] 2 ZB
abbrev Ww:=mkF "behind_wax" 38 ["stand","parts","name","cells"] 2 Qd
abbrev Wv:=mkF "behind_dip" 39 ["stand","parts","names","dye","changed"] 2 Qc
abbrev wH:=mkF "behind_boil" 40 ["stand","parts","names"] 2 Zw
abbrev wI:=mkF "behind_brew" 41 ["stand","parts","dye"] 2 Zx
abbrev kQ:=mkF "behind" 43 ["stand","deed","word","parts","change"] 2 qp
abbrev wP:=mkF "with_cloths" 44 ["stand","changed","cloths"] 2 ZD
abbrev yb:=mkF "with_pot" 45 ["stand","dye","is_fresh","fresh"] 3 Jf
abbrev vE:=mkF "check_new" 46 ["stand","name"] 2 Qw
abbrev wN:=mkF "check_hangs" 47 ["stand","name"] 2 jK
abbrev wO:=mkF "check_names" 48 ["stand","names","name"] 2 ZC
abbrev vD:=mkF "check_dye" 49 ["stand","dye"] 2 Qv
abbrev zdn:=mkF "bars" 51 ["bolt","fresh","told","at","stain","waxed","wish","dye","word"] 2 KB
abbrev V8:=mkF "bar_word" 52 ["gap","is_fresh"] 2 jx
abbrev y9:=mkF "bolt_of" 54 ["stand","names","bolt","name"] 2 J3
abbrev y8:=mkF "bars_of" 55 ["stand","names","told","name"] 2 J2
abbrev Q5:=mkD "House.__init__" (Zq 57 0) ["self","pots"] [true,false] [0] jv (.ini "House")
abbrev V6:=mkD "House.do" (Zq 57 1) ["self","deed","stand","many"] [true,false] [0] Qb (.me "House" "do")
abbrev Wu:=mkD "House.undo" (Zq 57 2) ["self","pair"] [true] [0] Vt (.me "House" "undo")
abbrev Wt:=mkD "House.redo" (Zq 57 3) ["self","pair"] [true] [0] Vt (.me "House" "redo")
abbrev Wr:=mkD "House.book" (Zq 57 4) ["self"] [true] [0] J5 (.me "House" "book")
abbrev wB:=mkD "House.ahead" (Zq 57 5) ["self"] [true] [0] J5 (.me "House" "ahead")
abbrev Ws:=mkD "House.mark" (Zq 57 6) ["self","word"] [true,false] [0] zci (.me "House" "mark")
abbrev V7:=mkD "House.go" (Zq 57 7) ["self","word"] [true,false] [0] zcj (.me "House" "go")
abbrev wE:=mkD "House.names" (Zq 57 9) ["self"] [true] [0] Zt (.me "House" "names")
abbrev wF:=mkD "House.ready" (Zq 57 10) ["self"] [true] [0] Zu (.me "House" "ready")
abbrev JT:=mkD "House.stains" (Zq 57 11) ["self","name"] [true,false] [0] j4 (.me "House" "stains")
abbrev JU:=mkD "House.wishes" (Zq 57 12) ["self","name"] [true,false] [0] j5 (.me "House" "wishes")
abbrev wG:=mkD "House.waxed" (Zq 57 13) ["self","name"] [true,false] [0] Zv (.me "House" "waxed")
abbrev Wq:=mkD "House.bolt" (Zq 57 14) ["self","names"] [true,false] [0] Qa (.me "House" "bolt")
abbrev Q6:=mkD "House.hindered" (Zq 57 15) ["self","names"] [true,false] [0] jw (.me "House" "hindered")
abbrev vA:=mkD "House.now" (Zq 57 21) ["self"] [true] [0] Zf (.me "House" "now")
abbrev wC:=mkD "House.cloth" (Zq 57 22) ["self","name","stand"] [true,false] [0] jJ (.me "House" "cloth")
abbrev y7:=mkF "_law_whole" 59 ["_law_found"] 1 Qr
abbrev V5:=mkF "_law_wholes" 60 ["_law_found"] 1 ν2
abbrev V3:=mkF "_law_shades" 61 ["_law_found","_law_pots_here"] 2 ZZ
abbrev JR:=mkF "_law_cells_kind" 62 ["_law_found","_law_pots_here","_law_cell"] 2 jq
abbrev y0:=mkF "_law_alike" 63 ["_law_found","_law_due","_law_pots_here"] 3 Ql
abbrev y4:=mkF "_law_mixed" 65 ["_law_number","_law_turn","_law_one","_law_two"] 2 Qp
abbrev kO:=mkD "_law_take" (top 66) ["_law_box_here","_law_many","_law_left","_law_cell"] [true,false] [0] js .fn
abbrev y3:=mkD "_law_lacks" (top 67) ["_law_box_here","_law_pots_here","_law_size","_law_way","_law_ends","_law_rows","_law_at","_law_row","_law_low","_law_high"] [true,false,false] [0] Qo .fn
abbrev za6:=mkF "_law_wax" 68 ["_law_rows","_law_cells"] 2 JM
abbrev za5:=mkF "_law_dip" 69 ["_law_rows","_law_dye","_law_found","_law_stain","_law_waxed","_law_want"] 2 ZH
abbrev kE:=mkF "_law_boil" 70 ["_law_rows"] 1 QX
abbrev kH:=mkF "_law_full" 71 ["_law_rows","_law_dye"] 2 yS
abbrev kD:=mkF "_law_bars" 72 ["_law_rows","_law_fresh","_law_found","_law_at","_law_dye","_law_many"] 2 QW
abbrev wA:=mkF "_law_bars_kind" 73 ["_law_found","_law_size","_law_bar"] 2 jS
abbrev kF:=mkD "_law_deal" (top 74) ["_law_box_here","_law_some","_law_all_of","_law_found","_law_one"] [true,false,false] [0] QY .fn
abbrev vz:=mkF "_law_letters" 75 [] 0 Zm
abbrev y6:=mkD "_law_named" (top 76) ["_law_box_here","_law_many"] [true] [0] Qq .fn
abbrev kI:=mkF "_law_kept" 77 ["_law_pots_here"] 1 QZ
abbrev y2:=mkF "_law_blank" 78 ["_law_pots_here","_law_size","_law_empty"] 2 Qn
abbrev za4:=mkF "_law_did" 79 ["_law_kept_here","_law_deed","_law_fresh","_law_cloths","_law_rows","_law_name"] 2 qQ
abbrev Wp:=mkF "_law_pictures" 80 ["_law_found","_law_due"] 2 j1
abbrev V4:=mkD "_law_stands" (top 81) ["_law_house","_law_kept_here","_law_ready","_law_names","_law_pans","_law_name","_law_rows","_law_waxed"] [true,false] [0] Zn .fn
abbrev kL:=mkD "_law_pool" (top 82) ["_law_box_here","_law_found","_law_k","_law_name"] [true] [0] Q1 .fn
abbrev y1:=mkD "_law_begun" (top 83) ["_law_box_here","_law_house","_law_kept_here","_law_pool_here","_law_great","_law_name","_law_size"] [true,true,false,false] [0,1] Qm .fn
abbrev V2:=mkD "_law_mended" (top 84) ["_law_box_here","_law_house","_law_kept_here","_law_names","_law_name","_law_bits","_law_at","_law_stain","_law_deed","_law_dye"] [true,true,false,false] [0,1] ZX .fn
abbrev vy:=mkF "_law_bolt_of" 85 ["_law_kept_here","_law_names","_law_found","_law_name"] 2 Zl
abbrev kM:=mkD "_law_pots" (top 86) ["_law_box_here"] [true] [0] ZY .fn
abbrev Jt:=mkD "_law_group_names" (top 87) ["_law_box_here","_law_kept_here"] [true,false] [0] qR .fn
abbrev kG:=mkD "_law_easy" (top 88) ["_law_box_here","_law_kept_here","_law_some","_law_way","_law_dye","_law_size","_law_cells","_law_k","_law_at"] [true,false] [0] qU .fn
abbrev kP:=mkD "_law_wide" (top 89) ["_law_box_here","_law_kept_here","_law_pool_here","_law_gone","_law_hung","_law_way","_law_name","_law_want"] [true,false,false] [0] ν3 .fn
abbrev kJ:=mkD "_law_made" (top 90) ["_law_box_here","_law_house","_law_pots_here","_law_many","_law_pool_here","_law_kept_here","_law_k","_law_deed"] [true,true,false,false] [0,1] Q0 .fn
abbrev JS:=mkF "_law_house_bars" 91 ["_law_kept_here","_law_names","_law_found","_law_name","_law_word","_law_at","_law_dye"] 2 jr
section
local macro_rules|`(#[$a])=>`(.cons $a .nil)|`(#[$a,$b,*])=>`(.cons $a #[$b,*])|`(.($n:num))=>`(.x $n $n)|`(($n:num :))=>`(.k $n)
def jac:IB:=#[.a 5 5 (.dat (.call (.call "_law_group_names" 2 (.io 1 1 #[.(4)])))),.a 6 6 (.dat (.new (.list .(5)))),.a 7 7 (.dat (.call (.call "_law_house_bars" 2 #[.(4),.(5)]))),.a 8 8 (.m 3 3 "House" "hindered" "House.hindered" 2 #[.(6)]),.f (.or (.not (.callw "_law_bars_kind" 2 #[.(8),(4:)])) (.or (.p .NotEq .(8) .(7)) (.p .NotEq .(6) .(5)))) #[.ret (.dat (.b false))] .nil,.app 8 8 (.tup #[.q "deep",.q "q",(0:),(0:)]),.f (.p .NotEq (.call (.m 3 3 "House" "hindered" "House.hindered" 2 #[.(6)])) .(7)) #[.ret (.dat (.b false))] .nil,.a 9 9 (.m 3 3 "House" "bolt" "House.bolt" 2 #[.(6)]),.f (.or (.not (.callw "_law_alike" 3 #[.(9),.call (.call "_law_bolt_of" 2 #[.(4),.(5)]),.(2)])) (.p .NotEq .(6) .(5))) #[.ret (.dat (.b false))] .nil,.clr 9 9,.ret (.dat (.and (.p .Eq (.call (.m 3 3 "House" "bolt" "House.bolt" 2 #[.(6)])) (.call (.call "_law_bolt_of" 2 #[.(4),.(5)]))) (.call (.call "_law_stands" 2 (.io 3 3 #[.(4)])))))]
end
def defs:List DefI:=(zje::zdm::vG::yc::kT::kS::ya::Wy::V9::Ya::Q7::vF::wK::wJ::wL::wM::Ww::Wv::wH::wI::kQ::wP::yb::vE::wN::wO::vD::zdn::V8::y9::y8::Q5::V6::Wu::Wt::Wr::wB::Ws::V7::wE::wF::JT::JU::wG::Wq::Q6::vA::wC::y7::V5::V3::JR::y0::y4::kO::y3::za6::za5::kE::kH::kD::wA::kF::vz::y6::kI::y2::za4::Wp::V4::kL::y1::V2::vy::kM::Jt::kG::kP::kJ::JS:: [])
section
local macro_rules|`(#[$a])=>`(.cons $a .nil)|`(#[$a,$b,*])=>`(.cons $a #[$b,*])|`(.($n:num))=>`(.x $n $n)|`(($n:num :))=>`(.k $n)
def lawB:IB:=.cons (.a 2 2 (.dat (.call (.call "_law_pots" 1 (.io 1 1 .nil))))) (.cons (.a 3 3 (.make "House" "House.__init__" 2 #[.(2)])) (.cons (.a 4 4 (.dat (.call (.call "_law_made" 4 (.io 1 1 (.io 3 3 #[.(2),(14:)])))))) (.cons (.f (.p .Eq (.call (.call "_law_take" 2 (.io 1 1 #[(3:)]))) (0:)) #[.a 4 4 (.dat (.call (.call "_law_mended" 4 (.io 1 1 (.io 3 3 #[.(4),.new (.sortD (.ix .(4) (2:)))]))))),.f (.and (.p .Gt .(2) (0:)) (.p .Eq (.call (.call "_law_take" 2 (.io 1 1 #[(2:)]))) (0:))) #[.e (.call (.m 3 3 "House" "do" "House.do" 2 #[.tup #[.q "dip",.tup .nil,(0:)]])),.a 4 4 (.dat (.call (.call "_law_did" 2 #[.(4),.tup #[.q "dip",.tup .nil,(0:)]])))] .nil] .nil) jac)))
end
def W:Wd:=#[["all","any","bool","dict","enumerate","int","isinstance","len","list","max","min","range","set","sorted","str","tuple"],[("DEEPEST",9),("MOST_CELLS",40),("MOST_LETTERS",8)],[("LETTERS","abcdefghijklmnopqrstuvwxyz")],defs.filterMap (λd=>match d.kd with | .fn=>some (d.name,d.ps.length) | _=>none),[("DEEDS",[("hang","behind_hang"),("fold","behind_fold"),("twin","behind_twin"),("wish","behind_wish"),("wax","behind_wax"),("dip","behind_dip"),("boil","behind_boil"),("brew","behind_brew")])],[("House","done"),("House","first"),("House","places"),("House","pots"),("House","undone"),("Stand","cloths"),("Stand","fresh")],[("House","House.__init__",2),("Stand","Stand.__init__",3)],[("House","bolt","House.bolt",2),("House","cloth","House.cloth",2),("House","do","House.do",2),("House","hindered","House.hindered",2),("House","names","House.names",1),("House","now","House.now",1),("House","ready","House.ready",1),("House","stains","House.stains",2),("House","waxed","House.waxed",2),("House","wishes","House.wishes",2)]]
abbrev sBox:Stmt:=top 64
abbrev sLaw:Stmt:=top 92
def LN:Ab:= ["_law_script","_law_box_here","_law_pots_here","_law_house","_law_kept_here","_law_names","_law_handed","_law_due","_law_found","_law_rows"]
def okLaw [Cs]:∀ cf k,lawB.chk cf k W (defScope sLaw) LN [] 0 (defBody sLaw).tail=true:=λcf k=>by kernel_rfl
structure ziU(cf:CF):Prop where
 take:qK cf
 pots41:Y7 cf
 house:VM cf
 made:Y3 cf
 mended:Wh cf
 doG:wy cf
 did:Qf cf
 gnames:Wb cf
 hbars:VH cf
 hhind:VJ cf
 hbolt:VI cf
 lboltof:VN cf
 bkind4:YS cf
 alike:K6 cf
 stands:Wi cf
abbrev cN:=v6 defs
def ok41(n:Nat):ziU (cN (n+20)):=by
 have z0 k:VQ (cN (k+1)):=zeT _
 have z1 k:qK (cN (k+2)):=zik _ (z0 k)
 have z2 k:Y7 (cN (k+3)):=zhq _ (z1 k)
 have z3 k:QG (cN (k+1)):=zfT _
 have z4 k:zcX (cN (k+2)):=zjH _ (z3 k)
 have z5 k:VM (cN (k+3)):=zeA _ (z4 k)
 have z6 k:vM (cN (k+1)):=Ks _
 have z7 k:wT (cN (k+3)):=zeV _ (z1 k) (z6 (k+1))
 have z8 k:Y6 (cN (k+4)):=zhp _ (z1 (k+1)) (z7 k)
 have z9 k:Y0 (cN (k+1)):=zgY _
 have za k:Jj (cN (k+1)):=zjI _
 have zb k:Qk (cN (k+2)):=ziA _ (z3 k)
 have zc k:Wf (cN (k+1)):=Ko _
 have zd k:QF (cN (k+2)):=Yr _ (zc k)
 have ze k:YT (cN (k+1)):=zgq _
 have zf k:YZ (cN (k+3)):=zgR _ (zb k) (zd k) (ze (k+1))
 have zg k:νc (cN (k+1)):=zeu _
 have zh k:YY (cN (k+2)):=zgN _ (z3 k) (zg k)
 have zi k:Y8 (cN (k+3)):=zim _ (zb k) (zg (k+1)) (zd k)
 have zj k:K9 (cN (k+1)):=zjo _
 have zk k:zcY (cN (k+1)):=zj1 _
 have zl k:kg (cN (k+2)):=ziz _ (zj k) (zk k)
 have zm k:VT (cN (k+3)):=zf9 _ (zb k) (zg (k+1)) (zl k)
 have zn k:ke (cN (k+2)):=zit _ (zj k)
 have zo k:Y9 (cN (k+3)):=zir _ (zb k) (zg (k+1)) (zn k)
 have zp k:ZG (cN (k+2)):=za2 _ (zg k)
 have zq k:K8 (cN (k+1)):=zjj _
 have zr k:zad (cN (k+2)):=zj2 _ (z3 k)
 have zs k:VF (cN (k+1)):=Yb _
 have zt k:yQ (cN (k+2)):=#[λpots cs d hp hb hd=>za8 (cN (k+1)) (zs k) hp hb hd,λd=>kU (cN (k+1)) d]
 have zu k:YX (cN (k+3)):=zgz _ (zb k) (zp k) (zq (k+1)) (zr k) (zt k)
 have zv k:JJ (cN (k+1)):=kt _
 have zw k:VD (cN (k+3)):=zdc _ (zb k) (zp k) (zv (k+1))
 have zx k:YV (cN (k+3)):=zgt _ (zq (k+1)) (zr k)
 have zy k:K7 (cN (k+3)):=#[zf k,zh (k+1),zi k,zm k,zo k,zu k,zw k,zx k]
 have zz k:w5 (cN (k+4)):=zaL _ (zy k)
 have si k:wy (cN (k+5)):=zk9 _ (za (k+3)) (zz k)
 have DJ k:VC (cN (k+1)):=zdb _
 have DI k:Y2 (cN (k+1)):=zg2 _
 have DH k:zcU (cN (k+1)):=#[λpots cs d hp hb=>zg1 (cN k) hp hb d,λd=>zeP (cN k) d]
 have DF k:Wg (cN (k+1)):=zb4 _
 have sg k:Qf (cN (k+2)):=zjf _ #[DJ k,DI k,DH k,DF k]
 have DE k:VB (cN (k+6)):=zda _ (z1 (k+3)) (si k) (sg (k+3))
 have BX k:VE (cN (k+3)):=λb hb ds al hl=>zgx (cN (k+2)) (z1 k) hb hl
 have DC k:VO (cN (k+1)):=#[λpots cs d hb hd=>zeR (cN k) hb hd,λd=>zb6 (cN k) d]
 have DA k:VG (cN (k+4)):=zgG _ (z1 (k+1)) (BX k) (DC (k+2))
 have Dz k:VS (cN (k+5)):=ziu _ (z1 (k+2)) (DA k)
 have Dy k:Y3 (cN (k+7)):=zg3 _ (z1 (k+4)) (z8 (k+2)) (z9 (k+5)) (DE k) (Dz (k+1)) (si (k+1)) (sg (k+4))
 have Dw k:VP (cN (k+3)):=λb hb pots size h1 h2=>zeF (cN (k+2)) (z1 k) hb h1 h2
 have Dv k:Wh (cN (k+6)):=zcb _ (si k) (sg (k+3)) (Dw (k+2))
 have Du k:Wb (cN (k+4)):=zbT _ (z1 (k+1)) (BX k)
 have Dt k:zaa (cN (k+1)):=λpots cs fr h1 h2 h3 h4=>zeN (cN k) h1 h2 h3 h4
 have Ds k:VH (cN (k+2)):=zew _ (Dt k)
 have Dr k:ki (cN (k+1)):=λg f=>ziB (cN k) g f
 have Dq k:YU (cN (k+2)):=λpots cs fr h1 h2 h3 h4=>zgs (cN (k+1)) (Dr k) h1 h2 h3 h4
 have Dp k:w4 (cN (k+3)):=kq _ (zp k) (Dq k)
 have Dn k:VJ (cN (k+4)):=zey _ (za (k+2)) (Dp k)
 have Dk k:w6 (cN (k+3)):=ku _ (zp k)
 have Dj k:VI (cN (k+4)):=zex _ (za (k+2)) (Dk k)
 have Dh k:VN (cN (k+1)):=zeO _
 have As k:Jl (cN (k+1)):=zf8 _
 have Dg k:YS (cN (k+2)):=bkind4 _ (As k)
 have BW k:Jk (cN (k+2)):=zcy _ (As k)
 have De k:zcT (cN (k+3)):=λpots cs hp h=>zgZ (cN (k+2)) (BW k) hp h
 have Dd k:K6 (cN (k+4)):=λpots cs hp h=>zc0 (cN (k+3)) (De k) hp h
 have Dc k:JL (cN (k+2)):=Kh _ (za k)
 have C9 k:Wc (cN (k+2)):=zbW _ (za k)
 have u9 k:Jh (cN (k+2)):=zdi _ (za k) (zg k)
 have C8 k:VL "House.stains" Cl.st (cN (k+3)):=λp f dn un pl fr cl n cs h1 h2 h3=>Ki (cN (k+2)) (u9 k) p f dn un pl fr cl n cs h1 h2 h3
 have C7 k:VL "House.wishes" Cl.wi (cN (k+3)):=λp f dn un pl fr cl n cs h1 h2 h3=>Kj (cN (k+2)) (u9 k) p f dn un pl fr cl n cs h1 h2 h3
 have C6 k:We (cN (k+3)):=zbY _ (u9 k)
 have C5 k:QV (cN (k+3)):=Yv _ (BW k)
 have C4 k:Wl (cN (k+2)):=zcJ _ (As k)
 have C3 k:Wi (cN (k+4)):=KM _ #[Dc (k+1),C9 (k+1),C8 k,C7 k,C6 k,C5 k,C4 (k+1)]
 exact#[z1 (n+18),z2 (n+17),z5 (n+17),Dy (n+13),Dv (n+14),si (n+15),sg (n+18),Du (n+16),Ds (n+18),Dn (n+16),Dj (n+16),Dh (n+19),Dg (n+18),Dd (n+16),C3 (n+16)]
section
variable {cf:CF}(h:ziU cf)
include h
def zaf{b:OV}(hb:zU b){aa:Ab}(hp:aa.length<=4)(hN:∀ n∈aa,Nm n){p:Nat}{f:PyData}{L:Nat}{fr:List Bool}{c:Cls}{dn:Ao}(H:Hs aa p f L fr c dn) :
  ∃ U',jac.ex cf [] [none,some b,@&(.int p),some (hV p f dn [] []),@&(zG p fr c),none,none,none,none,none]=.ok (.ret (.d (.bool true)),U'):=by
 let S:=H.S
 let hp12:=S.hp
 let(ns,b1,hS,hb1,e1):=h.gnames b hb aa p fr c S (by lia)
 let e2:=h.hbars aa p fr c ns S hS
 let e3:=h.hhind aa p fr c p f dn ns S H.q hS
 let g8:∀ n∈ns,PyData.strOk n=true:=λn hn=>by
  let(cs,g):=hS.at' n hn
  erw[(hN n (S.np _ (jR g))).ok]
 let hB4:=zc7 (fr:=fr) (c:=c) g8
 let e4:=h.bkind4 _ hB4
 let lb:=zeH hB4
 let qb:=Ze lb
 let e5:=h.hbolt aa p fr c p f dn ns S H.q hS
 let e6:=h.lboltof aa p fr c ns S hS
 let hBo:=zdd S hp hS
 let e7:=h.alike p (qe c ns) (by lia) hBo.kind
 let lc:lay 20 (zA (qe c ns))=true:=Yn 17 _
 let qc:=Ze lc
 let e8:=h.stands aa p fr c p f dn [] [] (by lia) hN S H.q
 let ln:lay 20 (.list (ns.map .str))=true:=ZK λx hx=>by
  let(n,hn,rfl):=xu.mp hx
  erw[g8 n hn]
 let qn:=Ze ln
 let v1:=yM ns
 let v2:=qm (qA fr c ns)
 let v3:=qm ((qe c ns).map Cl.D)
 let tq:(ns.map PyData.str).length<=1000000:=by have:=hS.len;simp;lia
 let hal:=Zd S hS.at'
 let EG:((qA fr c ns).map OV.d).length<1000000:=by have:=hS.len;simp;lia
 let(X1,g1):=jN p f dn
 unfold qP at *
 unfold zA at *
 rw[g1]at e3 e5 e8 |-
 rwa[zG p fr c=K,ns.map PyData.str=NS,(ns.map λn=>OV.d (.str n))=NO,(qA fr c ns).map OV.d=BO,qA fr c ns=BB,((qe c ns).map Cl.D).map OV.d=CO,(qe c ns).map Cl.D=CC]
 exact#[_,by dsimp! [jac,e1,e2,e3,e4,e5,e6,e7,e8,v1,v2,v3,lb,qb,lc,qc,ln,qn,tq,EG,ZE,zfr,zE,qi];rfl]
end
def law_run(cf:CF)(h:ziU cf)(cells:List Int)(i l t s:Int)(hi:0<=i):∃ U',lawB.ex cf [] (none::some (QN cells i l t s)::List.replicate (LN.length-2) none)=.ok (.ret (.d (.bool true)),U'):=by
 let hB:zU (QN cells i l t s):=#[_,_,_,_,_,hi,rfl]
 generalize QN cells i l t s=b at hB
 let(p,b1,hp12,hb1,e1):=h.pots41 b hB
 let w1:=h.house p hp12
 let hF:stV (List.replicate p (.bool true)) []=stA (List.replicate p true) []:=by
  unfold stA frD clD;rw[uq];rfl
 rw[hF]at w1
 let(aa,b2,fr,c,dn,hp,hN,hb2,H,e2):=h.made b1 hb1 p 14 hp12 (by decide) (by decide)
 let(r,b3,g3,BI,bh,e3):=h.take b2 hb2 3 (by decide) (by decide)
 let hs:∀ s,(IB.cons s jac).ex cf []=sSeq (s.ex cf []) (jac.ex cf []):=λs=>rfl
 let rh:((14:Nat):Int)=14:=rfl
 rw[rh]at e2
 by_cases hr:r=0
 ·subst hr
  let(b4,dk,c2,f9,ib,H2,ha,e4):=h.mended b3 bh aa p fr c p _ dn (by lia) hN (H.mono (by lia))
  let k2:atI (zH p fr c) 2=some (.dict ((clD c).map dK)):=rfl
  let hu:=zT (clD c)
  let hpl:=H.S.len
  let cn:(clD c).length<64:=by simp[clD];lia
  let hK:zG p fr c=.list (zH p fr c):=rfl
  unfold Za at e4
  generalize cu:(qX ((clD c).map (·.1))).map PyData.str=KS at e4
  rw[hK]at e2 e4
  let(X0,q0):=jN p (stA (List.replicate p true) []) []
  let(X1,q1):=jN p (stA (List.replicate p true) []) dn
  let(X2,q2):=jN p (stA (List.replicate p true) []) f9
  by_cases AY:0<p
  ·let gh:(0:Int)<(p:Int):=by lia
   let(r5,b5,g5,Fx,CB,e5):=h.take b4 ib 2 (by decide) (by decide)
   by_cases hr5:r5=0
   ·subst hr5
    let G:QM aa dk c2 (.dip [] 0):=#[by decide,by have:=H2.S.hl;lia,ha 0 AY,.nil,by decide,(λ_ h=>nomatch h)]
    let(e6,e7):=ZS h.doG h.did (by lia) hN H2 (by decide) G p
    let(U',e8):=zaf h CB hp hN (H2.step G)
    refine#[U',?_]
    let hD:(Deed.dip [] 0).D=.tuple [.str "dip",.tuple [],.int 0]:=rfl
    let d7:zG p dk c2=.list (zH p dk c2):=rfl
    let EW:zG p ((Deed.dip [] 0).fr dk) ((Deed.dip [] 0).cl p c2)=.list (zH p ((Deed.dip [] 0).fr dk) ((Deed.dip [] 0).cl p c2)):=rfl
    let vv:=qm (zH p ((Deed.dip [] 0).fr dk) ((Deed.dip [] 0).cl p c2))
    rw[d7]at e4
    rw[EW]at e8
    rw[q0]at w1 e2
    rw[q1]at e2 e4
    rw[q2]at e4 e6
    let(X3,q3):=jN p (stA (List.replicate p true) []) (f9++ [((Deed.dip [] 0).D,stA ((Deed.dip [] 0).fr dk) ((Deed.dip [] 0).cl p c2))])
    rw[q3]at e6 e8
    rwa[zH p ((Deed.dip [] 0).fr dk) ((Deed.dip [] 0).cl p c2)=K3]
    rw[hD]at e6 e7
    rwa[zH p dk c2=K2,zH p fr c=K,(clD c).map dK=CD,clD c=C1,(p:Int)=P]
    unfold lawB
    rwa[jac=B1]
    dsimp! [hs,LN,w1,e1,e2,e3,e4,e5,e6,e7,e8,vv,k2,hu,cn,cu,gh,zJ,zM,zE,qi]
   ·let AU:(r5==0)=false:=x9.mpr hr5
    let(U',e8):=zaf h CB hp hN H2
    refine#[U',?_]
    rw[q0]at w1 e2
    rw[q1]at e2 e4
    rw[q2]at e4 e8
    rwa[zG p dk c2=K2,zH p fr c=K,(clD c).map dK=CD,clD c=C1,(p:Int)=P]
    unfold lawB
    rwa[jac=B1]
    dsimp! [hs,LN,w1,e1,e2,e3,e4,e5,e8,AU,k2,hu,cn,cu,gh,zJ,zM,zE,qi]
  ·let gh:(p:Int)=0:=by lia
   let(U',e8):=zaf h ib hp hN H2
   refine#[U',?_]
   rw[q0]at w1 e2
   rw[q1]at e2 e4
   rw[q2]at e4 e8
   rwa[zG p dk c2=K2,zH p fr c=K,(clD c).map dK=CD,clD c=C1,(p:Int)=P]
   subst gh
   unfold lawB
   rwa[jac=B1]
   dsimp! [hs,LN,w1,e1,e2,e3,e4,e8,k2,hu,cn,cu,zJ,zM,zE,qi]
 ·let D5:(r==0)=false:=x9.mpr hr
  let(U',e8):=zaf h bh hp hN H
  refine#[U',?_]
  let(X0,q0):=jN p (stA (List.replicate p true) []) []
  let(X1,q1):=jN p (stA (List.replicate p true) []) dn
  rw[q0]at w1 e2
  rw[q1]at e2 e8
  rwa[zG p fr c=K,(p:Int)=P]
  unfold lawB
  rwa[jac=B1]
  dsimp! [hs,LN,w1,e1,e2,e3,e8,D5,zJ,zM,zE,qi]
section
variable [L2.Cs]{P:Ar}{w:World}{K:Ah}{mg:Aq}{base:Heap}
def zdk(ns:List Int)(lo hi:Option Int):∃ ms:List Int,JQ (ns.map V.int) lo hi=ms.map V.int/\ms.length<=ns.length:=by
 refine#[(ns.drop (HT.sIx (ns.map V.int).length 0 lo)).take (HT.sIx (ns.map V.int).length (ns.map V.int).length hi-HT.sIx (ns.map V.int).length 0 lo),?_,?_]
 ·unfold JQ
  rw[List.map_take,List.map_drop]
 ·rw[xJ,uy];lia
def scBox:Zb ["_law_script","_law_seed","_law_cell"] ["_law_script"] (defScope sBox):=#[rfl,rfl,rfl,by decide +kernel,rfl,by decide +kernel,by decide +kernel]
def kn_box (D:Df K mg "_law_box" sBox ["_law_script"]) (B:mg "list" =none):Kn P w K mg base CX0 "_law_box" 1 (zfN K) :=
 D.kn (k:=0) scBox (λvs H Q E ⟨a,ns,e,_⟩=>by rw[e];rfl) λf ai A outer s H vs Q E hr ⟨a,ns,e,hS,hlen,kk⟩=>by
  subst e
  refine PSs.wp (Qz (W5 (i:=1) scBox.nd rfl (Or.inl rfl) pe_int)
   (Qz (zfl PassesOwn.never rfl (zau (Jz yF (pv 0) yA (yB pe_int))) (zat (i:=2) scBox.nd rfl (Or.inl rfl))
    (wY (W5 (i:=1) scBox.nd rfl (Or.inl rfl) (WY ze1 (WY KA (WY KA (WY ze2 (pv 1) pe_int) (pv 2)) pe_int) pe_int))))
   (wY (KH (zfc (zX (ZP Jp rfl B Q3 (zX (Jz yF (pv 0) yA (yB pe_int)) pa_nil)) (zX pe_int (zX pe_int (zX pe_int (zX (pv 1) pa_nil)))))))))) ?_
  let(ms,CP,tw):=zdk ns none (some 63)
  refine⟨_,rfl,_,rfl,a,_,rfl,hS,λq nq=>⟨q,rfl,⟨_,SqL.of zK⟩,zep (K:=K) (a:=q) (xs:=JQ (ns.map V.int) none (some 63)) (λi O H2=>H2=upd H q (.lst (JQ (ns.map V.int) none (some 63)))/\∃ sd v,O= [some (.ref a),some (.int sd),v])
   #[rfl,0,none,rfl] (λi O H2 _ ⟨e,_⟩=>by rw[e];exact SqL.of zK) ?_ ?_⟩⟩
  ·rintro i x O H2 hx ⟨rfl,sd,v,rfl⟩
   obtain⟨z,rfl⟩:∃ z,x=V.int z:=by
    rw[CP]at hx
    have:=xO hx
    let(z,_,rfl):=xu.mp this
    exact#[z,rfl]
   refine#[_,rfl,_,_,rfl,rfl,.inr (by decide),_,rfl,_,_,rfl,rfl,_,_,rfl,rfl,_,_,rfl,rfl,(by show (0:Int)<2147483647;decide),?_]
   exact#[rfl,_,_,rfl]
  ·rintro O H2 ⟨rfl,sd,v,rfl⟩
   let s1:Same H (upd H q (.lst (JQ (ns.map V.int) none (some 63)))):=qg nq
   refine#[_,rfl,_,rfl,a,_,rfl,s1.seq hS,λq2 DP=>#[q2,_,rfl,.inl (SqL.of zK),λl nl=>#[_,rfl,(by show 5<=sizeLine;decide),λb nb=>?_]]]
   let s2:=s1.trans (qg (o:=.lst (JQ (ns.map V.int) none (some 63))) DP)
   let s3:=s2.trans (qg (o:=.lst (JQ (ns.map V.int) none (some 63))) nl)
   let Cp:l≠b:=λe=>by rw[<- e,zK]at nb;cases nb
   refine kk b _ (s3.trans (qg nb)) (s3.free nb) (by rw[zK];exact λz=>nomatch z) #[l,ms,0,0,0,sd,rfl,zK,?_,Int.le_refl 0]
   refine .list (vs:=ms.map V.int) (by rw[zI Cp,zK,CP]) Cp (RepL.ints ms)
def hw:wOk defs W=true:=by kernel_rfl
def hgd (BV:GD w K mg "DEEDS" [("hang","behind_hang"),("fold","behind_fold"),("twin","behind_twin"),("wish","behind_wish"),("wax","behind_wax"),("dip","behind_dip"),("boil","behind_boil"),("brew","behind_brew")]):∀ x kf,W.gd.contains (x,kf)=true->GD w K mg x kf:=by
 intro x kf h
 let h2:=ul.mp h
 simp only[W,xC,List.not_mem_nil,or_false,Prod.mk.injEq]at h2
 let(rfl,rfl):=h2
 ·erw[BV]
def okS:va LN ["_law_script"] (defScope sLaw)=true:=by kernel_rfl
def oks [Cs]:∀ cf k,(defs.all λd=>d.ok W cf k)=true:=λcf k=>by kernel_rfl
end
end Wx
end
namespace Wx
end Wx
open PySem PySem.W PyProof.Rows
theorem PySem.Challenge.cw_waxcloth_k41_what_hinders_holds : PySem.Challenge.rw_waxcloth_k41_what_hinders.Holds := by
 w_on;refine PySem.W.holds_law Wh.saidL λDL=>?_
 refine PySem.W.holds_open (q:=Wh.Q) (loose:= ["DEEDS"]) (XP:=PySem.W.XL Wh.Q []) (YP:=PySem.W.Hook.says (PySem.W.kHook Wh.kz.heap_1 Wh.kz.asL Wh.asE)) (N:=12564) Wh.left (PySem.W.Hook.of (PySem.W.kHook Wh.kz.heap_1 Wh.kz.asL Wh.asE)) (PySem.W.Hook.keeps (PySem.W.kHook Wh.kz.heap_1 Wh.kz.asL Wh.asE)) (λs e=>PySem.W.xl_of s (xL.mp e).1) PySem.W.XL.keeps (by rfl) (by rfl) (by rfl) (λs e=>PySem.W.recFacts_of (xL.mp e).2) (by rfl) (by first | assumption | decide +kernel) (by decide +kernel) ⟨rfl,rfl,rfl,rfl,rfl,by decide +kernel⟩ ?hw ?hc
 (case hw=>w_witness2)
 k_fill
 haveI:L2.Cs:=⟨λ_=>0⟩
 refine L2.walkL (l:=PySem.Challenge.rw_waxcloth_k41_what_hinders) (k:=43) (st:=Wx.sLaw) rfl rfl ⟨rfl,by decide,by decide⟩ (λw h Y=>PySem.W.kIn_of Y) ?F
 case F=>
  intro w mg fa h KX G pd
  letI:L2.Cs:=L3.csOf mg
  have HD:L3.AllX (L2.KOf KX) mg Wx.defs:=by
   repeat' first | exact trivial | refine And.intro ?_ ?_ | (refine L3.dx_fn rfl ?_;first | (dsimp only [L2.KOf];refine' L2.Df.of KX G ?a ?l ?c ?k (λ_ _ _ _ _ _=>L3.el0 rfl);(case a=>k_is);(case l=>k_is);(case c=>k_is);(case k=>k_is)) | (dsimp only [L2.KOf];refine' L2.Df.of KX G ?a ?l ?c ?k (λ_ _ _ _ _ _=>L3.el1 λ_=>rfl);(case a=>k_is);(case l=>k_is);(case c=>k_is);(case k=>k_is)) | (dsimp only [L2.KOf];refine' L2.Df.of KX G ?a ?l ?c ?k (λ_ _ _ _ _ _=>L3.el2 λ_ _=>rfl);(case a=>k_is);(case l=>k_is);(case c=>k_is);(case k=>k_is)) | (dsimp only [L2.KOf];refine' L2.Df.of KX G ?a ?l ?c ?k (λ_ _ _ _ _ _=>L3.el3 λ_ _ _=>rfl);(case a=>k_is);(case l=>k_is);(case c=>k_is);(case k=>k_is)) | (dsimp only [L2.KOf];refine' L2.Df.of KX G ?a ?l ?c ?k (λ_ _ _ _ _ _=>L3.el4 λ_ _ _ _=>rfl);(case a=>k_is);(case l=>k_is);(case c=>k_is);(case k=>k_is))) | (refine L3.dx_me KX G rfl ?_;first | (dsimp only [L2.KOf];refine' L3.Dm.of (L3.ClsOf.mk ?n (L2.Cls.mk ?c1 ?c2 ?c3 ?c4)) ?a ?f ?l ?c ?k (λ_ _ _ _ _ _=>L3.el1 λ_=>rfl);(case n=>k_is);(case c1=>k_is);(case c2=>k_is);(case c3=>k_is);(case c4=>k_is);(case a=>k_is);(case f=>k_is);(case l=>k_is);(case c=>k_is);(case k=>k_is)) | (dsimp only [L2.KOf];refine' L3.Dm.of (L3.ClsOf.mk ?n (L2.Cls.mk ?c1 ?c2 ?c3 ?c4)) ?a ?f ?l ?c ?k (λ_ _ _ _ _ _=>L3.el2 λ_ _=>rfl);(case n=>k_is);(case c1=>k_is);(case c2=>k_is);(case c3=>k_is);(case c4=>k_is);(case a=>k_is);(case f=>k_is);(case l=>k_is);(case c=>k_is);(case k=>k_is))) | (refine L3.dx_ini KX G rfl ?_;first | (dsimp only [L2.KOf];refine' L3.Di.of (L3.ClsOf.mk ?n (L2.Cls.mk ?c1 ?c2 ?c3 ?c4)) ?m ?a ?f ?kc ?l ?c ?k (λ_ _ _ _ _ _=>L3.el2 λ_ _=>rfl);(case n=>k_is);(case c1=>k_is);(case c2=>k_is);(case c3=>k_is);(case c4=>k_is);(case m=>k_is);(case a=>k_is);(case f=>k_is);(case kc=>k_is);(case l=>k_is);(case c=>k_is);(case k=>k_is)) | (dsimp only [L2.KOf];refine' L3.Di.of (L3.ClsOf.mk ?n (L2.Cls.mk ?c1 ?c2 ?c3 ?c4)) ?m ?a ?f ?kc ?l ?c ?k (λ_ _ _ _ _ _=>L3.el3 λ_ _ _=>rfl);(case n=>k_is);(case c1=>k_is);(case c2=>k_is);(case c3=>k_is);(case c4=>k_is);(case m=>k_is);(case a=>k_is);(case f=>k_is);(case kc=>k_is);(case l=>k_is);(case c=>k_is);(case k=>k_is)))
  have DB:L2.Df (L2.KOf KX) mg "_law_box" Wx.sBox ["_law_script"]:=by
   (dsimp only [L2.KOf];refine' L2.Df.of KX G ?a ?l ?c ?k (λ_ _ _ _ _ _=>L3.el1 λ_=>rfl);(case a=>k_is);(case l=>k_is);(case c=>k_is);(case k=>k_is))
  have BV:L2.GD w (L2.KOf KX) mg "DEEDS" [("hang","behind_hang"),("fold","behind_fold"),("twin","behind_twin"),("wish","behind_wish"),("wax","behind_wax"),("dip","behind_dip"),("boil","behind_boil"),("brew","behind_brew")]:=by
   dsimp only [L2.KOf]
   refine' L2.GD.of KX G (D:=320) (ep:=8) (l:= [("hang",606,276),("fold",607,281),("twin",608,288),("wish",609,295),("wax",610,302),("dip",611,307),("boil",612,312),("brew",613,319)]) ?hd ?hs ?ho ?hr ?hn
   (case hd=>k_is)
   (case hs=>decide)
   (case ho=>kernel_rfl)
   (case hr=>kernel_rfl)
   (case hn=>decide +kernel)
  have HB:∀ x,Wx.W.bi.contains x=true->mg x=none:=L3.bi_all (K:=L2.KOf KX) KX G (by kernel_rfl)
  have L:L2.Dl (L2.KOf KX) "law" Wx.sLaw fa "_law_script" :=by
   dsimp only [L2.KOf]
   refine' L2.Dl.of KX G pd ?a ?l ?c ?k ?b
   (case a=>k_is);(case l=>k_is);(case c=>k_is);(case k=>k_is)
   (case b=>exact λs u=>.of_eq rfl)
  refine⟨L,λfd Ff base=>?_⟩
  exact L3.law_ok Ff Wx.okS (Wx.kn_box DB (HB "list" (by kernel_rfl))) (by decide) (L3.wk_all (L3.dx_all HD Wx.oks) Wx.hw HB (L3.gi_of (K:=L2.KOf KX) KX G (by kernel_rfl)) (L3.gs_of (K:=L2.KOf KX) KX G (by kernel_rfl)) (Wx.hgd BV) (L3.fk_all (K:=L2.KOf KX) KX G (by kernel_rfl)) 20) (by decide) rfl rfl rfl rfl (by first | exact Or.inl rfl | exact Or.inr rfl) rfl Wx.okLaw (λcells i l t s hi=>Wx.law_run _ (Wx.ok41 0) cells i l t s hi)
