import PyProof.Rows.All
import Wide.All
import OpenK.AllK
import PySem.Challenge.RW_waxcloth_k40_twins_apart
set_option maxHeartbeats 0
set_option maxRecDepth 100000
set_option bootstrap.genMatcherCode false
set_option compiler.extract_closed false
abbrev xa:=@List.getElem?_eq_some_iff
abbrev xb:=@List.getElem?_eq_getElem
abbrev xc:=@List.getElem?_append_left
abbrev xf:=@List.getElem?_map
abbrev xg:=@Nat.le_refl
abbrev xh:=@Bool.and_eq_true
abbrev xi:=@List.getElem?_set_ne
abbrev xj:=@Nat.ne_of_lt
abbrev xk:=@List.getElem?_set_self
abbrev xl:=@List.mem_cons_of_mem
abbrev xm:=@List.getElem?_append_right
abbrev xn:=@List.size_toArray
abbrev xo:=@List.length_map
abbrev xp:=@List.map_cons
abbrev xq:=@List.length_cons
abbrev xr:=@List.mem_cons_self
abbrev xt:=@Nat.lt_of_lt_of_le
abbrev xu:=@List.map_map
abbrev xv:=@List.mem_map
abbrev xw:=@List.mem_cons
abbrev xx:=@List.lookup_cons
abbrev xy:=@List.length_append
abbrev xz:=@Int.eq_ofNat_of_zero_le
abbrev xA:=@List.mem_append_right
abbrev xB:=@List.nodup_cons
abbrev xC:=@List.map_append
abbrev xD:=@List.getElem?_eq_none
abbrev xE:=@List.getD_eq_getElem?_getD
abbrev xF:=@List.mem_append
abbrev xG:=@List.all_eq_true
abbrev xH:=@Nat.le_trans
abbrev xI:=@List.length_take
abbrev xJ:=@List.nodup_append
abbrev xK:=@List.length_set
abbrev xL:=@Bool.or_eq_true
abbrev xM:=@Bool.and_eq_true_iff
abbrev xN:=@List.getElem?_replicate
abbrev xO:=@List.getElem_mem
abbrev xP:=@List.replicate_succ
abbrev xQ:=@List.any_cons
abbrev xR:=@List.ext_getElem?
abbrev xS:=@Option.isSome_iff_exists
abbrev xT:=@List.getElem?_take_of_lt
abbrev xU:=@List.append_nil
abbrev xV:=@List.find?_cons
abbrev xW:=@List.take_length
abbrev xX:=@List.all_cons
abbrev xY:=@List.take_add_one
abbrev xZ:=@List.map_set
abbrev ua:=@List.filterMap_cons
abbrev ub:=@Nat.zero_le
abbrev uc:=@List.length_singleton
abbrev ud:=@List.filter_cons
abbrev ue:=@Nat.lt_irrefl
abbrev uf:=@List.mem_append_left
abbrev ug:=@List.mem_of_getElem?
abbrev uh:=@List.flatten_cons
abbrev ui:=@List.getElem?_cons_succ
abbrev uj:=@List.length_nil
abbrev uk:=@Nat.le_of_lt
abbrev ul:=@List.elem_iff
abbrev um:=@List.getElem?_range
abbrev uo:=@List.map_congr_left
abbrev uq:=@List.take_of_length_le
abbrev ur:=@List.map_replicate
abbrev ut:=@List.length_replicate
abbrev uu:=@List.set_append_right
abbrev uv:=@List.append_assoc
abbrev uw:=@List.length_drop
abbrev ux:=@List.any_eq_true
abbrev uy:=@List.foldl_cons
abbrev uz:=@Option.map_some
abbrev uA:=@Bool.false_eq_true
abbrev uB:=@List.mem_singleton
abbrev uC:=@Int.emod_lt_of_pos
abbrev uD:=@List.filter_append
abbrev uE:=@List.mem_range
abbrev uF:=@List.any_eq_false
abbrev uG:=@List.reverse_cons
abbrev uH:=@List.any_map
abbrev uI:=@Option.map_eq_some_iff
abbrev uJ:=@Bool.not_eq_true'
abbrev uK:=@Nat.zero_add
abbrev uL:=@List.length_range
abbrev uM:=@Nat.lt_succ_self
abbrev uN:=@List.drop_length
abbrev uO:=@List.prefix_refl
abbrev uP:=@List.not_mem_nil
abbrev uQ:=@List.map_drop
abbrev uR:=@Nat.le_succ
abbrev uS:=@List.mem_filter
abbrev uT:=@List.nil_append
abbrev uU:=@Int.emod_nonneg
abbrev uV:=@Bool.eq_iff_iff
abbrev uW:=@Nat.ne_of_gt
abbrev uX:=@List.all_map
set_option Elab.async false
set_option linter.all false
set_option bootstrap.genMatcherCode false
set_option compiler.extract_closed false
abbrev x0:=@decide_eq_true_eq
abbrev x3:=@PySem.wpAny_bind
abbrev x4:=@PySem.Heap.get?_push_of_some
abbrev x5:=@PySem.Heap.lt_size
abbrev x6:=@PySem.wpAny_pure
abbrev x8:=@PySem.Heap.get?_push_size
abbrev x9:=@beq_eq_false_iff_ne
abbrev Xa:=@decide_eq_false
abbrev Xb:=@PySem.wpAny_holding
abbrev Xc:=@PySem.wpAny_mono
abbrev Xd:=@PySem.Heap.get?_update_other
abbrev Xe:=@PySem.sizeLine_eq
abbrev Xf:=@of_decide_eq_true
abbrev Xg:=@PySem.wpAny_loadPart'
abbrev Xh:=@PySem.wpAny_truthy_bool
abbrev Xi:=@PySem.wpAny_Call_Name_kw
abbrev Xj:=@PySem.codeAny_mono
set_option hygiene false in
local macro_rules
  | `(∅) => `((PySem.wpAny (PySem.model X.prog X.w) X.A))
  | `(⋯) => `((X.comp N' scope cl C s2 H2 fp))
  | `($x⁻¹) => `(PySem.starEach [$x] X.env = [(false, PySem.eval $x X.env)])
  | `(↥$x) => `(($x == ("__debug__" : PySem.Str)) = false)
  | `(tactic| cbv) => `(tactic| intro pins s σ H Q I h)
  | `(by? $t:tacticSeq) => `(fun M0 F Γ ν σ H Q rs hs hp => by $t:tacticSeq)
local macro_rules|`(tactic|delta $xs:ident*)=>do let h:=xs[0]!;let t←`(tactic|((try dsimp only at $h:ident);split at $h:ident;rotate_left;exact ($h).elim));if xs.size<2 then return t else let y:=xs.extract 1 xs.size;`(tactic|($t;rename_i $[$y:ident]*))
local macro_rules
|`(command|def $i:declId $s:optDeclSig $v:declVal)=>if (" Vk keyH qt RelV RelO KV kV upd ObjOk HOk Rd Mut trk yc frs Vis Loc Look EP TP AP SP PE PT PW PA PS PSs zla tC Gl tAnd tOr tNot zk2 tOrV tIf SqL SqT absV zk7 tSeq zk6 tRet tIfS PG PGs zh2 Wu gNil zkh gTup zki yB Jm PIE PI Itl Itt Itr zkm iTup zkn tFor WT OpR UnR ji TruR tOp tUn rI rI0 rU CDiv zj1 CMul zhX Kp zfD jt NoAttr tFld sFld zjR zfg tTup tLst CE CR zk3 Binds VI start Q4 tCB sIx PO zhx zk8 SlR tSl Ju rSlT ixN atI wz IxR MtR rIxL rIxT rIxS zkI rSlL tyV tBM MtM zgL rCat zh1 qZ defBody defScope Same vh Jc Wp VC zj2 zfB zk4 zkP zjO QO IsD zjN zjP zcQ cS PF zk9 VO YF YG vd PEv ExO kK dK zj4 TupM wpE wpT wpW wpA wpS wpB wpG wpF wpI Al zj3 zkH zjc tyD zZ zjY gU fU eU zab zhS zkj fset MM Ws R.bind R.get leaves derL Sees EPost FOk SE SN ST SW OpS wK truD derSs SL Q3 SOp lenD JO gLen gInt qi gAll gAny W6 isiB gMin gMax gNeg binD lay isN inD cmpD zkG ITs.len SG SGs JI SI SF mpC SNt APost OPost SA SO spX Ran toArg toArgs ios putBack cM cF SPost SS SB SOt jk isOwn vG rIns Ite zkk qR BoxAt ze6 QL dedup tRev wD WOk y9 JT ZU Wt Itc ziw V5 Vw ZS zI zU qu zM unD zk5 j5 Fz zdK Itk zkl Iti zix Eqv Q5 hid Wk JIw SIw loopG itL qD SD SDt itD eD zjQ ixF objF setO updF zD ZOk zdP gDin gDnin zO jN Zl zfp zbw nmB okO zlc yo attF yn wG jp ziI ck0 ckB ck1 ck2 ck3 ck4 tt cx vw nmk bik flk glk isT Ct.inn cfk up lok tgk AsC IE.x IE.frz IE.k IE.q IE.b IE.j IE.gstr IE.tup IE.new IE.n IE.p IE.h IE.not IE.neg IE.and IE.or IE.f IE.ix IE.len IE.int IE.all IE.any IE.tuple IE.i IE.min IE.max IE.cutT IE.call IE.lset IE.lsetS IE.sin IE.slen IE.join IE.six IE.g IE.dgd IE.d IE.dnin IE.t IE.newD IE.fdat IE.flen IE.ftru IE.flast IE.ffrz IL.nil IL.cons IA.nil IA.cons IA.io IN.lst IN.cut IN.back IN.cat IN.list IN.comp IN.lrng IN.mul IN.sortD IP.non IP.one II.list II.tup II.range II.enum II.chars IC.yes IC.one IO.dat IO.own IO.call IO.move IO.ownD IO.make IO.m IM.nil IM.one IM.copy IM.comp IG.std IG.items IG.keys wk zk asgk IS.bad IS.a IS.t IS.e IS.f IS.loop IS.ret IS.app IS.set IS.ins IS.raise IS.star IS.fset IS.fapp IS.dupd IS.u IS.dpop IB.nil IB.cons IB.disp outs fin DefI.run v9 W4 IB.chk DefI.ok Lk wOk Qu csOf Z5 jbt ZH Z3 jm jan QB jbr QA jbv ja2 j3 j2 jbs ZG jba qL jaj jL jab qE jbf Jq ja0 ja1 ZB QQ jao ja5 Zx ja6 ZF jO jbq jS jbu WQ Zj ja8 Z4 Qa JJ Qq jam jbk JK zbR zbQ ZA Qb Zs qm Zw Z9 jx jr yi yj yk ZO Zm jaw jax Zn jbg j0 jbj j1 jbh jbi Zo Zd jw ja9 jU jah jay jaz Zr Zt Zu ZQ jbn jbo ZP jbl jbm Zp Zq QR jbp Zv Z8 vn yN ja7 QC ja3 ja4 ZZ qq qr qI jas jat jbb jbc jbd jbe jau Zk jak QD runI Nz kSq VH zV zh3 qJ zA Zc In9 Cl.D ql zB Bolt wA wW qc Deed.D Nm Qi QY wP tps prs hV stV Qk zcy VF j8 wR Zb QW zs jj YM ZY Qj YR yH wS Wy qp qf VD yJ Kz in9 zbV zcA qA zfv Y2 wy jZ zaK yF yG jd zjW Y0 YU Jj KB KC VG zcx frD clD stA qg jb qh Deed.fr Deed.cl yK Clo Jk Ky QV KD YN YQ YY YZ VJ VB YO wJ zK wQ YS VA yI rdP qT Jn Z7 wM ja wN wxP QU wO ZE wT zcw jar Zi qK jaq jl jap qy jai qX zX je jK Zy jac jaa qP qY qC jal ZI jQ odds Qh YT Qz nmB Jo Asc Q8 Jp ZX Za zaI Jl vm Deed.Fit Deed.w wx Deed.mk ww Y3 wX wV zcu zcv VE wds YW YX biOk giOk gsOk fkOk AllX top jX jaf jav jag jad jae defs lawB W LN GG dP v3 rL kz.asL Q zks mix ev bt lfe zbM vI kQ bH cH ziO tr0 tr1 zkX tr2 zkY tr3 zkZ tr4 zk0 tr5 zk1 hE ".splitOn s!" {i.raw[0].getId} ").length<2 then`(command|theorem $i $(⟨Lean.mkNode `Lean.Parser.Command.declSig #[s.raw[0],s.raw[1][0]]⟩) $v:declVal) else`(command|noncomputable def $i $s $v:declVal)
section
open PySem
abbrev Ad:=List (Str × PyData)
abbrev Ao:=List (PyData × PyData)
abbrev Ak:=List (Addr × Obj)
abbrev Aa:=List PyData
abbrev Ab:=List Str
abbrev Ac:=List Nat
abbrev Ag:=List Expr
abbrev An:=List Value
abbrev Af:=Value → Shared → Prop
abbrev Aq:=Str → Option Value
abbrev Ae:=Addr → Prop
abbrev Ah:=W.Frag
abbrev Aj:=Value
abbrev Am:=Shared
abbrev Ap:=Addr
abbrev Ar:=Program
end
namespace L2
open PySem PySem.Spec PyProof.Rows
def defBody(s:Stmt):List Stmt:=match s with
 |.FunctionDef _ _ b _ _ _ _ _ _ _=>b
 |_=> []
def defScope(s:Stmt):Scope:=match s with
 |.FunctionDef _ _ _ _ _ _ sc _ _ _=>sc
 |_=>{ kind:=.function,names:= [],isGenerator:=false,isCoroutine:=false }
end L2
namespace Wx
open PySem L2
def top(i:Nat):Stmt:=PySem.Challenge.pw_waxcloth_k40_twins_apart.main.body.getD i (.Pass ⟨0,0,0,0⟩)
def jX(i j:Nat):Stmt:=match top i with
 |.ClassDef _ _ _ b _ _ _ _ _ _ _=>b.getD j (.Pass ⟨0,0,0,0⟩)
 |s=>s
end Wx
namespace Wh
open PySem L2 Wx
theorem saidL:PySem.W.OpenLaw.wellSaid PySem.Challenge.rw_waxcloth_k40_twins_apart=true:=by kernel_rfl
def dP(s:Stmt):Arguments:=match s with
|.FunctionDef _ a _ _ _ _ _ _ _ _=>a
|_=>⟨[],[],none,[],[],none,[]⟩
noncomputable abbrev dB:=L2.defBody
noncomputable abbrev dS:=L2.defScope
noncomputable abbrev dE(P:PySem.Params)(n:Str)(t:Nat)(v:Aj):DictEntry:=.mk (PySem.PyData.keyHash P n) (.str n t) v
noncomputable abbrev dR(P:PySem.Params)(n:Str)(t a:Nat):DictEntry:=.mk (PySem.PyData.keyHash P n) (.str n t) (.ref a)
def v3(c:Nat):List (Nat×Nat)->An
|[]=> []
| (l,a)::r=>.int l 0::.int c 0::.ref a::v3 c r
noncomputable abbrev o3(c:Nat)(l:List (Nat×Nat)):Obj:=.mk .none none (.fields (v3 c l).toArray) #[]
def rL:Ac->An
|[]=> []
|a::r=>.ref a::rL r
noncomputable abbrev rN(l:Ac):Array Aj:=(rL l).toArray
noncomputable abbrev oA:Obj:=PySem.Obj.mk (.type "tuple") none (.seq #[] 0) #[]
noncomputable abbrev oD (s0 s2:Str) (n1 n3 n4:Nat):Obj:=PySem.Obj.mk (.type "function") none (.func (PySem.FuncData.mk s0 s0 (dP (top n1)) (.stmts (dB (top n1))) (dS (top n1)) 3 [] .none .none .none (.str s2 n3) none (.ref n4) .none 0)) #[]
noncomputable abbrev oL (s0 s1 s4:Str) (n2 n3 n5 n6:Nat):Obj:=PySem.Obj.mk (.type "function") none (.func (PySem.FuncData.mk s0 s1 (dP (jX n2 n3)) (.stmts (dB (jX n2 n3))) (dS (jX n2 n3)) 3 [] .none .none .none (.str s4 n5) none (.ref n6) .none 0)) #[]
noncomputable abbrev oQ (s0:Str) (n1 n2 n3:Nat):Obj:=PySem.Obj.mk (.type "code") none (.fields #[(.str s0 n1),(.str s0 (n1+1)),(.str "/claim/cut.py" (n1+2)),(.int ((n2:Nat):Int) 0),(.int 0 0),(.int 0 0),(.int 0 0),(.int 0 0),(.ref n3),(.bool false),(.int 181 0),(.ref (n3+1)),.none,.none,.none,.none,(.int ((n1+3:Nat):Int) 0),(.int ((n2:Nat):Int) 0),(.str "/claim/cut.py" (n1+4))]) #[]
noncomputable abbrev oR (s2:Str) (n0 n1 n3:Nat):Obj:=PySem.Obj.mk (.type "frame") none .plain #[(some (.ref n0)),(some (.ref 3)),(some (.ref n1)),none,(some (.str s2 n3)),none,(some (.ref 0))]
noncomputable abbrev oS:Obj:=PySem.Obj.mk .none none (.fields #[]) #[]
noncomputable abbrev oT(s0:Str)(n1:Nat):Obj:=PySem.Obj.mk .none none (.func (PySem.FuncData.mk s0 s0 (dP (top n1)) (.stmts (dB (top n1))) (dS (top n1)) 0 [] .none .none .none .none none .none .none 0)) #[]
noncomputable abbrev oU:Obj:=PySem.Obj.mk (.type "builtin_function_or_method") none (.fields #[(.builtin "type.__prepare__"),(.type "type")]) #[]
noncomputable abbrev oV (P:PySem.Params) (s1:Str) (n0 n2 n3:Nat):Obj:=PySem.Obj.mk (.type "dict") none (.dict #[(dE P "__module__" n0 (.str "waxcloth.errors" 194)),(dE P "__qualname__" (n0+2) (.str s1 (n0+1))),(dE P "__firstlineno__" (n0+4) (.int ((n2:Nat):Int) (n0+3))),dR P "__static_attributes__" (n0+5) n3] 4) #[]
noncomputable abbrev oW (n0:Nat):Obj:=PySem.Obj.mk (.type "super") none (.fields (rN [n0,n0,n0])) #[]
noncomputable abbrev oX (n0:Nat):Obj:=PySem.Obj.mk (.type "builtin_function_or_method") none (.fields #[(.builtin "object.__init_subclass__"),(.ref n0)]) #[]
noncomputable abbrev oY(s0 s1:Str)(n2 n3:Nat):Obj:=PySem.Obj.mk .none none (.func (PySem.FuncData.mk s0 s1 (dP (jX n2 n3)) (.stmts (dB (jX n2 n3))) (dS (jX n2 n3)) 0 [] .none .none .none .none none .none .none 0)) #[]
open PySem L2
set_option hygiene false in
local macro_rules
  | `(tactic| o_head $_)=>`(tactic| exact hz)
def kz(hz:PySem.W.OpenRow.Holds (PySem.W.OpenLaw.row PySem.Challenge.rw_waxcloth_k40_twins_apart)):PySem.W.OpenRow.Holds (PySem.W.OpenLaw.row PySem.Challenge.rw_waxcloth_k40_twins_apart):=by
 k_head
def kz.asL:List Nat:=[2,3,15,17,18,20,21,22,29,30,31,32,35,42,43,44,47,54,55,56,59,66,67,68,71,78,79,80,83,90,91,92,95,102,103,104,107,114,115,116,119,126,127,128,131,138,139,140,143,150,151,152,155,162,163,164,167,174,175,176,179,186,187,188,191,194,195,196,198,199,201,202,203,206,207,208,211,212,213,216,217,218,220,221,223,224,225,228,229,230,232,233,235,236,237,240,241,249,251,252,254,255,256,257,258,259,260,263,265,266,268,269,270,272,273,275,276,277,280,281,282,284,285,287,288,289,291,292,294,295,296,298,299,301,302,303,306,307,308,311,312,313,315,316,318,319,320,321,323,324,326,327,328,330,331,333,334,335,337,338,340,341,342,344,345,347,348,349,351,352,354,355,356,358,359,361,362,363,365,366,368,369,370,372,373,375,376,384,386,387,389,390,391,394,395,396,398,399,401,402,403,405,406,408,409,410,413,414,415,418,419,420,422,423,425,426,427,429,430,432,433,434,436,437,439,440,441,443,444,446,447,448,451,452,453,456,457,458,461,462,463,466,467,468,470,471,473,474,475,477,478,480,481,482,484,485,487,488,489,491,492,494,495,496,498,499,501,502,503,505,506,508,509,510,512,513,515,516,517,519,520,522,523,524,526,527,529,530,531,532,533,534,535,538,540,541,543,544,545,548,549,550,553,554,555,557,558,560,561,562,564,565,567,568,569,571,572,574,575,576,578,579,581,582,583,585,586,588,589,590,592,593,595,596,597,600,601,602,605,606,607,610,611,612,615,616,617,619,620,622,623,624,626,627,629,630,631,634,635,636,639,640,641,644,645,646,649,650,651,653,654,656,657,658,661,662,663,666,667,668,671,672,673,675,676,678,679,680,682,683,685,686,687,690,691,692,695,696,697,699,700,702,703,704,706,707,709,710,711,713,714,716,717,718,720,721,723,724,725,728,729,730,732,733,735,736,737,739,740,742,743,744,746,747,749,750,751,754,755]
noncomputable abbrev RR:PySem.W.RowW:=PySem.W.OpenRow.toRowW (PySem.W.OpenLaw.row PySem.Challenge.rw_waxcloth_k40_twins_apart)
def Q:Ar:={ RR.prog with main:={ RR.prog.main with body:= [top 0,top 2,top 3,top 4,top 5,top 6,top 7,top 8,top 9,top 10,top 11,top 12,top 13,top 14,top 15,top 17,top 18,top 19,top 20,top 21,top 22,top 23,top 24,top 25,top 27,top 28,top 29,top 31,top 32,top 33,top 34,top 35,top 36,top 37,top 38,top 39,top 40,top 41,top 42,top 43,top 44,top 45,top 46,top 47,top 48,top 49,top 51,top 53,top 55,top 56,top 57,top 58,top 59,top 60,top 61,top 62,top 63,top 64,top 65,top 66,top 67,top 68,top 69,top 70,top 71,top 72,top 73,top 74,top 75,top 76,top 77,top 78,top 79,top 80,top 81,top 82,top 83,top 84,top 85,top 86,top 87,top 88,top 89,top 90] } }
def asE:∀ P,kz.asL=(kz.heap_1 P).map (·.1):=λ_=>by kernel_rfl
noncomputable abbrev hK(n:Nat)(o:Obj)(r:List (Nat×Obj)):List (Nat×Obj):=(n,o)::r
noncomputable abbrev jA(n0 n1:Nat)(s0:Str)(r:List (Nat×Obj)):List (Nat×Obj):=hK n0 (oT s0 n1) <| hK (n0+4) oS r
noncomputable abbrev jB (n0:Nat) (r:List (Nat×Obj)):List (Nat×Obj):=hK (n0+4) (oR "waxcloth.errors" (n0+3) n0 194) <| hK (n0+8) (oW (n0+7)) r
noncomputable abbrev jC(n0 n1:Nat)(s0 s1:Str)(r:List (Nat×Obj)):List (Nat×Obj):=hK n0 (oY s0 s1 53 n1) <| hK (n0+4) oS r
noncomputable abbrev jD(n0 n1 n2:Nat)(s0:Str)(r:List (Nat×Obj)):List (Nat×Obj):=hK (n0+1) oS <| hK (n0+2) (oQ s0 n1 n2 n0) r
noncomputable abbrev jE(P:PySem.Params)(n0 n1 n2:Nat)(s0:Str)(r:List (Nat×Obj)):List (Nat×Obj):=hK n0 oU <| hK (n0+1) (oV P s0 n1 n2 (n0+6)) r
noncomputable abbrev jF(n0:Nat)(r:List (Nat×Obj)):List (Nat×Obj):=jB n0 <| hK (n0+9) (oX (n0+7)) r
noncomputable abbrev jG(n0 n1:Nat)(s0 s1:Str)(r:List (Nat×Obj)):List (Nat×Obj):=jA n0 n1 s0 <| jA (n0+7) (n1+1) s1 r
noncomputable abbrev jH(n0 n1 n2:Nat)(s0:Str)(r:List (Nat×Obj)):List (Nat×Obj):=hK n0 oA <| jD n0 n1 n2 s0 r
noncomputable abbrev jI(P:PySem.Params)(n0 n1 n2:Nat)(s0:Str)(r:List (Nat×Obj)):List (Nat×Obj):=jE P n0 (n1+5) n2 s0 <| jH (n0+2) n1 n2 s0 r
def zks(P:PySem.Params):List (Nat×Obj) :=
 hK 0 (PySem.W.boot_o_0 P) <|
 hK 1 (PySem.W.boot_o_1 P) <|
 hK 4 (PySem.W.boot_o_4 P) <|
 hK 5 (PySem.W.boot_o_5 P) <|
 hK 6 (PySem.W.boot_o_6 P) <|
 hK 7 (PySem.W.boot_o_7 P) <|
 hK 8 (PySem.W.boot_o_8 P) <|
 hK 9 (PySem.W.boot_o_9 P) <|
 hK 10 (PySem.W.boot_o_10 P) <|
 hK 11 oA <|
 hK 12 (o3 0 [(1,20),(5,27),(7,40),(9,52),(11,64),(13,76),(15,88),(17,100),(19,112),(21,124),(23,136),(25,148),(27,160),(29,172),(31,184),(35,194),(38,201),(45,206),(51,211),(55,216),(57,223),(59,228),(61,235),(66,240),(70,247),(75,268),(77,275),(83,280),(87,287),(92,294),(96,301),(100,306),(108,311),(112,318),(119,326),(123,333),(127,340),(131,347),(136,354),(139,361),(144,368),(148,375),(155,382),(253,543),(255,548),(257,553),(259,560),(264,567),(268,574),(282,581),(286,588),(300,595),(307,600),(309,605),(316,610),(318,615),(320,622),(326,629),(328,634),(331,639),(333,644),(335,649),(338,656),(344,661),(350,666),(359,671),(368,678),(389,685),(414,690),(418,695),(434,702),(441,709),(445,716),(455,723),(459,728),(465,735),(469,742),(490,749),(497,754)]) <|
 hK 13 (oQ "<module>" 182 1 11) <|
 hK 14 (oR "__main__" 13 3 164) <|
 hK 16 oS <|
 hK 19 (oT "_wall" 0) <|
 jI P 23 198 5 "WaxError" <|
 hK 28 (oR "waxcloth.errors" 27 24 194) <|
 hK 33 (oW 31) <|
 hK 34 (oX 31) <|
 jI P 36 216 7 "NoName" <|
 jF 37 <|
 jI P 48 232 9 "Taken" <|
 jF 49 <|
 jI P 60 248 11 "BadSize" <|
 jF 61 <|
 jI P 72 264 13 "NoCloth" <|
 jF 73 <|
 jI P 84 280 15 "NoCell" <|
 jF 85 <|
 jI P 96 296 17 "BadWish" <|
 jF 97 <|
 jI P 108 312 19 "Twice" <|
 jF 109 <|
 jI P 120 328 21 "NoDye" <|
 jF 121 <|
 jI P 132 344 23 "Spent" <|
 jF 133 <|
 jI P 144 360 25 "StillFresh" <|
 jF 145 <|
 jI P 156 376 27 "TooDeep" <|
 jF 157 <|
 jI P 168 392 29 "NothingLeft" <|
 jF 169 <|
 jI P 180 408 31 "NoMark" <|
 jF 181 <|
 hK 192 oS <|
 jG 193 18 "bare" "with_wish" <|
 jA 205 20 "with_wax" <|
 jA 210 21 "dipped" <|
 jG 215 22 "boiled" "has_cell" <|
 jG 227 24 "is_picture" "deepened" <|
 hK 239 (oT "is_name" 29) <|
 hK 242 oA <|
 hK 243 oU <|
 hK 244 (PySem.Obj.mk (.type "dict") none (.dict #[(dE P "__module__" 507 (.str "waxcloth.stand" 496)),(dE P "__qualname__" 509 (.str "Stand" 508)),(dE P "__firstlineno__" 511 (.int 70 510)),dR P "__init__" 520 255,dR P "__static_attributes__" 523 256] 5) #[]) <|
 hK 245 oA <|
 hK 246 (o3 4 [(72,254)]) <|
 hK 247 (oQ "Stand" 502 70 245) <|
 hK 248 (oR "waxcloth.stand" 247 244 496) <|
 hK 250 oS <|
 hK 253 (oY "__init__" "Stand.__init__" 32 0) <|
 hK 261 (oW 258) <|
 hK 262 (oX 258) <|
 hK 264 oS <|
 jG 267 33 "new_stand" "behind_hang" <|
 jG 279 35 "behind_fold" "behind_twin" <|
 jG 293 37 "behind_wish" "behind_wax" <|
 jA 305 39 "behind_dip" <|
 jA 310 40 "behind_boil" <|
 hK 317 (oT "behind_brew" 41) <|
 hK 322 oS <|
 jG 325 43 "behind" "with_cloths" <|
 jG 339 45 "with_pot" "check_new" <|
 jG 353 47 "check_hangs" "check_names" <|
 jA 367 49 "check_dye" <|
 hK 374 (oT "bolt_of" 51) <|
 hK 377 oA <|
 hK 378 oU <|
 hK 379 (PySem.Obj.mk (.type "dict") none (.dict #[(dE P "__module__" 707 (.str "waxcloth.house" 698)),(dE P "__qualname__" 709 (.str "House" 708)),(dE P "__firstlineno__" 711 (.int 155 710)),dR P "__init__" 719 390,dR P "do" 725 395,dR P "undo" 733 402,dR P "redo" 741 409,dR P "book" 747 414,dR P "ahead" 753 419,dR P "mark" 761 426,dR P "go" 769 433,dR P "marks" 776 440,dR P "names" 783 447,dR P "ready" 789 452,dR P "stains" 795 457,dR P "wishes" 801 462,dR P "waxed" 807 467,dR P "bolt" 815 474,dR P "hindered" 823 481,dR P "plan" 831 488,dR P "boilings" 839 495,dR P "held" 847 502,dR P "would" 856 509,dR P "sources" 866 516,dR P "now" 873 523,dR P "cloth" 882 530,dR P "__static_attributes__" 888 531] 27) #[]) <|
 hK 380 oA <|
 hK 381 (o3 4 [(157,389),(164,394),(171,401),(178,408),(185,413),(188,418),(191,425),(196,432),(204,439),(207,446),(210,451),(213,456),(216,461),(219,466),(222,473),(225,480),(228,487),(231,494),(234,501),(237,508),(240,515),(243,522),(248,529)]) <|
 hK 382 (oQ "House" 702 155 380) <|
 hK 383 (oR "waxcloth.house" 382 379 698) <|
 hK 385 oS <|
 jC 388 0 "__init__" "House.__init__" <|
 jC 393 1 "do" "House.do" <|
 jC 400 2 "undo" "House.undo" <|
 jC 407 3 "redo" "House.redo" <|
 jC 412 4 "book" "House.book" <|
 jC 417 5 "ahead" "House.ahead" <|
 jC 424 6 "mark" "House.mark" <|
 jC 431 7 "go" "House.go" <|
 jC 438 8 "marks" "House.marks" <|
 jC 445 9 "names" "House.names" <|
 jC 450 10 "ready" "House.ready" <|
 jC 455 11 "stains" "House.stains" <|
 jC 460 12 "wishes" "House.wishes" <|
 jC 465 13 "waxed" "House.waxed" <|
 jC 472 14 "bolt" "House.bolt" <|
 jC 479 15 "hindered" "House.hindered" <|
 jC 486 16 "plan" "House.plan" <|
 jC 493 17 "boilings" "House.boilings" <|
 jC 500 18 "held" "House.held" <|
 jC 507 19 "would" "House.would" <|
 jC 514 20 "sources" "House.sources" <|
 jC 521 21 "now" "House.now" <|
 hK 528 (oY "cloth" "House.cloth" 53 22) <|
 hK 536 (oW 533) <|
 hK 537 (oX 533) <|
 hK 539 oS <|
 jA 542 55 "_law_whole" <|
 jA 547 56 "_law_wholes" <|
 jG 552 57 "_law_shades" "_law_box" <|
 jG 566 59 "_law_mixed" "_law_take" <|
 jG 580 61 "_law_place" "_law_picks" <|
 jA 594 63 "_law_picks_word" <|
 jA 599 64 "_law_wax" <|
 jA 604 65 "_law_dip" <|
 jA 609 66 "_law_boil" <|
 jG 614 67 "_law_full" "_law_deal" <|
 jA 628 69 "_law_letters" <|
 jA 633 70 "_law_named" <|
 jA 638 71 "_law_is_name" <|
 jA 643 72 "_law_kept" <|
 jG 648 73 "_law_blank" "_law_new_word" <|
 jA 660 75 "_law_group_word" <|
 jA 665 76 "_law_dip_word" <|
 jG 670 77 "_law_cell_word" "_law_word" <|
 jA 684 79 "_law_did" <|
 jA 689 80 "_law_pictures" <|
 jG 694 81 "_law_stands" "_law_pool" <|
 jG 708 83 "_law_any_name" "_law_group" <|
 jA 722 85 "_law_dye" <|
 jG 727 86 "_law_wanted" "_law_hang_size" <|
 jG 741 88 "_law_deed" "_law_worked" <|
 hK 753 (oT "law" 90) []
def mix:Nat->Nat->List (Nat×Obj)->List (Nat×Obj)->List Obj
 |0,_,_,_=> []
 |n+1,i,(a,x)::l,(b,y)::r=>match Nat.beq a i with
  |true=>x::mix n (i+1) l ((b,y)::r)
  |false=>y::mix n (i+1) ((a,x)::l) r
 |n+1,i,(_,x)::l,[]=>x::mix n (i+1) l []
 |n+1,i,[],(_,y)::r=>y::mix n (i+1) [] r
 |_+1,_,[],[]=> []
def ev:Bool->List Obj->List Obj
 |_,[]=> []
 |true,x::r=>x::ev false r
 |false,_::r=>ev true r
def bt:Nat->List Obj->PySem.W.BT
 |0,_=>.nil
 |_+1,[]=>.nil
 |n+1,x::r=>.node x (bt n (ev true r)) (bt n (ev false r))
def lfe:Life:=(.mk [] [] [] 0 [] [] false #[] [] 0 false false false 0 [2000,10,10] false 0 true [] [] 0 false)
def zbM(P:PySem.Params):List Obj:=mix 756 0 (kz.heap_1 P) (zks P)
def vI:List Obj->Nat->Obj->List Obj
 |[],_,_=> []
 |x::r,n,y=>match n with
  |0=>y::r
  |n+1=>x::vI r n y
def kQ:Env:={ scope:=RR.prog.main.scope,locals:=mainNs,globals:=mainNs,cells:= [],code:=.ref 13,frame:=some 14 }
def bH:List Stmt:=PySem.W.behindTheImports RR.prog
def cH:Code:=.body bH kQ
noncomputable abbrev BH:List Frame:= [PySem.W.topFrame ⟨0,0,0,0⟩]
def ziO (P:PySem.Params):List Obj:= [PySem.W.boot_o_0 P,PySem.W.boot_o_1 P,PySem.W.boot_o_2 P,PySem.W.boot_o_3 P,PySem.W.boot_o_4 P,PySem.W.boot_o_5 P,PySem.W.boot_o_6 P,PySem.W.boot_o_7 P,PySem.W.boot_o_8 P,PySem.W.boot_o_9 P,PySem.W.boot_o_10 P,oA,oS,(oQ "<module>" 182 1 11),(oR "__main__" 13 3 164)]
def preH:∀ w:World,(λos=>PySem.W.topGo treeTable RR.prog w 11 (some (.ref 6)) 12 ⟨PySem.W.boot_heap w.params,Array.mk [],PySem.W.boot_drawn,PySem.W.boot_toks,os⟩ (PySem.W.topStub RR.prog))=λos=>some (⟨⟨(ziO w.params).toArray,lfe⟩,Array.mk [],PySem.W.boot_drawn,187,os⟩,⟨denote treeTable cH,cH,⟨0,0,0,0⟩,BH⟩):=λw=>by kernel_rfl
def tr0(P:PySem.Params):PySem.W.BT:=bt 14 (ziO P)
def zh9:∀ w:World,(λos=>PySem.W.segRun treeTable RR.prog w 11 (some (.ref 6)) 1 1 ⟨⟨(ziO w.params).toArray,lfe⟩,Array.mk [],PySem.W.boot_drawn,187,os⟩ (PySem.W.blockOf bH kQ cH ⟨0,0,0,0⟩ BH))=λos=>some (.next,(PySem.W.SharedT.mk (tr0 w.params) 15 lfe (Array.mk []) PySem.W.boot_drawn 187 os).abs,cH,⟨0,0,0,0⟩):=λw=>by kernel_rfl
def tr1 (P:PySem.Params):PySem.W.BT:=bt 14 (vI (vI (vI ((zbM P).take 167) 3 (PySem.Obj.mk (.type "dict") none (.dict #[(dE P "__name__" 165 (.str "waxcloth.errors" 194)),(dE P "__doc__" 166 .none),(dE P "__package__" 167 .none),(dE P "__loader__" 168 (.builtin "__main__.__loader__#opaque")),(dE P "__spec__" 169 .none),dR P "__annotations__" 170 6,dR P "__builtins__" 171 4,(dE P "__file__" 173 (.str "/claim/cut.py" 172)),(dE P "__cached__" 174 .none),dR P "_wall" 193 21,dR P "WaxError" 213 31,dR P "NoName" 229 44,dR P "Taken" 245 56,dR P "BadSize" 261 68,dR P "NoCloth" 277 80,dR P "NoCell" 293 92,dR P "BadWish" 309 104,dR P "Twice" 325 116,dR P "NoDye" 341 128,dR P "Spent" 357 140,dR P "StillFresh" 373 152,dR P "TooDeep" 389 164] 22) #[])) 12 (o3 0 [(1,20),(5,27),(7,40),(9,52),(11,64),(13,76),(15,88),(17,100),(19,112),(21,124),(23,136),(25,148),(27,160)])) 31 (PySem.Obj.mk (.type "type") none (.cls (PySem.ClassData.mk "WaxError" [(.type "ValueError")] [(.ref 31),(.type "ValueError"),(.type "Exception"),(.type "BaseException"),(.type "object")] 30 "WaxError" true [] (rL [44,56,68,80,92,104,116,128,140,152,164]) false none false)) #[(some (.ref 22)),none,(some (.str "WaxError" 196)),(some (.str "WaxError" 204)),(some (.builtin "ValueError.__new__")),(some (.bool true))]))
def zkX:List Stmt:=(bH.drop 0).take 14
def zkK:∀ w:World,(λos=>PySem.W.segRunT treeTable RR.prog w 11 (some (.ref 6)) 1 2568 (PySem.W.SharedT.mk (tr0 w.params) 15 lfe (Array.mk []) PySem.W.boot_drawn 187 os) (PySem.W.piecesOf zkX kQ cH ⟨0,0,0,0⟩ BH))=λos=>some (.next,(PySem.W.SharedT.mk (tr1 w.params) 167 lfe (Array.mk []) PySem.W.boot_drawn 390 os),cH,⟨27,0,28,8⟩):=λw=>by kernel_rfl
def tr2 (P:PySem.Params):PySem.W.BT:=bt 14 (vI (vI ((zbM P).take 321) 3 (PySem.Obj.mk (.type "dict") none (.dict #[(dE P "__name__" 165 (.str "waxcloth.stand" 496)),(dE P "__doc__" 166 .none),(dE P "__package__" 167 .none),(dE P "__loader__" 168 (.builtin "__main__.__loader__#opaque")),(dE P "__spec__" 169 .none),dR P "__annotations__" 170 6,dR P "__builtins__" 171 4,(dE P "__file__" 173 (.str "/claim/cut.py" 172)),(dE P "__cached__" 174 .none),dR P "_wall" 193 21,dR P "WaxError" 213 31,dR P "NoName" 229 44,dR P "Taken" 245 56,dR P "BadSize" 261 68,dR P "NoCloth" 277 80,dR P "NoCell" 293 92,dR P "BadWish" 309 104,dR P "Twice" 325 116,dR P "NoDye" 341 128,dR P "Spent" 357 140,dR P "StillFresh" 373 152,dR P "TooDeep" 389 164,dR P "NothingLeft" 405 176,dR P "NoMark" 421 188,(dE P "DEEPEST" 425 (.int 9 424)),dR P "bare" 431 195,dR P "with_wish" 443 202,dR P "with_wax" 449 207,dR P "dipped" 455 212,dR P "boiled" 461 217,dR P "has_cell" 469 224,dR P "is_picture" 475 229,dR P "deepened" 483 236,(dE P "LETTERS" 487 (.str "abcdefghijklmnopqrstuvwxyz" 486)),(dE P "MOST_LETTERS" 489 (.int 8 488)),dR P "is_name" 495 241,(dE P "MOST_CELLS" 499 (.int 40 498)),dR P "Stand" 530 258,dR P "new_stand" 537 269,dR P "behind_hang" 547 276,dR P "behind_fold" 553 281,dR P "behind_twin" 563 288,dR P "behind_wish" 574 295,dR P "behind_wax" 584 302,dR P "behind_dip" 590 307,dR P "behind_boil" 596 312,dR P "behind_brew" 605 319,dR P "DEEDS" 622 320] 48) #[])) 12 (o3 0 [(1,20),(5,27),(7,40),(9,52),(11,64),(13,76),(15,88),(17,100),(19,112),(21,124),(23,136),(25,148),(27,160),(29,172),(31,184),(35,194),(38,201),(45,206),(51,211),(55,216),(57,223),(59,228),(61,235),(66,240),(70,247),(75,268),(77,275),(83,280),(87,287),(92,294),(96,301),(100,306),(108,311),(112,318)]))
def zkY:List Stmt:=(bH.drop 14).take 29
def zkL:∀ w:World,(λos=>PySem.W.segRunT treeTable RR.prog w 11 (some (.ref 6)) 1 1369 (PySem.W.SharedT.mk (tr1 w.params) 167 lfe (Array.mk []) PySem.W.boot_drawn 390 os) (PySem.W.piecesOf zkY kQ cH ⟨27,0,28,8⟩ BH))=λos=>some (.next,(PySem.W.SharedT.mk (tr2 w.params) 321 lfe (Array.mk []) PySem.W.boot_drawn 623 os),cH,⟨118,0,118,5⟩):=by
 refine PySem.W.byRow2 "special-get-raises" ?_ ?_<;>exact λw=>by kernel_rfl
def tr3 (P:PySem.Params):PySem.W.BT:=bt 14 (vI (vI ((zbM P).take 562) 3 (PySem.Obj.mk (.type "dict") none (.dict #[(dE P "__name__" 165 (.str "law_waxcloth_k40_twins_apart" 896)),(dE P "__doc__" 166 .none),(dE P "__package__" 167 .none),(dE P "__loader__" 168 (.builtin "__main__.__loader__#opaque")),(dE P "__spec__" 169 .none),dR P "__annotations__" 170 6,dR P "__builtins__" 171 4,(dE P "__file__" 173 (.str "/claim/cut.py" 172)),(dE P "__cached__" 174 .none),dR P "_wall" 193 21,dR P "WaxError" 213 31,dR P "NoName" 229 44,dR P "Taken" 245 56,dR P "BadSize" 261 68,dR P "NoCloth" 277 80,dR P "NoCell" 293 92,dR P "BadWish" 309 104,dR P "Twice" 325 116,dR P "NoDye" 341 128,dR P "Spent" 357 140,dR P "StillFresh" 373 152,dR P "TooDeep" 389 164,dR P "NothingLeft" 405 176,dR P "NoMark" 421 188,(dE P "DEEPEST" 425 (.int 9 424)),dR P "bare" 431 195,dR P "with_wish" 443 202,dR P "with_wax" 449 207,dR P "dipped" 455 212,dR P "boiled" 461 217,dR P "has_cell" 469 224,dR P "is_picture" 475 229,dR P "deepened" 483 236,(dE P "LETTERS" 487 (.str "abcdefghijklmnopqrstuvwxyz" 486)),(dE P "MOST_LETTERS" 489 (.int 8 488)),dR P "is_name" 495 241,(dE P "MOST_CELLS" 499 (.int 40 498)),dR P "Stand" 530 258,dR P "new_stand" 537 269,dR P "behind_hang" 547 276,dR P "behind_fold" 553 281,dR P "behind_twin" 563 288,dR P "behind_wish" 574 295,dR P "behind_wax" 584 302,dR P "behind_dip" 590 307,dR P "behind_boil" 596 312,dR P "behind_brew" 605 319,dR P "DEEDS" 622 320,dR P "behind" 633 327,dR P "with_cloths" 642 334,dR P "with_pot" 652 341,dR P "check_new" 660 348,dR P "check_hangs" 668 355,dR P "check_names" 677 362,dR P "check_dye" 685 369,dR P "bolt_of" 697 376,dR P "House" 895 533,dR P "_law_whole" 904 544,dR P "_law_wholes" 910 549,dR P "_law_shades" 916 554,dR P "_law_box" 925 561] 61) #[])) 12 (o3 0 [(1,20),(5,27),(7,40),(9,52),(11,64),(13,76),(15,88),(17,100),(19,112),(21,124),(23,136),(25,148),(27,160),(29,172),(31,184),(35,194),(38,201),(45,206),(51,211),(55,216),(57,223),(59,228),(61,235),(66,240),(70,247),(75,268),(77,275),(83,280),(87,287),(92,294),(96,301),(100,306),(108,311),(112,318),(119,326),(123,333),(127,340),(131,347),(136,354),(139,361),(144,368),(148,375),(155,382),(253,543),(255,548),(257,553),(259,560)]))
def zkZ:List Stmt:=(bH.drop 43).take 16
def zkM:∀ w:World,(λos=>PySem.W.segRunT treeTable RR.prog w 11 (some (.ref 6)) 1 1292 (PySem.W.SharedT.mk (tr2 w.params) 321 lfe (Array.mk []) PySem.W.boot_drawn 623 os) (PySem.W.piecesOf zkZ kQ cH ⟨118,0,118,5⟩ BH))=λos=>some (.next,(PySem.W.SharedT.mk (tr3 w.params) 562 lfe (Array.mk []) PySem.W.boot_drawn 926 os),cH,⟨259,0,263,55⟩):=λw=>by kernel_rfl
def tr4 (P:PySem.Params):PySem.W.BT:=bt 14 (vI (vI ((zbM P).take 673) 3 (PySem.Obj.mk (.type "dict") none (.dict #[(dE P "__name__" 165 (.str "law_waxcloth_k40_twins_apart" 896)),(dE P "__doc__" 166 .none),(dE P "__package__" 167 .none),(dE P "__loader__" 168 (.builtin "__main__.__loader__#opaque")),(dE P "__spec__" 169 .none),dR P "__annotations__" 170 6,dR P "__builtins__" 171 4,(dE P "__file__" 173 (.str "/claim/cut.py" 172)),(dE P "__cached__" 174 .none),dR P "_wall" 193 21,dR P "WaxError" 213 31,dR P "NoName" 229 44,dR P "Taken" 245 56,dR P "BadSize" 261 68,dR P "NoCloth" 277 80,dR P "NoCell" 293 92,dR P "BadWish" 309 104,dR P "Twice" 325 116,dR P "NoDye" 341 128,dR P "Spent" 357 140,dR P "StillFresh" 373 152,dR P "TooDeep" 389 164,dR P "NothingLeft" 405 176,dR P "NoMark" 421 188,(dE P "DEEPEST" 425 (.int 9 424)),dR P "bare" 431 195,dR P "with_wish" 443 202,dR P "with_wax" 449 207,dR P "dipped" 455 212,dR P "boiled" 461 217,dR P "has_cell" 469 224,dR P "is_picture" 475 229,dR P "deepened" 483 236,(dE P "LETTERS" 487 (.str "abcdefghijklmnopqrstuvwxyz" 486)),(dE P "MOST_LETTERS" 489 (.int 8 488)),dR P "is_name" 495 241,(dE P "MOST_CELLS" 499 (.int 40 498)),dR P "Stand" 530 258,dR P "new_stand" 537 269,dR P "behind_hang" 547 276,dR P "behind_fold" 553 281,dR P "behind_twin" 563 288,dR P "behind_wish" 574 295,dR P "behind_wax" 584 302,dR P "behind_dip" 590 307,dR P "behind_boil" 596 312,dR P "behind_brew" 605 319,dR P "DEEDS" 622 320,dR P "behind" 633 327,dR P "with_cloths" 642 334,dR P "with_pot" 652 341,dR P "check_new" 660 348,dR P "check_hangs" 668 355,dR P "check_names" 677 362,dR P "check_dye" 685 369,dR P "bolt_of" 697 376,dR P "House" 895 533,dR P "_law_whole" 904 544,dR P "_law_wholes" 910 549,dR P "_law_shades" 916 554,dR P "_law_box" 925 561,dR P "_law_mixed" 935 568,dR P "_law_take" 945 575,dR P "_law_place" 953 582,dR P "_law_picks" 966 589,dR P "_law_picks_word" 975 596,dR P "_law_wax" 981 601,dR P "_law_dip" 987 606,dR P "_law_boil" 993 611,dR P "_law_full" 999 616,dR P "_law_deal" 1010 623,dR P "_law_letters" 1016 630,dR P "_law_named" 1022 635,dR P "_law_is_name" 1028 640,dR P "_law_kept" 1034 645,dR P "_law_blank" 1040 650,dR P "_law_new_word" 1048 657,dR P "_law_group_word" 1054 662,dR P "_law_dip_word" 1060 667,dR P "_law_cell_word" 1066 672] 80) #[])) 12 (o3 0 [(1,20),(5,27),(7,40),(9,52),(11,64),(13,76),(15,88),(17,100),(19,112),(21,124),(23,136),(25,148),(27,160),(29,172),(31,184),(35,194),(38,201),(45,206),(51,211),(55,216),(57,223),(59,228),(61,235),(66,240),(70,247),(75,268),(77,275),(83,280),(87,287),(92,294),(96,301),(100,306),(108,311),(112,318),(119,326),(123,333),(127,340),(131,347),(136,354),(139,361),(144,368),(148,375),(155,382),(253,543),(255,548),(257,553),(259,560),(264,567),(268,574),(282,581),(286,588),(300,595),(307,600),(309,605),(316,610),(318,615),(320,622),(326,629),(328,634),(331,639),(333,644),(335,649),(338,656),(344,661),(350,666),(359,671)]))
def zk0:List Stmt:=(bH.drop 59).take 19
def zkN:∀ w:World,(λos=>PySem.W.segRunT treeTable RR.prog w 11 (some (.ref 6)) 1 538 (PySem.W.SharedT.mk (tr3 w.params) 562 lfe (Array.mk []) PySem.W.boot_drawn 926 os) (PySem.W.piecesOf zk0 kQ cH ⟨259,0,263,55⟩ BH))=λos=>some (.next,(PySem.W.SharedT.mk (tr4 w.params) 673 lfe (Array.mk []) PySem.W.boot_drawn 1067 os),cH,⟨359,0,367,13⟩):=λw=>by kernel_rfl
def tr5(P:PySem.Params):PySem.W.BT:=bt 14 (zbM P)
def zk1:List Stmt:=(bH.drop 78).take 13
def zkO:∀ w:World,(λos=>PySem.W.segRunT treeTable RR.prog w 11 (some (.ref 6)) 1 395 (PySem.W.SharedT.mk (tr4 w.params) 673 lfe (Array.mk []) PySem.W.boot_drawn 1067 os) (PySem.W.piecesOf zk1 kQ cH ⟨359,0,367,13⟩ BH))=λos=>some (.next,(PySem.W.SharedT.mk (tr5 w.params) 756 lfe (Array.mk []) PySem.W.boot_drawn 1183 os),cH,⟨497,0,517,160⟩):=λw=>by kernel_rfl
def hE(P:PySem.Params):Heap:=⟨(zbM P).toArray,lfe⟩
def finH:∀ w:World,(λos=>PySem.W.topRun treeTable RR.prog w 11 (some (.ref 6)) 2 (PySem.W.SharedT.mk (tr5 w.params) 756 lfe (Array.mk []) PySem.W.boot_drawn 1183 os).abs ⟨PySem.W.doneF .next,cH,⟨497,0,517,160⟩,BH⟩)=λos=>some ⟨hE w.params,Array.mk [],PySem.W.boot_drawn,1183,os⟩:=λw=>by kernel_rfl
def zj9:bH=zkX++(zkY++(zkZ++(zk0++(zk1++([]))))):=by kernel_rfl
def runH(w:World)(os:OsState):PySem.W.topRun treeTable RR.prog w 11 (some (.ref 6)) (12+(1+(2568+(1369+(1292+(538+(395+2))))))) ⟨PySem.W.boot_heap w.params,Array.mk [],PySem.W.boot_drawn,PySem.W.boot_toks,os⟩ (PySem.W.topStub RR.prog)=some ⟨hE w.params,Array.mk [],PySem.W.boot_drawn,1183,os⟩:=by
 refine PySem.W.go_top (congrFun (preH w) os) (PySem.W.piece_block (congrFun (zh9 w) os) ?_)
 rw[zj9]
 exact PySem.W.piece_app (PySem.W.segRun_of (congrFun (zkK w) os)) (PySem.W.piece_app (PySem.W.segRun_of (congrFun (zkL w) os)) (PySem.W.piece_app (PySem.W.segRun_of (congrFun (zkM w) os)) (PySem.W.piece_app (PySem.W.segRun_of (congrFun (zkN w) os)) (PySem.W.piece_app (PySem.W.segRun_of (congrFun (zkO w) os)) (PySem.W.piece_nil (congrFun (finH w) os))))))
noncomputable abbrev XtH:Am->Bool:=λs=>PySem.W.xlAt Q [] s&&PySem.W.recOk (PySem.W.RowW.records RR) s
noncomputable abbrev sE(w:World)(os:OsState):Am:=⟨hE w.params,Array.mk [],PySem.W.boot_drawn,1183,os⟩
def lk1(w:World)(os:OsState):(PySem.W.staticsOk (importedModules RR.prog.main.body) (PySem.W.boot_heap w.params) (hE w.params)&&PySem.W.namesBound RR.prog (hE w.params)&&PySem.W.gensDone (sE w os)&&PySem.W.laidKept (PySem.W.boot_heap w.params) (hE w.params))=true:=by kernel_rfl
def lk2 (w:World) (os:OsState):PySem.W.openSeen Q ["DEEDS"] (importedModules RR.prog.main.body) XtH true (sE w os)=PySem.W.openGood Q ["DEEDS"]:=by kernel_rfl
def lk3(w:World)(os:OsState):(PySem.W.Hook.obs (PySem.W.kHook kz.heap_1 kz.asL asE)) (sE w os)=PySem.W.Hook.val (PySem.W.kHook kz.heap_1 kz.asL asE) w:=by kernel_rfl
def zky:PySem.W.opening RR.prog=PySem.W.plainProg RR.prog.main.scope.names:=by kernel_rfl
def zis:∀ s,fenceModules? RR.prog s=some s:=λs=>by kernel_rfl
def zkV:∀ w:World,((PySem.W.boot_heap w.params).isNs mainGlobals&&(Array.mk ([]:List GenState)).size==0,(PySem.W.boot_heap w.params).objs.size,(PySem.W.boot_heap w.params).nsMap mainGlobals "__annotations__")=(true,11,(some (.ref 6))):=λw=>by kernel_rfl
theorem left:PySem.W.LeftO RR.prog Q ["DEEDS"] XtH (PySem.W.Hook.obs (PySem.W.kHook kz.heap_1 kz.asL asE)) (PySem.W.Hook.val (PySem.W.kHook kz.heap_1 kz.asL asE)) 12440 :=
 PySem.W.LeftO.of_pieces (PySem.W.boot_open zky (by decide +kernel) zis) zkV runH (by decide +kernel) λw=>funext λos=>Prod.ext (lk1 w os) (Prod.ext (lk2 w os) (lk3 w os))
end Wh
section
local macro_rules
|`(tactic|let $x:ident:=$e)=>`(tactic|have $x:ident:=$e)
|`(tactic|let $x:ident : $t := $e)=>`(tactic|have $x:ident : $t := $e)
|`(tactic|let $p:term:=$e)=>do
 let rec go:Nat->Lean.Term->Lean.MacroM (Lean.TSyntax `rcasesPat)
 |n+1,p=>match p with
  |`(⟨$ps,*⟩)=>do
   let q←ps.getElems.mapM λp=>do `(Lean.Parser.Tactic.rcasesPatLo|$(← go n p):rcasesPat)
   `(rcasesPat|⟨$q,*⟩)
  |`(_)=>`(rcasesPat|_)
  |`($i:ident)=>`(rcasesPat|$i:ident)
  |_=>Lean.Macro.throwUnsupported
 |0,_=>Lean.Macro.throwUnsupported
 `(tactic|obtain $(← go 9 p):rcasesPat:=$e)
local macro_rules|`(tactic|erw[$e:term])=>`(tactic|refine $e)
local macro_rules|`(tactic|lia)=>`(tactic|omega)
local macro_rules
  | `(tactic| rwa [$xs,*]) => do
    let ts ← xs.getElems.mapM fun x => match x with
      | `(Lean.Parser.Tactic.rwRule| $a:term = $b:ident) => `(tactic| generalize $a:term = $b at *)
      | _ => Lean.Macro.throwUnsupported
    `(tactic| ($[$ts];*))
  | `(⇑$x) => `((PySem.Shared.heap $x).objs.size)
  | `(@& $x) => `(some (.d $x))
namespace L2
open PySem PySem.Spec PyProof.Rows
noncomputable abbrev Key:=Sum Int Str
def Vk:Key->Aj->Bool
 |.inl k,v=>Value.isInt k v
 |.inr x,v=>Value.isStrOf x v
def keyH(w:World):Key->Int
 |.inl k=>hashInt k
 |.inr x=>hashStr w x
def qw:∀{k:Key}{v:Aj},Vk k v=true->(∃ i t,k=Sum.inl i/\v=Value.int i t)∨(∃ x t,k=Sum.inr x/\v=Value.str x t)
 |.inl i,v,h=>by
  let⟨t,e⟩:=Value.isInt_shape h
  erw[.inl ⟨i,t,rfl,e⟩]
 |.inr x,v,h=>by
  let⟨t,e⟩:=Value.isStrOf_shape h
  erw[.inr ⟨x,t,rfl,e⟩]
def zbE(i:Int)(t:Tok):Vk (.inl i) (.int i t)=true:=by simp[Vk,Value.isInt]
def zbF(x:Str)(t:Tok):Vk (.inr x) (.str x t)=true:=by simp[Vk,Value.isStrOf]
def ziE(a b:Int):decide ((Sum.inl a:Key)=Sum.inl b)=(a==b):=by
 by_cases e:a=b
 ·subst e;simp
 ·let h:¬ (Sum.inl a:Key)=Sum.inl b:=λq=>e (Sum.inl.inj q)
  rw[Xa h]
  erw[(x9.mpr e).symm]
def ziH(a b:Str):decide ((Sum.inr a:Key)=Sum.inr b)=decide (a=b):=by
 by_cases e:a=b
 ·subst e;simp
 ·let h:¬ (Sum.inr a:Key)=Sum.inr b:=λq=>e (Sum.inr.inj q)
  rw[Xa h,Xa e]
def ziF(a:Int)(b:Str):decide ((Sum.inl a:Key)=Sum.inr b)=false:=Xa (λq=>nomatch q)
def ziG(a:Str)(b:Int):decide ((Sum.inr a:Key)=Sum.inl b)=false:=Xa (λq=>nomatch q)
def qt(prog:Ar)(w:World):PySem.KeyKind prog w Key where
 is:=Vk
 hash:=keyH w
 inj:=λv a b ha hb=>by
  rcases qw ha with ⟨i,t,rfl,rfl⟩ | ⟨x,t,rfl,rfl⟩
  ·rcases qw hb with ⟨j,u,rfl,e⟩ | ⟨y,u,rfl,e⟩
   ·injection e with e1 _;rw[e1]
   ·erw[nomatch e]
  ·rcases qw hb with ⟨j,u,rfl,e⟩ | ⟨y,u,rfl,e⟩
   ·erw[nomatch e]
   ·injection e with e1 _;rw[e1]
 byValue:=λk v h=>by
  rcases qw h with ⟨i,t,rfl,rfl⟩ | ⟨x,t,rfl,rfl⟩<;>rfl
 pyHash:=λhv h=>by
  rcases qw hv with ⟨i,t,rfl,rfl⟩ | ⟨x,t,rfl,rfl⟩
  ·erw[wpAny_pyHash_int h]
  ·erw[wpAny_pyHash_str h]
 eqBool:=λhu hv h=>by
  rcases qw hu with ⟨i,t,rfl,rfl⟩ | ⟨x,t,rfl,rfl⟩
  ·rcases qw hv with ⟨j,u,rfl,rfl⟩ | ⟨y,u,rfl,rfl⟩
   ·rw[ziE]at h;exact wpAny_eqBool_int h
   ·rw[ziF]at h;exact SeqAt.EqAt.int_str i t y u _ _ _ _ h
  ·rcases qw hv with ⟨j,u,rfl,rfl⟩ | ⟨y,u,rfl,rfl⟩
   ·rw[ziG]at h;exact SeqAt.EqAt.str_int x t j u _ _ _ _ h
   ·rw[ziH]at h;exact wpAny_eqBool_str h
 «strs»:=λk x t v h=>by
  rcases qw h with ⟨i,u,rfl,e⟩ | ⟨y,u,rfl,e⟩
  ·erw[nomatch e]
  ·injection e with e1 _
   subst e1
   cases v<;>rfl
def Yj(prog:Ar)(w:World)(i:Int)(t:Tok):(qt prog w).is (.inl i) (.int i t)=true:=zbE i t
def Yk(prog:Ar)(w:World)(x:Str)(t:Tok):(qt prog w).is (.inr x) (.str x t)=true:=zbF x t
inductive V where
 |non | bl (b:Bool) | int (i:Int) | str (x:Str) | ref (a:Ap) | ty (n:String)
 deriving DecidableEq
def RelV:V->Aj->Prop
 |.non,u=>u=Value.none
 |.bl b,u=>u=Value.bool b
 |.int i,u=>∃ t,u=Value.int i t
 |.str x,u=>∃ t,u=Value.str x t
 |.ref a,u=>u=Value.ref a
 |.ty n,u=>u=Value.type n
abbrev Vals:List V->An->Prop:=Paired RelV
def Vals.length{xs:List V}{us:An}(r:Vals xs us):xs.length=us.length:=Paired.length r
def Vals.get:∀{xs:List V}{us:An}{i:Nat}{x:V},Vals xs us->xs[i]?=some x->∃ u,us[i]?=some u/\RelV x u
 |_,_,_,_,.nil,e=>by simp at e
 |_,_,0,_,.cons r _,e=>by simp at e;subst e;exact⟨_,rfl,r⟩
 |_,_,i+1,x,.cons _ t,e=>by
  let⟨u,h1,h2⟩:=Vals.get t (by simpa using e)
  exact⟨u,by simpa using h1,h2⟩
def Vals.set(r:RelV x u):∀{xs:List V}{us:An}(i:Nat),Vals xs us->Vals (xs.set i x) (us.set i u)
 |_,_,_,.nil=>.nil
 |_,_,0,.cons _ t=>.cons r t
 |_,_,i+1,.cons q t=>.cons q (Vals.set r i t)
def Vals.append:∀{xs ys:List V}{us ws:An},Vals xs us->Vals ys ws->Vals (xs++ys) (us++ws)
 |_,_,_,_,.nil,s=>s
 |_,_,_,_,.cons r t,s=>.cons r (Vals.append t s)
def Vals.take:∀{xs:List V}{us:An}(n:Nat),Vals xs us->Vals (xs.take n) (us.take n)
 |_,_,0,_=>.nil
 |_,_,_+1,.nil=>.nil
 |_,_,n+1,.cons r t=>.cons r (Vals.take n t)
def Vals.drop:∀{xs:List V}{us:An}(n:Nat),Vals xs us->Vals (xs.drop n) (us.drop n)
 |_,_,0,r=>r
 |_,_,_+1,.nil=>.nil
 |_,_,n+1,.cons _ t=>Vals.drop n t
def RelO:Option V->Option Aj->Prop
 |some v,some u=>RelV v u
 |none,none=>True
 |_,_=>False
def KV{κ:Type}:List (κ×V)->List (κ×Value)->Prop:=Paired λ(p:κ×V)(q:κ×Value)=>p.1=q.1/\RelV p.2 q.2
def kV:Key->V
 |.inl i=>.int i
 |.inr x=>.str x
inductive HO where
 /-- a list -/
 |lst (xs:List V)
 /-- a tuple (never changes) -/
 |tup (xs:List V)
 /-- a dict whose keys are ints and texts;one whose keys are tuples of ints and texts (the empty one is qQ) -/
 |dK (kvs:List (Key×V))
 /-- a set of ints: its members,its size -/
 |set (S:Int->Bool) (n:Nat)
 /-- an instance of the class at C,its dict at dx,its attributes -/
 |ins (C dx:Ap) (fs:List (Str×V))
 /-- the dict of the instance at x -/
 |own (x:Ap)
 /-- the dict of an exception -/
 |xd (fs:List (Str×V))
 /-- a bound method,f of x -/
 |met (f x:Ap)
 /-- a range object lo,lo+1,.. below hi -/
 |rng (lo hi:Int)
 /-- a thing that is known to the object (the script;a dict while a loop walks it): read,never written while it is so -/
 |frz (o:Obj) (u:HO)
 /-- a code object's table -/
 |tbl (ps:Array Aj)
 /-- any other thing,by what is true of its one object (a def of one's own: SetO a S n:=HO.ext λh=>..) -/
 |ext (φ:Heap->Prop)
noncomputable abbrev Hp:=Ap->Option HO
def upd(H:Hp)(a:Ap)(o:HO):Hp:=λb=>if b=a then some o else H b
def zH:upd H a o a=some o:=by unfold upd;rw[if_pos rfl]
def zG(h:b≠a):upd H a o b=H b:=by unfold upd;rw[if_neg h]
def zkq{H:Hp}(h:H a=some o)(h':H b=some u)(d:o≠u):a≠b:=by
 intro e;subst e;rw[h]at h';exact d (Option.some.inj h')
def qz{H:Hp}(h:H a=some o)(h':H b=none):a≠b:=by
 intro e;subst e;rw[h]at h';cases h'
section
variable (P:Ar)(w:World)
def ObjOk(H:Hp)(h:Heap)(a:Ap):HO->Prop
 |.lst xs=>xs.length<=sizeLine/\∃ (its:An) (n:Nat),Vals xs its/\h.get? a=some { cls:=.type "list",data:=.seq its.toArray n }
 |.tup xs=>xs.length<=sizeLine/\∃ its:An,Vals xs its/\IsTup h a its.toArray
 |.dK kvs=>kvs.length<=sizeLine/\(a==sysModules)=false/\∃ vs,KV kvs vs/\h.DictOf (qt P w) a vs
 |.set S n=>h.SetOf (intKind P w) a S n
 |.ins C dx fs=>H dx=some (.own a)/\fs.length<=1000/\dx≠a/\h.get? a=some (W.instObj C dx) /\
   ∃ mA,h.Ns1 dx mA/\(∀ f,RelO (fs.lookup f) (mA f))/\PySem.Within mA (fs.map (·.1))
 |.own _=>∃ o,h.get? a=some o
 |.xd fs=>∃ mA,h.Ns1 a mA/\∀ f,RelO (fs.lookup f) (mA f)
 |.rng lo hi=>∃ t u v,h.get? a=some { cls:=.type "range",data:=.fields #[.int lo t,.int hi u,.int 1 v] }
 |.frz o u=>h.get? a=some o/\ObjOk H h a u
 |.tbl ps=>h.get? a=some { cls:=.none,data:=.fields ps }
 |.met f x=>h.get? a=some (W.methodObj (.ref f) (.ref x))
 |.ext φ=>φ h/\(∃ o,h.get? a=some o)/\∀ h1 h2:Heap,φ h1->(∀ o,h1.get? a=some o->h2.get? a=some o)->φ h2
def HOk(H:Hp)(h:Heap):Prop:=∀ a o,H a=some o->ObjOk P w H h a o
end
section
variable {P:Ar}{w:World}{H H':Hp}{h h':Heap}{a:Ap}{o:HO}
def ObjOk.lt(x:ObjOk P w H h a o):a<h.objs.size:=by
 cases o with
 |lst xs=>let⟨_,_,_,_,e⟩:=x;exact x5 e
 |tup xs=>let⟨_,_,_,p⟩:=x;exact p.lt
 |dK kvs=>let⟨_,_,_,_,o,_,_,e,_⟩:=x;exact x5 e
 |set S n=>let⟨o,_,_,_,e,_⟩:=x;exact x5 e
 |ins C dx fs=>let⟨_,_,_,e,_⟩:=x;exact x5 e
 |own y=>let⟨_,e⟩:=x;exact x5 e
 |xd fs=>let⟨_,⟨_,_,_,e,_⟩,_⟩:=x;exact x5 e
 |rng lo hi=>let⟨_,_,_,e⟩:=x;exact x5 e
 |frz ob u=>let⟨e,_⟩:=x;exact x5 e
 |tbl ps=>erw[x5 (show h.get? a=some _ from x)]
 |met f y=>erw[x5 (show h.get? a=some _ from x)]
 |ext φ=>let⟨_,⟨_,e⟩,_⟩:=x;exact x5 e
def ObjOk.stay(x:ObjOk P w H h a o)(k:∀ b u,(b=a∨H b=some (.own a))->h.get? b=some u->h'.get? b=some u)
  (ho:∀ b,H b=some (.own a)->H' b=some (.own a)) (ht:∀ b xs,H b=some (.tup xs)->H' b=some (.tup xs)):ObjOk P w H' h' a o:=by
 induction o with
 |lst xs=>let⟨z,its,n,r,e⟩:=x;exact⟨z,its,n,r,k _ _ (.inl rfl) e⟩
 |tup xs=>let⟨z,its,r,ob,e,c⟩:=x;exact⟨z,its,r,ob,k _ _ (.inl rfl) e,c⟩
 |dK kvs=>let⟨z,y,vs,r,ob,es,ep,e,c⟩:=x;exact⟨z,y,vs,r,ob,es,ep,k _ _ (.inl rfl) e,c⟩
 |set S n=>let⟨ob,es,ep,t,e,c⟩:=x;exact⟨ob,es,ep,t,k _ _ (.inl rfl) e,c⟩
 |ins C dx fs=>
  let⟨d,z,ne,e,mA,⟨od,es,ep,e2,c⟩,r⟩:=x
  exact⟨ho _ d,z,ne,k _ _ (.inl rfl) e,mA,⟨od,es,ep,k _ _ (.inr d) e2,c⟩,r⟩
 |own y=>let⟨ob,e⟩:=x;exact⟨ob,k _ _ (.inl rfl) e⟩
 |xd fs=>let⟨mA,⟨od,es,ep,e,c⟩,r⟩:=x;exact⟨mA,⟨od,es,ep,k _ _ (.inl rfl) e,c⟩,r⟩
 |rng lo hi=>let⟨t,u,v,e⟩:=x;exact⟨t,u,v,k _ _ (.inl rfl) e⟩
 |frz ob u ih=>let⟨e,q⟩:=x;exact⟨k _ _ (.inl rfl) e,ih q⟩
 |tbl ps=>
  let e:=x
  erw[k a _ (.inl rfl) e]
 |met f y=>
  let e:=x
  erw[k a _ (.inl rfl) e]
 |ext φ=>let⟨p,⟨o,e⟩,st⟩:=x;exact⟨st _ _ p λo q=>k _ _ (.inl rfl) q,⟨o,k _ _ (.inl rfl) e⟩,st⟩
def HOk.lt(x:HOk P w H h)(e:H a=some o):a<h.objs.size:=(x a o e).lt
def HOk.fresh(x:HOk P w H h)(e:h.objs.size<=a):H a=none:=by
 cases q:H a with
 |none=>rfl
 |some u=>erw[absurd (xt (x.lt q) e) (ue _)]
def HOk.kept(x:HOk P w H h)(k:∀ b u,h.get? b=some u->h'.get? b=some u):HOk P w H h':=λa o e=>
 (x a o e).stay (λb u _ q=>k b u q) (λ_ q=>q) λ_ _ q=>q
def HOk.laid(x:HOk P w H h)(k:∀ b u,h.get? b=some u->h'.get? b=some u)(hp:h.objs.size<=a)(new:ObjOk P w (upd H a o) h' a o):HOk P w (upd H a o) h':=λb u e=>by
 let hn:=x.fresh hp
 by_cases hb:b=a
 ·subst hb;rw[zH]at e;cases e;exact new
 ·rw[zG hb]at e
  exact (x b u e).stay (λc v _ q=>k c v q) (λc q=>by rw[zG (qz q hn)];exact q) λc xs q=>by rw[zG (qz q hn)];exact q
end
def Rd(H:Hp)(a:Ap)(u:HO):Prop:=H a=some u∨∃ o,H a=some (.frz o u)
def Rd.ok{P:Ar}{w:World}{H:Hp}{h:Heap}{a:Ap}{u:HO}(r:Rd H a u)(x:HOk P w H h):ObjOk P w H h a u:=by
 rcases r with r | ⟨o,r⟩
 ·erw[x a u r]
 ·let⟨_,q⟩:=x a _ r
  erw[q]
def Mut:Option HO->Prop
 |some (.lst _)=>True
 |some (.dK _)=>True
 |some (.set _ _)=>True
 |some (.ins _ _ _)=>True
 |some (.ext _)=>True
 |_=>False
section
variable {P:Ar}{w:World}{H:Hp}{h h':Heap}{x e:Ap}{o':HO}
def HOk.write(ok:HOk P w H h)(mu:Mut (H x))(he:e=x∨H e=some (.own x))(k:∀ b u,b≠e->h.get? b=some u->h'.get? b=some u)(heo:∃ u,h'.get? e=some u)
  (new:ObjOk P w (upd H x o') h' x o'):HOk P w (upd H x o') h':=λb u q=>by
 let nown:∀ c y,H c=some (.own y)->c≠x:=λc y r z=>by subst z;rw[r]at mu;exact mu
 let ntup:∀ c xs,H c=some (.tup xs)->c≠x:=λc xs r z=>by subst z;rw[r]at mu;exact mu
 by_cases hb:b=x
 ·subst hb;rw[zH]at q;cases q;exact new
 ·rw[zG hb]at q
  by_cases hbe:b=e
  ·let q':H b=some (.own x):=by
    rcases he with z | z
    ·erw[absurd (hbe.trans z) hb]
    ·rw[hbe];exact z
   rw[q]at q';cases q'
   let⟨v,hv⟩:=heo
   exact⟨v,by rw[hbe];exact hv⟩
  ·refine (ok b u q).stay (λc v hc r=>k c v ?_ r) (λc r=>by rw[zG (nown c b r)];exact r) λc xs r=>by rw[zG (ntup c xs r)];exact r
   rcases hc with rfl | hc
   ·erw[hbe]
   ·rintro rfl
    rcases he with z | z
    ·erw[nown c b hc z]
    ·rw[hc]at z;cases z;exact hb rfl
end
structure Un(fs ex:List Ap)(H H':Hp)(h h':Heap):Prop where
 keep:∀ b o,h.get? b=some o->H b=none->b∉fs->b∉ex->h'.get? b=some o
 slot:∀ b o,h.get? b=some o->H b=none->b∈fs->b∉ex->∃ sl,h'.get? b=some { o with slots:=sl }
 free:∀ b o,h.get? b=some o->H b=none->b∉ex->H' b=none
 there:∀ b o,h.get? b=some o->b∉ex->∃ o',h'.get? b=some o'
 tups:∀ b xs,H b=some (.tup xs)->H' b=some (.tup xs)
 frzs:∀ b o u,H b=some (.frz o u)->H' b=some (.frz o u)
 tbls:∀ b ps,H b=some (.tbl ps)->∃ more,H' b=some (.tbl (ps++more))
section
variable {fs ex:List Ap}{H H1:Hp}{h h1 h':Heap}{a x e:Ap}{o:HO}
def Un.any(u:Un fs ex H H1 h h1){b:Ap}{ob:Obj}(q:h.get? b=some ob)(n:H b=none)(hx:b∉ex):∃ sl,h1.get? b=some { ob with slots:=sl }:=by
 by_cases hb:b∈fs
 ·erw[u.slot b ob q n hb hx]
 ·exact⟨ob.slots,u.keep b ob q n hb hx⟩
def Un.kept(k:∀ b u,h.get? b=some u->h'.get? b=some u):Un fs ex H H h h' :=
 ⟨λb ob q _ _ _=>k b ob q,λb ob q _ _ _=>⟨ob.slots,k b ob q⟩,λ_ _ _ n _=>n,λb ob q _=>⟨ob,k b ob q⟩,λ_ _ q=>q,λ_ _ _ q=>q,λ_ ps q=>⟨#[],by rw[q];simp⟩⟩
def Un.refl:Un fs ex H H h h:=Un.kept λ_ _ q=>q
def Un.laid(k:∀ b u,h.get? b=some u->h'.get? b=some u)(hp:h.objs.size<=a)(hn:H a=none):Un fs ex H (upd H a o) h h' where
 keep:=λb u q _ _ _=>k b u q
 slot:=λb u q _ _ _=>⟨u.slots,k b u q⟩
 free:=λb u q n _=>by rw[zG (xj (xt (x5 q) hp))];exact n
 there:=λb u q _=>⟨u,k b u q⟩
 tups:=λb xs q=>by rw[zG (qz q hn)];exact q
 frzs:=λb u xs q=>by rw[zG (qz q hn)];exact q
 tbls:=λb ps q=>⟨#[],by rw[zG (qz q hn),q];simp⟩
def Un.write(mu:Mut (H x))(he:e=x∨H e=some (.own x))(k:∀ b u,b≠e->h.get? b=some u->h'.get? b=some u)(heo:∃ u,h'.get? e=some u):Un fs ex H (upd H x o) h h':=by
 let hx:∀ b,H b=none->b≠x:=λb n z=>by subst z;rw[n]at mu;exact mu
 let hb:∀ b,H b=none->b≠e:=λb n z=>by
  subst z
  rcases he with r | r
  ·erw[hx b n r]
  ·rw[n]at r;cases r
 let hm:∀ b u,H b=some u->¬ Mut (some u)->b≠x:=λb u q nm z=>by subst z;rw[q]at mu;exact nm mu
 refine⟨λb u q n _ _=>k b u (hb b n) q,λb u q n _ _=>⟨u.slots,k b u (hb b n) q⟩,λb u q n _=>by rw[zG (hx b n)];exact n,λb u q _=>?_,
  λb xs q=>by rw[zG (hm b _ q λz=>z)];exact q,λb u xs q=>by rw[zG (hm b _ q λz=>z)];exact q,λb ps q=>⟨#[],by rw[zG (hm b _ q λz=>z),q];simp⟩⟩
 by_cases hbe:b=e
 ·subst hbe;exact heo
 ·exact⟨u,k b u hbe q⟩
end
def trk(h:Heap)(H:Hp):List Ap:=(List.range h.objs.size).filter λa=>(H a).isSome
def yc(h:Heap)(H:Hp):Heap:=W.hideAll h (trk h H)
def zby(h:Heap)(H:Hp):(yc h H).objs.size=h.objs.size:=W.hideAll_size _ _
def zdX(e:h.get? b=some o)(n:H b=none):(yc h H).get? b=some o :=
 W.hideAll_get _ e λhm=>by
  let q:=(uS.mp hm).2
  rw[n]at q;simp at q
def zgo(e:(yc h H).get? b=some o):h.get? b=some o/\H b=none:=by
 let e':=W.of_hideAll (trk h H) e
 refine⟨e',?_⟩
 cases q:H b with
 |none=>rfl
 |some x=>
  let hm:b∈trk h H:=uS.mpr ⟨uE.mpr (x5 e'),by simp[q]⟩
  let z:(yc h H).get? b=none:=W.hideAll_none (trk h H) hm
  rw[z]at e;cases e
structure Mod(K:Ah)(mg:Aq)(base:Heap):Prop where
 kin:K.In base
 glob:base.Ns mainGlobals mg
 blt:∃ mb,base.Ns builtinsNs mb/\∀ x:Str,x≠ "__name__" ->mb x=bootBuiltins x
 nolimit:base.NoLimit
structure Cx where
 prog:Ar
 w:World
 K:Ah
 mg:Aq
 base:Heap
 A:Around
 N:Ab
 s₀:Am
 H₀:Hp
 env:Env
 outer:List Env
 stack:List Env
 ex:List Ap
 fn:Str->Bool
 calm:Bool
 pn:Ak
 xe:Af
def frs(l:List Env):List Ap:=l.filterMap (·.frame)
noncomputable abbrev Cx.fs(X:Cx):List Ap:=frs X.outer
def Vis(sc:Scope)(x:Str):Prop:=sc.names.lookup x=some .local∨sc.names.lookup x=some .cell∨sc.names.lookup x=some .free
def Loc(sc:Scope)(x:Str):Prop:=sc.names.lookup x=some .local∨sc.names.lookup x=some .cell
def Look(env:Env)(h:Heap)(m:Aq)(x:Str)(u:Aj):Prop :=
 (env.kindOf x=some .local/\m x=some u)∨((env.kindOf x=some .cell∨env.kindOf x=some .free)/\∃ c,env.cells.lookup x=some c/\h.IsCell c (some u))
structure Cx.Ok(X:Cx):Prop where
 mod:Mod X.K X.mg X.base
 kind:X.env.scope.kind=.function
 glob:X.env.globals=mainGlobals
 blt:X.env.builtins=builtinsNs
 above:X.s₀.heap.objs.size<=X.env.locals
 inj:∀ x y c,X.env.cells.lookup x=some c->X.env.cells.lookup y=some c->x=y
 has:∀ x,(X.env.kindOf x=some .cell∨X.env.kindOf x=some .free)->∃ c,X.env.cells.lookup x=some c
 cab:∀ x c,X.fn x=true->X.env.cells.lookup x=some c->X.s₀.heap.objs.size<=c
 hd:X.calm=true->X.A.handled=none
 frames:X.A.frames=some X.stack
 stk:X.stack=X.outer∨(X.stack=X.env::X.outer/\X.env.frame=some X.env.locals)
 exf:∀ b∈X.ex,b≠X.env.locals/\∀ x c,X.env.cells.lookup x=some c->c≠b
 bs:∀ b o,X.base.get? b=some o->X.s₀.heap.get? b=some o/\X.H₀ b=none
 bsz:X.base.objs.size<=X.s₀.heap.objs.size
 noex:∀ b o,X.base.get? b=some o->b∉X.ex
 exfs:∀ b∈X.ex,b∉X.fs
 funs:X.s₀.heap.FunFrames X.base X.outer
 frf:∀ b∈X.fs,X.H₀ b=none
structure Inv(X:Cx)(pins:Ak)(σ:List (Option V))(H:Hp)(s:Am):Prop where
 ok:X.Ok
 os:s.os=X.s₀.os
 bare:AllBare s.gens
 base:Un X.fs X.ex X.H₀ H X.s₀.heap s.heap
 loc:∃ m,s.heap.Ns X.env.locals m/\∀(i:Nat)(x:Str)(v:V),X.N[i]?=some x->σ[i]?=some (some v)->Vis X.env.scope x->∃ u,RelV v u/\Look X.env s.heap m x u
 cell:∀ x c,X.env.cells.lookup x=some c->∃ v,s.heap.IsCell c v
 free:H X.env.locals=none
 freeC:∀ x c,X.env.cells.lookup x=some c->H c=none
 pin:∀ p∈X.pn++pins,s.heap.get? p.1=some p.2/\H p.1=none/\p.1≠X.env.locals/\p.1∉X.fs/\∀ v,p.2.data≠ .cell v
 hok:HOk X.prog X.w H s.heap
 len:σ.length=X.N.length
section
variable {X:Cx}{pins:Ak}{σ:List (Option V)}{H H':Hp}{s:Am}{h':Heap}
def Cx.Ok.nofr(ok:X.Ok)(e:X.base.get? b=some o):b∉X.fs:=λhb=>by
 have:=(ok.funs.mem hb).1
 rw[e]at this;cases this
def Inv.bs(I:Inv X pins σ H s):∀ b o,X.base.get? b=some o->s.heap.get? b=some o/\H b=none:=λb o e=>
 ⟨I.base.keep b o (I.ok.bs b o e).1 (I.ok.bs b o e).2 (I.ok.nofr e) (I.ok.noex b o e),I.base.free b o (I.ok.bs b o e).1 (I.ok.bs b o e).2 (I.ok.noex b o e)⟩
def Inv.bk(I:Inv X pins σ H s):∀ b o,X.base.get? b=some o->s.heap.get? b=some o:=λb o e=>(I.bs b o e).1
def Inv.mod(I:Inv X pins σ H s):Mod X.K X.mg X.base:=I.ok.mod
def Inv.kIn(I:Inv X pins σ H s):X.K.In s.heap:=I.ok.mod.kin.keeps I.bk
def Inv.fr(I:Inv X pins σ H s):∃ m,Fr X.base X.env.locals s.heap m :=
 let ⟨m,hn,_⟩:=I.loc
 ⟨m,hn,I.bk,xH I.ok.bsz I.ok.above⟩
def Inv.lt(I:Inv X pins σ H s):X.env.locals<⇑s:=let ⟨_,hn,_⟩:=I.loc;hn.lt
def Inv.sz(I:Inv X pins σ H s):X.s₀.heap.objs.size<=⇑s:=xH I.ok.above (uk I.lt)
def Inv.nofs(I:Inv X pins σ H s)(h:⇑s<=a):a∉X.fs:=λhb=>by
 let⟨_,o,ho,_⟩:=I.ok.funs.mem hb
 erw[absurd (xt (x5 ho) (xH I.sz h)) (ue _)]
def Inv.cne(I:Inv X pins σ H s):∀ x c,X.env.cells.lookup x=some c->c≠X.env.locals:=λx c e z=>by
 let⟨v,o,ho,hd⟩:=I.cell x c e
 let⟨m,⟨o',es,ep,ho',hd',_⟩,_⟩:=I.loc
 rw[z,ho']at ho;cases ho;rw[hd']at hd;cases hd
def Inv.funs(I:Inv X pins σ H s):s.heap.FunFrames X.base X.outer:=by
 let all:∀(l:List Env),(∀ b∈frs l,b∈X.fs)->X.s₀.heap.FunFrames X.base l->s.heap.FunFrames X.base l:=by
  intro l
  induction l with
  |nil=>intro _ _;trivial
  |cons env r ih=>
   intro hs hl
   let⟨hk,⟨L,o,hf,hn,ho,hd⟩,hr⟩:=hl
   let hL:=hs L (by unfold frs;rw[ua,hf];exact xr)
   let⟨sl,e⟩:=I.base.slot L o ho (I.ok.frf L hL) hL λz=>I.ok.exfs L z hL
   exact⟨hk,⟨L,_,hf,hn,e,hd⟩,ih (λb hb=>hs b (by unfold frs;rw[ua,hf];exact xl _ hb)) hr⟩
 erw[all X.outer (λ_ hb=>hb) I.ok.funs]
def Inv.stack(I:Inv X pins σ H s):s.heap.FunFrames X.base X.stack:=by
 rcases I.ok.stk with e | ⟨e,hf⟩
 ·rw[e];exact I.funs
 ·rw[e]
  let⟨m,hn,_⟩:=I.loc
  refine .cons (by rw[I.ok.kind];decide) hf hn ?_ I.funs
  erw[Heap.get?_none_of_le (xH I.ok.bsz I.ok.above)]
def Inv.stkSub(I:Inv X pins σ H s):∀ b∈frs X.stack,b∈X.env.locals::X.fs:=λb hb=>by
 rcases I.ok.stk with e | ⟨e,hf⟩
 ·rw[e]at hb;exact xl _ hb
 ·rw[e]at hb
  unfold frs at hb
  rw[ua,hf]at hb
  erw[hb]
def Inv.stkFree(I:Inv X pins σ H s):∀ b∈frs X.stack,H b=none:=λb hb=>by
 rcases xw.mp (I.stkSub b hb)with e | hb
 ·rw[e];exact I.free
 ·let⟨_,o,ho,_⟩:=I.ok.funs.mem hb
  erw[I.base.free b o ho (I.ok.frf b hb) λz=>I.ok.exfs b z hb]
def Inv.step{g':Array GenState}{t':Nat}{d':Drawn}{ch:List Ap}(I:Inv X pins σ H s)
  (hch:∀ b∈ch,(b∈X.ex∨X.s₀.heap.objs.size<=b)/\b≠X.env.locals/\(∀ x c,X.env.cells.lookup x=some c->c≠b)/\∀ p∈X.pn++pins,p.1≠b)
  (keep:∀ b o,b≠X.env.locals->b∉X.fs->b∉ch->s.heap.get? b=some o->H b=none->h'.get? b=some o)
  (slot:∀ b o,b≠X.env.locals->b∈X.fs->b∉ch->s.heap.get? b=some o->H b=none->∃ sl,h'.get? b=some { o with slots:=sl }) (free:∀ b o,b∉ch->s.heap.get? b=some o->H b=none->H' b=none)
  (there:∀ b o,b∉ch->s.heap.get? b=some o->∃ o',h'.get? b=some o')
  (tups:∀ b xs,H b=some (.tup xs)->H' b=some (.tup xs)) (frzs:∀ b o u,H b=some (.frz o u)->H' b=some (.frz o u)) (tbls:∀ b ps,H b=some (.tbl ps)->∃ more,H' b=some (.tbl (ps++more)))
  (ns:∀ m,s.heap.Ns X.env.locals m->h'.Ns X.env.locals m) (hok:HOk X.prog X.w H' h') (hg:AllBare g') :
  Inv X pins σ H' { s with heap:=h',gens:=g',drawn:=d',toks:=t' }:=by
 let neL:∀ b o,X.s₀.heap.get? b=some o->b≠X.env.locals:=λb o e=>xj (xt (x5 e) I.ok.above)
 let neC:∀ b o,X.s₀.heap.get? b=some o->b∉X.ex->b∉ch:=λb o e hx hb=>by
  rcases (hch b hb).1 with z | z
  ·erw[hx z]
  ·erw[absurd (xt (x5 e) z) (ue _)]
 let cellK:∀ x c,X.env.cells.lookup x=some c->∀ v,s.heap.IsCell c v->h'.IsCell c v:=λx c e v ⟨o,ho,hd⟩=>by
  let nch:c∉ch:=λz=>(hch c z).2.2.1 x c e rfl
  by_cases hc:c∈X.fs
  ·let⟨sl,q⟩:=slot c o (I.cne x c e) hc nch ho (I.freeC x c e)
   exact⟨_,q,hd⟩
  ·exact⟨o,keep c o (I.cne x c e) hc nch ho (I.freeC x c e),hd⟩
 refine⟨I.ok,I.os,hg,⟨λb o e n hb hx=>?_,λb o e n hb hx=>?_,λb o e n hx=>?_,λb o e hx=>?_,λb xs e=>tups b xs (I.base.tups b xs e),λb o xs e=>frzs b o xs (I.base.frzs b o xs e),λb ps e=>?_⟩,?_,λx c e=>?_,?_,λx c e=>?_,λp hp=>?_,hok,I.len⟩
 ·erw[keep b o (neL b o e) hb (neC b o e hx) (I.base.keep b o e n hb hx) (I.base.free b o e n hx)]
 ·let⟨sl,e1⟩:=I.base.slot b o e n hb hx
  let⟨sl',e2⟩:=slot b _ (neL b o e) hb (neC b o e hx) e1 (I.base.free b o e n hx)
  exact⟨sl',e2⟩
 ·let⟨o',e1⟩:=I.base.there b o e hx
  erw[free b o' (neC b o e hx) e1 (I.base.free b o e n hx)]
 ·let⟨o',e1⟩:=I.base.there b o e hx
  erw[there b o' (neC b o e hx) e1]
 ·let⟨m1,e1⟩:=I.base.tbls b ps e
  let⟨m2,e2⟩:=tbls b _ e1
  exact⟨m1++m2,by rw[e2,Array.append_assoc]⟩
 ·let⟨m,hn,hl⟩:=I.loc
  refine⟨m,ns m hn,λi x v e1 e2 e3=>?_⟩
  let⟨u,r,l⟩:=hl i x v e1 e2 e3
  refine⟨u,r,?_⟩
  rcases l with l | ⟨k,c,e,z⟩
  ·erw[.inl l]
  ·erw[.inr ⟨k,c,e,cellK x c e _ z⟩]
 ·let⟨v,z⟩:=I.cell x c e
  exact⟨v,cellK x c e v z⟩
 ·let⟨m,⟨o,_,_,ho,_⟩,_⟩:=I.loc
  erw[free _ o (λz=>(hch _ z).2.1 rfl) ho I.free]
 ·let⟨v,o,ho,hd⟩:=I.cell x c e
  erw[free c o (λz=>(hch c z).2.2.1 x c e rfl) ho (I.freeC x c e)]
 ·let⟨e,n,ne,nf,d⟩:=I.pin p hp
  let nch:p.1∉ch:=λz=>(hch p.1 z).2.2.2 p hp rfl
  exact⟨keep p.1 p.2 ne nf nch e n,free p.1 p.2 nch e n,ne,nf,d⟩
def Inv.un(I:Inv X pins σ H s)(u:Un X.fs [] H H' s.heap h')(hok:HOk X.prog X.w H' h'):Inv X pins σ H' { s with heap:=h',toks:=t' }:=by
 let⟨m,⟨o,es,ep,ho,r⟩,_⟩:=id I.loc
 let⟨sl,hL⟩:=u.any ho I.free (by simp)
 exact I.step (ch:= []) (λ_ z=>nomatch z) (λb o _ hb _ e n=>u.keep b o e n hb (by simp)) (λb o _ hb _ e n=>u.slot b o e n hb (by simp)) (λb o _ e n=>u.free b o e n (by simp)) (λb o _ e=>u.there b o e (by simp)) u.tups u.frzs u.tbls (λm' hm=>by
  let⟨o',es',ep',ho',r'⟩:=hm
  rw[ho]at ho';cases ho'
  exact⟨_,es',ep',hL,r'⟩) hok I.bare
def Inv.call{g':Array GenState}{t':Nat}{d':Drawn}{ch:List Ap}(I:Inv X pins σ H s)(u:Un (frs X.stack) ch H H' s.heap h')(hok:HOk X.prog X.w H' h')(hg:AllBare g')
  (hch:∀ b∈ch,(b∈X.ex∨X.s₀.heap.objs.size<=b)/\b≠X.env.locals/\(∀ x c,X.env.cells.lookup x=some c->c≠b)/\∀ p∈X.pn++pins,p.1≠b) :
  Inv X pins σ H' { s with heap:=h',gens:=g',drawn:=d',toks:=t' }:=by
 let⟨m,⟨o,es,ep,ho,r⟩,_⟩:=id I.loc
 let⟨sl,hL⟩:=u.any ho I.free λz=>(hch _ z).2.1 rfl
 exact I.step hch (λb o hL hb hc e n=>u.keep b o e n (λz=>(xw.mp (I.stkSub b z)).elim hL hb) hc) (λb o _ _ hc e n=>u.any e n hc) (λb o hc e n=>u.free b o e n hc) (λb o hc e=>u.there b o e hc) u.tups u.frzs u.tbls (λm' hm=>by
  let⟨o',es',ep',ho',r'⟩:=hm
  rw[ho]at ho';cases ho'
  exact⟨_,es',ep',hL,r'⟩) hok hg
def Inv.turned{t':Nat}(I:Inv X pins σ H s)(k:∀ b o,b≠it->s.heap.get? b=some o->h'.get? b=some o)(hn:H it=none)(hL:it≠X.env.locals)
  (h1:it∈X.ex∨X.s₀.heap.objs.size<=it) (h2:∀ x c,X.env.cells.lookup x=some c->c≠it) (h3:∀ p∈X.pn++pins,p.1≠it):Inv X pins σ H { s with heap:=h',toks:=t' }:=by
 let nit:∀ b u,H b=some u->b≠it:=λb u e z=>by rw[z,hn]at e;cases e
 refine I.step (ch:= [it]) (λb hb=>?_) (λb o _ _ hc e _=>k b o (λz=>hc (by simp[z])) e) (λb o _ _ hc e _=>⟨o.slots,k b o (λz=>hc (by simp[z])) e⟩) (λ_ _ _ _ n=>n)
  (λb o hc e=>⟨o,k b o (λz=>hc (by simp[z])) e⟩) (λ_ _ e=>e) (λ_ _ _ e=>e) (λb ps e=>⟨#[],by rw[e];simp⟩) (λm hm=>?_) (λb u e=>?_) I.bare
 ·let e:b=it:=by simpa using hb
  subst e
  exact⟨h1,hL,h2,h3⟩
 ·let⟨o,es,ep,ho,r⟩:=hm
  exact⟨o,es,ep,k _ o (Ne.symm hL) ho,r⟩
 ·refine (I.hok b u e).stay (λc v hc q=>k c v ?_ q) (λ_ q=>q) λ_ _ q=>q
  rcases hc with z | z
  ·rw[z];exact nit b u e
  ·erw[nit c _ z]
def Inv.tok(I:Inv X pins σ H s)(t:Nat):Inv X pins σ H { s with toks:=t }:=I.un Un.refl I.hok
def Inv.kept{t':Nat}(I:Inv X pins σ H s)(k:∀ b u,s.heap.get? b=some u->h'.get? b=some u):Inv X pins σ H { s with heap:=h',toks:=t' }:=I.un (Un.kept k) (I.hok.kept k)
def Inv.laid{a:Ap}{o:HO}{t':Nat}(I:Inv X pins σ H s)(k:∀ b u,s.heap.get? b=some u->h'.get? b=some u)(hp:⇑s<=a)(new:ObjOk X.prog X.w (upd H a o) h' a o) :
  Inv X pins σ (upd H a o) { s with heap:=h',toks:=t' }:=I.un (Un.laid k hp (I.hok.fresh hp)) (I.hok.laid k hp new)
def Inv.write{o:HO}{t':Nat}(I:Inv X pins σ H s)(mu:Mut (H x))(he:e=x∨H e=some (.own x))(k:∀ b u,b≠e->s.heap.get? b=some u->h'.get? b=some u)(heo:∃ u,h'.get? e=some u)
  (new:ObjOk X.prog X.w (upd H x o) h' x o):Inv X pins σ (upd H x o) { s with heap:=h',toks:=t' }:=I.un (Un.write mu he k heo) (I.hok.write mu he k heo new)
def Inv.weak(I:Inv X pins σ H s)(hl:σ'.length=σ.length)(w:∀(i:Nat) v,σ'[i]?=some (some v)->σ[i]?=some (some v)):Inv X pins σ' H s :=
 ⟨I.ok,I.os,I.bare,I.base,let ⟨m,hn,hl'⟩:=I.loc;⟨m,hn,λi x v e1 e2 e3=>hl' i x v e1 (w i v e2) e3⟩,I.cell,I.free,I.freeC,I.pin,I.hok,hl.trans I.len⟩
def Inv.pins_of(I:Inv X pins σ H s)(h:∀ p∈pins',s.heap.get? p.1=some p.2/\H p.1=none/\p.1≠X.env.locals/\p.1∉X.fs/\∀ v,p.2.data≠ .cell v):Inv X pins' σ H s :=
 ⟨I.ok,I.os,I.bare,I.base,I.loc,I.cell,I.free,I.freeC,λp hp=>(xF.mp hp).elim (λz=>I.pin p (uf _ z)) (h p),I.hok,I.len⟩
def Yo{N:Ab}(hN:N.Nodup){i j:Nat}(a:N[i]?=some x)(b:N[j]?=some x):i=j:=by
 let⟨h1,e1⟩:=xa.mp a
 let⟨h2,e2⟩:=xa.mp b
 erw[(List.getElem_inj hN).mp (e1.trans e2.symm)]
def JM{M:Model}{A:Around}{E:Af}{x:Str}{v:V}{u:Aj}{Q:Unit->Am->Prop}(I:Inv X pins σ H s)(hN:X.N.Nodup)(hi:X.N[i]?=some x)(hx:Loc X.env.scope x)(r:RelV v u)
  (h:∀ s',Inv X pins (σ.set i (some v)) H s'->(∃ a,Heap.SameBut a s.heap s'.heap/\(a=X.env.locals∨X.env.cells.lookup x=some a))->Q () s') (hf:X.fn x=true∨X.env.scope.names.lookup x=some .local:=by first | exact .inl rfl | exact .inr rfl | assumption):wpAny M A (storeName X.env x u) Q E s:=by
 let⟨m,hn,hl⟩:=id I.loc
 let hcls:(X.env.scope.kind==.class||(X.env.scope.kind==.module&&X.env.locals !=X.env.globals))=false:=by rw[I.ok.kind];rfl
 have hiσ:i<σ.length:=by rw[I.len];exact (xa.mp hi).1
 let cne:=I.cne
 let tracked:∀{a:Ap}{h':Heap},(∃ o,s.heap.get? a=some o/\H a=none)->Heap.SameBut a s.heap h'->HOk X.prog X.w H h':=λ{a h'} ha hs b ob e=>by
  let⟨_,_,hfree⟩:=ha
  erw[(I.hok b ob e).stay (λc w' hc q=>(hs.2 c ?_).trans q) (λ_ q=>q) λ_ _ q=>q]
  rintro rfl
  rcases hc with rfl | hc
  ·rw[hfree]at e;cases e
  ·rw[hfree]at hc;cases hc
 rcases hx with hk | hk
 ·refine wpAny_storeName_local hk hn (λh' hn' hs=>?_) hcls
  let⟨oL,_,_,hoL,_⟩:=id hn
  refine h _ ⟨I.ok,I.os,I.bare,⟨λb o e n hb hx=>?_,λb o e n hb hx=>?_,I.base.free,λb o e hx=>?_,I.base.tups,I.base.frzs,I.base.tbls⟩,⟨_,hn',λj y v' e1 e2 e3=>?_⟩,λy c e=>?_,I.free,I.freeC,λp hp=>?_,tracked ⟨oL,hoL,I.free⟩ hs,by simpa using I.len⟩ ⟨_,hs,.inl rfl⟩
  ·erw[(hs.2 b (xj (xt (x5 e) I.ok.above))).trans (I.base.keep b o e n hb hx)]
  ·let⟨sl,e1⟩:=I.base.slot b o e n hb hx
   exact⟨sl,(hs.2 b (xj (xt (x5 e) I.ok.above))).trans e1⟩
  ·let⟨o',e1⟩:=I.base.there b o e hx
   exact⟨o',(hs.2 b (xj (xt (x5 e) I.ok.above))).trans e1⟩
  ·by_cases hj:j=i
   ·subst hj
    rw[hi]at e1;cases e1
    rw[xk hiσ]at e2
    cases e2
    exact⟨u,r,.inl ⟨hk,by simp⟩⟩
   ·rw[xi (Ne.symm hj)]at e2
    let⟨u',r',q⟩:=hl j y v' e1 e2 e3
    refine⟨u',r',?_⟩
    rcases q with ⟨k,e⟩ | ⟨k,c,e,z⟩
    ·refine .inl ⟨k,?_⟩
     have:y≠x:=λe=>hj (Yo hN e1 (e ▸ hi))
     simp[this,e]
    ·erw[.inr ⟨k,c,e,z.sameBut hs (cne y c e)⟩]
  ·let⟨w',z⟩:=I.cell y c e
   exact⟨w',z.sameBut hs (cne y c e)⟩
  ·let⟨e,n,ne,nf,d⟩:=I.pin p hp
   exact⟨(hs.2 p.1 ne).trans e,n,ne,nf,d⟩
 ·let hfn:X.fn x=true:=by
   rcases hf with z | z
   ·erw[z]
   ·rw[z]at hk;cases hk
  let⟨c,hc⟩:=I.ok.has x (.inl hk)
  let⟨w',z⟩:=I.cell x c hc
  erw[wpAny_storeName_cell I.ok.kind hk hc z (λh' hc' hs=>?_)]
  let⟨oc,hoc,hocd⟩:=id z
  refine h { s with heap:=h' } ⟨I.ok,I.os,I.bare,⟨λb o e n hb hx=>?_,λb o e n hb hx=>?_,I.base.free,λb o e hx=>?_,I.base.tups,I.base.frzs,I.base.tbls⟩,⟨m,hn.sameBut hs (Ne.symm (cne x c hc)),λj y v' e1 e2 e3=>?_⟩,λy c' e=>?_,I.free,I.freeC,λp hp=>?_,tracked ⟨oc,hoc,I.freeC x c hc⟩ hs,by simpa using I.len⟩ ⟨c,hs,.inr hc⟩
  ·erw[(hs.2 b (xj (xt (x5 e) (I.ok.cab x c hfn hc)))).trans (I.base.keep b o e n hb hx)]
  ·let⟨sl,e1⟩:=I.base.slot b o e n hb hx
   exact⟨sl,(hs.2 b (xj (xt (x5 e) (I.ok.cab x c hfn hc)))).trans e1⟩
  ·let⟨o',e1⟩:=I.base.there b o e hx
   exact⟨o',(hs.2 b (xj (xt (x5 e) (I.ok.cab x c hfn hc)))).trans e1⟩
  ·by_cases hj:j=i
   ·subst hj
    rw[hi]at e1;cases e1
    rw[xk hiσ]at e2
    cases e2
    exact⟨u,r,.inr ⟨.inl hk,c,hc,hc'⟩⟩
   ·rw[xi (Ne.symm hj)]at e2
    let⟨u',r',q⟩:=hl j y v' e1 e2 e3
    refine⟨u',r',?_⟩
    rcases q with q | ⟨k,c',e,z'⟩
    ·erw[.inl q]
    ·refine .inr ⟨k,c',e,z'.sameBut hs ?_⟩
     rintro rfl
     erw[hj (Yo hN e1 (I.ok.inj _ _ _ e hc ▸ hi))]
  ·by_cases hcc:c'=c
   ·subst hcc;exact⟨_,hc'⟩
   ·let⟨w2,z2⟩:=I.cell y c' e
    exact⟨w2,z2.sameBut hs hcc⟩
  ·let⟨e,n,ne,nf,d⟩:=I.pin p hp
   refine⟨(hs.2 p.1 ?_).trans e,n,ne,nf,d⟩
   intro q
   rw[q,hoc]at e
   let q':=Option.some.inj e
   exact d w' (by rw[<- q'];exact hocd)
def Jh{M:Model}{A:Around}{E:Af}{i:Nat}{x:Str}{v:V}{u:Aj}{Q:Unit->Am->Prop}(I:Inv X pins σ H s)(hN:X.N.Nodup)(hi:X.N[i]?=some x)(hx:Loc X.env.scope x)(r:RelV v u)
  (h:∀ s',Inv X pins (σ.set i (some v)) H s'->Q () s') (hf:X.fn x=true∨X.env.scope.names.lookup x=some .local:=by first | exact .inl rfl | exact .inr rfl | assumption):wpAny M A (storeName X.env x u) Q E s :=
 JM I hN hi hx r (λs' I' _=>h s' I') hf
def Inv.call'(I:Inv X pins σ H s)(ho:s'.os=s.os)(u:Un (frs X.stack) ch H H' s.heap s'.heap)(hok:HOk X.prog X.w H' s'.heap)(hg:AllBare s'.gens)
  (hch:∀ b∈ch,(b∈X.ex∨X.s₀.heap.objs.size<=b)/\b≠X.env.locals/\(∀ x c,X.env.cells.lookup x=some c->c≠b)/\∀ p∈X.pn++pins,p.1≠b):Inv X pins σ H' s':=by
 let⟨h',g',d',t',o'⟩:=s'
 let e:=ho
 subst e
 erw[I.call u hok hg hch]
end
abbrev XK:=Aj->Option Ap->Hp->Prop
noncomputable abbrev St:=List (Option V)
abbrev VK:=V->Hp->Prop
abbrev TE:=St->Hp->VK->Prop
abbrev TT:=St->Hp->(Bool->Hp->Prop)->Prop
abbrev TA:=St->Hp->(List V->Hp->Prop)->Prop
structure QX where
 nx:St->Hp->Prop
 rt:VK
 bk:St->Hp->Prop:=λ_ _=>False
 ct:St->Hp->Prop:=λ_ _=>False
abbrev TS:=QX->St->Hp->Prop
def EP(X:Cx)(pins:Ak)(σ:St)(Q:VK)(u:Aj)(s':Am):Prop:=∃ v H',Inv X pins σ H' s'/\RelV v u/\Q v H'
def TP(X:Cx)(pins:Ak)(σ:St)(Q:Bool->Hp->Prop)(b:Bool)(s':Am):Prop:=∃ H',Inv X pins σ H' s'/\Q b H'
def AP(X:Cx)(pins:Ak)(σ:St)(Q:List V->Hp->Prop)(us:An)(s':Am):Prop:=∃ vs H',Inv X pins σ H' s'/\Vals vs us/\Q vs H'
def SP(X:Cx)(pins:Ak)(D:QX)(f:Flow)(s':Am):Prop :=
 match f with
 |.next=>∃ σ' H',Inv X pins σ' H' s'/\D.nx σ' H'
 |.brk=>∃ σ' H',Inv X pins σ' H' s'/\D.bk σ' H'
 |.cont=>∃ σ' H',Inv X pins σ' H' s'/\D.ct σ' H'
 |.ret u=>∃ v σ' H',Inv X pins σ' H' s'/\RelV v u/\D.rt v H'
def PE(X:Cx)(e:Expr)(t:TE):Prop :=
 ∀(pins:Ak)(s:Am)(σ:St)(H:Hp)(Q:VK),Inv X pins σ H s->t σ H Q->∅ (eval e X.env) (EP X pins σ Q) X.xe s
def PT(X:Cx)(e:Expr)(t:TT):Prop :=
 ∀(pins:Ak)(s:Am)(σ:St)(H:Hp)(Q:Bool->Hp->Prop),Inv X pins σ H s->t σ H Q->∅ (isTrue e X.env (eval e X.env)) (TP X pins σ Q) X.xe s
def PW(X:Cx)(e:Expr)(t:TT):Prop :=
 ∀(whole:Sem Aj)(pins:Ak)(s:Am)(σ:St)(H:Hp)(Q:Bool->Hp->Prop),Inv X pins σ H s->t σ H Q->∅ (isTrue e X.env whole) (TP X pins σ Q) X.xe s
def PA(X:Cx)(es:Ag)(t:TA):Prop :=
 ∀(pos:Pos)(pins:Ak)(s:Am)(σ:St)(H:Hp)(Q:List V->Hp->Prop),Inv X pins σ H s->t σ H Q->∅ (spliced (backTo pos (starEach es X.env))) (AP X pins σ Q) X.xe s
def PS(X:Cx)(st:Stmt)(t:TS):Prop :=
 ∀(pins:Ak)(s:Am)(σ:St)(H:Hp)(D:QX),Inv X pins σ H s->t D σ H->∅ (exec st X.env) (SP X pins D) X.xe s
def PSs(X:Cx)(st:List Stmt)(t:TS):Prop :=
 ∀(pins:Ak)(s:Am)(σ:St)(H:Hp)(D:QX),Inv X pins σ H s->t D σ H->∅ (execs st X.env) (SP X pins D) X.xe s
def thn{α:Type}{t:Sem α}{Q Q':α->Am->Prop}{M:Model}{A:Around}{E:Af}{s:Am}(h:wpAny M A t Q E s)(hQ:∀ a s,Q a s->Q' a s):wpAny M A t Q' E s:=Xc h hQ λ_ _ x=>x
section
variable {X:Cx}
def zla(i:Nat):TE:=λσ H Q=>∃ v,σ[i]?=some (some v)/\Q v H
def tC(v:V):TE:=λ_ H Q=>Q v H
def qB (hN:X.N[i]?=some x) (hv:Vis X.env.scope x) (hd:(↥x):=by decide) (hcd:(x==("__classdict__" :Str))=false:=by decide):PE X (.Name x pos) (zla i):=by
 cbv
 let⟨v,e,h⟩:=h
 let⟨m,hn,hl⟩:=I.loc
 let⟨u,r,l⟩:=hl i x v hN e hv
 let fin:EP X pins σ Q u s:=⟨v,H,I,r,h⟩
 rcases l with ⟨hk,hm⟩ | ⟨hk,c,hc,hcell⟩
 ·erw[wpAny_Name (wpAny_loadName_local I.ok.kind hk hn hm fin) hd]
 ·rcases hk with hk | hk
  ·erw[wpAny_Name (wpAny_loadName_cell I.ok.kind hk hc hcell fin) hd]
  ·erw[wpAny_Name (wpAny_loadName_free I.ok.kind hk hc hcell fin hcd) hd]
def pe_int{i j pos}:PE X (.Constant (.int i) j pos) (tC (.int i)):=λ_ _ _ H _ I h=>wpAny_Constant_int ⟨.int i,H,I.tok _,⟨_,rfl⟩,h⟩
def pe_bl{b j pos}:PE X (.Constant (.bool b) j pos) (tC (.bl b)):=λ_ _ _ H _ I h=>Constant_bool ⟨.bl b,H,I,rfl,h⟩
def pe_str{x j pos}:PE X (.Constant (.str x) j pos) (tC (.str x)):=λ_ _ _ H _ I h=>Calls.Constant_str ⟨.str x,H,I.tok _,⟨_,rfl⟩,h⟩
def Gl(X:Cx)(x:Str):Prop:=X.env.kindOf x=some .globalImplicit
def Qp{E:Af}{pins:Ak}{s:Am}{σ:St}{H:Hp}{x:Str}{u:Aj}{pos:Pos}{Q:Af}(I:Inv X pins σ H s)(hg:Gl X x)(hm:X.mg x=some u)(h:Q u s)
  (hd:(↥x):=by decide):∅ (eval (.Name x pos) X.env) Q E s :=
 Calls.Name_function_global I.ok.kind hg (Calls.loadGlobal_global (by rw[I.ok.glob];exact I.mod.glob.keeps I.bk) hm h) hd
def QM{E:Af}{pins:Ak}{s:Am}{σ:St}{H:Hp}{x:Str}{u:Aj}{pos:Pos}{Q:Af}(I:Inv X pins σ H s)(hg:Gl X x)(hm:X.mg x=none)(hv:bootBuiltins x=some u)(h:Q u s)
  (hn:x≠ "__name__" :=by decide) (hd:(↥x):=by decide):∅ (eval (.Name x pos) X.env) Q E s:=by
 let⟨mb,h1,h2⟩:=I.mod.blt
 exact Calls.Name_function_global I.ok.kind hg (Calls.loadGlobal_builtin (by rw[I.ok.glob];exact I.mod.glob.keeps I.bk) hm (by rw[I.ok.blt];exact h1.keeps I.bk) ((h2 x hn).trans hv) h) hd
def K3 (hg:Gl X x) (hm:X.mg x=some u) (r:RelV v u) (hd:(↥x):=by decide):PE X (.Name x pos) (tC v) :=
 λ_ _ _ H _ I h=>Qp I hg hm ⟨v,H,I,r,h⟩ hd
def zgv (hg:Gl X x) (hm:X.mg x=none) (hv:bootBuiltins x=some u) (r:RelV v u) (hn:x≠ "__name__" :=by decide) (hd:(↥x):=by decide):PE X (.Name x pos) (tC v) :=
 λ_ _ _ H _ I h=>QM I hg hm hv ⟨v,H,I,r,h⟩ hn hd
variable {a b:Expr}{ta tb:TE}{pos:Pos}
variable {tA tB':TT}{rest:Ag}
def tAnd(t u:TT):TT:=λσ H Q=>t σ H λc H1=>if c=true then u σ H1 Q else Q false H1
def tOr(t u:TT):TT:=λσ H Q=>t σ H λc H1=>if c=true then Q true H1 else u σ H1 Q
def tNot(t:TT):TT:=λσ H Q=>t σ H λc H1=>Q (!c) H1
def zgK(ha:PT X a tA):PW X (.BoolOp .And [a] pos) tA:=by
 intro wh pins s σ H Q I h
 erw[isTrue_and (thn (ha pins s σ H Q I h) λc s1 e=>?_)]
 cases c with
 |true=>erw[isTrue_and_nil e]
 |false=>erw[e]
def zjb(ha:PT X a tA):PW X (.BoolOp .Or [a] pos) tA:=by
 intro wh pins s σ H Q I h
 erw[isTrue_or (thn (ha pins s σ H Q I h) λc s1 e=>?_)]
 cases c with
 |false=>erw[isTrue_or_nil e]
 |true=>erw[e]
def zja(ha:PT X a tA)(hb:PW X (.BoolOp .And (b::rest) pos) tB'):PW X (.BoolOp .And (a::b::rest) pos) (tAnd tA tB'):=by
 intro wh pins s σ H Q I h
 erw[isTrue_and (thn (ha pins s σ H _ I h) λc s1 ⟨H1,I1,q1⟩=>?_)]
 cases c with
 |true=>erw[hb wh pins s1 σ H1 Q I1 q1]
 |false=>exact⟨H1,I1,q1⟩
def zkF(ha:PT X a tA)(hb:PW X (.BoolOp .Or (b::rest) pos) tB'):PW X (.BoolOp .Or (a::b::rest) pos) (tOr tA tB'):=by
 intro wh pins s σ H Q I h
 erw[isTrue_or (thn (ha pins s σ H _ I h) λc s1 ⟨H1,I1,q1⟩=>?_)]
 cases c with
 |true=>exact⟨H1,I1,q1⟩
 |false=>erw[hb wh pins s1 σ H1 Q I1 q1]
def zi9(ha:PT X a tA):PT X (.UnaryOp .Not a pos) (tNot tA):=by
 cbv
 erw[isTrue_not (ha pins s σ H (λc H1=>Q (!c) H1) I h)]
def zk2(ta tb:TE):TE:=λσ H Q=>ta σ H λx H1=>∃ c,x=.bl c/\if c=true then tb σ H1 Q else Q (.bl false) H1
def tOrV(ta tb:TE):TE:=λσ H Q=>ta σ H λx H1=>∃ c,x=.bl c/\if c=true then Q (.bl true) H1 else tb σ H1 Q
def zi0{op}(h:PE X a t):PE X (.BoolOp op [a] pos) t:=λpins s σ H Q I hw=>BoolOp_one (h pins s σ H Q I hw)
def ziZ(ha:PE X a ta)(hb:PE X (.BoolOp .And (b::rest) pos) tb):PE X (.BoolOp .And (a::b::rest) pos) (zk2 ta tb):=by
 cbv
 erw[BoolOp_and (thn (ha pins s σ H _ I h) λv s1 ⟨x,H1,I1,r1,q1⟩=>?_)]
 let⟨c,rfl,q1⟩:=q1
 cases r1
 erw[Xh ?_]
 cases c with
 |true=>erw[hb pins s1 σ H1 Q I1 q1]
 |false=>exact⟨.bl false,H1,I1,rfl,q1⟩
def zkD(ha:PE X a ta)(hb:PE X (.BoolOp .Or (b::rest) pos) tb):PE X (.BoolOp .Or (a::b::rest) pos) (tOrV ta tb):=by
 cbv
 erw[BoolOp_or (thn (ha pins s σ H _ I h) λv s1 ⟨x,H1,I1,r1,q1⟩=>?_)]
 let⟨c,rfl,q1⟩:=q1
 cases r1
 erw[Xh ?_]
 cases c with
 |false=>erw[hb pins s1 σ H1 Q I1 q1]
 |true=>exact⟨.bl true,H1,I1,rfl,q1⟩
def tIf(t:TT)(ta tb:TE):TE:=λσ H Q=>t σ H λc H1=>if c=true then ta σ H1 Q else tb σ H1 Q
def zes{c:Expr}(hc:PT X c tA)(ha:PE X a ta)(hb:PE X b tb):PE X (.IfExp c a b pos) (tIf tA ta tb):=by
 cbv
 erw[wpAny_IfExp (thn (hc pins s σ H _ I h) λd s1 ⟨H1,I1,q1⟩=>?_)]
 cases d with
 |true=>erw[ha pins s1 σ H1 Q I1 q1]
 |false=>erw[hb pins s1 σ H1 Q I1 q1]
end
def SqL(K:Ah)(H:Hp)(a:Ap)(xs:List V):Prop :=
 Rd H a (.lst xs) ∨
  ∃ (o:Obj) (its:Array Aj) (n:Nat),K.lookup a=some o/\o.cls=.type "list" /\o.dict=none/\o.data=.seq its n/\its.size<=sizeLine/\Vals xs its.toList
def SqT(K:Ah)(H:Hp)(a:Ap)(xs:List V):Prop :=
 Rd H a (.tup xs) ∨
  ∃ (o:Obj) (its:Array Aj) (n:Nat),K.lookup a=some o/\o.cls=.type "tuple" /\o.data=.seq its n/\its.size<=sizeLine/\Vals xs its.toList
def absV:Aj->Option V
 |.none=>some .non
 |.bool b=>some (.bl b)
 |.int i _=>some (.int i)
 |.str x _=>some (.str x)
 |.ref a=>some (.ref a)
 |.type n=>some (.ty n)
 |_=>none
def RelV.abs(r:RelV x u):absV u=some x:=by
 cases x with
 |non=>cases r;rfl
 |bl _=>cases r;rfl
 |int _=>let⟨t,rfl⟩:=r;rfl
 |str _=>let⟨t,rfl⟩:=r;rfl
 |ref _=>cases r;rfl
 |ty _=>cases r;rfl
def RelV.inj{x y:V}{u:Aj}(r:RelV x u)(q:RelV y u):x=y:=Option.some.inj (r.abs.symm.trans q.abs)
def Vals.inj:∀{xs ys:List V}{us:An},Vals xs us->Vals ys us->xs=ys
 |_,_,_,.nil,.nil=>rfl
 |_,_,_,.cons r t,.cons r' t'=>by rw[r.inj r',Vals.inj t t']
section
variable {X:Cx}{pins:Ak}{σ:St}{H:Hp}{s:Am}{a:Ap}{xs ys:List V}
def SqL.of{K:Ah}(h:H a=some (.lst xs)):SqL K H a xs:=.inl (.inl h)
def SqT.of{K:Ah}(h:H a=some (.tup xs)):SqT K H a xs:=.inl (.inl h)
def Inv.list(I:Inv X pins σ H s)(h:SqL X.K H a xs):∃ its:An,Vals xs its/\PlainL s.heap a its.toArray/\xs.length<=sizeLine:=by
 rcases h with h | ⟨o,its,n,hk,hc,hd,hs,hz,r⟩
 ·let⟨z,its,n,r,e⟩:=h.ok I.hok
  exact⟨its,r,⟨_,n,e,rfl,rfl,rfl⟩,z⟩
 ·refine⟨its.toList,r,⟨o,n,I.kIn a o hk,hc,hd,by simpa using hs⟩,?_⟩
  let e:=r.length
  simp only[Array.length_toList]at e
  lia
def Inv.tuple(I:Inv X pins σ H s)(h:SqT X.K H a xs):∃ its:An,Vals xs its/\IsTup s.heap a its.toArray/\xs.length<=sizeLine:=by
 rcases h with h | ⟨o,its,n,hk,hc,hs,hz,r⟩
 ·let⟨z,its,r,p⟩:=h.ok I.hok
  exact⟨its,r,p,z⟩
 ·refine⟨its.toList,r,⟨o,I.kIn a o hk,hc,n,by simpa using hs⟩,?_⟩
  let e:=r.length
  simp only[Array.length_toList]at e
  lia
def Inv.list_inj(I:Inv X pins σ H s)(h:SqL X.K H a xs)(h':SqL X.K H a ys):xs=ys:=by
 let⟨its,r,⟨o,n,e,_,_,d⟩,_⟩:=I.list h
 let⟨its',r',⟨o',n',e',_,_,d'⟩,_⟩:=I.list h'
 rw[e]at e';cases e'
 rw[d]at d'
 injection d' with d1 _
 have:its=its':=by simpa using congrArg Array.toList d1
 subst this
 erw[r.inj r']
def Inv.tuple_inj(I:Inv X pins σ H s)(h:SqT X.K H a xs)(h':SqT X.K H a ys):xs=ys:=by
 let⟨its,r,⟨o,e,_,n,d⟩,_⟩:=I.tuple h
 let⟨its',r',⟨o',e',_,n',d'⟩,_⟩:=I.tuple h'
 rw[e]at e';cases e'
 rw[d]at d'
 injection d' with d1 _
 have:its=its':=by simpa using congrArg Array.toList d1
 subst this
 erw[r.inj r']
end
noncomputable abbrev Cx.wish(X:Cx)(E:Af):Cx:={ X with xe:=E }
noncomputable abbrev Cx.nox(X:Cx):Cx:=X.wish λ_ _=>False
def Cx.Ok.wish{X:Cx}(ok:X.Ok)(E:Af):(X.wish E).Ok :=
 ⟨ok.mod,ok.kind,ok.glob,ok.blt,ok.above,ok.inj,ok.has,ok.cab,ok.hd,ok.frames,ok.stk,ok.exf,ok.bs,ok.bsz,ok.noex,ok.exfs,ok.funs,ok.frf⟩
def Cx.Ok.unwish{X:Cx}(ok:(X.wish E).Ok):X.Ok :=
 ⟨ok.mod,ok.kind,ok.glob,ok.blt,ok.above,ok.inj,ok.has,ok.cab,ok.hd,ok.frames,ok.stk,ok.exf,ok.bs,ok.bsz,ok.noex,ok.exfs,ok.funs,ok.frf⟩
section
variable {X:Cx}{pins:Ak}{σ:St}{H:Hp}{s:Am}{E:Af}
def Inv.wish(I:Inv X pins σ H s)(E:Af):Inv (X.wish E) pins σ H s:=⟨I.ok.wish E,I.os,I.bare,I.base,I.loc,I.cell,I.free,I.freeC,I.pin,I.hok,I.len⟩
def Inv.unwish(I:Inv (X.wish E) pins σ H s):Inv X pins σ H s:=⟨I.ok.unwish,I.os,I.bare,I.base,I.loc,I.cell,I.free,I.freeC,I.pin,I.hok,I.len⟩
def SP.unwish(h:SP (X.wish E) pins D f s'):SP X pins D f s':=by
 cases f with
 |next=>let⟨σ',H',I,q⟩:=h;exact⟨σ',H',I.unwish,q⟩
 |brk=>let⟨σ',H',I,q⟩:=h;exact⟨σ',H',I.unwish,q⟩
 |cont=>let⟨σ',H',I,q⟩:=h;exact⟨σ',H',I.unwish,q⟩
 |ret u=>let⟨v,σ',H',I,r,q⟩:=h;exact⟨v,σ',H',I.unwish,r,q⟩
def PSs.nox{st:List Stmt}(h:PSs X.nox st t):PSs X st t:=λpins s σ H D I hw=>
 Xc (h pins s σ H D (I.wish _) hw) (λ_ _ q=>q.unwish) λ_ _ z=>False.elim z
end
section
variable {X:Cx}{st:Stmt}{rest:List Stmt}{t u:TS}{e:Expr}{te:TE}{pos:Pos}
def zk7:TS:=λD σ H=>D.nx σ H
def tSeq(t u:TS):TS:=λD σ H=>t { D with nx:=u D } σ H
def pss_nil:PSs X [] zk7:=λ_ _ σ H _ I h=>wpAny_execs_nil ⟨σ,H,I,h⟩
def Qc(h1:PS X st t)(h2:PSs X rest u):PSs X (st::rest) (tSeq t u):=by
 intro pins s σ H D I h
 erw[wpAny_execs_cons (thn (h1 pins s σ H { D with nx:=u D } I h) λf s1 q=>?_)]
 cases f with
 |next=>
  let⟨σ',H',I',q⟩:=q
  erw[h2 pins s1 σ' H' D I' q]
 |ret v=>erw[q]
 |brk=>erw[q]
 |cont=>erw[q]
def wH(h1:PS X st t):PSs X [st] t:=by
 intro pins s σ H D I h
 erw[wpAny_execs_cons (thn (h1 pins s σ H D I h) λf s1 q=>?_)]
 cases f with
 |next=>erw[wpAny_execs_nil q]
 |ret v=>erw[q]
 |brk=>erw[q]
 |cont=>erw[q]
def Inv.quiet{pins:Ak}{σ:St}{H:Hp}{s:Am}(I:Inv X pins σ H s):interactive X.env=false:=by simp[interactive,I.ok.kind]
def zk6(te:TE):TS:=λD σ H=>te σ H λ_ H1=>D.nx σ H1
def Qr(he:PE X e te)(hs:swapsWith e none pos.line X.env=pure false:=by rfl):PS X (.Expr e pos) (zk6 te):=by
 intro pins s σ H D I h
 erw[wpAny_Expr_any (thn (he pins s σ H _ I h) λv s1 ⟨x,H1,I1,r1,q1⟩=>⟨σ,H1,I1,q1⟩) I.quiet hs]
def tRet(te:TE):TS:=λD σ H=>te σ H D.rt
def Kh(he:PE X e te):PS X (.Return (some e) pos) (tRet te):=by
 intro pins s σ H D I h
 erw[wpAny_Return_some (thn (he pins s σ H _ I h) λv s1 ⟨x,H1,I1,r1,q1⟩=>⟨x,σ,H1,I1,r1,q1⟩)]
def tIfS(c:TT)(t u:TS):TS:=λD σ H=>c σ H λb H1=>if b=true then t D σ H1 else u D σ H1
def zkE{c:Expr}{a b:List Stmt}{tc:TT}(hc:PT X c tc)(ha:PSs X a t)(hb:PSs X b u):PS X (.If c a b pos) (tIfS tc t u):=by
 intro pins s σ H D I h
 erw[wpAny_If (thn (hc pins s σ H _ I h) λd s1 ⟨H1,I1,q1⟩=>?_)]
 cases d with
 |true=>erw[ha pins s1 σ H1 D I1 q1]
 |false=>erw[hb pins s1 σ H1 D I1 q1]
end
abbrev TG:=V->St->Hp->(St->Hp->Prop)->Prop
abbrev TGs:=List V->St->Hp->(St->Hp->Prop)->Prop
def PG(X:Cx)(target:Expr)(t:TG):Prop :=
 ∀(pins:Ak)(s:Am)(σ:St)(H:Hp)(v:V)(u:Aj)(Q:St->Hp->Prop),Inv X pins σ H s->RelV v u->t v σ H Q ->
  ∅ (assign target X.env u) (λ_ s'=>∃ σ' H',Inv X pins σ' H' s'/\Q σ' H') X.xe s
def PGs(X:Cx)(ts:Ag)(t:TGs):Prop :=
 ∀(pins:Ak)(s:Am)(σ:St)(H:Hp)(vs:List V)(us:An)(Q:St->Hp->Prop),Inv X pins σ H s->Vals vs us->t vs σ H Q ->
  ∅ (assignInOrder ((assignEach ts X.env).map (·.2)) us) (λ_ s'=>∃ σ' H',Inv X pins σ' H' s'/\Q σ' H') X.xe s
abbrev zfC:=V->V->V->Hp->(Hp->Prop)->Prop
def zh2(X:Cx)(t:zfC):Prop :=
 ∀(pins:Ak)(s:Am)(σ:St)(H:Hp)(o i v:V)(ov iv u:Aj)(Q:Hp->Prop),Inv X pins σ H s->RelV o ov->RelV i iv->RelV v u->t o i v H Q ->
  ∅ (setItem ov iv u) (λ_ s'=>∃ H',Inv X pins σ H' s'/\Q H') X.xe s
section
variable {X:Cx}{pos:Pos}
def Wu(i:Nat):TG:=λv σ H Q=>Q (σ.set i (some v)) H
def K4(hN:X.N.Nodup)(hi:X.N[i]?=some x)(hx:Loc X.env.scope x)(hf:X.fn x=true∨X.env.scope.names.lookup x=some .local:=by first | exact .inl rfl | exact .inr rfl | assumption):PG X (.Name x pos) (Wu i):=by
 intro pins s σ H v u Q I r h
 erw[wpAny_assign_Name (Jh I hN hi hx r (λs' I'=>⟨_,H,I',h⟩) hf)]
def gNil:TGs:=λvs σ H Q=>vs= []/\Q σ H
def zkh(t:TG)(u:TGs):TGs:=λvs σ H Q=>∃ v r,vs=v::r/\t v σ H λσ' H'=>u r σ' H' Q
def pgs_nil:PGs X [] gNil:=by
 intro pins s σ H vs us Q I r h
 let⟨e,h⟩:=h
 subst e
 cases r
 erw[assignInOrder_nil ⟨σ,H,I,h⟩]
def zez{e:Expr}{es:Ag}{t:TG}{u:TGs}(h1:PG X e t)(h2:PGs X es u)
  (hs:(assignEach (e::es) X.env).map (·.2)=assign e X.env::(assignEach es X.env).map (·.2):=by rfl):PGs X (e::es) (zkh t u):=by
 intro pins s σ H vs us Q I r h
 let⟨v,vr,e1,h⟩:=h
 subst e1
 cases r with
 |cons r rr=>
  rw[hs]
  erw[assignInOrder_cons (thn (h1 pins s σ H _ _ _ I r h) λ_ s1 ⟨σ1,H1,I1,q1⟩=>?_)]
  erw[h2 pins s1 σ1 H1 _ _ Q I1 rr q1]
def gTup(K:Ah)(n:Nat)(t:TGs):TG:=λv σ H Q=>∃ a xs,v=.ref a/\SqT K H a xs/\xs.length=n/\t xs σ H Q
def zi4{k:Nat}{n:Nat}(hc:X.calm=true)(h:PGs X es t)
  (hn:(assignEach es X.env).length=n:=by rfl) (hst:(assignEach es X.env).findIdx? (·.1)=none:=by rfl):PG X (.Tuple es k pos) (gTup X.K n t):=by
 intro pins s σ H v u Q I r hw
 let⟨a,xs,e1,hq,hl,hw⟩:=hw
 subst e1
 cases r
 let⟨its,rv,ht,hz⟩:=I.tuple hq
 refine assign_Tuple_tuple (I.ok.hd hc) ht (by simp[hn,<- hl,rv.length]) hst λh' hx=>?_
 let I1:=I.kept (t':=s.toks) λb o e=>hx b o (xj (x5 e)) e
 exact h pins _ σ H xs _ Q I1 (by simpa using rv) hw
def zki(to ti:TE)(t:zfC):TG:=λv σ H Q=>to σ H λo H1=>ti σ H1 λi H2=>t o i v H2 λH3=>Q σ H3
def zi3{o i:Expr}{to ti:TE}{t:zfC}(ho:PE X o to)(hi:PE X i ti)(hs:zh2 X t)
  (ha:∀ v,assign (.Subscript o i pos) X.env v=(do
   let ov<-holding [v] (eval o X.env)
   let iv<-holding [v,ov] (eval i X.env)
   standAt pos
   holding [v,ov,iv] (setItem ov iv v)
   release [v,ov,iv] []):=by intro _;rfl):PG X (.Subscript o i pos) (zki to ti t):=by
 intro pins s σ H v u Q I r h
 rw[ha]
 erw[x3 (Xb (thn (ho pins s σ H _ I h) λov s1 ⟨x,H1,I1,r1,q1⟩=>?_))]
 erw[x3 (Xb (thn (hi pins s1 σ H1 _ I1 q1) λiv s2 ⟨y,H2,I2,r2,q2⟩=>?_))]
 erw[x3 (wpAny_standAt (x3 (Xb (thn (hs pins s2 σ H2 x y v ov iv u _ I2 r1 r2 r q2) λ_ s3 ⟨H3,I3,q3⟩=>?_))))]
 erw[wpAny_release ⟨σ,H3,I3,q3⟩]
def yB(te:TE)(g:TG):TS:=λD σ H=>te σ H λx H1=>g x σ H1 D.nx
def Kg{tg e:Expr}{te:TE}{g:TG}(he:PE X e te)(hg:PG X tg g)(hs:swapsWithSole [tg] e pos.line X.env=pure false:=by rfl)(hw:swappedStores [tg] e X.env=pure none:=by rfl)
    (h1:(assignEach [tg] X.env).map (·.2)= [assign tg X.env]:=by rfl):PS X (.Assign [tg] e pos) (yB te g):=by
  intro pins s σ H D I h
  erw[wpAny_Assign_stores (thn (he pins s σ H _ I h) λv s1 ⟨x,H1,I1,r1,q1⟩=>?_) hs hw]
  rw[h1]
  erw[thn (hg pins s1 σ H1 x v _ I1 r1 q1) λ_ s2 q=>q]
def WX{i:Nat}{x:Str}{e:Expr}{te:TE}{pos':Pos}(hN:X.N.Nodup)(hi:X.N[i]?=some x)(hx:Loc X.env.scope x)(he:PE X e te)(hs:swapsWith e (some (.Name x pos')) pos.line X.env=pure false:=by rfl)(hf:X.fn x=true∨X.env.scope.names.lookup x=some .local:=by first | exact .inl rfl | exact .inr rfl | assumption) :
    PS X (.Assign [.Name x pos'] e pos) (yB te (Wu i)):=by
  intro pins s σ H D I h
  erw[wpAny_Assign_Name (thn (he pins s σ H _ I h) λv s1 ⟨y,H1,I1,r1,q1⟩=>?_) hs]
  erw[Jh I1 hN hi hx r1 (λs2 I2=>⟨_,H1,I2,q1⟩) hf]
end
section
end
structure It where
 go:Nat->Hp->Prop
 yld:Nat->Hp->V->Hp->Prop
 stop:Nat->Hp->Prop
def Jm(X:Cx)(pins:Ak)(H:Hp)(b:Ap):Prop :=
 H b=none/\b≠X.env.locals/\b∉X.fs/\(b∈X.ex∨X.s₀.heap.objs.size<=b)/\(∀ x c,X.env.cells.lookup x=some c->c≠b)/\∀ p∈X.pn++pins,p.1≠b
def Inv.fpOk{X:Cx}{pins:Ak}{σ:St}{H H':Hp}{s:Am}{b:Ap}(I:Inv X pins σ H s)(hb:⇑s<=b)(hn:H' b=none):Jm X pins H' b:=by
 refine⟨hn,uW (xt I.lt hb),I.nofs hb,.inr (xH I.sz hb),λx c e z=>?_,λp hp z=>?_⟩
 ·let⟨v,q⟩:=I.cell x c e
  exact absurd (xt q.lt (by rw[z];exact hb)) (ue _)
 ·exact absurd (xt (x5 (I.pin p hp).1) (by rw[z];exact hb)) (ue _)
structure wU(P:Ar)(w:World)(K:Ah)(tg:Expr)(J:It)(fp:List Ap)(it:Ap)(tn:Nat->Heap->Prop):Prop where
 mem:it∈fp
 obj:∀ i h,tn i h->∀ b∈fp,∃ o,h.get? b=some o/\∀ v,o.data≠ .cell v
 keep:∀ i h h',tn i h->(∀ b∈fp,∀ o,h.get? b=some o->h'.get? b=some o)->tn i h'
 item:∀(X:Cx),X.prog=P->X.w=w->X.K=K->X.calm=true->∀(i:Nat)(pins:Ak)(s:Am)(σ:St)(H:Hp)(E:Af),Inv X pins σ H s->(∀ b∈fp,Jm X pins H b)->tn i s.heap->J.go i H ->
  wpAny (model P w) X.A (pyNext (.ref it)) (λr s1=>∃ u,r=some u /\
   wpAny (model P w) X.A (letOwnedTupleGo tg (.ref it) u) (λ_ s2=>∃ x H',Inv X pins σ H' s2/\RelV x u/\J.yld i H x H'/\tn (i+1) s2.heap/\∀ b∈fp,H' b=none) E s1) E s
 done:∀(X:Cx),X.prog=P->X.w=w->X.K=K->X.calm=true->∀(i:Nat)(pins:Ak)(s:Am)(σ:St)(H:Hp)(E:Af),Inv X pins σ H s->(∀ b∈fp,Jm X pins H b)->tn i s.heap->J.stop i H ->
  wpAny (model P w) X.A (pyNext (.ref it)) (λr s1=>r=none/\Inv X pins σ H s1) E s
 self:∀(A:Around)(i:Nat)(s:Am)(Q:Af)(E:Af),tn i s.heap->Q (.ref it) s->wpAny (model P w) A (pyIter (.ref it)) Q E s
abbrev TI:=St->Hp->(It->Hp->Prop)->Prop
def PIE(X:Cx)(pins:Ak)(σ:St)(tg:Expr)(R:It->Hp->Prop)(itv:Aj)(s2:Am):Prop :=
 ∃(it:Ap)(fp:List Ap)(tn:Nat->Heap->Prop)(J:It)(H':Hp),itv=.ref it/\Inv X pins σ H' s2/\wU X.prog X.w X.K tg J fp it tn/\tn 0 s2.heap/\(∀ b∈fp,Jm X pins H' b)/\R J H'
def PI(X:Cx)(tg iter:Expr)(wi:TI):Prop :=
 ∀(pins:Ak)(s:Am)(σ:St)(H:Hp)(R:It->Hp->Prop),Inv X pins σ H s->wi σ H R ->
  ∅ (eval iter X.env) (λv s1=>∅ (pyIter v) (PIE X pins σ tg R) X.xe s1) X.xe s
def Ya{M:Model}{A:Around}{E:Af}{tg:Expr}{u:Aj}{Q:Unit->Am->Prop}(ho:s.heap.get? it=some o)(hc:o.cls=.type n)(hd:o.data=.fields vs)
    (hn: ["enumerate","zip","dict_itemiterator","dict_reverseitemiterator","odict_iterator","itertools.zip_longest","itertools.pairwise"].contains n=false) (hQ:Q () s):wpAny M A (letOwnedTupleGo tg (.ref it) u) Q E s:=by
  unfold letOwnedTupleGo
  cases tg<;>first
    |exact x6 hQ
    | (cases u<;>first
        |exact x6 hQ
        | (refine x3 (wpAny_load ho ?_)
           rw[hc,hd]
           show wpAny M A (if (["enumerate","zip","dict_itemiterator","dict_reverseitemiterator","odict_iterator","itertools.zip_longest","itertools.pairwise"].contains n&&vs[0]?==some (rawInt _))=true then _ else _) Q E s
           rw[if_neg (by intro h;rw[hn,Bool.false_and]at h;cases h)]
           exact x6 hQ))
def Itl(K:Ah)(a:Ap):It :=
 ⟨λi H=>∃ xs x,SqL K H a xs/\xs[i]?=some x,λi H x H'=>H'=H/\∀ xs,SqL K H a xs->xs[i]?=some x,λi H=>∃ xs,SqL K H a xs/\xs.length<=i⟩
def Itt(K:Ah)(a:Ap):It :=
 ⟨λi H=>∃ xs x,SqT K H a xs/\xs[i]?=some x,λi H x H'=>H'=H/\∀ xs,SqT K H a xs->xs[i]?=some x,λi H=>∃ xs,SqT K H a xs/\xs.length<=i⟩
def Itr(lo:Int)(n:Nat):It:=⟨λi _=>i<n,λi H x H'=>H'=H/\x=.int (lo+i),λi _=>n<=i⟩
def zch{P:Ar}{w:World}{K:Ah}{tg:Expr}(a it:Ap):wU P w K tg (Itl K a) [it] it (λi h=>h.IsListIter it a i) where
 mem:=by simp
 obj:=λi h st b hb=>by
  let e:b=it:=by simpa using hb
  subst e
  let⟨o,e,c,d⟩:=st
  exact⟨o,e,λv z=>by rw[d]at z;cases z⟩
 keep:=λi h h' st k=>st.at λo e=>k it (by simp) o e
 item:=by
  intro X hP hw hK hc i pins s σ H E I hf st hg
  subst hP hw hK
  let⟨xs,x,hq,hx⟩:=hg
  let⟨its,rv,p,hz⟩:=I.list hq
  let⟨u,hu,ru⟩:=rv.get hx
  let⟨f0,f1,f2,f3,f4,f5⟩:=hf it (by simp)
  refine wpAny_pyNext_list_item st p.isList (x:=u) (by simpa using hu) λh' st' sb=>?_
  let I1:=I.turned (t':=s.toks) (λb o hb e=>(sb.2 b hb).trans e) f0 f1 f3 f4 f5
  let⟨o,e,c,d⟩:=id st'
  exact⟨u,rfl,Ya e c d (by decide) ⟨x,H,I1,ru,⟨rfl,λys hy=>by rw[I.list_inj hy hq];exact hx⟩,st',λb hb=>(hf b hb).1⟩⟩
 done:=by
  intro X hP hw hK hc i pins s σ H E I hf st hg
  subst hP hw hK
  let⟨xs,hq,hx⟩:=hg
  let⟨its,rv,p,hz⟩:=I.list hq
  let⟨f0,f1,f2,f3,f4,f5⟩:=hf it (by simp)
  let hl:=rv.length
  exact wpAny_pyNext_list_end (I.ok.hd hc) st p.isList (by simp;lia) λh' eb=>⟨rfl,I.turned (t':=s.toks) (λb o hb e=>eb b o hb e) f0 f1 f3 f4 f5⟩
 self:=λ_ _ _ _ _ st h=>wpAny_pyIter_listiter st h
def Kv{P:Ar}{w:World}{K:Ah}{tg:Expr}(a it:Ap):wU P w K tg (Itt K a) [it] it (λi h=>h.IsTupleIter it a i) where
 mem:=by simp
 obj:=λi h st b hb=>by
  let e:b=it:=by simpa using hb
  subst e
  let⟨o,e,c,d⟩:=st
  exact⟨o,e,λv z=>by rw[d]at z;cases z⟩
 keep:=λi h h' st k=>st.at λo e=>k it (by simp) o e
 item:=by
  intro X hP hw hK hc i pins s σ H E I hf st hg
  subst hP hw hK
  let⟨xs,x,hq,hx⟩:=hg
  let⟨its,rv,p,hz⟩:=I.tuple hq
  let⟨u,hu,ru⟩:=rv.get hx
  let⟨f0,f1,f2,f3,f4,f5⟩:=hf it (by simp)
  refine wpAny_pyNext_tuple_item st (show s.heap.IsTuple a its.toArray from p) (x:=u) (by simpa using hu) λh' st' sb=>?_
  let I1:=I.turned (t':=s.toks) (λb o hb e=>(sb.2 b hb).trans e) f0 f1 f3 f4 f5
  let⟨o,e,c,d⟩:=id st'
  exact⟨u,rfl,Ya e c d (by decide) ⟨x,H,I1,ru,⟨rfl,λys hy=>by rw[I.tuple_inj hy hq];exact hx⟩,st',λb hb=>(hf b hb).1⟩⟩
 done:=by
  intro X hP hw hK hc i pins s σ H E I hf st hg
  subst hP hw hK
  let⟨xs,hq,hx⟩:=hg
  let⟨its,rv,p,hz⟩:=I.tuple hq
  let⟨f0,f1,f2,f3,f4,f5⟩:=hf it (by simp)
  let hl:=rv.length
  exact wpAny_pyNext_tuple_end (I.ok.hd hc) st (show s.heap.IsTuple a its.toArray from p) (by simp;lia) λh' eb=>⟨rfl,I.turned (t':=s.toks) (λb o hb e=>eb b o hb e) f0 f1 f3 f4 f5⟩
 self:=λ_ _ _ _ _ st h=>wpAny_pyIter_tupleiter st h
def Ku{w:World}{K:Ah}(it:Ap)(lo:Int)(n:Nat):wU P w K tg (Itr lo n) [it] it (λi h=>IsRangeIter h it (lo+(i:Nat)*1) ((n:Int)-(i:Nat)) 1) where
 mem:=by simp
 obj:=λi h st b hb=>by
  let e:b=it:=by simpa using hb
  subst e
  exact⟨_,st,λv z=>by
   let z':Data.fields _=Data.cell v:=z
   cases z'⟩
 keep:=λi h h' st k=>k it (by simp) _ st
 item:=by
  intro X hP hw hK hc i pins s σ H E I hf st hg
  subst hP hw hK
  let⟨f0,f1,f2,f3,f4,f5⟩:=hf it (by simp)
  let W:=Walks.range (prog:=X.prog) (w:=X.w) (I.ok.hd hc) it lo 1 n
  erw[W.item i s _ _ hg st λv h' tk hv st' kk=>?_]
  let⟨t,rfl⟩:=hv
  let I1:Inv X pins σ H { s with heap:=h',toks:=tk }:=I.turned (λb o hb e=>kk b o (by simpa using hb) e) f0 f1 f3 f4 f5
  refine⟨_,rfl,Ya (s:={ s with heap:=h',toks:=tk }) (n:= "range_iterator") st' rfl rfl (by decide) ⟨.int (lo+i),H,I1,⟨t,?_⟩,⟨rfl,rfl⟩,st',λb hb=>(hf b hb).1⟩⟩
  rw[Int.mul_one]
 done:=by
  intro X hP hw hK hc i pins s σ H E I hf st hg
  subst hP hw hK
  let⟨f0,f1,f2,f3,f4,f5⟩:=hf it (by simp)
  exact wpAny_pyNext_range_end (I.ok.hd hc) st (by have:n<=i:=hg;lia) λh' eb=>⟨rfl,I.turned (t':=s.toks) (λb o hb e=>eb b o hb e) f0 f1 f3 f4 f5⟩
 self:=λ_ _ _ _ _ st h=>wpAny_pyIter_rangeiter st h
section
variable {X:Cx}{tg:Expr}
def zkm(K:Ah)(tl:TE):TI:=λσ H R=>tl σ H λx H1=>∃ a,x=.ref a/\(∃ xs,SqL K H1 a xs)/\R (Itl K a) H1
def iTup(K:Ah)(tl:TE):TI:=λσ H R=>tl σ H λx H1=>∃ a,x=.ref a/\(∃ xs,SqT K H1 a xs)/\R (Itt K a) H1
def K5{l:Expr}{tl:TE}(hl:PE X l tl):PI X tg l (zkm X.K tl):=by
 intro pins s σ H R I h
 erw[thn (hl pins s σ H _ I h) λv s1 ⟨x,H1,I1,r1,q1⟩=>?_]
 let⟨a,e,⟨xs,hq⟩,q⟩:=q1
 subst e
 cases r1
 let⟨its,rv,p,hz⟩:=I1.list hq
 erw[wpAny_pyIter_list p.isList ?_]
 refine⟨⇑s1,[⇑s1],_,_,H1,rfl,I1.kept λb o e=>x4 _ e,zch a _,⟨_,x8 _ rfl,rfl,rfl⟩,λb hb=>?_,q⟩
 let e:b=⇑s1:=by simpa using hb
 subst e
 erw[I1.fpOk (xg _) (I1.hok.fresh (xg _))]
def zi5{l:Expr}{tl:TE}(hl:PE X l tl):PI X tg l (iTup X.K tl):=by
 intro pins s σ H R I h
 erw[thn (hl pins s σ H _ I h) λv s1 ⟨x,H1,I1,r1,q1⟩=>?_]
 let⟨a,e,⟨xs,hq⟩,q⟩:=q1
 subst e
 cases r1
 let⟨its,rv,p,hz⟩:=I1.tuple hq
 erw[wpAny_pyIter_tuple (show s1.heap.IsTuple a its.toArray from p) ?_]
 refine⟨⇑s1,[⇑s1],_,_,H1,rfl,I1.kept λb o e=>x4 _ e,Kv a _,⟨_,x8 _ rfl,rfl,rfl⟩,λb hb=>?_,q⟩
 let e:b=⇑s1:=by simpa using hb
 subst e
 erw[I1.fpOk (xg _) (I1.hok.fresh (xg _))]
def zeM{pins:Ak}{σ:St}{H:Hp}{s:Am}{R:It->Hp->Prop}{E:Af}{lo hi:Int}{t u v:Tok}{tk:Nat}(I:Inv X pins σ H s)(h1: -(2 ^ 62)<=lo)(h2:lo<2 ^ 62)(h3: -(2 ^ 62)<=hi)(h4:hi<2 ^ 62)
  (q:R (Itr lo (hi-lo).toNat) H):∅ (pyIter (.ref ⇑s)) (PIE X pins σ tg R) E { s with heap:=s.heap.push { cls:=.type "range",data:=.fields #[.int lo t,.int hi u,.int 1 v] },toks:=tk }:=by
 erw[wpAny_pyIter_range (IsRange.new ..) (small_one h1 h2 h3 h4) ?_]
 let I1:Inv X pins σ H { s with heap:=s.heap.push { cls:=.type "range",data:=.fields #[.int lo t,.int hi u,.int 1 v] },toks:=tk }:=I.kept λb o e=>x4 _ e
 refine⟨(s.heap.push { cls:=.type "range",data:=.fields #[.int lo t,.int hi u,.int 1 v] }).objs.size,[(s.heap.push { cls:=.type "range",data:=.fields #[.int lo t,.int hi u,.int 1 v] }).objs.size],_,_,H,rfl,
  I1.kept λb o e=>x4 _ e,Ku _ lo (hi-lo).toNat,?_,λb hb=>?_,q⟩
 ·let e1:lo+((0:Nat):Int)*1=lo:=by simp
  let e2:(((hi-lo).toNat:Nat):Int)-((0:Nat):Int)=Builtin.Range.rangeSize lo hi 1:=by rw[rangeSize_one];split<;>lia
  rw[e1,e2]
  erw[x8 _ rfl]
 ·let e:b=(s.heap.push { cls:=.type "range",data:=.fields #[.int lo t,.int hi u,.int 1 v] }).objs.size:=by simpa using hb
  subst e
  erw[I1.fpOk (xg _) (I1.hok.fresh (xg _))]
def zkn(ta:TA):TI:=λσ H R=>ta σ H λvs H1=>∃ j:Int,vs= [.int j]/\ -(2 ^ 62)<=j/\j<2 ^ 62/\R (Itr 0 j.toNat) H1
def zbU {a:Expr}{ta:TA}{p pos:Pos}(hg:Gl X "range") (hm:X.mg "range" =none) (ha:PA X [a] ta) (hs:a⁻¹:=by rfl):PI X tg (.Call (.Name "range" p) [a] [] pos) (zkn ta):=by
 intro pins s σ H R I h
 erw[Call_ (QM I hg hm boot_range (PyProof.Rows.callWith_type1 (thn (ha pos pins s σ H _ I h) λus s1 ⟨vs,H1,I1,r1,q1⟩=>?_) hs rfl))]
 let⟨j,e,q1,q2,q⟩:=q1
 subst e
 cases r1 with
 |cons r rr=>
  cases rr
  let⟨t,rfl⟩:=r
  exact call_range_1 (zeM I1 (by lia) (by lia) q1 q2 (by simpa using q))
def tFor(wi:TI)(g:TG)(tb:TS):TS:=λD σ H=>wi σ H λJ H1=>∃ W:Nat->Nat->St->Hp->Prop,(∃ m,W 0 m σ H1)/\∀ i m σ H,W i m σ H ->
 (J.stop i H/\D.nx σ H)∨(J.go i H/\∃ N:St->Hp->Prop,(∀ σ' H',N σ' H'->∃ m',m'<m/\W (i+1) m' σ' H')/\∀ x H',J.yld i H x H'->g x σ H' λσ2 H2=>tb { D with nx:=N,ct:=N,bk:=D.nx } σ2 H2)
def WT(fp:List Ap)(h:Heap):Ak:=fp.filterMap λb=>(h.get? b).map λo=>(b,o)
def jW{fp:List Ap}{h:Heap}{b:Ap}{o:Obj}(hb:b∈fp)(e:h.get? b=some o):(b,o)∈WT fp h:=List.mem_filterMap.mpr ⟨b,hb,by rw[e];rfl⟩
def zbN(hp:p∈WT fp h):p.1∈fp/\h.get? p.1=some p.2:=by
 let⟨b,hb,e⟩:=List.mem_filterMap.mp hp
 cases q:h.get? b with
 |none=>rw[q]at e;cases e
 |some o=>
  rw[q]at e
  let e':=Option.some.inj e
  subst e'
  exact⟨hb,q⟩
def Inv.pinned{pins:Ak}{σ:St}{H:Hp}{s:Am}{fp:List Ap}(I:Inv X pins σ H s)(hf:∀ b∈fp,Jm X pins H b)(ho:∀ b∈fp,∃ o,s.heap.get? b=some o/\∀ v,o.data≠ .cell v):Inv X (pins++WT fp s.heap) σ H s :=
 I.pins_of λp hp=>(xF.mp hp).elim (λz=>I.pin p (xA _ z)) λz=>by
  let⟨hb,e⟩:=zbN z
  let⟨f0,f1,f2,_⟩:=hf p.1 hb
  let⟨o,e',d⟩:=ho p.1 hb
  rw[e]at e';cases e'
  exact⟨e,f0,f1,f2,d⟩
def Inv.unpinned{pins pl:Ak}{σ:St}{H:Hp}{s:Am}(I:Inv X (pins++pl) σ H s):Inv X pins σ H s:=I.pins_of λp hp=>I.pin p (xA _ (uf _ hp))
def zeG{iter:Expr}{body:List Stmt}{wi:TI}{g:TG}{tb:TS}{pos:Pos}(hp:PassesOwn (model X.prog X.w) X.A X.env X.xe)(hc:X.calm=true)(hi:PI X tg iter wi)(hg:PG X tg g)(hb:PSs X body tb)
  (hs:∀ x,foldedSetIterable iter X.env x=pure x:=by intro _;rfl):PS X (.For tg iter body [] pos) (tFor wi g tb):=by
 intro pins s σ H D I h
 erw[wpAny_For (thn (hi pins s σ H _ I h) λv s1 h1=>thn h1 λitv s2 h2=>?_) hs]
 let⟨it,fp,tn,J,H2,e,I2,T,st2,f2,W,⟨m0,w0⟩,turn⟩:=h2
 subst e
 -- what stays true of the iterator's objects through the loop
 let stat:∀{H':Hp},(∀ b∈fp,H' b=none)->∀ b∈fp,Jm X pins H' b:=λhn b hb=>⟨hn b hb,(f2 b hb).2⟩
 erw[codeAny_forLoop_any (λn s'=>∃ i σ' H',Inv X pins σ' H' s'/\tn i s'.heap/\(∀ b∈fp,H' b=none)/\W i n σ' H') ?_ m0 ⟨0,σ,H2,I2,st2,λb hb=>(f2 b hb).1,w0⟩]
 rintro n s3 ⟨i,σ3,H3,I3,st3,fr3,w3⟩
 rcases turn i n σ3 H3 w3 with ⟨stop,qn⟩ | ⟨go,N,hN,step⟩
 ·refine wpAny_passesOwn hp (thn (T.done X rfl rfl rfl hc i pins s3 σ3 H3 X.xe I3 (stat fr3) st3 stop) λr s4 ⟨hr,I4⟩=>?_)
  subst hr
  erw[wpAny_execs_nil ⟨σ3,H3,I4,qn⟩]
 ·refine wpAny_passesOwn hp (thn (T.item X rfl rfl rfl hc i pins s3 σ3 H3 X.xe I3 (stat fr3) st3 go) λr s4 ⟨u,hr,h4⟩=>?_)
  subst hr
  erw[wpAny_passesOwn hp (thn h4 λ_ s5 ⟨x,H5,I5,r5,y5,st5,fr5⟩=>?_)]
  let I5':=I5.pinned (stat fr5) (T.obj _ _ st5)
  erw[wpAny_passesOwn hp (thn (hg _ s5 σ3 H5 x u _ I5' r5 (step x H5 y5)) λ_ s6 ⟨σ6,H6,I6,q6⟩=>?_)]
  erw[wpAny_passesOwn hp (thn (hb _ s6 σ6 H6 _ I6 q6) λf s7 q7=>?_)]
  let again:∀{σ7:St}{H7:Hp},Inv X (pins++WT fp s5.heap) σ7 H7 s7->N σ7 H7->∃ m,m<n/\∃ i σ' H',Inv X pins σ' H' s7/\tn i s7.heap/\(∀ b∈fp,H' b=none)/\W i m σ' H':=λ{σ7 H7} I7 n7=>by
   let⟨m',hm,w7⟩:=hN σ7 H7 n7
   refine⟨m',hm,i+1,σ7,H7,I7.unpinned,T.keep _ _ _ st5 λb hb o e=>(I7.pin (b,o) (xA _ (xA _ (jW hb e)))).1,λb hb=>?_,w7⟩
   let⟨o,e,d⟩:=T.obj _ _ st5 b hb
   erw[(I7.pin (b,o) (xA _ (xA _ (jW hb e)))).2.1]
  cases f with
  |next=>let⟨σ7,H7,I7,n7⟩:=q7;exact again I7 n7
  |cont=>let⟨σ7,H7,I7,n7⟩:=q7;exact again I7 n7
  |brk=>let⟨σ7,H7,I7,q7⟩:=q7;exact⟨σ7,H7,I7.unpinned,q7⟩
  |ret v=>let⟨x7,σ7,H7,I7,r7,q7⟩:=q7;exact⟨x7,σ7,H7,I7.unpinned,r7,q7⟩
end
def zdQ{K:Ah}{g:TG}{tb:TS}{D:QX}{σ:St}{H:Hp}(Pv:Nat->St->Hp->Prop)(h0:Pv 0 σ H)(hl:∀ i σ H,i<=xs.length->Pv i σ H->SqL K H a xs)
  (hs:∀ i x σ H,xs[i]?=some x->Pv i σ H->g x σ H λσ2 H2=>tb { D with nx:=Pv (i+1),ct:=Pv (i+1),bk:=D.nx } σ2 H2) (hd:∀ σ H,Pv xs.length σ H->D.nx σ H) :
  ∃ W:Nat->Nat->St->Hp->Prop,(∃ m,W 0 m σ H)/\∀ i m σ H,W i m σ H ->
   ((Itl K a).stop i H/\D.nx σ H)∨((Itl K a).go i H/\∃ N:St->Hp->Prop,(∀ σ' H',N σ' H'->∃ m',m'<m/\W (i+1) m' σ' H')/\∀ x H',(Itl K a).yld i H x H'->g x σ H' λσ2 H2=>tb { D with nx:=N,ct:=N,bk:=D.nx } σ2 H2):=by
 refine⟨λi m σ H=>m=xs.length-i/\i<=xs.length/\Pv i σ H,⟨xs.length,by simp,ub _,h0⟩,?_⟩
 rintro i m σ H ⟨rfl,hi,p⟩
 let q:=hl i σ H hi p
 by_cases hlt:i<xs.length
 ·refine .inr ⟨⟨xs,xs[i],q,by simp[hlt]⟩,Pv (i+1),λσ' H' p'=>⟨xs.length-(i+1),by lia,rfl,hlt,p'⟩,λx H' y=>?_⟩
  let⟨e,y⟩:=y
  subst e
  erw[hs i x σ _ (y xs q) p]
 ·let e:i=xs.length:=by lia
  subst e
  erw[.inl ⟨⟨xs,q,xg _⟩,hd σ H p⟩]
abbrev R2:=V->V->Hp->VK->Prop
def OpR(X:Cx)(f:Aj->Aj->Sem Aj)(r:R2):Prop :=
 ∀(pins:Ak)(s:Am)(σ:St)(H:Hp)(x y:V)(v u:Aj)(Q:VK),Inv X pins σ H s->RelV x v->RelV y u->r x y H Q ->
  ∅ (f v u) (EP X pins σ Q) X.xe s
def UnR(X:Cx)(f:Aj->Sem Aj)(r:V->Hp->VK->Prop):Prop :=
 ∀(pins:Ak)(s:Am)(σ:St)(H:Hp)(x:V)(v:Aj)(Q:VK),Inv X pins σ H s->RelV x v->r x H Q ->
  ∅ (f v) (EP X pins σ Q) X.xe s
def ji(X:Cx)(f:Aj)(r:List V->Hp->VK->Prop):Prop :=
 ∀(pins:Ak)(s:Am)(σ:St)(H:Hp)(xs:List V)(us:An)(Q:VK),Inv X pins σ H s->Vals xs us->r xs H Q ->
  ∅ (call f us) (EP X pins σ Q) X.xe s
def TruR(X:Cx)(r:V->Hp->(Bool->Hp->Prop)->Prop):Prop :=
 ∀(pins:Ak)(s:Am)(σ:St)(H:Hp)(x:V)(v:Aj)(Q:Bool->Hp->Prop),Inv X pins σ H s->RelV x v->r x H Q ->
  ∅ (truthy v) (TP X pins σ Q) X.xe s
def tOp(r:R2)(ta tb:TE):TE:=λσ H Q=>ta σ H λx H1=>tb σ H1 λy H2=>r x y H2 Q
def tUn(r:V->Hp->VK->Prop)(ta:TE):TE:=λσ H Q=>ta σ H λx H1=>r x H1 Q
def rI(C:Int->Int->Prop)(g:Int->Int->V):R2:=λx y H Q=>∃ i j,x=.int i/\y=.int j/\C i j/\Q (g i j) H
def rI0(g:Int->Int->V):R2:=λx y H Q=>∃ i j,x=.int i/\y=.int j/\Q (g i j) H
def rU(g:Int->V):V->Hp->VK->Prop:=λx H Q=>∃ i,x=.int i/\Q (g i) H
section
variable {X:Cx}{a b:Expr}{ta tb:TE}{pos:Pos}
def zh7(ha:PE X a ta)(hb:PE X b tb){pins:Ak}{s:Am}{σ:St}{H:Hp}{R:V->V->Hp->Prop}(I:Inv X pins σ H s)
  (h:ta σ H λx H1=>tb σ H1 λy H2=>R x y H2) {Q:Af} {f:Aj->Aj->Sem Aj}
  (hf:∀ v u s2 x y H2,Inv X pins σ H2 s2->RelV x v->RelV y u->R x y H2->∅ (f v u) Q X.xe s2) :
  ∅ (eval a X.env) (λv s₁=>∅ (eval b X.env) (λu s₂=>∅ (f v u) Q X.xe s₂) X.xe s₁) X.xe s:=by
 erw[thn (ha pins s σ H _ I h) λv s1 ⟨x,H1,I1,r1,q1⟩=>?_]
 erw[thn (hb pins s1 σ H1 _ I1 q1) λu s2 ⟨y,H2,I2,r2,q2⟩=>?_]
 erw[hf v u s2 x y H2 I2 r1 r2 q2]
def WR(ho:OpR X (binaryOp op) r)(ha:PE X a ta)(hb:PE X b tb):PE X (.BinOp a op b pos) (tOp r ta tb):=by
 cbv
 erw[wpAny_BinOp (zh7 ha hb I h λv u s2 x y H2 I2 rx ry q=>ho pins s2 σ H2 x y v u Q I2 rx ry q)]
def zew{op:UnaryOp}{r:V->Hp->VK->Prop}(ho:UnR X (unaryOp op) r)(ha:PE X a ta):PE X (.UnaryOp op a pos) (tUn r ta):=by
 cbv
 erw[UnaryOp_ (thn (ha pins s σ H _ I h) λv s1 ⟨x,H1,I1,r1,q1⟩=>ho pins s1 σ H1 x v Q I1 r1 q1)]
def opI{f:Aj->Aj->Sem Aj}{C:Int->Int->Prop}{g:Int->Int->Int}
  (rule:∀(i j:Int)(t u:Tok)(s:Am)(Q:Af)(E:Af),C i j->Q (.int (g i j) s.toks) { s with toks:=s.toks+1 }->∅ (f (.int i t) (.int j u)) Q E s) :
  OpR X f (rI C λi j=>.int (g i j)):=by
 intro pins s σ H x y v u Q I rx ry h
 let⟨i,j,rfl,rfl,hc,q⟩:=h
 let⟨t,rfl⟩:=rx
 let⟨t',rfl⟩:=ry
 erw[rule i j t t' s _ _ hc ⟨.int (g i j),H,I.tok _,⟨_,rfl⟩,q⟩]
def ziP{f:Aj->Aj->Sem Aj}{g:Int->Int->Int}
  (rule:∀(i j:Int)(t u:Tok)(s:Am)(Q:Af)(E:Af),Q (.int (g i j) s.toks) { s with toks:=s.toks+1 }->∅ (f (.int i t) (.int j u)) Q E s) :
  OpR X f (rI0 λi j=>.int (g i j)):=by
 intro pins s σ H x y v u Q I rx ry h
 let⟨i,j,rfl,rfl,q⟩:=h
 let⟨t,rfl⟩:=rx
 let⟨t',rfl⟩:=ry
 erw[rule i j t t' s _ _ ⟨.int (g i j),H,I.tok _,⟨_,rfl⟩,q⟩]
def zgp{f:Aj->Aj->Sem Aj}{g:Int->Int->Bool}
  (rule:∀(i j:Int)(t u:Tok)(s:Am)(Q:Af)(E:Af),Q (.bool (g i j)) s->∅ (f (.int i t) (.int j u)) Q E s) :
  OpR X f (rI0 λi j=>.bl (g i j)):=by
 intro pins s σ H x y v u Q I rx ry h
 let⟨i,j,rfl,rfl,q⟩:=h
 let⟨t,rfl⟩:=rx
 let⟨t',rfl⟩:=ry
 erw[rule i j t t' s _ _ ⟨.bl (g i j),H,I,rfl,q⟩]
def CDiv(i j:Int):Prop:=0<j/\j<1073741824
def zj1(i j:Int):Prop:=0<=j/\j<=1000000/\i.natAbs<2 ^ 64
def CMul(i j:Int):Prop:=(-(2 ^ 64)<i/\i<2 ^ 64)∨(-(2 ^ 64)<j/\j<2 ^ 64)
def CMul.ok{i j:Int}(h:CMul i j):IntMulOk i j:=by
 rcases h with ⟨h1,h2⟩ | ⟨h1,h2⟩
 ·erw[.of_left (intBits_le_64 h1 h2)]
 ·erw[.of_right (intBits_le_64 h1 h2)]
def Kw(k:Nat):(0:Int)<=2 ^ k:=by
 rw[two_pow_cast]
 erw[Int.natCast_nonneg _]
def Kc:OpR X (binaryOp .Add) (rI0 λi j=>.int (i+j)):=ziP λ_ _ _ _ _ _ _ q=>add_int q
def ziY:OpR X (binaryOp .Sub) (rI0 λi j=>.int (i-j)):=ziP λ_ _ _ _ _ _ _ q=>sub_int q
def zej:OpR X (binaryOp .Mult) (rI CMul λi j=>.int (i*j)):=opI λ_ _ _ _ _ _ _ hc q=>mul_int q hc.ok
def zgr:OpR X (binaryOp .FloorDiv) (rI CDiv λi j=>.int (i / j)):=opI λi j _ _ _ _ _ hc q=>by
 let h1:=hc.1
 let h2:=hc.2
 exact floordiv_int (by lia) (by rw[Int.fdiv_eq_ediv_of_nonneg i (by lia)];exact q) (.inl (PyProof.noPylong_small (by lia)))
def zei:OpR X (binaryOp .Mod) (rI (λ_ j=>0<j) λi j=>.int (i % j)):=opI λi j _ _ _ _ _ hc q=>by
 let h1:=hc
 exact mod_int' (by lia) (by rw[Int.fmod_eq_emod_of_nonneg i (by lia)];exact q)
def ziU:OpR X (binaryOp .Pow) (rI zj1 λi j=>.int (i ^ j.toNat)):=opI λ_ _ _ _ _ _ _ hc q=>pow_int_small hc.1 hc.2.1 hc.2.2 q
def ziV:OpR X (binaryOp .LShift) (rI zj1 λi j=>.int (i*2 ^ j.toNat)):=opI λ_ _ _ _ _ _ _ hc q=>lshift_int_small hc.1 hc.2.1 hc.2.2 q
def ziW:OpR X (binaryOp .RShift) (rI (λ_ j=>0<=j) λi j=>.int (i / 2 ^ j.toNat)):=opI λi j _ _ _ _ _ hc q=>
 rshift_int hc (by rw[Int.fdiv_eq_ediv_of_nonneg i (Kw _)];exact q)
def ziQ:OpR X (binaryOp .BitAnd) (rI0 λi j=>.int (Builtin.bitAnd i j)):=ziP λ_ _ _ _ _ _ _ q=>and_int q
def unI{f:Aj->Sem Aj}{g:Int->Int}
  (rule:∀(i:Int)(t:Tok)(s:Am)(Q:Af)(E:Af),Q (.int (g i) s.toks) { s with toks:=s.toks+1 }->∅ (f (.int i t)) Q E s) :
  UnR X f (rU λi=>.int (g i)):=by
 intro pins s σ H x v Q I rx h
 let⟨i,rfl,q⟩:=h
 let⟨t,rfl⟩:=rx
 erw[rule i t s _ _ ⟨.int (g i),H,I.tok _,⟨_,rfl⟩,q⟩]
def zfk:UnR X (unaryOp .USub) (rU λi=>.int (-i)):=unI λ_ _ _ _ _ q=>neg_int q
end
section
variable {X:Cx}{a b c:Expr}{ta tb tc:TE}{pos:Pos}
def zdO(I:Inv X pins σ H s)(q:Q (.bl k) H)(e:k=k'):EP X pins σ Q (.bool k') s:=by
 subst e
 exact⟨.bl k,H,I,rfl,q⟩
def zkx:OpR X (compareOp .Lt) (rI0 λi j=>.bl (decide (i<j))):=zgp λ_ _ _ _ _ _ _ q=>lt_int q
def zkw:OpR X (compareOp .LtE) (rI0 λi j=>.bl (decide (i<=j))):=zgp λ_ _ _ _ _ _ _ q=>le_int q
def zkv:OpR X (compareOp .Gt) (rI0 λi j=>.bl (decide (j<i))):=zgp λ_ _ _ _ _ _ _ q=>gt_int q
def zku:OpR X (compareOp .GtE) (rI0 λi j=>.bl (decide (j<=i))):=zgp λ_ _ _ _ _ _ _ q=>ge_int q
def ziT:OpR X (compareOp .Is) (λx y H Q=>y=.non/\Q (.bl (decide (x=.non))) H):=by
 intro pins s σ H x y v u Q I rx ry h
 let⟨rfl,q⟩:=h
 cases ry
 erw[is_none_gen (zdO I q ?_)]
 cases x<;>first
  | (cases rx;rfl)
  | (let⟨t,rfl⟩:=rx;rfl)
def zgt:OpR X (compareOp .IsNot) (λx y H Q=>y=.non/\Q (.bl (!decide (x=.non))) H):=by
 intro pins s σ H x y v u Q I rx ry h
 let⟨rfl,q⟩:=h
 cases ry
 erw[isnot_none_gen (zdO I q ?_)]
 cases x<;>first
  | (cases rx;rfl)
  | (let⟨t,rfl⟩:=rx;rfl)
def zgx(ho:OpR X (compareOp op) r)(ha:PE X a ta)(hb:PE X b tb)(hm:behindInMarks op b=false):PE X (.Compare a [op] [b] pos) (tOp r ta tb):=by
 cbv
 erw[wpAny_Compare1 (zh7 ha hb I h λv u s2 x y H2 I2 rx ry q=>ho pins s2 σ H2 x y v u Q I2 rx ry q) hm]
def zhX(t:TE):TT:=λσ H Q=>t σ H λx H'=>∃ k,x=.bl k/\Q k H'
def zgJ{op:CmpOp}{r:R2}(ho:OpR X (compareOp op) r)(ha:PE X a ta)(hb:PE X b tb)(hm:behindInMarks op b=false):PT X (.Compare a [op] [b] pos) (zhX (tOp r ta tb)):=by
 cbv
 refine wpAny_isTrue_Compare1 (thn (ha pins s σ H _ I h) λv s1 ⟨x,H1,I1,r1,q1⟩=>thn (hb pins s1 σ H1 _ I1 q1) λu s2 ⟨y,H2,I2,r2,q2⟩=>
  thn (ho pins s2 σ H2 x y v u _ I2 r1 r2 q2) λc s3 ⟨z,H3,I3,r3,k,e,q3⟩=>?_) hm
 subst e
 cases r3
 erw[Xh ⟨H3,I3,q3⟩]
def Kp(r r':R2)(ta tb tc:TE):TE:=λσ H Q=>ta σ H λx H1=>tb σ H1 λy H2=>r x y H2 λz H3=>∃ k,z=.bl k /\
 (if k=true then tc σ H3 λw' H4=>r' y w' H4 Q else Q (.bl false) H3)
def zel{op op':CmpOp}{r r':R2}(ho:OpR X (compareOp op) r)(ho':OpR X (compareOp op') r')(ha:PE X a ta)(hb:PE X b tb)(hc:PE X c tc)
  (hm:lastMarks [op,op'] [b,c]=false:=by with_unfolding_all rfl):PE X (.Compare a [op,op'] [b,c] pos) (Kp r r' ta tb tc):=by
 cbv
 refine Compare_chain (thn (ha pins s σ H _ I h) λv s1 ⟨x,H1,I1,r1,q1⟩=>chain_link (thn (hb pins s1 σ H1 _ I1 q1) λu s2 ⟨y,H2,I2,r2,q2⟩=>
  thn (ho pins s2 σ H2 x y v u _ I2 r1 r2 q2) λd s3 ⟨z,H3,I3,r3,k,e,q3⟩=>?_)) hm
 subst e
 cases r3
 erw[Xh ?_]
 cases k with
 |false=>erw[ite_ff ⟨.bl false,H3,I3,rfl,q3⟩]
 |true=>erw[ite_tt (chain_last (thn (hc pins s3 σ H3 _ I3 q3) λw' s4 ⟨z',H4,I4,r4,q4⟩=>ho' pins s4 σ H4 y z' u w' Q I4 r2 r4 q4))]
def zeJ{op op':CmpOp}{r r':R2}(ho:OpR X (compareOp op) r)(ho':OpR X (compareOp op') r')(ha:PE X a ta)(hb:PE X b tb)(hc:PE X c tc)
  (hm:lastMarks [op,op'] [b,c]=false:=by with_unfolding_all rfl):PT X (.Compare a [op,op'] [b,c] pos) (zhX (Kp r r' ta tb tc)):=by
 cbv
 refine isTrue_chain (thn (ha pins s σ H _ I h) λv s1 ⟨x,H1,I1,r1,q1⟩=>test_link (thn (hb pins s1 σ H1 _ I1 q1) λu s2 ⟨y,H2,I2,r2,q2⟩=>
  thn (ho pins s2 σ H2 x y v u _ I2 r1 r2 q2) λd s3 ⟨z,H3,I3,r3,k,e,q3⟩=>?_)) hm
 subst e
 cases r3
 erw[Xh ?_]
 cases k with
 |false=>
  let⟨k',e',q'⟩:=q3
  cases e'
  erw[ite_ff ⟨H3,I3,q'⟩]
 |true=>
  erw[ite_tt (test_last (thn (hc pins s3 σ H3 _ I3 q3) λw' s4 ⟨z',H4,I4,r4,q4⟩=>thn (ho' pins s4 σ H4 y z' u w' _ I4 r2 r4 q4) λd' s5 ⟨z2,H5,I5,r5,k2,e2,q5⟩=>?_))]
  subst e2
  cases r5
  erw[Xh ⟨H5,I5,q5⟩]
def zfD(K:Ah)(x:V)(H:Hp)(k:Bool):Prop :=
 match x with
 |.non=>k=false
 |.bl b=>k=b
 |.int i=>k=(i !=0)
 |.str y=>y.length<=sizeLine/\k=((y.length:Int) !=0)
 |.ref p=>(∃ xs,SqL K H p xs/\k= !xs.isEmpty)∨(∃ xs,SqT K H p xs/\k= !xs.isEmpty)∨∃ kvs,H p=some (.dK kvs)/\k= !kvs.isEmpty
 |_=>False
def kX{κ:Type}{kvs:List (κ×V)}{vs:List (κ×Value)}(r:KV kvs vs):(!vs.isEmpty)= !kvs.isEmpty:=by
 cases r<;>rfl
def WD{xs:List V}{its:An}(r:Vals xs its):(!its.toArray.isEmpty)= !xs.isEmpty:=by
 cases r<;>simp
def JE:(sizeLine:Nat)<2 ^ 63:=by rw[Xe];decide
def zfi:TruR X (λx H Q=>∃ k,zfD X.K x H k/\Q k H):=by
 intro pins s σ H x v Q I rx h
 let⟨k,e,q⟩:=h
 let hl:=JE
 let hs:=Xe
 cases x with
 |non=>
  cases rx
  let e':=e
  subst e'
  erw[truthy_none ⟨H,I,q⟩]
 |bl b=>
  cases rx
  let e':=e
  subst e'
  erw[Xh ⟨H,I,q⟩]
 |int i=>
  let⟨t,rfl⟩:=rx
  let e':=e
  subst e'
  erw[PySem.P.truthy_int ⟨H,I,q⟩]
 |str y=>
  let⟨t,rfl⟩:=rx
  obtain⟨hy,e'⟩:y.length<=sizeLine/\k=((y.length:Int) !=0):=e
  subst e'
  exact PySem.P.truthy_str (by lia) ⟨H,I.tok _,q⟩
 |ref p=>
  cases rx
  let e':=e
  rcases e' with ⟨xs,hx,e'⟩ | ⟨xs,hx,e'⟩ | ⟨kvs,hx,e'⟩
  ·subst e'
   let⟨its,r,pl,hz⟩:=I.list hx
   let hlen:=r.length
   exact wpAny_truthy_list pl.isList (by simp only[xn];lia) ⟨H,I.tok _,by rw[WD r];exact q⟩
  ·subst e'
   let⟨its,r,pl,hz⟩:=I.tuple hx
   let hlen:=r.length
   exact truthy_tuple pl (by simp only[xn];lia) ⟨H,I.tok _,by rw[WD r];exact q⟩
  ·subst e'
   obtain⟨hz,hS,vs,r,m⟩:kvs.length<=sizeLine/\(p==sysModules)=false/\∃ vs,KV kvs vs/\s.heap.DictOf (qt X.prog X.w) p vs:=I.hok p _ hx
   let hlen:=Paired.length r
   exact wpAny_truthy_dict hS m (by lia) ⟨H,I.tok _,by rw[kX r];exact q⟩
 |_=>erw[(show False from e).elim]
def Ys(ha:PE X a ta)(he:∀ whole,isTrue a X.env whole=(do let v<-whole;standAt a.pos;holding [v] (truthy v))) :
  PT X a (λσ H Q=>ta σ H λx H'=>∃ k,zfD X.K x H' k/\Q k H'):=by
 cbv
 erw[isTrue_plain (thn (ha pins s σ H _ I h) λv s1 ⟨x,H1,I1,r1,q1⟩=>zfi pins s1 σ H1 x v Q I1 r1 q1) (he _)]
def j7(r:Vals [x] us):∃ u,us= [u]/\RelV x u:=by
 cases r with
 |cons r1 r2=>cases r2;exact⟨_,rfl,r1⟩
def zae(r:Vals [x,y] us):∃ u w',us= [u,w']/\RelV x u/\RelV y w':=by
 cases r with
 |cons r1 r2=>
  cases r2 with
  |cons r3 r4=>cases r4;exact⟨_,_,rfl,r1,r3⟩
def zaz (hc:X.calm=true):ji X (.builtin "max") (λxs H Q=>∃ i j,xs= [.int i,.int j]/\Q (.int (if j>i then j else i)) H):=by
 intro pins s σ H xs us Q I r h
 let⟨i,j,rfl,q⟩:=h
 let⟨u,w',rfl,⟨t,rfl⟩,⟨t',rfl⟩⟩:=zae r
 erw[max_two_ints (I.ok.hd hc) λh' tk k=>⟨_,H,I.kept k,?_,q⟩]
 by_cases hj:j>i
 ·rw[if_pos hj,if_pos hj];exact⟨_,rfl⟩
 ·rw[if_neg hj,if_neg hj];exact⟨_,rfl⟩
def zaA (hc:X.calm=true):ji X (.builtin "min") (λxs H Q=>∃ i j,xs= [.int i,.int j]/\Q (.int (if j<i then j else i)) H):=by
 intro pins s σ H xs us Q I r h
 let⟨i,j,rfl,q⟩:=h
 let⟨u,w',rfl,⟨t,rfl⟩,⟨t',rfl⟩⟩:=zae r
 erw[min_two_ints (I.ok.hd hc) λh' tk k=>⟨_,H,I.kept k,?_,q⟩]
 by_cases hj:j<i
 ·rw[if_pos hj,if_pos hj];exact⟨_,rfl⟩
 ·rw[if_neg hj,if_neg hj];exact⟨_,rfl⟩
def Vb:ji X (.type "int") (λxs H Q=>(∃ i,xs= [.int i]/\Q (.int i) H)∨∃ k,xs= [.bl k]/\Q (.int (if k then 1 else 0)) H):=by
 intro pins s σ H xs us Q I r h
 rcases h with ⟨i,rfl,q⟩ | ⟨k,rfl,q⟩
 ·let⟨u,rfl,t,rfl⟩:=j7 r
  erw[call_int_int ⟨.int i,H,I,⟨_,rfl⟩,q⟩]
 ·let⟨u,rfl,r1⟩:=j7 r
  cases r1
  erw[call_int_bool ⟨.int (if k then 1 else 0),H,I.tok _,⟨_,rfl⟩,q⟩]
end
structure ObjM(h:Heap)(x dx C:Ap)(mA:Aq):Prop where
 obj:h.get? x=some (W.instObj C dx)
 ns:h.Ns1 dx mA
 ne:dx≠x
def zbJ{h:Heap}(n:h.Ns1 dx mA):∃ od,h.get? dx=some od/\∀ name,W.lookIn name od=some (mA name):=by
 let⟨o,es,ep,ho,hd,hk,_,hm⟩:=n
 refine⟨o,ho,λname=>?_⟩
 let e:=hm name
 unfold nsFind findBy at e
 rw[<- Array.find?_toList]at e
 unfold W.lookIn
 rw[hd]
 dsimp only
 split
 next y q=>
  rw[q]at e
  erw[congrArg some e]
 next q=>
  rw[q]at e
  let a:es.toList.any (·.refKey)=false:=by
   rw[uF]
   intro y hy
   let⟨z,t,hkey⟩:=hk y (Array.mem_toList_iff.mp hy)
   simp[DictEntry.refKey,hkey]
  let a':¬ es.toList.any (·.refKey)=true:=by rw[a];exact Bool.false_ne_true
  rw[if_neg a']
  erw[congrArg some e]
def ObjM.look(I:ObjM h x dx C mA):∃ od,W.InstAt h x (W.instObj C dx) C (some od)/\∀ name,W.lookIn name od=some (mA name) :=
 let ⟨od,ho,hl⟩:=zbJ I.ns
 ⟨od,⟨I.obj,rfl,rfl,ho⟩,hl⟩
section
variable {prog:Ar}{w:World}{A:Around}{E:Af}{s:Am}{K:Ah}{x dx C f:Ap}{mA:Aq}{name:Str}{v:Aj}
def zf8{expr:Bool}{Q:Af}(X:K.In s.heap)(I:ObjM s.heap x dx C mA)(hg:W.plainGet K C name=true)(hh:W.hasDictIn K C=true)
  (ha:W.findIn K (.ref C) name=some none) (hv:mA name=some v) (hv':W.handedIn v=true) (h:Q v { s with toks:=s.toks+1 }) :
  wpAny (model prog w) A (getAttr (.ref x) name expr) Q E s:=by
 let⟨od,J,hl⟩:=I.look
 exact W.get_value X J (W.plainGet_of hg).1 (W.findObj_own hh ha rfl (by rw[hl,hv])) hv' h
def zdU{pl:Sem Bool}{Q:Aj×An->Am->Prop}(X:K.In s.heap)(I:ObjM s.heap x dx C mA)(hg:W.plainGet K C name=true)
  (hf:W.findIn K (.ref C) name=some (some (.ref f))) (ht:W.isFn K (.ref f)=true) (hv:mA name=none) (h:Q (.ref f,[.ref x]) s) :
  wpAny (model prog w) A (getMethod (.ref x) name pl) Q E s:=by
 let⟨od,J,hl⟩:=I.look
 exact W.method_fn X J (W.plainGet_of hg).1 (W.plainGet_of hg).2 hf (beq_iff_eq.mp ht) (by show (W.lookIn name od).map (·.isSome)=some false;rw[hl,hv];rfl) h
def zg5{ns:Ab}{Q:Unit->Am->Prop}(X:K.In s.heap)(I:ObjM s.heap x dx C mA)
  (hs:W.findIn K (.ref C) "__setattr__" =some (some (.builtin "object.__setattr__"))) (hp:W.plainOver K C=true) (ht:W.takerIn K C name=some none) (hh:W.hasDictIn K C=true)
  (hw:PySem.Within mA ns) (hsz:ns.length<=sizeLine)
  (h:∀ h',ObjM h' x dx C (λy=>if y=name then some v else mA y)->Heap.SameBut dx s.heap h'->Q () { s with heap:=h',toks:=s.toks+2 }) :
  wpAny (model prog w) A (setAttr (.ref x) name v) Q E s:=by
 let⟨od,J,hl⟩:=I.look
 erw[W.set_plain X J hs (W.osa_open X J hp ht λb=>?_)]
 let⟨cd,hc,hd'⟩:=W.any_some hh
 let hx:=I.obj
 erw[x3 (x6 (x3 (x3 (wpAny_loadPart hx (x3 (W.Looks.here (W.looks_clsIn X hc) ?_))))))]
 rw[hd']
 erw[x6 (x3 (x6 (x3 ?_)))]
 erw[wpAny_nsSet1 I.ns λh' hn2 hs2=>?_]
 let⟨oD,esD,epD,hoD,hdD,hcD⟩:=hn2.count (PySem.Within.cons name v hw)
 refine x3 (wpAny_lookBehind hoD (by rw[hdD];exact pastItsLine_dict (xH hcD (by rw[xq];lia))) ?_)
 erw[x6 (h _ ⟨(hs2.2 _ (Ne.symm I.ne)).trans I.obj,hn2,I.ne⟩ hs2)]
def zea{R:Result->Am->Prop}{vs:An}{kw:List (Str×Value)}(X:K.In s.heap)(hm:W.makesIn K C=true)
  (hi:W.findIn K (.ref C) "__init__" =some (some (.ref f))) (hf:W.typeIn K (.ref f)=some (.type "function"))
  (h:codeAny (model prog w) (A.under (.builtin "type.__call__" ⟨.ref C::vs,kw⟩)) (.call (.ref f) ⟨.ref (⇑s+1)::vs,kw⟩) (W.InitBack (⇑s+1) R)
   { s with heap:=(s.heap.push W.emptyDict).push (W.instObj C ⇑s) }) :
  codeAny (model prog w) A (.call (.ref C) ⟨vs,kw⟩) R s:=by
 let⟨hh,g,d,t,os⟩:=s
 erw[W.make_core (W.makes_of X hm) (W.looks_findIn X hi) (λself=>W.bind_fn X self hf) (.inl rfl) h]
end
def jt(f:Str)(v:V):List (Str×V)->List (Str×V)
 |[]=> [(f,v)]
 | (g,x)::r=>if g=f then (g,v)::r else (g,x)::jt f v r
def JZ(f g:Str)(v:V):∀ fs:List (Str×V),(jt f v fs).lookup g=if g=f then some v else fs.lookup g
 |[]=>by
  show List.lookup g [(f,v)]=_
  by_cases h:g=f
  ·let hb:=beq_iff_eq.mpr h
   simp only[List.lookup,hb,if_pos h]
  ·let hb:=x9.mpr h
   simp only[List.lookup,hb,if_neg h]
 | (k,x)::r=>by
  let ih:=JZ f g v r
  rw[show jt f v ((k,x)::r)=(if k=f then (k,v)::r else (k,x)::jt f v r) from rfl]
  by_cases hk:k=f
  ·rw[if_pos hk]
   by_cases h:g=k
   ·let hb:=beq_iff_eq.mpr h
    simp only[List.lookup,hb,if_pos (h.trans hk)]
   ·let hb:=x9.mpr h
    simp only[List.lookup,hb,if_neg (λe:g=f=>h (e.trans hk.symm))]
  ·rw[if_neg hk]
   by_cases h:g=k
   ·let hb:=beq_iff_eq.mpr h
    simp only[List.lookup,hb,if_neg (λe:g=f=>hk (h.symm.trans e))]
   ·let hb:=x9.mpr h
    simp only[List.lookup,hb]
    erw[ih]
def JC(f:Str)(v:V):∀ fs:List (Str×V),f∈(jt f v fs).map (·.1)/\∀ g,g∈fs.map (·.1)->g∈(jt f v fs).map (·.1)
 |[]=>⟨by simp[jt],λg h=>by simp at h⟩
 | (k,x)::r=>by
  let⟨i1,i2⟩:=JC f v r
  rw[show jt f v ((k,x)::r)=(if k=f then (k,v)::r else (k,x)::jt f v r) from rfl]
  by_cases hk:k=f
  ·rw[if_pos hk]
   subst hk
   exact⟨by simp,λg h=>by simpa using h⟩
  ·rw[if_neg hk]
   refine⟨?_,λg h=>?_⟩
   ·rw[xp]
    erw[xl _ i1]
   ·rw[xp]at h |-
    rcases xw.mp h with e | e
    ·erw[xw.mpr (.inl e)]
    ·erw[xl _ (i2 g e)]
def JV(f:Str)(v:V):∀ fs:List (Str×V),(jt f v fs).length<=fs.length+1
 |[]=>by simp[jt]
 | (k,x)::r=>by
  let ih:=JV f v r
  rw[show jt f v ((k,x)::r)=(if k=f then (k,v)::r else (k,x)::jt f v r) from rfl]
  by_cases hk:k=f
  ·rw[if_pos hk,xq,xq];lia
  ·rw[if_neg hk,xq,xq];lia
def RelO.some_of(r:RelO (some v) o):∃ u,o=some u/\RelV v u:=by
 cases o with
 |none=>erw[(show False from r).elim]
 |some u=>exact⟨u,rfl,r⟩
def RelO.none_of(r:RelO none o):o=none:=by
 cases o with
 |none=>rfl
 |some u=>erw[(show False from r).elim]
def zbx(r:RelV v u):W.handedIn u=true:=by
 cases v with
 |non=>cases (show u=Value.none from r);rfl
 |bl b=>cases (show u=Value.bool b from r);rfl
 |int i=>let⟨t,e⟩:=(show ∃ t,u=Value.int i t from r);cases e;rfl
 |str x=>let⟨t,e⟩:=(show ∃ t,u=Value.str x t from r);cases e;rfl
 |ref a=>cases (show u=Value.ref a from r);rfl
 |ty n=>cases (show u=Value.type n from r);rfl
section
variable {P:Ar}{w:World}{H:Hp}{h:Heap}{a C dx:Ap}{fs:List (Str×V)}
def wE(hok:HOk P w H h)(e:H a=some (.ins C dx fs)):∃ mA,ObjM h a dx C mA/\(∀ f,RelO (fs.lookup f) (mA f))/\PySem.Within mA (fs.map (·.1))/\fs.length<=1000/\H dx=some (.own a):=by
 let⟨d,z,ne,ob,mA,n,r,q⟩:=(show ObjOk P w H h a (.ins C dx fs) from hok a _ e)
 exact⟨mA,⟨ob,n,ne⟩,r,q,z,d⟩
end
structure Cls(K:Ah)(C:Ap):Prop where
 pg:W.plainGet K C Str.empty=true
 hd:W.hasDictIn K C=true
 po:W.plainOver K C=true
 sa:W.findIn K (.ref C) "__setattr__" =some (some (.builtin "object.__setattr__"))
def Cls.get{K:Ah}{C:Ap}(c:Cls K C)(f:Str):W.plainGet K C f=true:=c.pg
def NoAttr(K:Ah)(C:Ap)(f:Str):Prop:=W.findIn K (.ref C) f=some none
def NoAttr.taker{K:Ah}(n:NoAttr K C f):W.takerIn K C f=some none:=by
 unfold W.takerIn
 rw[show W.findIn K (.ref C) f=some none from n]
 rfl
structure YV(K:Ah)(C:Ap)(m:Str)(f:Ap):Prop where
 at_:W.findIn K (.ref C) m=some (some (.ref f))
 fn:W.isFn K (.ref f)=true
 kp:W.keepIn K (.ref f)=true
section
variable {X:Cx}{pins:Ak}{σ:St}{H:Hp}{s:Am}{a C dx:Ap}{fs:List (Str×V)}{f:Str}{v:V}{A:Around}{E:Af}
def kS{b:Bool}{Q:Af}(I:Inv X pins σ H s)(e:H a=some (.ins C dx fs))(c:Cls X.K C)(n:NoAttr X.K C f)(l:fs.lookup f=some v)
  (h:∀ u s',Inv X pins σ H s'->RelV v u->Q u s'):wpAny (model X.prog X.w) A (getAttr (.ref a) f b) Q E s:=by
 let⟨mA,O,r,_,_,_⟩:=wE I.hok e
 let⟨u,hu,ru⟩:=RelO.some_of (by rw[<- l];exact r f)
 erw[zf8 I.kIn O (c.get f) c.hd n hu (zbx ru) (h u _ (I.tok _) ru)]
def Wv{m:Str}{g:Ap}{pl:Sem Bool}{Q:Aj×An->Am->Prop}(I:Inv X pins σ H s)(e:H a=some (.ins C dx fs))(c:Cls X.K C)(k:YV X.K C m g)(l:fs.lookup m=none)
  (h:Q (.ref g,[.ref a]) s):wpAny (model X.prog X.w) A (getMethod (.ref a) m pl) Q E s:=by
 let⟨mA,O,r,_,_,_⟩:=wE I.hok e
 let hn:=RelO.none_of (by rw[<- l];exact r m)
 erw[zdU I.kIn O (c.get m) k.at_ k.fn hn h]
def Kk{y:V}{u:Aj}{Q:Unit->Am->Prop}(I:Inv X pins σ H s)(e:H a=some (.ins C dx fs))(c:Cls X.K C)(n:NoAttr X.K C f)(hl:fs.length<1000)(ry:RelV y u)
  (h:∀ s',Inv X pins σ (upd H a (.ins C dx (jt f y fs))) s'->Q () s'):wpAny (model X.prog X.w) A (setAttr (.ref a) f u) Q E s:=by
 let⟨mA,O,r,wi,_,ho⟩:=wE I.hok e
 let hz:(fs.map (·.1)).length<=sizeLine:=by rw[xo,Xe];lia
 erw[zg5 I.kIn O c.sa c.po n.taker c.hd wi hz λh' O' sb=>h _ ?_]
 let hd:∃ o,h'.get? dx=some o:=let ⟨o,_,_,e',_⟩:=O'.ns;⟨o,e'⟩
 refine I.write (by rw[e];exact True.intro) (.inr ho) (λb q hb z=>(sb.2 b hb).trans z) hd ?_
 refine⟨by rw[zG O.ne];exact ho,?_,O.ne,O'.obj,_,O'.ns,λg=>?_,λg hg=>?_⟩
 ·have:=JV f y fs;lia
 ·show RelO ((jt f y fs).lookup g) (if g=f then some u else mA g)
  rw[JZ]
  by_cases q:g=f
  ·rw[if_pos q,if_pos q];exact ry
  ·rw[if_neg q,if_neg q];exact r g
 ·by_cases q:g=f
  ·rw[q];exact (JC f y fs).1
  ·refine (JC f y fs).2 g (wi g λz=>hg ?_)
   show (if g=f then some u else mA g)=none
   rw[if_neg q];exact z
def Inv.made(I:Inv X pins σ H s):Inv X pins σ (upd (upd H ⇑s (.own (⇑s+1))) (⇑s+1) (.ins C ⇑s []))
  { s with heap:=(s.heap.push W.emptyDict).push (W.instObj C ⇑s) }:=by
 let e1:(s.heap.push W.emptyDict).get? ⇑s=some W.emptyDict:=x8 s.heap rfl
 let e2:((s.heap.push W.emptyDict).push (W.instObj C ⇑s)).get? (⇑s+1)=some (W.instObj C ⇑s):=by
  have:=x8 (s.heap.push W.emptyDict) (o:=W.instObj C ⇑s) rfl
  rwa [Heap.size_push]at this
 let e3:(s.heap.push W.emptyDict).Ns ⇑s (λ_=>none):=⟨W.emptyDict,#[],_,e1,rfl,(λe he=>absurd he (by simp)),λ_=>rfl⟩
 let I1:=I.laid (a:=⇑s) (o:=.own (⇑s+1)) (h':=s.heap.push W.emptyDict) (t':=s.toks) (λb u q=>x4 _ q) (xg _) ⟨_,e1⟩
 erw[I1.laid (a:=⇑s+1) (o:=.ins C ⇑s []) (t':=s.toks) (λb u q=>x4 _ q) (Nat.le_of_eq (Heap.size_push _ _)) ?_]
 let ne:⇑s≠⇑s+1:=xj (uM _)
 refine⟨by rw[zG ne,zH],ub _,ne,e2,λ_=>none,(Heap.Ns1.of_empty e3).at λo q=>x4 _ q,λ_=>True.intro,λy hy=>absurd rfl hy⟩
def zfI{prog:Ar}{w:World}{env:Env}{e:Expr}{f:Str}{pos:Pos}{s:Am}{Q:Af}(hb:attributeBase e f env (eval e env)=eval e env)
  (h:wpAny (model prog w) A (eval e env) (λo s₁=>wpAny (model prog w) A (getAttr o f true) Q E s₁) E s):wpAny (model prog w) A (eval (.Attribute e f pos) env) Q E s :=
 Attribute_any_ h (by rw[arm_eval_Attribute,hb])
end
def tFld(K:Ah)(ta:TE)(f:Str):TE:=λσ H Q=>ta σ H λx H1=>∃ a C dx fs v,x=.ref a/\H1 a=some (.ins C dx fs)/\Cls K C/\NoAttr K C f/\fs.lookup f=some v/\Q v H1
def sFld(K:Ah)(ta tv:TE)(f:Str):TS:=λD σ H=>tv σ H λy H1=>ta σ H1 λx H2=>∃ a C dx fs,x=.ref a/\H2 a=some (.ins C dx fs)/\Cls K C/\NoAttr K C f/\fs.length<1000 /\
 D.nx σ (upd H2 a (.ins C dx (jt f y fs)))
section
variable {X:Cx}{o e value:Expr}{f:Str}{pos pos':Pos}{ta tv:TE}
def zer(he:PE X e ta)(hb:attributeBase e f X.env (eval e X.env)=eval e X.env):PE X (.Attribute e f pos) (tFld X.K ta f):=by
 cbv
 erw[zfI hb (thn (he pins s σ H _ I h) λu s1 ⟨x,H1,I1,rx,a,C,dx,fs,v,ex,ea,c,n,l,q⟩=>?_)]
 subst ex
 obtain rfl:u=Value.ref a:=rx
 erw[kS I1 ea c n l λu' s2 I2 ru=>⟨v,H1,I2,ru,q⟩]
def zi8(ha:PE X o ta)(hv:PE X value tv)(hs:swapsWith value (some (.Attribute o f pos')) pos.line X.env=pure false):PS X (.Assign [.Attribute o f pos'] value pos) (sFld X.K ta tv f):=by
 intro pins s σ H D I h
 erw[plainObj_wpAny_Assign_Attribute (thn (hv pins s σ H _ I h) λu s1 ⟨y,H1,I1,ry,q⟩=>thn (ha pins s1 σ H1 _ I1 q) λov s2 ⟨x,H2,I2,rx,a,C,dx,fs,ex,ea,c,n,l,q2⟩=>?_) hs]
 subst ex
 obtain rfl:ov=Value.ref a:=rx
 erw[Kk I2 ea c n l ry λs3 I3=>⟨σ,_,I3,q2⟩]
end
section
variable {X:Cx}{pins:Ak}{σ:St}{H:Hp}{s:Am}{A:Around}{E:Af}{Q:Af}{c:Aj}{b:Bool}
inductive J4(K:Ah)(H:Hp):V->Aj->Prop where
 |non:J4 K H .non (.type "NoneType")
 |bl (x:Bool):J4 K H (.bl x) (.type "bool")
 |int (i:Int):J4 K H (.int i) (.type "int")
 |str (x:Str):J4 K H (.str x) (.type "str")
 |lst {a:Ap} {xs:List V} (e:H a=some (.lst xs)):J4 K H (.ref a) (.type "list")
 |frz {a:Ap} {o:Obj} {xs:List V} (e:H a=some (.frz o (.lst xs))):J4 K H (.ref a) (.type "list")
 |tup {a:Ap} {xs:List V} (e:H a=some (.tup xs)):J4 K H (.ref a) (.type "tuple")
 |dK {a:Ap} {kvs:List (Key×V)} (e:H a=some (.dK kvs)):J4 K H (.ref a) (.type "dict")
 |ins {a C dx:Ap} {fs:List (Str×V)} (e:H a=some (.ins C dx fs)) (cl:Cls K C) (ha:W.findIn K (.ref C) "__class__" =some (some (.builtin "object.__class__")))
   (hn:W.specialIn K (.builtin "object.__class__") "__get__" =some (some (.builtin "getset_descriptor.__get__"))) (htk:W.takesIn K (.builtin "object.__class__")=some true)
   (hm:W.mroIn K C (.type "object")=some true):J4 K H (.ref a) (.ref C)
def zbD(I:Inv X pins σ H s)(rx:RelV x u)(ty:J4 X.K H x t)(e:W.kitOne X.K t c=some b)(h:∀ tk,Q (.bool b) { s with toks:=tk }) :
  wpAny (model X.prog X.w) A (call (.builtin "isinstance") [u,c]) Q E s:=by
 cases ty with
 |non=>cases (show u=Value.none from rx);exact W.kia_one W.kitx_none I.kIn True.intro e (λz=>nomatch z) h
 |bl y=>cases (show u=Value.bool y from rx);exact W.kia_one W.kitx_bool I.kIn True.intro e (λz=>nomatch z) h
 |int i=>let⟨t,q⟩:=(show ∃ t,u=Value.int i t from rx);cases q;exact W.kia_one W.kitx_int I.kIn True.intro e (λz=>nomatch z) h
 |str y=>let⟨t,q⟩:=(show ∃ t,u=Value.str y t from rx);cases q;exact W.kia_one W.kitx_str I.kIn True.intro e (λz=>nomatch z) h
 | @lst a xs ea=>
  cases (show u=Value.ref a from rx)
  let⟨_,_,n,_,h1⟩:=(show ObjOk X.prog X.w H s.heap a (.lst xs) from I.hok a _ ea)
  erw[W.kia_one W.kitx_list I.kIn ⟨_,h1,rfl⟩ e (λz=>nomatch z) h]
 | @frz a ob xs ea=>
  cases (show u=Value.ref a from rx)
  let⟨_,_,_,n,_,h1⟩:=(show ObjOk X.prog X.w H s.heap a (.frz ob (.lst xs)) from I.hok a _ ea)
  erw[W.kia_one W.kitx_list I.kIn ⟨_,h1,rfl⟩ e (λz=>nomatch z) h]
 | @tup a xs ea=>
  cases (show u=Value.ref a from rx)
  let⟨_,_,_,p⟩:=(show ObjOk X.prog X.w H s.heap a (.tup xs) from I.hok a _ ea)
  let⟨o,h1,h2,_⟩:=p
  erw[W.kia_one W.kitx_tuple I.kIn ⟨o,h1,h2⟩ e (λz=>nomatch z) h]
 | @dK a kvs ea=>
  cases (show u=Value.ref a from rx)
  let⟨_,_,vs,_,p⟩:=(show ObjOk X.prog X.w H s.heap a (.dK kvs) from I.hok a _ ea)
  let⟨o,es,ep,h1,h2,_⟩:=p
  erw[W.kia_one W.kitx_dict I.kIn ⟨o,h1,h2.1⟩ e (λz=>nomatch z) h]
 | @ins a C dx fs ea cl ha hn htk hm=>
  cases (show u=Value.ref a from rx)
  let⟨mA,O,_⟩:=wE I.hok ea
  let⟨od,J,_⟩:=O.look
  erw[W.kia_one (W.kitx_own (cl.get _) cl.hd ha hn htk hm) I.kIn J e (λz=>nomatch z) h]
end
structure Room(k:Nat)(A:Around):Prop where
 hd:A.handled=none
 dp:A.depth+3*k+5<recursionLimit
 un:A.units+16*k+200<cLine
def Room.mono(r:Room k A)(h:j<=k):Room j A:=⟨r.hd,by have:=r.dp;lia,by have:=r.un;lia⟩
def Room.deeper(r:Room (k+1) A)(env:Env):Room k (A.deeper env) :=
 ⟨r.hd,by have:=r.dp;show A.depth+1+3*k+5<_;lia,by have:=r.un;show A.units+3+16*k+200<_;lia⟩
def Room.in1(r:Room (k+1) A):Room k A.in1 :=
 ⟨r.hd,by have:=r.dp;show A.depth+3*k+5<_;lia,by have:=r.un;show A.units+1+16*k+200<_;lia⟩
def k6 {A:Around}{C:Ap}:(A.under (.builtin "type.__call__" ⟨.ref C::us,kw⟩)).depth=A.depth+1:=by
 first | rfl | simp[Around.under,Code.weight,Code.isCreation,Code.isGuard,Code.isCaller,Code.frames,Code.isFrame,guardIds]
def k7 {A:Around}{C:Ap}:(A.under (.builtin "type.__call__" ⟨.ref C::us,kw⟩)).units=A.units+1:=by
 first | rfl | simp[Around.under,Code.cUnits,Code.frames,Code.isFrame]
def Room.make (r:Room (k+1) A) (C:Ap) (us:An) (kw:List (Str×Value)):Room k (A.under (.builtin "type.__call__" ⟨.ref C::us,kw⟩)) :=
 ⟨r.hd,by have:=r.dp;rw[k6];lia,by have:=r.un;rw[k7];lia⟩
def Room.depth(r:Room k A):A.depth<recursionLimit:=by have:=r.dp;lia
def Room.units(r:Room k A):A.units+64<cLine:=by have:=r.un;lia
def zjR:TA:=λ_ H Q=>Q [] H
def zfg(ta:TE)(tr:TA):TA:=λσ H Q=>ta σ H λx H1=>tr σ H1 λxs H2=>Q (x::xs) H2
section
variable {X:Cx}{e:Expr}{es:Ag}{te:TE}{t:TA}{pos:Pos}
def pa_nil:PA X [] zjR:=λ_ _ _ _ H Q I h=>Calls.spliced_nil ⟨[],H,I,.nil,h⟩
def zT(ha:PE X e te)(hr:PA X es t)(hs:starEach (e::es) X.env=(false,eval e X.env)::starEach es X.env:=by rfl):PA X (e::es) (zfg te t):=by
 intro pos pins s σ H Q I h
 rw[hs]
 erw[Calls.spliced_cons (thn (ha pins s σ H _ I h) λu s1 ⟨x,H1,I1,r1,q1⟩=>?_)]
 erw[thn (hr pos pins s1 σ H1 _ I1 q1) λus s2 ⟨xs,H2,I2,r2,q2⟩=>⟨x::xs,H2,I2,.cons r1 r2,q2⟩]
def tTup(t:TA):TE:=λσ H Q=>t σ H λxs H1=>xs.length<=sizeLine/\∀ p,H1 p=none->Q (.ref p) (upd H1 p (.tup xs))
def tLst(t:TA):TE:=λσ H Q=>t σ H λxs H1=>xs.length<=sizeLine/\∀ p,H1 p=none->Q (.ref p) (upd H1 p (.lst xs))
def zev{x1}(h:PA X es t):PE X (.Tuple es x1 pos) (tTup t):=by
 intro pins s σ H Q I hq
 refine wpAny_Tuple_spliced (thn (h pos pins s σ H _ I hq) λus s1 ⟨xs,H1,I1,r,z,q⟩=>⟨by rw[<- r.length];exact z,?_⟩)
 let hf:=I1.hok.fresh (xg _)
 refine⟨.ref ⇑s1,upd H1 ⇑s1 (.tup xs),I1.laid (λb u e=>x4 _ e) (xg _) ?_,rfl,q _ hf⟩
 exact⟨z,us,r,⟨_,x8 _ rfl,rfl,_,rfl⟩⟩
def zeu(h:PA X es t):PE X (.List es pos) (tLst t):=by
 intro pins s σ H Q I hq
 refine wpAny_List_spliced (thn (h pos pins s σ H _ I hq) λus s1 ⟨xs,H1,I1,r,z,q⟩=>⟨by rw[<- r.length];exact z,?_⟩)
 let hf:=I1.hok.fresh (xg _)
 refine⟨.ref ⇑s1,upd H1 ⇑s1 (.lst xs),I1.laid (λb u e=>x4 _ e) (xg _) ?_,rfl,q _ hf⟩
 exact⟨z,us,0,r,x8 _ rfl⟩
end
abbrev Sp:=List V->Hp->VK->XK->Prop
noncomputable abbrev CXT:=List Env->Hp->Am->XK->Af
structure Env0(P:Ar)(w:World)(K:Ah)(mg:Aq)(base:Heap)(A:Around)(outer:List Env)(s:Am)(H:Hp):Prop where
 frames:A.frames=some outer
 mod:Mod K mg base
 bs:∀ b o,base.get? b=some o->s.heap.get? b=some o/\H b=none
 bsz:base.objs.size<=⇑s
 funs:s.heap.FunFrames base outer
 frf:∀ b∈frs outer,H b=none
 hok:HOk P w H s.heap
 bare:AllBare s.gens
def CE(outer:List Env)(P:Ar)(w:World)(H:Hp)(s:Am)(Q:VK)(u:Aj)(s':Am):Prop :=
 ∃ v H',s'.os=s.os/\AllBare s'.gens/\Un (frs outer) [] H H' s.heap s'.heap/\HOk P w H' s'.heap/\RelV v u/\Q v H'
def CR(CX:CXT)(outer:List Env)(P:Ar)(w:World)(H:Hp)(s:Am)(Q:VK)(E:XK)(r:Result)(s':Am):Prop :=
 match r with
 |.ok (.ret u)=>CE outer P w H s Q u s'
 |.ok _=>False
 |.error e=>CX outer H s E e s'
structure FnOk(P:Ar)(w:World)(K:Ah)(mg:Aq)(base:Heap)(CX:CXT)(k:Nat)(f:Ap)(fd:FuncData)(ps:Ab)(sp:Sp):Prop where
 len:∀ vs H Q E,sp vs H Q E->vs.length=ps.length
 run:∀(A:Around)(outer:List Env)(s:Am)(H:Hp)(args:Args)(us:An)(vs:List V)(Q:VK)(E:XK),Room k A->Env0 P w K mg base A outer s H->BindsTo s fd args (ps.zip us)->Vals vs us->sp vs H Q E ->
  codeAny (model P w) A (.call (.ref f) args) (CR CX outer P w H s Q E) s
def FnOk.mono{P:Ar}{w:World}{K:Ah}{base:Heap}{CX:CXT}{j k:Nat}{f:Ap}{ps:Ab}{sp:Sp}(F:FnOk P w K mg base CX j f fd ps sp)(h:j<=k) :
  FnOk P w K mg base CX k f fd ps sp:=⟨F.len,λA outer s H args us vs Q E hr=>F.run A outer s H args us vs Q E (hr.mono h)⟩
def Env0.make{P:Ar}{w:World}{K:Ah}{base:Heap}{A:Around}{s:Am}{H:Hp}(e:Env0 P w K mg base A outer s H)(C:Ap)(us:An)(kw:List (Str×Value)) :
  Env0 P w K mg base (A.under (.builtin "type.__call__" ⟨.ref C::us,kw⟩)) outer s H:=⟨by first | exact e.frames | (simpa [Around.under,Code.envs,Code.isFrame,pushEnvs] using e.frames),e.mod,e.bs,e.bsz,e.funs,e.frf,e.hok,e.bare⟩
section
variable {X:Cx}{pins:Ak}{σ:St}{H:Hp}{s s':Am}
def Inv.env0(I:Inv X pins σ H s):Env0 X.prog X.w X.K X.mg X.base X.A X.stack s H :=
 ⟨I.ok.frames,I.ok.mod,I.bs,xH I.ok.bsz I.sz,I.stack,I.stkFree,I.hok,I.bare⟩
def Inv.after(I:Inv X pins σ H s)(h:CE X.stack X.prog X.w H s Q u s'):EP X pins σ Q u s':=by
 let⟨v,H',os,bare,un,hok,r,q⟩:=h
 let⟨hh,g,d,t,os'⟩:=s'
 obtain rfl:os'=s.os:=os
 exact⟨v,H',I.call un hok bare (λb z=>absurd z (by simp)),r,q⟩
end
def zk3(sp:Sp)(dvs:List V)(E:XK)(t:TA):TE:=λσ H Q=>t σ H λvs H1=>sp (vs++dvs) H1 Q E
def Binds(K:Ah)(fd:FuncData)(ps:Ab)(ds:An):Prop :=
 ∀(s:Am)(us:An),K.In s.heap->(us++ds).length=ps.length->BindsTo s fd ⟨us,[]⟩ (ps.zip (us++ds))
def Binds.all{K:Ah}{fd:FuncData}{ps:Ab}(h:∀ us:An,us.length=ps.length->bindArgs fd ⟨us,[]⟩=pure (ps.zip us)):Binds K fd ps []:=λs us _ hl=>by
 rw[xU]at hl |-
 erw[.of_eq (h us hl)]
def VI(CX:CXT)(X:Cx)(E:XK):Prop:=∀(pins:Ak)(σ:St)(H:Hp)(s:Am)(e:Aj)(s':Am),Inv X pins σ H s->CX X.stack H s E e s'->X.xe e s'
section
variable {X:Cx}{CX:CXT}{k:Nat}{f C:Ap}{fd:FuncData}{ps:Ab}{sp:Sp}{dvs:List V}{ds:An}{E:XK}{x:Str}{p pos:Pos}{e:Expr}{es:Ag}{t:TA}
def zjd{pins:Ak}{σ:St}{H:Hp}{s:Am}{Q:VK}{us:An}{vs:List V}(F:FnOk X.prog X.w X.K X.mg X.base CX k f fd ps sp)(hr:Room k X.A)(hb:Binds X.K fd ps ds)(hd:Vals dvs ds)(hx:VI CX X E)
  (I:Inv X pins σ H s) (r:Vals vs us) (h:sp (vs++dvs) H Q E):∅ (call (.ref f) us) (EP X pins σ Q) X.xe s:=by
 let r2:=r.append hd
 let hl:(us++ds).length=ps.length:=by rw[<- r2.length];exact F.len _ _ _ _ h
 erw[wpAny_call (Xj (F.run X.A X.stack s H ⟨us,[]⟩ (us++ds) (vs++dvs) Q E hr I.env0 (hb s us I.kIn hl) r2 h) λr s' hq=>?_)]
 cases r with
 |error e=>erw[hx pins σ H s e s' I hq]
 |ok fl=>
  cases fl with
  |ret u=>erw[I.after hq]
  |next=>erw[False.elim hq]
  |brk=>erw[False.elim hq]
  |cont=>erw[False.elim hq]
def zgw(F:FnOk X.prog X.w X.K X.mg X.base CX k f fd ps sp)(hr:Room k X.A)(hg:Gl X x)(hm:X.mg x=some (.ref f))(hk:W.keepIn X.K (.ref f)=true)(hb:Binds X.K fd ps ds)(hd:Vals dvs ds)(hx:VI CX X E)
  (ha:PA X (e::es) t) (hdb:(↥x):=by decide) (he:starEach (e::es) X.env=(false,eval e X.env)::starEach es X.env:=by rfl) (hpl:(backTo pos (starEach es X.env)).any (·.1)=false:=by rfl) :
  PE X (.Call (.Name x p) (e::es) [] pos) (zk3 sp dvs E t):=by
 cbv
 erw[Xi (Qp I hg hm ?_ hdb)]
 erw[W.callWith_K I.ok.mod.kin hk (thn (ha pos pins s σ H _ I h) λus s1 ⟨vs,H1,I1,r,q⟩=>⟨I1.kIn,?_⟩) he hpl]
 erw[zjd F hr hb hd hx I1 r q]
structure Mk(K:Ah)(C f:Ap):Prop where
 makes:W.makesIn K C=true
 init:W.findIn K (.ref C) "__init__" =some (some (.ref f))
 fn:W.isFn K (.ref f)=true
 kp:W.keepIn K (.ref C)=true
end
section
end
structure j9(N P:Ab)(sc:Scope):Prop where
 kind:sc.kind=.function
 co:sc.isCoroutine=false
 gen:sc.isGenerator=false
 nd:N.Nodup
 pre:N.take P.length=P
 par:∀ x∈P,sc.names.lookup x=some .local∨sc.names.lookup x=some .cell
 nofree:∀ y∈sc.names,y.2≠ .free
def vY{kindOf:Str->Option NameKind}:∀{binds:List (Str×Value)}{m:Aq},(∀ v,(x,v)∉binds)->bindL kindOf binds m x=m x
 |[],_,_=>rfl
 | (n,v)::r,m,h=>by
  unfold bindL
  rw[vY λw hw=>h w (xl _ hw)]
  split
  ·have:x≠n:=by rintro rfl;exact h v xr
   simp[this]
  ·rfl
def vW{kindOf:Str->Option NameKind}:∀{binds:List (Str×Value)}{m:Aq},(∀ v,(x,v)∉binds)->bindC kindOf binds m x=m x
 |[],_,_=>rfl
 | (n,v)::r,m,h=>by
  unfold bindC
  rw[vW λw hw=>h w (xl _ hw)]
  split
  ·rfl
  ·have:x≠n:=by rintro rfl;exact h v xr
   simp[this]
def vX{kindOf:Str->Option NameKind}:∀{P:Ab}{vs:An}{i:Nat}{m:Aq},P.Nodup->P[i]?=some x->vs[i]?=some v->kindOf x=some .local ->
  bindL kindOf (P.zip vs) m x=some v
 |[],_,_,_,_,h,_,_=>by simp at h
 |_::_,[],_,_,_,_,h,_=>by simp at h
 |p::P,w::vs,0,m,nd,h1,h2,hk=>by
  simp at h1 h2;subst h1;subst h2
  show bindL kindOf ((p,w)::P.zip vs) m p=_
  unfold bindL
  rw[vY λv hv=>(xB.mp nd).1 (List.of_mem_zip hv).1,if_pos hk]
  simp
 |p::P,w::vs,i+1,m,nd,h1,h2,hk=>by
  unfold bindL
  exact vX (xB.mp nd).2 (by simpa using h1) (by simpa using h2) hk
def vV{kindOf:Str->Option NameKind}:∀{P:Ab}{vs:An}{i:Nat}{m:Aq},P.Nodup->P[i]?=some x->vs[i]?=some v->kindOf x≠some .local ->
  bindC kindOf (P.zip vs) m x=some v
 |[],_,_,_,_,h,_,_=>by simp at h
 |_::_,[],_,_,_,_,h,_=>by simp at h
 |p::P,w::vs,0,m,nd,h1,h2,hk=>by
  simp at h1 h2;subst h1;subst h2
  show bindC kindOf ((p,w)::P.zip vs) m p=_
  unfold bindC
  rw[vW λv hv=>(xB.mp nd).1 (List.of_mem_zip hv).1,if_neg hk]
  simp
 |p::P,w::vs,i+1,m,nd,h1,h2,hk=>by
  show bindC kindOf ((p,w)::P.zip vs) m x=_
  unfold bindC
  exact vV (xB.mp nd).2 (by simpa using h1) (by simpa using h2) hk
def start(N:Ab)(vs:List V):St:=vs.map some++List.replicate (N.length-vs.length) none
def Q4(CX:CXT)(P:Ar)(w:World)(K:Ah)(mg:Aq)(base:Heap)(N:Ab)(qual:Str)(scope:Scope)(f:Ap)(cd:Aj)(A:Around)(outer:List Env)(s:Am)(H:Hp)(E:XK):Cx where
 prog:=P
 w:=w
 K:=K
 mg:=mg
 base:=base
 A:=A.deeper (envOfC qual scope ⇑s f cd)
 N:=N
 s₀:=s
 H₀:=H
 env:=envOfC qual scope ⇑s f cd
 outer:=outer
 stack:=envOfC qual scope ⇑s f cd::outer
 ex:= []
 calm:=true
 fn:=λ_=>true
 pn:= []
 xe:=λe s'=>wpAny (model P w) (A.deeper (envOfC qual scope ⇑s f cd)) (leaving (envOfC qual scope ⇑s f cd) e) (λ_ s''=>CX outer H s E e s'') (λe' s''=>CX outer H s E e' s'') s'
def Q1{sc:Scope}(h:sc.names.lookup x=some .cell):∃ c,(cellsFrom n sc.names []).lookup x=some c:=by
 let q:=W.cellsFrom_some sc.names n [] (.inl h)
 erw[xS.mp q]
def zbC{CX:CXT}{P:Ar}{w:World}{K:Ah}{mg:Aq}{base:Heap}{N ps:Ab}{qual:Str}{scope:Scope}{f:Ap}{cd:Aj}{A:Around}{outer:List Env}{s s1:Am}{H:Hp}{E:XK}{us:An}{vs:List V}
  (S:j9 N ps scope) (hd:A.handled=none) (e0:Env0 P w K mg base A outer s H) (hl:vs.length=ps.length) (r:Vals vs us)
  (x:InCallC s ⇑s (bindL (envOfC qual scope ⇑s f cd).kindOf (ps.zip us) λ_=>none) (cellsFrom (⇑s+1) scope.names []) (bindC (envOfC qual scope ⇑s f cd).kindOf (ps.zip us) λ_=>none) s1) :
  Inv (Q4 CX P w K mg base N qual scope f cd A outer s H E) [] (start N vs) H s1:=by
 let hpl:ps.length<=N.length:=by have:=congrArg List.length S.pre;rw[xI]at this;lia
 let⟨h1,tk,rfl,hk⟩:=x.done
 let noA:∀ b:Ap,b∉(Q4 CX P w K mg base N qual scope f cd A outer s H E).ex:=λb z=>absurd (show b∈([]:List Ap) from z) (by simp)
 refine⟨⟨e0.mod,S.kind,rfl,rfl,xg _,λy z c h1 h2=>?_,λy hy=>?_,λy c _ h=>?_,λ_=>hd,Around.frames_deeper e0.frames,.inr ⟨rfl,rfl⟩,λb z=>absurd z (noA b),e0.bs,e0.bsz,λb _ _=>noA b,λb z=>absurd z (noA b),e0.funs,e0.frf⟩,
  rfl,e0.bare,Un.kept hk,⟨_,x.toInCall.ns,λi y v h1 h2 h3=>?_⟩,λy c h=>⟨_,x.cell y c h⟩,e0.hok.fresh (xg _),λy c h=>?_,λp hp=>absurd (show p∈([]:Ak) from hp) (by simp),e0.hok.kept hk,?_⟩
 ·erw[name_of_addr x.apart (PySem.mem_of_lookup h1) (PySem.mem_of_lookup h2)]
 ·let hy:=hy
  rcases hy with hy | hy
  ·erw[Q1 hy]
  ·erw[absurd rfl (S.nofree _ (PySem.mem_of_lookup hy))]
 ·erw[uk (x.above y c (PySem.mem_of_lookup h))]
 ·let hi:i<vs.length:=by
   unfold start at h2
   by_cases hi:i<vs.length
   ·erw[hi]
   ·rw[xm (by simpa using hi)]at h2
    rw[xN]at h2
    split at h2<;>cases h2
  let ha:vs[i]?=some v:=by
   unfold start at h2
   rw[xc (by simpa using hi),xf]at h2
   cases e:vs[i]? with
   |none=>rw[e]at h2;cases h2
   |some a=>rw[e]at h2;cases h2;rfl
  let⟨u,hu,rv⟩:=r.get ha
  let hp:ps[i]?=some y:=by
   rw[<- S.pre,xT (by lia)];exact h1
  let ndP:ps.Nodup:=by rw[<- S.pre];exact S.nd.sublist (List.take_sublist _ _)
  refine⟨u,rv,?_⟩
  rcases S.par y (ug hp)with k | k
  ·erw[.inl ⟨k,vX ndP hp hu k⟩]
  ·let⟨c,e⟩:=Q1 k
   erw[.inr ⟨.inl k,c,e,?_⟩]
   let q:=x.cell y c e
   rw[vV ndP hp hu (by show scope.names.lookup y≠_;rw[k];decide)]at q
   erw[q]
 ·erw[e0.hok.fresh (uk (x.above y c (PySem.mem_of_lookup h)))]
 ·unfold start
  show _=N.length
  rw[xy,xo,ut]
  lia
def zhR{CX:CXT}{P:Ar}{w:World}{K:Ah}{mg:Aq}{base:Heap}{k:Nat}{f:Ap}{name qual:Str}{params:Arguments}{body:List Stmt}{scope:Scope}{dV kV doc pm cdv ct oc:Aj}{an od:Option Ap}
  {osl:Array (Option Aj)} {N ps:Ab} {sp:Sp} (lk:K.lookup f=some ⟨oc,od,.func (W.fnOf name qual params body scope dV kV doc pm an cdv ct),osl⟩) (hcd:W.codeIn K cdv qual=true) (S:j9 N ps scope)
  (len:∀ vs H Q E,sp vs H Q E->vs.length=ps.length)
  (hbody:∀(A:Around)(outer:List Env)(s:Am)(H:Hp)(vs:List V)(Q:VK)(E:XK),Room k (A.deeper (envOfC qual scope ⇑s f cdv))->sp vs H Q E ->
   ∃ t,PSs (Q4 CX P w K mg base N qual scope f cdv A outer s H E) body t/\t { nx:=λ_ H'=>Q .non H',rt:=Q } (start N vs) H) :
  FnOk P w K mg base CX (k+1) f (W.fnOf name qual params body scope dV kV doc pm an cdv ct) ps sp:=by
 refine⟨len,λA outer s H args us vs Q E hr e0 hb r hsp=>?_⟩
 let hl:=len _ _ _ _ hsp
 let KX:K.In s.heap:=e0.mod.kin.keeps λb o e=>(e0.bs b o e).1
 let lim:s.heap.NoLimit:=e0.mod.nolimit.keeps λb o e=>(e0.bs b o e).1
 let hkind:∀ y∈ps.zip us,scope.names.lookup y.1=some .local∨(scope.names.lookup y.1=some .cell/\((cellsFrom (⇑s+1) scope.names []).lookup y.1).isSome=true):=λ⟨n,v⟩ hy=>by
  rcases S.par n (List.of_mem_zip hy).1 with q | q
  ·erw[.inl q]
  ·erw[.inr ⟨q,W.cellsFrom_some _ _ _ (.inl q)⟩]
 erw[codeAny_call_function hr.depth (KX _ _ lk) rfl S.co S.gen rfl (W.codeRec_of KX hcd) (hb _ _ _ _ ?_)]
 erw[wpAny_newFunctionEnv_cells S.kind hkind λenv he s1 x=>?_]
 subst he
 refine⟨lim.keeps x.toInCall.keep,codeAny_func ?_⟩
 let⟨t,ht,hq⟩:=hbody A outer s H vs Q E (hr.deeper _) hsp
 let I:Inv (Q4 CX P w K mg base N qual scope f cdv A outer s H E) [] (start N vs) H s1:=zbC S hr.hd e0 hl r x
 erw[Xc (ht [] s1 (start N vs) H _ I hq) (λfl s' hs=>?_) λe s' hs=>hs]
 let fin:∀{σ':St}{H':Hp}{v:V}{u:Aj},Inv (Q4 CX P w K mg base N qual scope f cdv A outer s H E) [] σ' H' s'->RelV v u->Q v H'->CE outer P w H s Q u s' :=
  λ{σ' H' v u} J rv q=>⟨v,H',J.os,J.bare,J.base,J.hok,rv,q⟩
 cases fl with
 |ret u=>
  let⟨v,σ',H',J,rv,q⟩:=hs
  erw[fin J rv q]
 |next=>
  let⟨σ',H',J,q⟩:=hs
  erw[fin (v:=V.non) (u:=Value.none) J rfl q]
 |brk=>
  let⟨_,_,_,q⟩:=hs
  erw[False.elim q]
 |cont=>
  let⟨_,_,_,q⟩:=hs
  erw[False.elim q]
section
variable {X:Cx}{x:Str}{p pos:Pos}{e:Expr}{es:Ag}{t:TA}{id T:String}{r:List V->Hp->VK->Prop}
def tCB(r:List V->Hp->VK->Prop)(t:TA):TE:=λσ H Q=>t σ H λvs H1=>r vs H1 Q
def ZC (hc:ji X (.builtin id) r) (hg:Gl X x) (hm:X.mg x=none) (hv:bootBuiltins x=some (.builtin id)) (ha:PA X (e::es) t) (hn:x≠ "__name__" :=by decide) (hdb:(↥x):=by decide)
    (he:starEach (e::es) X.env=(false,eval e X.env)::starEach es X.env:=by rfl) (hpl:(backTo pos (starEach es X.env)).any (·.1)=false:=by rfl):PE X (.Call (.Name x p) (e::es) [] pos) (tCB r t):=by
  cbv
  erw[Xi (QM I hg hm hv ?_ hn hdb)]
  erw[PyProof.Rows.callWith_builtin1 (thn (ha pos pins s σ H _ I h) λus s1 ⟨vs,H1,I1,r1,q1⟩=>hc pins s1 σ H1 vs us Q I1 r1 q1) he hpl]
def js (hc:ji X (.type T) r) (hg:Gl X x) (hm:X.mg x=none) (hv:bootBuiltins x=some (.type T)) (ha:PA X (e::es) t) (hn:x≠ "__name__" :=by decide) (hdb:(↥x):=by decide)
    (he:starEach (e::es) X.env=(false,eval e X.env)::starEach es X.env:=by rfl) (hpl:(backTo pos (starEach es X.env)).any (·.1)=false:=by rfl):PE X (.Call (.Name x p) (e::es) [] pos) (tCB r t):=by
  cbv
  erw[Xi (QM I hg hm hv ?_ hn hdb)]
  erw[PyProof.Rows.callWith_type1 (thn (ha pos pins s σ H _ I h) λus s1 ⟨vs,H1,I1,r1,q1⟩=>hc pins s1 σ H1 vs us Q I1 r1 q1) he hpl]
end
end L2
namespace HT
open PySem PyProof.Rows
section
open PySem.SeqAt
open PySem.AutoSeq1 (wpAny_loadPart')
open PySem.MeetsSeq PySem.MeetsSeq2 PySem.MeetsSeq3
end
section
variable {prog:Ar}{w:World}{A:Around}{E:Af}{s:Am}
def cat_tup{Q:Af}(ht:IsTup s.heap t vs.toArray)(hb:IsTup s.heap b ws.toArray)(hv:vs≠ [])
  (h1:ws= []->Q (.ref t) s) (h2:ws≠ []->Q (.ref ⇑s) { s with heap:=s.heap.push { cls:=.type "tuple",data:=.seq (vs++ws).toArray } })
  (hsz:vs.length+ws.length<=sizeLine):wpAny (model prog w) A (binaryOp .Add (.ref t) (.ref b)) Q E s:=by
 let⟨⟨cls,dd,data,sl⟩,ho,hc,n,hd⟩:=id ht
 let⟨⟨cls2,dd2,data2,sl2⟩,ho2,hc2,n2,hd2⟩:=id hb
 simp only at hc hd hc2 hd2
 subst hc hd hc2 hd2
 let e:vs.toArray++ws.toArray=(vs++ws).toArray:=by simp
 by_cases hw:ws= []
 ·exact concat_meets ⟨_,ho,rfl⟩ ⟨_,ho2,rfl⟩ noFill_tuple_add seq_tuple_add PySem.F.slot_tuple_add PySem.F.entry_tuple_add (PySem.F.args_tuple_add_2 _ _)
   (tuple_addW1 t b vs.toArray ws.toArray n n2 dd dd2 sl sl2 (by simpa using hv) (by simp[hw])) ⟨ho,ho2,h1 hw⟩
 ·refine concat_meets ⟨_,ho,rfl⟩ ⟨_,ho2,rfl⟩ noFill_tuple_add seq_tuple_add PySem.F.slot_tuple_add PySem.F.entry_tuple_add (PySem.F.args_tuple_add_2 _ _)
   (tuple_addW2 t b vs.toArray ws.toArray n n2 dd dd2 sl sl2 (by simpa using hv) (by simpa using hw) (by rw[xn,xn];exact hsz)) ⟨ho,ho2,?_⟩
  rw[e]
  erw[h2 hw]
def sIx(n d:Nat):Option Int->Nat
 |none=>d
 |some v=>if v<0 then (v+(n:Int)).toNat else min v.toNat n
def zjf(n d:Nat)(hd:d<=n)(o:Option Int):sIx n d o<=n:=by
 cases o with
 |none=>erw[hd]
 |some v=>
  show (if v<0 then (v+(n:Int)).toNat else min v.toNat n)<=n
  by_cases hv:v<0
  ·rw[if_pos hv];lia
  ·rw[if_neg hv];exact Nat.min_le_right _ _
def KF(v:Int)(n d:Nat):(if v<0 then max (v+(n:Int)) 0 else min v (n:Int))=((sIx n d (some v):Nat):Int):=by
 show (if v<0 then max (v+(n:Int)) 0 else min v (n:Int))=(((if v<0 then (v+(n:Int)).toNat else min v.toNat n):Nat):Int)
 by_cases hv:v<0
 ·simp only[if_pos hv];lia
 ·simp only[if_neg hv];lia
def Y4(lo hi:Option Int)(n:Nat):Builtin.Slice.sliceAdjust lo hi 1 (n:Int)=(((sIx n 0 lo:Nat):Int),((sIx n n hi:Nat):Int)):=by
 let h1:¬ ((1:Int)<0):=by lia
 unfold Builtin.Slice.sliceAdjust
 simp only[h1,if_false]
 erw[Prod.ext ?_ ?_]
 ·cases lo with
  |none=>rfl
  |some v=>erw[KF v n 0]
 ·cases hi with
  |none=>rfl
  |some v=>erw[KF v n n]
def Ke(i j:Nat):Builtin.Slice.slicePlaces (i:Int) (j:Int) 1=j-i:=by
 unfold Builtin.Slice.slicePlaces
 let h1:(1:Int)>0:=by lia
 simp only[h1,if_true,Int.ediv_one]
 split<;>lia
def W7(p:IsPart v o)(h:Q o s):wpAny (model prog w) A (Builtin.Slice.slicePartIndex v) Q E s:=by
 cases p with
 |none=>erw[slicePart_none h]
 |int i t=>erw[slicePart_int h]
def JL{lo hi:Option Int}{n:Nat}{Q:Int×Int×Nat->Am->Prop}(hs:s.heap.IsSliceOf sl vl vu .none)(pl:IsPart vl lo)(pu:IsPart vu hi)
  (h:Q (((sIx n 0 lo:Nat):Int),1,sIx n n hi-sIx n 0 lo) s):wpAny (model prog w) A (Builtin.Slice.sliceApplied (.ref sl) (pure (n:Int))) Q E s:=by
 let⟨os,hos,hcs,hds⟩:=id hs
 unfold Builtin.Slice.sliceApplied Builtin.Slice.sliceFields
 erw[x3 (x3 (wpAny_field hos hds rfl (x3 (wpAny_field hos hds rfl (x3 (wpAny_field hos hds rfl (x6 ?_)))))))]
 erw[x3 (slicePart_none ?_)]
 show wpAny _ _ (if ((1:Int)==0)=true then _ else _) _ _ s
 rw[if_neg (by decide)]
 erw[x3 (W7 pl (x3 (W7 pu (x3 (x6 ?_)))))]
 show wpAny _ _ (match Builtin.Slice.sliceAdjust lo hi 1 (n:Int)with | (lo,hi)=>pure (lo,(1:Int),Builtin.Slice.slicePlaces lo hi 1)) _ _ s
 rw[Y4 lo hi n]
 show wpAny _ _ (pure (((sIx n 0 lo:Nat):Int),(1:Int),Builtin.Slice.slicePlaces ((sIx n 0 lo:Nat):Int) ((sIx n n hi:Nat):Int) 1)) _ _ s
 rw[Ke]
 erw[x6 h]
def zeC(xs:Array Aj)(i k:Nat):((List.range k).filterMap λ(m:Nat)=>xs[((i:Int)+(m:Int)*1).toNat]?).toArray=((xs.toList.drop i).take k).toArray:=by
 let e:(λ(m:Nat)=>xs[((i:Int)+(m:Int)*1).toNat]?)=λm=>xs[i+m]?:=by
  funext m
  have:((i:Int)+(m:Int)*1).toNat=i+m:=by lia
  rw[this]
 rw[e]
 have:=pick_run xs i k
 rw[List.filterMap_map]at this
 let e2:((λx=>xs[x]?)∘λx=>i+x)=λm=>xs[i+m]?:=rfl
 rw[e2]at this
 rw[this]
def getItem_tuple_cut{t sl:Ap}{lo hi:Option Int}{Q:Af}(ht:IsTup s.heap t items)(hs:s.heap.IsSliceOf sl vl vu .none)(pl:IsPart vl lo)(pu:IsPart vu hi)
  (hw:¬ (sIx items.size 0 lo=0/\sIx items.size items.size hi=items.size))
  (h:Q (.ref ⇑s) { s with heap:=s.heap.push { cls:=.type "tuple",data:=.seq ((items.toList.drop (sIx items.size 0 lo)).take (sIx items.size items.size hi-sIx items.size 0 lo)).toArray } })
  (hsz:items.size<=sizeLine):wpAny (model prog w) A (getItem (.ref t) (.ref sl)) Q E s:=by
 let htake:sizeOk (.seq ((items.toList.drop (sIx items.size 0 lo)).take (sIx items.size items.size hi-sIx items.size 0 lo)).toArray):=by
  show ((items.toList.drop (sIx items.size 0 lo)).take (sIx items.size items.size hi-sIx items.size 0 lo)).toArray.size<=sizeLine
  rw[xn,xI,uw,Array.length_toList]
  lia
 let hj:sIx items.size items.size hi<=items.size:=zjf _ _ (xg _) hi
 let⟨os,hos,hcs,hds⟩:=id hs
 let hTs:s.TypeIs (.ref sl) "slice" :=⟨os,hos,hcs⟩
 unfold getItem
 try with_reducible refine Xb ?_
 first | refine x3 (x6 ?_) | skip
 refine x3 (wpAny_sequenceKey ht.typeIs (by decide) ?_)
 refine x3 (wpAny_callSpecial?_slot (name:=Str.ofString "__getitem__") ht.typeIs PyProof.Rows.slot_tuple_getitem
  (wpAny_call_entry PyProof.Rows.slot_tuple_getitem ht.typeIs entry_tuple_getitem ?_ (args_tuple_getitem _ _)))
 show wpAny _ _ (Builtin.Tuple.tupleItemsOf (.ref t) >>= _) _ _ s
 erw[x3 (tupleItemsOf_ ht ?_)]
 erw[x3 (wpAny_typeOf hTs ?_)]
 rw[if_pos (by decide)]
 erw[x3 (JL hs pl pu ?_)]
 let hno:¬ ((((sIx items.size 0 lo:Nat):Int)==0&&(1:Int)==1&&(sIx items.size items.size hi-sIx items.size 0 lo)==items.size)=true):=by
  intro q
  rw[xh,xh]at q
  let q1:((sIx items.size 0 lo:Nat):Int)=0:=eq_of_beq q.1.1
  let q2:sIx items.size items.size hi-sIx items.size 0 lo=items.size:=eq_of_beq q.2
  exact hw ⟨by lia,by lia⟩
 show wpAny _ _ (if (((sIx items.size 0 lo:Nat):Int)==0&&(1:Int)==1&&(sIx items.size items.size hi-sIx items.size 0 lo)==items.size)=true then _ else _) _ _ s
 rw[if_neg hno,zeC]
 first
  |exact x3 (wpAny_newObj_type (x6 ⟨_,rfl,x6 h⟩) htake)
  |exact x3 (wpAny_newObj_type (x3 (x6 (x6 ⟨_,rfl,x6 h⟩))) htake)
  |exact x3 (x3 (wpAny_newObj_type (x6 (x6 ⟨_,rfl,x6 h⟩)) htake))
  |exact x3 (x3 (wpAny_newObj_type (x6 ⟨_,rfl,x6 h⟩) htake))
end
end HT
namespace L2
open PySem PySem.Spec PyProof.Rows
abbrev TO:=St->Hp->(Option Int->Hp->Prop)->Prop
def PO(X:Cx)(e:Option Expr)(t:TO):Prop :=
 ∀(pins:Ak)(s:Am)(σ:St)(H:Hp)(Q:Option Int->Hp->Prop),Inv X pins σ H s->t σ H Q ->
  ∅ (evalPart e X.env) (λu s'=>∃ o H',Inv X pins σ H' s'/\IsPart u o/\Q o H') X.xe s
def zhx:TO:=λ_ H Q=>Q none H
def zk8(t:TE):TO:=λσ H Q=>t σ H λx H1=>∃ i,x=.int i/\Q (some i) H1
section
variable {X:Cx}{e:Expr}{te:TE}{lo hi:Option Expr}{tl th:TO}{pos p2:Pos}
def yp:PO X none zhx:=by
 cbv
 rw[evalPart_none]
 erw[x6 ⟨none,H,I,.none,h⟩]
def yq(h:PE X e te):PO X (some e) (zk8 te):=by
 intro pins s σ H Q I hw
 rw[evalPart_some]
 erw[thn (h pins s σ H _ I hw) λu s1 ⟨x,H1,I1,r1,q1⟩=>?_]
 let⟨i,rfl,q⟩:=q1
 let⟨t,rfl⟩:=r1
 exact⟨some i,H1,I1,.int i t,q⟩
def SlR(X:Cx)(r:V->Option Int->Option Int->Hp->VK->Prop):Prop :=
 ∀(pins:Ak)(s:Am)(σ:St)(H:Hp)(x:V)(v vl vu:Aj)(lo hi:Option Int)(sl:Ap)(Q:VK),Inv X pins σ H s->RelV x v->s.heap.IsSliceOf sl vl vu .none->IsPart vl lo->IsPart vu hi->r x lo hi H Q ->
  ∃ T id,typeLookup (.type T) "__getitem__" =pure (some (.builtin id))/\s.TypeIs v T/\∅ (getItem v (.ref sl)) (EP X pins σ Q) X.xe s
def tSl(r:V->Option Int->Option Int->Hp->VK->Prop)(te:TE)(tl th:TO):TE:=λσ H Q=>te σ H λx H1=>tl σ H1 λl H2=>th σ H2 λu H3=>r x l u H3 Q
def Ja{r:V->Option Int->Option Int->Hp->VK->Prop}(hr:SlR X r)(he:PE X e te)(hl:PO X lo tl)(hu:PO X hi th):PE X (.Subscript e (.Slice lo hi none p2) pos) (tSl r te tl th):=by
 cbv
 erw[Subscript_ (thn (he pins s σ H _ I h) λv s1 ⟨x,H1,I1,r1,q1⟩=>?_)]
 erw[wpAny_Slice (thn (hl pins s1 σ H1 _ I1 q1) λvl s2 ⟨l,H2,I2,pl,q2⟩=>thn (hu pins s2 σ H2 _ I2 q2) λvu s3 ⟨u,H3,I3,pu,q3⟩=>?_)]
 rw[evalPart_none]
 erw[x6 ?_]
 let I4:Inv X pins σ H3 { s3 with heap:=s3.heap.push { cls:=.type "slice",data:=.fields #[vl,vu,.none] } }:=I3.kept (t':=s3.toks) λb ob q=>x4 _ q
 let⟨T,id,hT,ht,hg⟩:=hr pins { s3 with heap:=s3.heap.push { cls:=.type "slice",data:=.fields #[vl,vu,.none] } } σ H3 x v vl vu l u ⇑s3 Q I4 r1 (Heap.IsSliceOf.new ..) pl pu q3
 show ∅ (subscriptTail e (.Slice lo hi none p2) v (.ref ⇑s3)) (EP X pins σ Q) X.xe { s3 with heap:=s3.heap.push { cls:=.type "slice",data:=.fields #[vl,vu,.none] } }
 exact tail_any ht hT hg (by with_unfolding_all rfl)
def Ju(xs:List V)(lo hi:Option Int):List V:=(xs.drop (HT.sIx xs.length 0 lo)).take (HT.sIx xs.length xs.length hi-HT.sIx xs.length 0 lo)
def JS(xs:List V)(lo hi:Option Int):(Ju xs lo hi).length<=xs.length:=by
 unfold Ju
 rw[xI,uw]
 lia
def rSlT(K:Ah):V->Option Int->Option Int->Hp->VK->Prop:=λx lo hi H Q=>∃ a xs,x=.ref a/\SqT K H a xs /\
 ¬ (HT.sIx xs.length 0 lo=0/\HT.sIx xs.length xs.length hi=xs.length)/\∀ p,H p=none->Q (.ref p) (upd H p (.tup (Ju xs lo hi)))
def zjC:SlR X (rSlT X.K):=by
 intro pins s σ H x v vl vu lo hi sl Q I rx hs pl pu h
 let⟨a,xs,rfl,hx,hw,q⟩:=h
 cases rx
 let⟨its,r,ht,hz⟩:=I.tuple hx
 let hlen:its.toArray.size=xs.length:=by rw[xn];exact r.length.symm
 refine⟨"tuple",_,PyProof.Rows.slot_tuple_getitem.lookup,ht.typeIs,?_⟩
 refine HT.getItem_tuple_cut ht hs pl pu (by rw[hlen];exact hw) ?_ (by rw[hlen];exact hz)
 rw[hlen]
 refine⟨.ref ⇑s,_,I.laid (λb ob q=>x4 _ q) (xg _) ?_,rfl,q _ (I.hok.fresh (xg _))⟩
 exact⟨xH (JS xs lo hi) hz,_,(r.drop (HT.sIx xs.length 0 lo)).take (HT.sIx xs.length xs.length hi-HT.sIx xs.length 0 lo),IsTup.new _ _⟩
def Vals.nil_iff(r:Vals xs us):us= []↔xs= []:=by
 cases r with
 |nil=>simp
 |cons _ _=>simp
end
def ixN(n:Nat)(i:Int):Option Nat:=if 0<=i then (if i<n then some i.toNat else none) else if -(n:Int)<=i then some (i+n).toNat else none
def atI{α:Type}(xs:List α)(i:Int):Option α:=(ixN xs.length i).bind λj=>xs[j]?
def KU(h:ixN n i=some j):seqIndex? i n=some j/\j<n/\ -(n:Int)<=i/\i<n:=by
 unfold ixN at h
 by_cases h0:0<=i
 ·rw[if_pos h0]at h
  by_cases h1:i<n
  ·rw[if_pos h1]at h
   let e:=Option.some.inj h
   exact⟨by rw[seqIndex_of h0 h1,e],by lia,by lia,h1⟩
  ·rw[if_neg h1]at h;cases h
 ·rw[if_neg h0]at h
  by_cases h1: -(n:Int)<=i
  ·rw[if_pos h1]at h
   let e:=Option.some.inj h
   exact⟨by rw[seqIndex_neg (by lia) h1,e],by lia,h1,by lia⟩
  ·rw[if_neg h1]at h;cases h
def VL{α:Type}{xs:List α}{i:Int}{v:α}(h:atI xs i=some v):∃ j,seqIndex? i xs.length=some j/\xs[j]?=some v/\j<xs.length/\ -(xs.length:Int)<=i/\i<xs.length:=by
 unfold atI at h
 cases e:ixN xs.length i with
 |none=>rw[e]at h;cases h
 |some j=>
  rw[e]at h
  let⟨h1,h2,h3,h4⟩:=KU e
  exact⟨j,h1,h,h2,h3,h4⟩
def qW{α:Type}{xs:List α}{j:Nat}{v:α}(h:xs[j]?=some v):atI xs (j:Int)=some v:=by
 let hj:=(xa.mp h).1
 let e:ixN xs.length (j:Int)=some j:=by
  unfold ixN
  rw[if_pos (by lia),if_pos (by lia)];simp
 unfold atI;rw[e];exact h
def zcG{α:Type}(xs:List α)(v:α):atI (xs++ [v]) (-1)=some v:=by
 let hl:(xs++ [v]).length=xs.length+1:=by simp
 let e:ixN (xs++ [v]).length (-1)=some xs.length:=by
  unfold ixN
  rw[hl,if_neg (by decide),if_pos (by lia)]
  congr 1
  lia
 unfold atI
 rw[e]
 simp
def wz(b:Expr):Prop:=∀ o i,subscripted b false o i=operate [o,i] (getItem o i)
def IxR(X:Cx)(r:R2):Prop :=
 ∀(value slice:Expr)(pins:Ak)(s:Am)(σ:St)(H:Hp)(x y:V)(v u:Aj)(Q:VK),Inv X pins σ H s->RelV x v->RelV y u->r x y H Q ->
  subscripted slice false v u=operate [v,u] (getItem v u)->∅ (subscriptTail value slice v u) (EP X pins σ Q) X.xe s
def MtR(X:Cx)(id:String)(r:V->List V->Hp->VK->Prop):Prop :=
 ∀(pins:Ak)(s:Am)(σ:St)(H:Hp)(x:V)(xs:List V)(v:Aj)(us:An)(Q:VK),Inv X pins σ H s->RelV x v->Vals xs us->r x xs H Q ->
  ∅ (call (.builtin id) (v::us)) (EP X pins σ Q) X.xe s
section
variable {X:Cx}{a b:Expr}{ta tb:TE}{pos:Pos}
def IxR.or{r r':R2}(h:IxR X r)(h':IxR X r'):IxR X (λx y H Q=>r x y H Q∨r' x y H Q):=by
 intro value slice pins s σ H x y v u Q I rx ry q hs
 rcases q with q | q
 ·erw[h value slice pins s σ H x y v u Q I rx ry q hs]
 ·erw[h' value slice pins s σ H x y v u Q I rx ry q hs]
def zet(hr:IxR X r)(ha:PE X a ta)(hb:PE X b tb)(hs:wz b):PE X (.Subscript a b pos) (tOp r ta tb):=by
 cbv
 erw[Subscript_ (zh7 ha hb I h λv u s2 x y H2 I2 rx ry q=>hr a b pins s2 σ H2 x y v u Q I2 rx ry q (hs _ _))]
def rIxL(K:Ah):R2:=λx y H Q=>∃ p xs i v,x=.ref p/\y=.int i/\SqL K H p xs/\atI xs i=some v/\Q v H
def rIxT(K:Ah):R2:=λx y H Q=>∃ p xs i v,x=.ref p/\y=.int i/\SqT K H p xs/\atI xs i=some v/\Q v H
def rIxS:R2:=λx y H Q=>∃ z i c,x=.str z/\y=.int i/\z.length<=sizeLine/\atI z.cps.toList i=some c/\Q (.str ⟨#[c]⟩) H
def ix_list:IxR X (rIxL X.K):=by
 intro value slice pins s σ H x y v u Q I rx ry h hs
 let⟨p,xs,i,z,rfl,rfl,hq,he,q⟩:=h
 cases rx
 let⟨t,rfl⟩:=ry
 let⟨its,r,pl,hz⟩:=I.list hq
 let⟨j,h1,h2,h3,h4,h5⟩:=VL he
 let⟨w,ew,rw'⟩:=r.get h2
 let hl:=r.length
 let hn:=JE
 let fin:EP X pins σ Q w s:=⟨z,H,I,rw',q⟩
 by_cases h0:0<=i
 ·let hj:i.toNat=j:=by
   rw[seqIndex_of h0 h5]at h1
   erw[Option.some.inj h1]
  exact item_listR pl.isList h0 (by lia) (by rw[hj];simpa using ew) fin hs
 ·let hj:(i+(its.toArray.size:Int)).toNat=j:=by
   rw[seqIndex_neg (by lia) h4]at h1
   rw[xn,<- hl]
   erw[Option.some.inj h1]
  exact subscriptTail_builtinR pl.isList.typeIs slot_list_getitem.lookup
   (wpAny_getItem_list_neg pl.isList (by lia) (by rw[xn]<;>lia) (by lia) (by rw[hj];simpa using ew) ⟨rfl,fin⟩) hs
def ziC:IxR X (rIxT X.K):=by
 intro value slice pins s σ H x y v u Q I rx ry h hs
 let⟨p,xs,i,z,rfl,rfl,hq,he,q⟩:=h
 cases rx
 let⟨t,rfl⟩:=ry
 let⟨its,r,pl,hz⟩:=I.tuple hq
 let⟨j,h1,h2,h3,h4,h5⟩:=VL he
 let⟨w,ew,rw'⟩:=r.get h2
 let hl:=r.length
 let hn:=JE
 let fin:EP X pins σ Q w s:=⟨z,H,I,rw',q⟩
 exact subscriptTail_builtinR pl.typeIs slot_tuple_getitem.lookup
  (getItem_tuple pl (by lia) (by lia) (by rw[xn,<- hl];exact h1) (by simpa using ew) ⟨rfl,fin⟩) hs
def ziB:IxR X rIxS:=by
 intro value slice pins s σ H x y v u Q I rx ry h hs
 let⟨z,i,c,rfl,rfl,hz,he,q⟩:=h
 let⟨t,rfl⟩:=rx
 let⟨t',rfl⟩:=ry
 let⟨j,h1,h2,h3,h4,h5⟩:=VL he
 let hl:z.cps.toList.length=z.length:=by simp[Str.length]
 rw[hl]at h1 h4 h5
 let hn:=JE
 exact tail_any (typeIs_str s z t) slot_str_getitem.lookup (getItem_str (by
  let e1:decide (i< -(2 ^ 63:Int))=false:=Xa (by lia)
  let e2:decide (i≥2 ^ 63)=false:=Xa (by lia)
  rw[e1,e2,Bool.or_false]) (by rw[h1];simpa using h2) ⟨.str ⟨#[c]⟩,H,I.tok _,⟨_,rfl⟩,q⟩) hs
def k8 (its:An) (n j:Nat) (u:Aj):Obj.mapSeq (·.setIfInBounds j u) { cls:=.type "list",data:=.seq its.toArray n }={ cls:=.type "list",data:=.seq (its.set j u).toArray n }:=by
 simp[Obj.mapSeq]
def Inv.lst{pins:Ak}{σ:St}{H:Hp}{s:Am}{p:Ap}{xs:List V}(I:Inv X pins σ H s)(h:H p=some (.lst xs)) :
  ∃ (its:An) (n:Nat),Vals xs its/\s.heap.get? p=some { cls:=.type "list",data:=.seq its.toArray n }/\xs.length<=sizeLine:=by
 let⟨z,its,n,r,e⟩:=I.hok p _ h
 exact⟨its,n,r,e,z⟩
def Inv.lstUpd{xs ys:List V}{its its':An}{n n':Nat}{f:Obj->Obj}(I:Inv X pins σ H s)(h:H p=some (.lst xs))
  (ho:s.heap.get? p=some { cls:=.type "list",data:=.seq its.toArray n }) (hf:f { cls:=.type "list",data:=.seq its.toArray n }={ cls:=.type "list",data:=.seq its'.toArray n' }) (r:Vals ys its') (hz:ys.length<=sizeLine) (t:Nat) :
  Inv X pins σ (upd H p (.lst ys)) { s with heap:=s.heap.update p f,toks:=t }:=by
 let e:(s.heap.update p f).get? p=some { cls:=.type "list",data:=.seq its'.toArray n' }:=by
  rw[Heap.get?_update_self f ho (by rw[hf]<;>rfl),hf]
 refine I.write (by rw[h];trivial) (.inl rfl) (λb u hb q=>(Xd _ _ (Ne.symm hb)).trans q) ⟨_,e⟩ ?_
 exact⟨hz,its',n',r,e⟩
def zkI:V->V->V->Hp->(Hp->Prop)->Prop:=λo i v H Q=>∃ p xs k j,o=.ref p/\i=.int k/\H p=some (.lst xs)/\ixN xs.length k=some j/\Q (upd H p (.lst (xs.set j v)))
def zeV:zh2 X zkI:=by
 intro pins s σ H o i v ov iv u Q I ro ri rv h
 let⟨p,xs,k,j,rfl,rfl,hp,hj,q⟩:=h
 cases ro
 let⟨t,rfl⟩:=ri
 let⟨its,n,r,ho,hz⟩:=I.lst hp
 let⟨h1,h2,h3,h4⟩:=KU hj
 let hl:=r.length
 let hn:=JE
 let I':Inv X pins σ (upd H p (.lst (xs.set j v))) { s with heap:=s.heap.update p (Obj.mapSeq (·.setIfInBounds j u)) } :=
  I.lstUpd hp ho (k8 its n j u) (r.set rv j) (by rw[xK];exact hz) s.toks
 by_cases h0:0<=k
 ·let hk:k.toNat=j:=by
   rw[seqIndex_of h0 h4]at h1
   erw[Option.some.inj h1]
  exact W.ki_setAt ho h0 (by lia) (by rw[xn,<- hl];exact h4) (by rw[hk];exact⟨_,I',q⟩)
 ·let hk:(k+(its.toArray.size:Int)).toNat=j:=by
   rw[seqIndex_neg (by lia) h3]at h1
   rw[xn,<- hl]
   erw[Option.some.inj h1]
  exact W.ki_setBack ho (by lia) (by rw[xn,<- hl];exact h3) (by lia) (by rw[hk];exact⟨_,I',q⟩)
def yw(lo hi:Option Int)(n:Nat):(sliceBounds lo hi none n).1=((HT.sIx n 0 lo:Nat):Int)/\(sliceBounds lo hi none n).2.1=((HT.sIx n n hi:Nat):Int)/\(sliceBounds lo hi none n).2.2=1:=by
 refine⟨?_,?_,rfl⟩
 ·cases lo with
  |none=>simp[sliceBounds,HT.sIx]
  |some i=>
   simp only[sliceBounds,HT.sIx,Option.getD_none,show (1:Int)>0 by decide,if_true]
   by_cases h:i<0
   ·simp only[h,if_true]<;>lia
   ·simp only[h,if_false]<;>lia
 ·cases hi with
  |none=>simp[sliceBounds,HT.sIx]
  |some i=>
   simp only[sliceBounds,HT.sIx,Option.getD_none,show (1:Int)>0 by decide,if_true]
   by_cases h:i<0
   ·simp only[h,if_true]<;>lia
   ·simp only[h,if_false]<;>lia
def vJ(its:An)(lo hi:Option Int):slicePick its.toArray lo hi none=((its.drop (HT.sIx its.length 0 lo)).take (HT.sIx its.length its.length hi-HT.sIx its.length 0 lo)).toArray:=by
 let⟨h1,h2,h3⟩:=yw lo hi its.toArray.size
 unfold slicePick
 rw[h1,h2,h3]
 simp only[sliceRange_one,pick_run,xn]<;>rfl
def rSlL(K:Ah):V->Option Int->Option Int->Hp->VK->Prop:=λx lo hi H Q=>∃ a xs,x=.ref a/\SqL K H a xs/\∀ p,H p=none->Q (.ref p) (upd H p (.lst (Ju xs lo hi)))
def yv:SlR X (rSlL X.K):=by
 intro pins s σ H x v vl vu lo hi sl Q I rx hs pl pu h
 let⟨a,xs,rfl,hx,q⟩:=h
 cases rx
 let⟨its,r,ht,hz⟩:=I.list hx
 let hlen:=r.length
 refine⟨"list",_,slot_list_getitem.lookup,ht.isList.typeIs,?_⟩
 refine wpAny_getItem_list_slice ht.isList hs pl pu .none (by simp) ?_ (by rw[xn]<;>lia)
 rw[vJ,<- hlen]
 refine⟨.ref ⇑s,_,I.laid (λb ob q=>x4 _ q) (xg _) ?_,rfl,q _ (I.hok.fresh (xg _))⟩
 exact⟨xH (JS xs lo hi) hz,_,0,(r.drop (HT.sIx xs.length 0 lo)).take (HT.sIx xs.length xs.length hi-HT.sIx xs.length 0 lo),x8 _ rfl⟩
def ZK:ji X (.builtin "len") (λxs H Q=>∃ p ys,xs= [.ref p]/\(SqL X.K H p ys∨SqT X.K H p ys)/\Q (.int ys.length) H):=by
 intro pins s σ H xs us Q I r h
 let⟨p,ys,rfl,hq,q⟩:=h
 let⟨u,rfl,rx⟩:=j7 r
 cases rx
 let hn:=JE
 rcases hq with hq | hq
 ·let⟨its,r',pl,hz⟩:=I.list hq
  let hlen:=r'.length
  exact Calls.call_len_list pl.isList (by simp only[xn]<;>lia) ⟨.int ys.length,H,I.tok _,⟨s.toks+1,by rw[xn,hlen]⟩,q⟩
 ·let⟨its,r',pl,hz⟩:=I.tuple hq
  let hlen:=r'.length
  exact len_tuple pl (by simp only[xn]<;>lia) ⟨.int ys.length,H,I.tok _,⟨s.toks+1,by rw[xn,hlen]⟩,q⟩
def Q0:ji X (.type "list") (λxs H Q=>∃ p ys,xs= [.ref p]/\(SqL X.K H p ys∨SqT X.K H p ys)/\∀ l,H l=none->Q (.ref l) (upd H l (.lst ys))):=by
 intro pins s σ H xs us Q I r h
 let⟨p,ys,rfl,hq,q⟩:=h
 let⟨u,rfl,rx⟩:=j7 r
 cases rx
 have fin:∀(its:An),Vals ys its->ys.length<=sizeLine->∀(h':Heap)(c':Nat),(∀ b o',s.heap.get? b=some o'->h'.get? b=some o') ->
   h'.get? ⇑s=some { cls:=.type "list",dict:=none,data:=.seq its.toArray c',slots:=#[] }->EP X pins σ Q (.ref ⇑s) { s with heap:=h' }:=λits r' hz h' c' kp e=>
  ⟨.ref ⇑s,_,I.laid kp (xg _) (show ObjOk X.prog X.w _ h' _ (.lst ys) from ⟨hz,its,c',r',e⟩),rfl,q _ (I.hok.fresh (xg _))⟩
 rcases hq with hq | hq
 ·let⟨its,r',pl,hz⟩:=I.list hq
  let hlen:=r'.length
  let⟨o,ho,hc,n,hd⟩:=pl.isList
  exact call_list_seq p (.inl rfl) ho hc hd (λh' c' kp e=>fin its r' hz h' c' kp e) (by simp only[xn]<;>lia)
 ·let⟨its,r',pl,hz⟩:=I.tuple hq
  let hlen:=r'.length
  let⟨o,ho,hc,n,hd⟩:=pl
  exact call_list_seq p (.inr rfl) ho hc hd (λh' c' kp e=>fin its r' hz h' c' kp e) (by simp only[xn]<;>lia)
def vp:ji X (.type "tuple") (λxs H Q=>∃ p ys,xs= [.ref p]/\((SqL X.K H p ys/\∀ l,H l=none->Q (.ref l) (upd H l (.tup ys)))∨(SqT X.K H p ys/\Q (.ref p) H))):=by
 intro pins s σ H xs us Q I r h
 let⟨p,ys,rfl,h⟩:=h
 let⟨u,rfl,rx⟩:=j7 r
 cases rx
 rcases h with ⟨hq,q⟩ | ⟨hq,q⟩
 ·let⟨its,r',pl,hz⟩:=I.list hq
  let hlen:=r'.length
  refine call_tuple_list pl.isList (λh' kp=>?_) (by simp only[xn]<;>lia)
  let I1:=I.kept (t':=s.toks) kp
  let I2:Inv X pins σ (upd H h'.objs.size (.tup ys)) { s with heap:=h'.push { cls:=.type "tuple",data:=.seq its.toArray } } :=
   I1.laid (λb o e=>x4 _ e) (xg _) (show ObjOk X.prog X.w _ _ _ (.tup ys) from ⟨hz,its,r',IsTup.new _ _⟩)
  exact⟨.ref h'.objs.size,_,I2,rfl,q _ (I1.hok.fresh (xg _))⟩
 ·let⟨its,r',pl,hz⟩:=I.tuple hq
  erw[call_tuple_same pl ⟨.ref p,H,I,rfl,q⟩]
def tyV(K:Ah)(T:String)(x:V)(H:Hp):Prop:=match x with
 |.str _=>T= "str"
 |.int _=>T= "int"
 |.ref p=>(T= "list" /\∃ xs,SqL K H p xs)∨(T= "tuple" /\∃ o,K.lookup p=some o/\o.cls=.type "tuple" /\o.dict=none) ∨
   (T= "dict" /\(∃ kvs,H p=some (.dK kvs)))∨(T= "set" /\∃ S n,H p=some (.set S n))
 |_=>False
def zjS{pins:Ak}{σ:St}{H:Hp}{s:Am}{T:String}{x:V}{v:Aj}(I:Inv X pins σ H s)(r:RelV x v)(ty:tyV X.K T x H) :
  s.TypeIs v T/\∀ a,v=.ref a->∃ ob,s.heap.get? a=some ob/\ob.dict=none:=by
 cases x with
 |str z=>
  let⟨t,rfl⟩:=r
  cases (show T= "str" from ty)
  exact⟨typeIs_str s z t,λ_ e=>nomatch e⟩
 |int i=>
  let⟨t,rfl⟩:=r
  cases (show T= "int" from ty)
  exact⟨typeIs_int s i t,λ_ e=>nomatch e⟩
 |ref p=>
  cases r
  rcases ty with ⟨rfl,xs,hq⟩ | ⟨rfl,o,hk,hc,hd⟩ | ⟨rfl,hk⟩ | ⟨rfl,S,n,hk⟩
  ·let⟨its,_,pl,_⟩:=I.list hq
   refine⟨pl.isList.typeIs,λa e=>?_⟩
   cases e
   let⟨o,n,e,c,hd,_⟩:=pl
   exact⟨o,e,hd⟩
  ·refine⟨⟨o,I.kIn p o hk,hc⟩,λa e=>?_⟩
   cases e
   exact⟨o,I.kIn _ o hk,hd⟩
  ·let z:∃ o,s.heap.get? p=some o/\o.ExactDict:=by
    let⟨kvs,hk⟩:=hk
    let⟨_,_,_,_,o,_,_,e,ex,_⟩:=I.hok p _ hk
    exact⟨o,e,ex⟩
   let⟨o,e,ex⟩:=z
   refine⟨⟨o,e,ex.1⟩,λa e2=>?_⟩
   cases e2
   exact⟨o,e,ex.2.1⟩
  ·let⟨o,_,_,_,e,ex,_⟩:=I.hok p _ hk
   refine⟨⟨o,e,ex.1⟩,λa e2=>?_⟩
   cases e2
   exact⟨o,e,ex.2.1⟩
 |_=>erw[False.elim ty]
def tBM(K:Ah)(T:String)(r:V->List V->Hp->VK->Prop)(to:TE)(t:TA):TE:=λσ H Q=>to σ H λx H1=>tyV K T x H1/\t σ H1 λxs H2=>r x xs H2 Q
variable {o e:Expr}{es:Ag}{to:TE}{t:TA}{name:Str}{apos cpos:Pos}{T id:String}{r:V->List V->Hp->VK->Prop}
def KZ (pa:PlainAttrs T) (slot:Slot T name id) (hty:typeOf (.builtin id)=pure (.type "method_descriptor")) (hm:MtR X id r) (ho:PE X o to) (ha:PA X (e::es) t)
  (hbase:attributeBase o name X.env (eval o X.env)=eval o X.env:=by rfl)
  (hfew:((backTo cpos (starEach (e::es) X.env)).all (λx=> !x.1)&&(backToKw cpos (keywordEach [] X.env)).all (λx=>x.1.isSome)
   && decide ((e::es).length+([]:List Keyword).length+(if ([]:List Keyword).isEmpty then 0 else 1)<30))=true:=by rfl)
  (hline:(apos.endLine==cpos.line)=true:=by rfl) (hs:starEach (e::es) X.env=(false,eval e X.env)::starEach es X.env:=by rfl) (hplain:(backTo cpos (starEach es X.env)).any (·.1)=false:=by rfl) :
  PE X (.Call (.Attribute o name apos) (e::es) [] cpos) (tBM X.K T r to t):=by
 cbv
 erw[wpAny_Call_method_late hbase hfew hline rfl (thn (ho pins s σ H _ I h) λv s1 ⟨x,H1,I1,r1,ty,q1⟩=>?_)]
 let⟨h1,h2⟩:=zjS I1 r1 ty
 refine⟨T,id,pa,slot,hty,h1,h2,?_⟩
 let hA:=ha cpos pins s1 σ H1 _ I1 q1
 rw[hs]at hA |-
 refine Calls.callWith_builtin (by show (false||(backTo cpos (starEach es X.env)).any (·.1))=false;rw[hplain]<;>rfl) (Calls.evalArgs_plain ?_)
 erw[thn hA λus s2 ⟨vs,H2,I2,r2,q2⟩=>hm pins s2 σ H2 x vs v us Q I2 r1 r2 q2]
end
def MtM(X:Cx)(id:String)(r:V->List V->Hp->VK->Prop):Prop :=
 ∀(pins:Ak)(s:Am)(σ:St)(H:Hp)(x:V)(xs:List V)(v:Aj)(us:An)(Q:VK),Inv X pins σ H s->RelV x v->Vals xs us->r x xs H Q ->
  ∅ (call (.builtin id) (v::us)) (EP X pins σ Q) X.xe s
def Vals.one:∀{x:V}{us:An},Vals [x] us->∃ u,us= [u]/\RelV x u
 |_,_,.cons r .nil=>⟨_,rfl,r⟩
def Vals.reverse{xs:List V}{us:An}(h:Vals xs us):Vals xs.reverse us.reverse:=by
 induction h with
 |nil=>erw[.nil]
 |cons r t ih=>rw[uG,uG];exact Vals.append ih (.cons r .nil)
def Vals.rep(h:Vals xs us):∀ k:Nat,Vals (List.replicate k xs).flatten (List.replicate k us).flatten
 |0=>.nil
 |k+1=>by
  rw[xP,xP,uh,uh]
  erw[Vals.append h (Vals.rep h k)]
def JA(its:An):∀(k:Nat)(acc:An),
  List.foldl (λx1 x2=>x1++x2) acc.toArray (List.replicate k its.toArray)=(acc++(List.replicate k its).flatten).toArray
 |0,acc=>by simp
 |k+1,acc=>by
  let e:acc.toArray++its.toArray=(acc++its).toArray:=by simp
  let e2:(acc++its)++(List.replicate k its).flatten=acc++(List.replicate (k+1) its).flatten:=by
   rw[xP,uh,uv]
  rw[<- e2,<- JA its k (acc++its),<- e,xP,uy]
section
variable {X:Cx}{pins:Ak}{σ:St}{H:Hp}{s:Am}{l:Ap}{xs ys:List V}
def Inv.lset{its its':An}{n:Nat}{f:Array Aj->Array Aj}{t':Nat}(I:Inv X pins σ H s)(hH:H l=some (.lst xs))
  (e:s.heap.get? l=some { cls:=.type "list",data:=.seq its.toArray n }) (hf:f its.toArray=its'.toArray) (hv:Vals ys its') (hz:ys.length<=sizeLine) :
  Inv X pins σ (upd H l (.lst ys)) { s with heap:=s.heap.update l (Obj.mapSeq f),toks:=t' }:=by
 let q:=PySem.IsL.update e f
 rw[hf]at q
 refine I.write (by rw[hH];exact trivial) (.inl rfl) (λb' u hb hu=>(Xd s.heap (Obj.mapSeq f) (Ne.symm hb)).trans hu) ⟨_,q⟩ ?_
 exact⟨hz,its',_,hv,q⟩
def Inv.lnew{t':Nat}(I:Inv X pins σ H s)(hv:Vals ys its)(hz:ys.length<=sizeLine) :
  Inv X pins σ (upd H ⇑s (.lst ys)) { s with heap:=s.heap.push { cls:=.type "list",data:=.seq its.toArray },toks:=t' } :=
 I.laid (λ_ _ q=>x4 _ q) (xg _) ⟨hz,its,0,hv,x8 _ rfl⟩
def Inv.fresh(I:Inv X pins σ H s):H ⇑s=none:=I.hok.fresh (xg _)
def Inv.lstM (I:Inv X pins σ H s) (hH:H l=some (.lst xs)):xs.length<=sizeLine/\∃ (its:An) (n:Nat),Vals xs its/\xs.length=its.length/\s.heap.get? l=some { cls:=.type "list",data:=.seq its.toArray n }:=by
 let⟨z,its,n,r,e⟩:=I.hok l _ hH
 exact⟨z,its,n,r,r.length,e⟩
end
section
variable {X:Cx}
def zgL:V->List V->Hp->VK->Prop:=λx vs H Q=>∃ l xs y,x=.ref l/\vs= [y]/\H l=some (.lst xs)/\xs.length<sizeLine/\Q .non (upd H l (.lst (xs++ [y])))
def Vs:MtM X "list.append" zgL:=by
 intro pins s σ H x vs v us Q I rx rv h
 let⟨l,xs,y,rfl,rfl,hH,hz,q⟩:=h
 cases rx
 let⟨u,rfl,ru⟩:=rv.one
 let⟨z,its,n,r,hl,e⟩:=I.lstM hH
 refine call_meets F.slot_list_append ⟨_,e,rfl⟩ F.entry_list_append (F.args_list_append_2 _ _) (PySem.list_append l its.toArray n u (by rw[xn];lia)) ⟨e,?_⟩
 refine⟨.non,_,I.lset hH e (by simp) (r.append (.cons ru .nil)) ?_,rfl,q⟩
 rw[xy,uc]
 lia
def rCat:R2:=λx y H Q=>∃ l b xs zs,x=.ref l/\y=.ref b/\H l=some (.lst xs)/\H b=some (.lst zs)/\xs.length+zs.length<=sizeLine/\∀ p,H p=none->Q (.ref p) (upd H p (.lst (xs++zs)))
def ziR:OpR X (binaryOp .Add) rCat:=by
 intro pins s σ H x y v u Q I rx ry h
 let⟨l,b,xs,zs,rfl,rfl,hH,hB,hz,q⟩:=h
 cases rx
 cases ry
 let⟨z,its,n,r,hl,e⟩:=I.lstM hH
 let⟨z2,its2,n2,r2,hl2,e2⟩:=I.lstM hB
 refine PySem.P.add_list e e2 ?_ (by rw[xn,xn];lia)
 let ea:its.toArray++its2.toArray=(its++its2).toArray:=by simp
 rw[ea]
 exact⟨.ref _,_,I.lnew (r.append r2) (by rw[xy];lia),rfl,q _ I.fresh⟩
def yh{α:Type}(xs:List α)(k:Nat):(List.replicate k xs).flatten.length=k*xs.length:=by
 induction k with
 |zero=>simp
 |succ k ih=>rw[xP,uh,xy,ih,Nat.succ_mul,Nat.add_comm]
end
section
end
section
end
end L2
namespace Att
open PySem PySem.W PySem.Calls PyProof.Rows
def wv:∀(ns:List Int)(vs:An),WellAll P h vs (ns.map WData.int)->IntsAre vs ns:=by
 intro ns
 induction ns with
 |nil=>
  intro vs w
  rw[List.map_nil]at w
  cases w
  erw[.nil]
 |cons n ns ih=>
  intro vs w
  rw[xp]at w
  cases w with
  |cons a b=>
   cases a
   erw[.cons _ _ (ih _ b)]
def zb5{l:OpenLaw}(hn:l.most=some n){P:Params}{h:Heap}{args:List WData}{vals:An}
  (hpre:l.row.toRowW.claim.pre args=true) (hwl:WellAll P h vals args) :
  ∃ a vs ns,vals= [Value.ref a]/\args= [WData.list (ns.map WData.int)]/\h.get? a=some { cls:=.type "list",data:=.seq vs.toArray }/\IntsAre vs ns/\ns.length<=n:=by
 let hsh:=(pre_splitW hpre).1
 let hc:l.pre.holds [] { args:=args }=true:=(pre_splitW hpre).2
 let⟨d,r,rfl,h1,h2⟩:=hasAllW_cons hsh
 obtain rfl:=hasAllW_nil h2
 let⟨xs,rfl,h3⟩:=hasW_list h1
 let⟨ns,rfl⟩:=items_int h3
 let hlen:ns.length<=n:=by
  unfold OpenLaw.pre at hc
  let h4:(WTm.not (.lt (.lit (.int (n:Int))) (.len (.arg 0)))).holds [] { args:= [.list (ns.map .int)] }=true:=by
   let h4:=(holds_andW hc).1
   rw[hn]at h4
   erw[h4]
  let h5:=condW_of h4 (w_not (w_lt w_lit (w_len_list (w_arg rfl))))
  rw[xo]at h5
  erw[Nat.le_of_not_lt λq=>?_]
  let q':(n:Int)<((ns.length:Nat):Int):=by lia
  first
   | (rw[decide_eq_true q']at h5;exact absurd h5 (by decide))
   | (simp at h5;lia)
 cases hwl with
 |cons w1 w2=>
  cases w2
  cases w1 with
  |list ho hall=>exact⟨_,_,ns,rfl,rfl,ho,wv ns _ hall,hlen⟩
def zb0(l:OpenLaw)(args:List WData):l.row.toRowW.claim.post args (.bool true) args=true :=
 postW_of
  (show WShape.has [] (.bool true) .bool=true by first | rfl | decide | simp[WShape.has,WShape.arms,WShape.armsAll])
  (show (WTm.eq .res (.lit (.bool true))).value [] { args:=args,res:=some (.bool true),after:=args }=some (.bool (true==true)) from w_eq_bool (w_res rfl) w_lit) rfl
def attach_call{l:OpenLaw}{n:Nat}{q:Ar}{loose:Ab}{XP:(Aq)->Heap->Prop}{YP:World->Heap->Prop}{d:DefRec}
  (hn:l.most=some n) (hdf:d.params.defaults= [])
  (call:∀(w:World)(s₀ s₁:Am)(mg mb:Aq)(fa:Ap)(o:Obj)(pm cd doc:Aj)(a:Ap)(vs:An)(ns:List Int),
   Ground q loose [] XP w s₀ mg mb s₁.heap->YP w s₁.heap ->
   s₁.heap.get? fa=some o->o.data=.func (docDef d.name d.params d.body d.scope pm cd doc)->s₁.heap.CodeRec cd d.name->mg d.name=some (.ref fa) ->
   s₁.heap.get? a=some { cls:=.type "list",data:=.seq vs.toArray }->IntsAre vs ns->ns.length<=n->s₁.gens=#[] ->
   codeAny (model l.prog w) callerA (.call (.ref fa) ⟨[.ref a],[]⟩) (λr s'=>r=.ok (.ret (.bool true))/\OldK s₁.heap s'.heap/\s'.os=s₁.os/\AllBare s'.gens) s₁) :
  WalkO q loose XP YP l.row.toRowW d [] (λf vs=>PySem.call f vs):=by
 intro w s₀ s₁ mg mb G Y fa o pm cd doc dV kV ho hd hcd hD hmg hg args vals as hpre hlay hrd hwl hlo
 obtain rfl:dV=.none:=Dflts.none hD hdf
 obtain rfl:kV=.none:=Dflts.noKw hD
 let⟨a,vs,ns,rfl,rfl,hobj,hints,hlen⟩:=zb5 hn hpre hwl
 erw[enter_call (Xj (call w s₀ s₁ mg mb fa o pm cd doc a vs ns G Y ho (fd_plain hd) hcd hmg hobj hints hlen hg) λr s' hq=>?_)]
 let⟨rfl,h2,h3,h4⟩:=hq
 exact⟨.inl ⟨.bool true,.bool true,[],rfl,λ_=>rfl,.bool true,zb0 l _,λ_=>⟨List.Pairwise.nil,λ_ hm=>(nomatch hm)⟩⟩,h2,h3,h4⟩
section
end
end Att
namespace L2
open PySem PySem.Spec PyProof.Rows
def ZD:∀{vs:An}{ns:List Int},IntsAre vs ns->Vals (ns.map V.int) vs
 |_,_,.nil=>.nil
 |_,_,.cons n t h=>.cons ⟨t,rfl⟩ (ZD h)
def zh1(H:Hp):Prop:=∀ b,H b=none∨∃ o xs,H b=some (.frz o (.lst xs))
def zd3{P:Ar}{w:World}{K:Ah}{mg mb:Aq}{CX:CXT}{k:Nat}{fa a:Ap}{fd:FuncData}{x:Str}{sp:Sp}{s₁:Am}{vs:An}{ns:List Int}
  (KX:K.In s₁.heap) (hns:s₁.heap.Ns mainGlobals mg) (hb:s₁.heap.Ns builtinsNs mb) (hbb:∀ x:Str,x≠ "__name__" ->mb x=bootBuiltins x) (hlim:s₁.heap.NoLimit) (hg:s₁.gens=#[])
  (ha:s₁.heap.get? a=some { cls:=.type "list",data:=.seq vs.toArray }) (hi:IntsAre vs ns) (hl:ns.length<=sizeLine) (hr:Room k callerA)
  (F:∀ base:Heap,K.In base->base.Ns mainGlobals mg->FnOk P w K mg base CX k fa fd [x] sp) (hbind:∀(s:Am)(u:Aj),BindsTo s fd ⟨[u],[]⟩ [(x,u)])
  (hsp:∀ H:Hp,zh1 H->SqL K H a (ns.map V.int)->sp [.ref a] H (λv _=>v=.bl true) λ_ _ _=>False)
  (hCX:∀ H e s',CX [] H s₁ (λ_ _ _=>False) e s'->False) :
  codeAny (model P w) callerA (.call (.ref fa) ⟨[.ref a],[]⟩) (λr s'=>r=.ok (.ret (.bool true))/\OldK s₁.heap s'.heap/\s'.os=s₁.os/\AllBare s'.gens) s₁:=by
 let rv:=ZD hi
 let lenV:=hi.length
 -- from an abstract heap in which nothing but the script may be tracked
 have core:∀ H:Hp,zh1 H->SqL K H a (ns.map V.int)->HOk P w H s₁.heap->(∀ b,H b≠none->b=a)->(H a≠none->K.lookup a=none) ->
   codeAny (model P w) callerA (.call (.ref fa) ⟨[.ref a],[]⟩) (λr s'=>r=.ok (.ret (.bool true))/\OldK s₁.heap s'.heap/\s'.os=s₁.os/\AllBare s'.gens) s₁:=by
  intro H hO hS hok hA hK
  let Ql:∀{b:Ap}{o:Obj},s₁.heap.get? b=some o->H b=none->(yc s₁.heap H).get? b=some o:=λe n=>zdX e n
  let noA:∀{b:Ap}{o:Obj}{es:Array DictEntry}{ep:Nat},s₁.heap.get? b=some o->o.data=.dict es ep->H b=none:=λ{b o es ep} e d=>by
   cases q:H b with
   |none=>rfl
   |some u=>
    let e':=hA b (by rw[q];simp)
    subst e'
    rw[ha]at e;cases e
    let d':=d
    cases d'
  let nsK:∀{b:Ap}{m:Aq},s₁.heap.Ns b m->(yc s₁.heap H).Ns b m:=λ{b m} ⟨o,es,ep,e,d,r⟩=>⟨o,es,ep,Ql e (noA e d),d,r⟩
  let hKb:K.In (yc s₁.heap H):=λb o e=>Ql (KX b o e) (by
   cases q:H b with
   |none=>rfl
   |some u=>
    let e':=hA b (by rw[q];simp)
    subst e'
    rw[hK (by rw[q];simp)]at e;cases e)
  let hM:Mod K mg (yc s₁.heap H):=⟨hKb,nsK hns,⟨mb,nsK hb,hbb⟩,let ⟨mc,h1,h2⟩:=hlim;⟨mc,nsK h1,h2⟩⟩
  let e0:Env0 P w K mg (yc s₁.heap H) callerA [] s₁ H:=⟨rfl,hM,λb o e=>zgo e,Nat.le_of_eq (zby _ _),trivial,λb hb=>absurd (show b∈([]:List Ap) from hb) (by simp),hok,.of_eq hg⟩
  erw[Xj ((F _ hKb (nsK hns)).run callerA [] s₁ H ⟨[.ref a],[]⟩ [.ref a] [.ref a] _ _ hr e0 (hbind s₁ (.ref a)) (.cons rfl .nil) (hsp H hO hS)) λr s' h=>?_]
  cases r with
  |error e=>erw[(hCX H e s' h).elim]
  |ok fl=>
   cases fl with
   |next=>erw[False.elim h]
   |brk=>erw[False.elim h]
   |cont=>erw[False.elim h]
   |ret u=>
    let⟨v,H',os,bare,un,hok',r',q⟩:=h
    let q':=q
    subst q'
    obtain rfl:u=Value.bool true:=r'
    refine⟨rfl,OldK.of_keep λb o e=>?_,os,bare⟩
    cases q:H b with
    |none=>exact un.keep b o e q (by intro z;exact absurd (show b∈([]:List Ap) from z) (by simp)) (by simp)
    |some u=>
     rcases hO b with z | ⟨ob,xs,z⟩
     ·rw[q]at z;cases z
     ·let z2:=un.frzs b ob _ z
      let⟨e1,_⟩:=hok b _ z
      let⟨e2,_⟩:=hok' b _ z2
      rw[e]at e1;cases e1
      erw[e2]
 cases hk:K.lookup a with
 |some o=>
  -- the script is one of the module's own objects
  let e:=KX a o hk
  rw[ha]at e
  cases e
  refine core (λ_=>none) (λ_=>.inl rfl) (.inr ⟨_,vs.toArray,_,hk,rfl,rfl,rfl,by rw[xn,lenV];exact hl,by simpa using rv⟩) (λb u z=>by have z':(none:Option HO)=some u:=z;cases z') (λb z=>absurd rfl z) λz=>absurd rfl z
 |none=>
  erw[core (λb=>if b=a then some (.frz { cls:=.type "list",data:=.seq vs.toArray } (.lst (ns.map V.int))) else none) (λb=>?_) (.inl (.inr ⟨{ cls:=.type "list",data:=.seq vs.toArray },if_pos rfl⟩)) (λb u z=>?_) (λb z=>?_) λ_=>hk]
  ·by_cases hb:b=a
   ·erw[.inr ⟨_,_,if_pos hb⟩]
   ·erw[.inl (if_neg hb)]
  ·by_cases hb:b=a
   ·let z':=(if_pos hb).symm.trans z
    cases z'
    subst hb
    exact⟨ha,by rw[xo];exact hl,vs,_,rv,ha⟩
   ·let z':=(if_neg hb).symm.trans z
    cases z'
  ·by_cases hb:b=a
   ·erw[hb]
   ·erw[absurd (if_neg hb) z]
noncomputable abbrev KOf{K:Ah}{h:Heap}(_:K.In h):Ah:=K
def walk_of{l:W.OpenLaw}{n k:Nat}{q:Ar}{loose:Ab}{XP:(Aq)->Heap->Prop}{YP:World->Heap->Prop}{d:DefRec}{K:Params->Ah}{CX:World->CXT}{sp:World->Sp}{x:Str}
  (hn:l.most=some n) (hn2:n<=sizeLine) (hdf:d.params.defaults= []) (hr:Room k callerA)
  (hY:∀(w:World)(h:Heap),YP w h->(K w.params).In h)
  (F:∀(w:World)(mg:Aq)(fa:Ap)(h:Heap),(K w.params).In h->h.Ns mainGlobals mg->mg d.name=some (.ref fa) ->
   ∃ fd:FuncData,(∀(s:Am)(u:Aj),BindsTo s fd ⟨[u],[]⟩ [(x,u)]) /\
    ∀ base:Heap,(K w.params).In base->base.Ns mainGlobals mg->FnOk l.prog w (K w.params) mg base (CX w) k fa fd [x] (sp w))
  (hsp:∀(w:World)(H:Hp)(a:Ap)(ns:List Int),ns.length<=n->zh1 H->SqL (K w.params) H a (ns.map V.int)->sp w [.ref a] H (λv _=>v=.bl true) λ_ _ _=>False)
  (hCX:∀(w:World)(H:Hp)(s:Am)(e:Aj)(s':Am),CX w [] H s (λ_ _ _=>False) e s'->False) :
  W.WalkO q loose XP YP l.row.toRowW d [] (λf vs=>PySem.call f vs):=by
 erw[Att.attach_call hn hdf λw s₀ s₁ mg mb fa o pm cd doc a vs ns G Y ho hd hcd hmg hobj hints hlen hg=>?_]
 let KX:=hY w _ Y
 let⟨fd,hb,hF⟩:=F w mg fa _ KX G.T.g hmg
 erw[zd3 KX G.T.g G.T.b G.T.builtins G.T.nolimit hg hobj hints (xH hlen hn2) hr hF hb (λH hO hS=>hsp w H a ns hlen hO hS) λH e s'=>hCX w H s₁ e s']
def qZ(s:Stmt):Arguments:=match s with
 |.FunctionDef _ a _ _ _ _ _ _ _ _=>a
 |_=>{ posonlyargs:= [],args:= [],vararg:=none,kwonlyargs:= [],kw_defaults:= [],kwarg:=none,defaults:= [] }
noncomputable abbrev CX0:CXT:=λ_ _ _ _ _ _=>False
noncomputable abbrev E0:XK:=λ_ _ _=>False
def zkC:VI CX0 X E0:=λ_ _ _ _ _ _ _ h=>h.elim
structure Fun(K:Ah)(x qual:Str)(st:Stmt)(f:Ap)(fd:FuncData):Prop where
 ex:∃(oc:Aj)(od:Option Ap)(kV doc pm:Aj)(an:Option Ap)(cdv ct:Aj)(osl:Array (Option Aj)),
  fd=W.fnOf x qual (qZ st) (defBody st) (defScope st) .none kV doc pm an cdv ct/\K.lookup f=some ⟨oc,od,.func fd,osl⟩/\W.codeIn K cdv qual=true
 kp:W.keepIn K (.ref f)=true
section
variable {P:Ar}{w:World}{K:Ah}{mg:Aq}{base:Heap}
def Fun.ok{x qual:Str}{st:Stmt}{f:Ap}{fd:FuncData}{N ps:Ab}{k:Nat}{sp:Sp}(F:Fun K x qual st f fd)(S:j9 N ps (defScope st))(len:∀ vs H Q E,sp vs H Q E->vs.length=ps.length)
  (hbody:∀(cdv:Aj)(A:Around)(outer:List Env)(s:Am)(H:Hp)(vs:List V)(Q:VK)(E:XK),Room k (A.deeper (envOfC qual (defScope st) ⇑s f cdv))->sp vs H Q E ->
   ∃ t,PSs (Q4 CX0 P w K mg base N qual (defScope st) f cdv A outer s H E).nox (defBody st) t/\t { nx:=λ_ H'=>Q .non H',rt:=Q } (start N vs) H):FnOk P w K mg base CX0 (k+1) f fd ps sp:=by
 let⟨oc,od,kV,doc,pm,an,cdv,ct,osl,rfl,lk,hcd⟩:=F.ex
 erw[zhR lk hcd S len λA outer s H vs Q E hr hsp=>?_]
 let⟨t,h,q⟩:=hbody cdv A outer s H vs Q E hr hsp
 exact⟨t,h.nox,q⟩
def Fun.binds{x qual:Str}{st:Stmt}{f:Ap}{fd:FuncData}{ps:Ab}(F:Fun K x qual st f fd)
  (h:∀(kV doc pm:Aj)(an:Option Ap)(cdv ct:Aj)(us:An),us.length=ps.length->bindArgs (W.fnOf x qual (qZ st) (defBody st) (defScope st) .none kV doc pm an cdv ct) ⟨us,[]⟩=pure (ps.zip us)):Binds K fd ps []:=by
 let⟨oc,od,kV,doc,pm,an,cdv,ct,osl,rfl,lk,hcd⟩:=F.ex
 erw[.all (h kV doc pm an cdv ct)]
def QJ{st:Stmt}{f:Ap}{oc:Aj}{kV doc pm cdv ct:Aj}(l:K.lookup f=some ⟨oc,od,.func (W.fnOf x qual (qZ st) (defBody st) (defScope st) .none kV doc pm an cdv ct),osl⟩)
  (c:W.codeIn K cdv qual=true) (k:W.keepIn K (.ref f)=true):Fun K x qual st f (W.fnOf x qual (qZ st) (defBody st) (defScope st) .none kV doc pm an cdv ct):=⟨⟨oc,od,kV,doc,pm,an,cdv,ct,osl,rfl,l,c⟩,k⟩
end
section
variable {X:Cx}
def pv (i:Nat){pos:Pos}(hN:X.N[i]?=some x:=by rfl) (hv:Vis X.env.scope x:=by first | exact Or.inl rfl | exact Or.inr (Or.inl rfl) | exact Or.inr (Or.inr rfl)) (hd:(↥x):=by decide)
    (hcd:(x==("__classdict__" :Str))=false:=by decide):PE X (.Name x pos) (zla i):=qB hN hv hd hcd
end
def Yf{A B:Prop}(h:B):if false=true then A else B:=by
 rw[if_neg Bool.false_ne_true]
 erw[h]
def Yg{A B:Prop}(h:A):if true=true then A else B:=by
 rw[if_pos rfl]
 erw[h]
def Same(H H':Hp):Prop:=∀ b o,H b=some o->H' b=some o
def Same.refl(H:Hp):Same H H:=λ_ _ h=>h
def Same.trans(a:Same H H1)(b:Same H1 H2):Same H H2:=λc o h=>b c o (a c o h)
def Same.free{H H':Hp}(e:Same H H'){l:Ap}(h:H' l=Option.none):H l=Option.none:=by
 cases q:H l with
 |none=>rfl
 |some o=>
  rw[e l o q]at h
  cases h
def Same.seq{K:Ah}{H H':Hp}{a:Ap}{xs:List V}(e:Same H H')(h:SqL K H a xs):SqL K H' a xs:=by
 rcases h with (h | ⟨o,h⟩) | h
 ·erw[.inl (.inl (e _ _ h))]
 ·erw[.inl (.inr ⟨o,e _ _ h⟩)]
 ·erw[.inr h]
section
variable {κ:Type}[DecidableEq κ]
def vh(kvs:List (κ×V))(k:κ):Option V:=(kvs.find? λkv=>decide (kv.1=k)).map (·.2)
def Jc(kvs:List (κ×V))(k:κ)(v:V):List (κ×V) :=
 if (kvs.any λkv=>decide (kv.1=k))=true then kvs.map (λkv=>if kv.1=k then (kv.1,v) else kv) else kvs++ [(k,v)]
def Wp(kvs:List (κ×V))(k:κ):List (κ×V):=kvs.filter λkv=>decide (kv.1≠k)
def zfo{k:κ}(e:p.1=k):vh (p::r) k=some p.2:=by simp[vh,xV,e]
def zfn{k:κ}(e:¬ p.1=k):vh (p::r) k=vh r k:=by simp[vh,xV,e]
def JX(kvs:List (κ×V))(k:κ)(v:V):(Jc kvs k v).length<=kvs.length+1:=by
 unfold Jc
 split
 ·rw[xo];lia
 ·rw[xy,xq,uj];lia
def RelO.isSome_eq(r:RelO o u):o.isSome=u.isSome:=by
 cases o with
 |none=>cases u with
  |none=>rfl
  |some _=>erw[(show False from r).elim]
 |some _=>cases u with
  |none=>erw[(show False from r).elim]
  |some _=>rfl
def RelO.getD(r:RelO o u)(rd:RelV d d'):RelV (o.getD d) (u.getD d'):=by
 cases o with
 |none=>cases u with
  |none=>erw[rd]
  |some _=>erw[(show False from r).elim]
 |some _=>cases u with
  |none=>erw[(show False from r).elim]
  |some _=>erw[r]
def KV.val(r:KV kvs vs)(k:κ):RelO (vh kvs k) (valueAt vs k):=by
 unfold KV at r
 induction r with
 |nil=>erw[True.intro]
 | @cons p q ps qs h t ih=>
  let⟨h1,h2⟩:=h
  by_cases e:p.1=k
  ·let e':=h1.symm.trans e
   let b:valueAt (q::qs) k=some q.2:=by simp[valueAt,xV,e']
   rw[zfo e,b];exact h2
  ·let e':¬ q.1=k:=λz=>e (h1.trans z)
   let b:valueAt (q::qs) k=valueAt qs k:=by simp[valueAt,xV,e']
   rw[zfn e,b];exact ih
def KV.any(r:KV kvs vs)(k:κ):(kvs.any λkv=>decide (kv.1=k))=vs.any λkv=>decide (kv.1=k):=by
 unfold KV at r
 induction r with
 |nil=>rfl
 |cons h t ih=>rw[xQ,xQ,ih,h.1]
def KV.repl(r:KV kvs vs)(k:κ)(ry:RelV y u) :
  KV (kvs.map λkv=>if kv.1=k then (kv.1,y) else kv) (vs.map λkv=>if kv.1=k then (kv.1,u) else kv):=by
 unfold KV at r |-
 induction r with
 |nil=>erw[.nil]
 | @cons p q ps qs h t ih=>
  rw[xp,xp]
  erw[.cons ?_ ih]
  let⟨h1,h2⟩:=h
  by_cases e:p.1=k
  ·rw[if_pos e,if_pos (h1.symm.trans e)];exact⟨h1,ry⟩
  ·rw[if_neg e,if_neg (λz=>e (h1.trans z))];exact⟨h1,h2⟩
def KV.put(r:KV kvs vs)(k:κ)(ry:RelV y u):KV (Jc kvs k y) (stored vs k u):=by
 unfold Jc stored
 rw[r.any k]
 by_cases e:(vs.any λkv=>decide (kv.1=k))=true
 ·rw[if_pos e,if_pos e];exact r.repl k ry
 ·rw[if_neg e,if_neg e];exact Paired.snoc r ⟨rfl,ry⟩
def KV.drop(r:KV kvs vs)(k:κ):KV (Wp kvs k) (without vs k):=by
 unfold KV at r |-
 unfold Wp without
 induction r with
 |nil=>erw[.nil]
 | @cons p q ps qs h t ih=>
  let⟨h1,h2⟩:=h
  rw[ud,ud]
  by_cases e:p.1=k
  ·let a:¬ decide (p.1≠k)=true:=by simp[e]
   let b:¬ decide (q.1≠k)=true:=by simp[h1.symm.trans e]
   rw[if_neg a,if_neg b];exact ih
  ·let e':¬ q.1=k:=λz=>e (h1.trans z)
   let a:decide (p.1≠k)=true:=by simp[e]
   let b:decide (q.1≠k)=true:=by simp[e']
   rw[if_pos a,if_pos b];exact .cons ⟨h1,h2⟩ ih
def KV.keys{kvs:List (κ×V)}(r:KV kvs vs):kvs.map (·.1)=vs.map (·.1):=by
 unfold KV at r
 induction r with
 |nil=>rfl
 |cons h t ih=>rw[xp,xp,ih,h.1]
def KV.length(r:KV kvs vs):kvs.length=vs.length:=Paired.length r
def zcZ(kvs:List (κ×V))(k:κ):(Wp kvs k).length<=kvs.length:=List.length_filter_le _ _
end
def JU(r:RelV (kV k) u):(qt P w).is k u=true:=by
 cases k with
 |inl i=>let⟨t,e⟩:=(show ∃ t,u=Value.int i t from r);subst e;exact Yj P w i t
 |inr x=>let⟨t,e⟩:=(show ∃ t,u=Value.str x t from r);subst e;exact Yk P w x t
section
variable {P:Ar}{w:World}{H:Hp}{h:Heap}{a:Ap}
def zkJ(ok:HOk P w H h)(e:Rd H a u):ObjOk P w H h a u:=e.ok ok
def ZW(ok:HOk P w H h)(e:Rd H a (.dK kvs)):kvs.length<=sizeLine/\(a==sysModules)=false/\∃ vs,KV kvs vs/\h.DictOf (qt P w) a vs :=
 show ObjOk P w H h a (.dK kvs) from zkJ ok e
def KH(ok:HOk P w H h)(e:H a=some (.dK kvs)):kvs.length<=sizeLine/\(a==sysModules)=false/\∃ vs,KV kvs vs/\h.DictOf (qt P w) a vs:=ZW ok (.inl e)
end
def VC(H:Hp)(a:Ap)(y:V)(r:Option V):Prop :=
 ∃ kvs k,Rd H a (.dK kvs)/\y=kV k/\r=vh kvs k
def zj2(H:Hp)(a:Ap)(y v:V)(H':Hp):Prop :=
 ∃ kvs k,H a=some (.dK kvs)/\y=kV k/\kvs.length<sizeLine/\H'=upd H a (.dK (Jc kvs k v))
section
variable {X:Cx}{pins:Ak}{σ:St}{H:Hp}{s:Am}{a:Ap}{y v:V}{u r:Aj}{o:Option V}{A:Around}{E:Af}
def Inv.big(I:Inv X pins σ H s):sysModules<⇑s:=by
 let h:=(I.mod.glob.keeps I.bk).lt
 exact Nat.lt_trans (by decide) h
def zaC(hu:A.units+1<cLine)(I:Inv X pins σ H s)(g:VC H a y (some v))(ry:RelV y u)(h:∀ w' s',Inv X pins σ H s'->RelV v w'->Q w' s') :
  wpAny (model X.prog X.w) A (getItem (.ref a) u) Q E s:=by
 let⟨kvs,k,e,ey,l⟩:=g
 subst ey
 let⟨z,hd,vs,rel,dd⟩:=ZW I.hok e
 let⟨w',hw,rw'⟩:=RelO.some_of (by rw[l];exact rel.val k)
 erw[wpAny_getItem_of (JU ry) dd.mapOf hw (h w' _ (I.tok _) rw')]
def d_in(hu:A.units+1<cLine)(I:Inv X pins σ H s)(g:VC H a y o)(ry:RelV y u)(h:∀ s',Inv X pins σ H s'->Q (.bool o.isSome) s') :
  wpAny (model X.prog X.w) A (compareOp .In u (.ref a)) Q E s:=by
 let⟨kvs,k,e,ey,l⟩:=g
 subst ey
 let⟨z,hd,vs,rel,dd⟩:=ZW I.hok e
 erw[wpAny_in_of (JU ry) hd dd.mapOf ?_]
 rw[<- (rel.val k).isSome_eq,<- l]
 erw[h _ (I.tok _)]
def zfT(hu:A.units+1<cLine)(I:Inv X pins σ H s)(g:VC H a y o)(ry:RelV y u)(h:∀ s',Inv X pins σ H s'->Q (.bool (!o.isSome)) s') :
  wpAny (model X.prog X.w) A (compareOp .NotIn u (.ref a)) Q E s:=by
 let⟨kvs,k,e,ey,l⟩:=g
 subst ey
 let⟨z,hd,vs,rel,dd⟩:=ZW I.hok e
 erw[wpAny_notIn_of (JU ry) hd dd.mapOf ?_]
 rw[<- (rel.val k).isSome_eq,<- l]
 erw[h _ (I.tok _)]
def V4{t':Nat}(I:Inv X pins σ H s)(mu:Mut (H a))(hs:Heap.SameBut a s.heap h')(he:∃ q,h'.get? a=some q)(new:ObjOk X.prog X.w (upd H a ob) h' a ob) :
  Inv X pins σ (upd H a ob) { s with heap:=h',toks:=t' } :=
 I.write mu (.inl rfl) (λb q hb z=>(hs.2 b hb).trans z) he new
def Wo{H':Hp}(z:kvs.length<=sizeLine)(hd:(a==sysModules)=false)(rel:KV kvs vs)(dd:h'.DictOf (qt P w) a vs) :
  ObjOk P w H' h' a (.dK kvs):=⟨z,hd,vs,rel,dd⟩
def zaH(hu:A.units+1<cLine)(I:Inv X pins σ H s)(g:zj2 H a y v H')(ry:RelV y u)(rv:RelV v r)(h:∀ s',Inv X pins σ H' s'->Q () s') :
  wpAny (model X.prog X.w) A (setItem (.ref a) u r) Q E s:=by
 let⟨kvs,k,e,ey,l,eH⟩:=g
 subst ey eH
 let⟨z,hd,vs,rel,dd⟩:=KH I.hok e
 let hz:vs.length<=sizeLine:=by rw[<- rel.length];exact z
 let hl:(Jc kvs k v).length<=sizeLine:=by have:=JX kvs k v;lia
 erw[wpAny_setItem_pairs (JU ry) dd λh' dd' hs=>h _ ?_]
 let he:∃ q,h'.get? a=some q:=let ⟨q,_,_,hq,_⟩:=dd';⟨q,hq⟩
 exact V4 I (by rw[e];exact True.intro) hs he (Wo hl hd (rel.put k rv) dd')
end
section
variable {X:Cx}{pins:Ak}{σ:St}{H:Hp}{s:Am}{a:Ap}{kvs:List (Key×V)}{k:Key}{u:Aj}{A:Around}{E:Af}
def zkc{Q:Af}(I:Inv X pins σ H s)(e:H a=some (.dK kvs))(ry:RelV (kV k) u)(l:vh kvs k=some v)(hm:more= []∨∃ x,more= [x])
  (h:∀ w' s',Inv X pins σ (upd H a (.dK (Wp kvs k))) s'->RelV v w'->Q w' s'):wpAny (model X.prog X.w) A (call (.builtin "dict.pop") (.ref a::u::more)) Q E s:=by
 let⟨z,hd,vs,rel,dd⟩:=KH I.hok e
 let⟨w',hw,rw'⟩:=RelO.some_of (by rw[<- l];exact rel.val k)
 let hp:(keyPart u).isSome=true:=by
  cases k with
  |inl i=>let⟨t,q⟩:=(show ∃ t,u=Value.int i t from ry);subst q;rfl
  |inr x=>let⟨t,q⟩:=(show ∃ t,u=Value.str x t from ry);subst q;rfl
 let ha:argsOk "dict.pop" ⟨.ref a::u::more,[]⟩:=by
  rcases hm with q | ⟨x,q⟩
  ·subst q;exact PySem.F.args_dict_pop_2 _ _
  ·subst q;exact PySem.F.args_dict_pop_3 _ _ _
 refine call_meetsIn PySem.F.slot_dict_pop dd.typeIs PySem.F.entry_dict_pop ha (meets_dict_pop_there (qt X.prog X.w) a (JU ry) more hm hp)
  ⟨vs,w',dd,by rw[<- rel.length];exact z,hw,λh' dd' hs=>h w' _ ?_ rw'⟩
 let he:∃ q,h'.get? a=some q:=let ⟨q,_,_,hq,_⟩:=dd';⟨q,hq⟩
 exact V4 I (by rw[e];exact True.intro) hs he (Wo (xH (zcZ kvs k) z) hd (rel.drop k) dd')
end
def zfB(i:Expr):Prop:=∀ ov iv,subscripted i false ov iv=operate [ov,iv] (getItem ov iv)
def zht{prog:Ar}{w:World}{A:Around}{E:Af}{s:Am}{env:Env}{value slice:Expr}{pos:Pos}{T id:String}{Q:Af}
  (hl:typeLookup (.type T) "__getitem__" =pure (some (.builtin id))) (hs:zfB slice)
  (h:wpAny (model prog w) A (eval value env) (λo s₁=>wpAny (model prog w) A (eval slice env) (λi s₂=>s₂.TypeIs o T/\wpAny (model prog w) A (getItem o i) Q E s₂) E s₁) E s) :
  wpAny (model prog w) A (eval (.Subscript value slice pos) env) Q E s:=by
 erw[Subscript_ (Xc h (λo s₁ h₁=>Xc h₁ (λi s₂ h₂=>?_) λ_ _ x=>x) λ_ _ x=>x)]
 let⟨hT,h₂⟩:=h₂
 unfold subscriptTail
 erw[x3 ?_]
 rw[getitemInPython_of_ne hT.not_modules]
 erw[x3 (wpAny_specialOf hT hl ?_)]
 let fin:wpAny (model prog w) A (subscripted slice false o i) (λr s₃=>wpAny (model prog w) A (letTemporaryGo value o r >>= λ_=>pure r) Q E s₃) E s₂:=by
  rw[hs o i]
  erw[wpAny_operating (Xc h₂ (λr s₃ h₃=>x3 (wpAny_letTemporaryGo (x6 h₃))) λ_ _ x=>x)]
 first
  |exact x6 (x3 fin)
  |exact x3 (x6 (x3 fin))
  |exact x3 fin
def y3 (I:Inv X pins σ H s) (g:VC H a y o):s.TypeIs (.ref a) "dict" :=by
 let⟨kvs,k,e,_,_⟩:=g
 let⟨_,_,vs,_,dd⟩:=ZW I.hok e
 erw[dd.typeIs]
def zk4(td ty:TE):TE:=λσ H Q=>td σ H λx H1=>ty σ H1 λy H2=>∃ a v,x=.ref a/\VC H2 a y (some v)/\Q v H2
def zkP(td ty tv:TE):TS:=λD σ H=>tv σ H λv H1=>td σ H1 λx H2=>ty σ H2 λy H3=>∃ a H4,x=.ref a/\zj2 H3 a y v H4/\D.nx σ H4
section
variable {X:Cx}{o i value:Expr}{pos pos':Pos}{td ty tv:TE}
def zgz(hu:X.A.units+1<cLine)(ho:PE X o td)(hi:PE X i ty)(hs:zfB i):PE X (.Subscript o i pos) (zk4 td ty):=by
 cbv
 erw[zht PySem.F.slot_dict_getitem.lookup hs (thn (ho pins s σ H _ I h) λu s1 ⟨x,H1,I1,rx,q1⟩=>thn (hi pins s1 σ H1 _ I1 q1) λiv s2 ⟨y,H2,I2,ry,a,v,ex,g,q2⟩=>?_)]
 subst ex
 obtain rfl:u=Value.ref a:=rx
 exact⟨y3 I2 g,zaC hu I2 g ry λw' s3 I3 rw'=>⟨v,H2,I3,rw',q2⟩⟩
def zgG(hu:X.A.units+1<cLine)(ho:PE X o td)(hi:PE X i ty)(hv:PE X value tv)(hs:swapsWith value (some (.Subscript o i pos')) pos.line X.env=pure false) :
  PS X (.Assign [.Subscript o i pos'] value pos) (zkP td ty tv):=by
 intro pins s σ H D I h
 erw[wpAny_Assign_Subscript (thn (hv pins s σ H _ I h) λr s1 ⟨v,H1,I1,rv,q1⟩=>thn (ho pins s1 σ H1 _ I1 q1) λu s2 ⟨x,H2,I2,rx,q2⟩=>thn (hi pins s2 σ H2 _ I2 q2) λiv s3 ⟨y,H3,I3,ry,a,H4,ex,g,q3⟩=>?_) hs]
 subst ex
 obtain rfl:u=Value.ref a:=rx
 erw[zaH hu I3 g ry rv λs4 I4=>⟨σ,H4,I4,q3⟩]
end
def zcY (h:Heap) (hb:sysModules<h.objs.size):ObjOk P w H (h.push { cls:=.type "dict",data:=.dict #[] }) h.objs.size (.dK []) :=
 ⟨ub _,x9.mpr (Ne.symm (xj hb)),[],.nil,Heap.DictOf.new h⟩
def zjO:TE:=λ_ H Q=>∀ p,H p=none->Q (.ref p) (upd H p (.dK []))
section
variable {X:Cx}{pos:Pos}
def pe_dnewK:PE X (.Dict [] [] pos) zjO:=λpins s σ H Q I h=>
 wpAny_Dict_empty ⟨.ref ⇑s,_,I.laid (λ_ _ q=>x4 _ q) (xg _) (zcY s.heap I.big),rfl,h _ (I.hok.fresh (xg _))⟩
end
def QO(kvs more:List (Key×V)):List (Key×V):=more.foldl (λacc kv=>Jc acc kv.1 kv.2) kvs
def KV.merge:∀{more:List (Key×V)}{rs:List (Key×Value)}{kvs:List (Key×V)}{vs:List (Key×Value)},KV more rs->KV kvs vs->KV (QO kvs more) (merged vs rs):=by
 intro more rs kvs vs r
 unfold KV at r
 induction r generalizing kvs vs with
 |nil=>intro q;exact q
 | @cons p q ps qs h t ih=>
  intro r0
  let e:KV (Jc kvs p.1 p.2) (stored vs q.1 q.2):=by
   have:=r0.put p.1 h.2
   rw[<- h.1];exact this
  erw[ih e]
def Qv:∀(more kvs:List (Key×V)),(QO kvs more).length<=kvs.length+more.length
 |[],kvs=>by show kvs.length<=kvs.length+0;lia
 |p::r,kvs=>by
  let h1:=Qv r (Jc kvs p.1 p.2)
  let h2:=JX kvs p.1 p.2
  show (QO (Jc kvs p.1 p.2) r).length<=_
  rw[xq];lia
structure M1(X:Cx)(o:Expr)(m:Str)(apos:Pos)(e:Expr)(cpos:Pos):Prop where
 base:attributeBase o m X.env (eval o X.env)=eval o X.env
 few:((backTo cpos (starEach [e] X.env)).all (λx=> !x.1)&&(backToKw cpos (keywordEach [] X.env)).all (λx=>x.1.isSome)
  && decide (([e]:Ag).length+([]:List Keyword).length+(if ([]:List Keyword).isEmpty then 0 else 1)<30))=true
 line:(apos.endLine==cpos.line)=true
 trees:backTo cpos (starEach [e] X.env)= [(false,eval e X.env)]
structure M2(X:Cx)(o:Expr)(m:Str)(apos:Pos)(e f:Expr)(cpos:Pos):Prop where
 base:attributeBase o m X.env (eval o X.env)=eval o X.env
 few:((backTo cpos (starEach [e,f] X.env)).all (λx=> !x.1)&&(backToKw cpos (keywordEach [] X.env)).all (λx=>x.1.isSome)
  && decide (([e,f]:Ag).length+([]:List Keyword).length+(if ([]:List Keyword).isEmpty then 0 else 1)<30))=true
 line:(apos.endLine==cpos.line)=true
 trees:backTo cpos (starEach [e,f] X.env)= [(false,eval e X.env),(false,eval f X.env)]
def IsD(H:Hp)(a:Ap):Prop:=∃ kvs,Rd H a (.dK kvs)
def ye(I:Inv X pins σ H s)(d:IsD H a) :
  s.TypeIs (.ref a) "dict" /\(∀ b,Value.ref a=.ref b->∃ ob,s.heap.get? b=some ob/\ob.dict=none)/\(a==sysModules)=false:=by
 let⟨kvs,e⟩:=d
 let⟨_,hd,vs,_,dd⟩:=ZW I.hok e
 refine⟨dd.typeIs,λb q=>?_,hd⟩
 cases q
 let⟨ob,_,_,h1,h2,_⟩:=dd
 exact⟨ob,h1,h2.2.1⟩
section
variable {X:Cx}{pins:Ak}{σ:St}{H:Hp}{s:Am}{a:Ap}{y d:V}{u r:Aj}{o:Option V}{A:Around}{E:Af}
def zij(hu:A.units+1<cLine)(I:Inv X pins σ H s)(g:VC H a y o)(ry:RelV y u)(rd:RelV d r)(h:∀ w' s',Inv X pins σ H s'->RelV (o.getD d) w'->Q w' s') :
  wpAny (model X.prog X.w) A (call (.builtin "dict.get") [.ref a,u,r]) Q E s:=by
 let⟨kvs,k,e,ey,l⟩:=g
 subst ey
 let⟨z,hd,vs,rel,dd⟩:=ZW I.hok e
 erw[call_meetsIn PySem.F.slot_dict_get dd.typeIs PySem.F.entry_dict_get (PySem.F.args_dict_get_3 _ _ _) (meets_dict_get_default (qt X.prog X.w) a (JU ry) hd r) ⟨_,dd.mapOf,h _ _ (I.tok _) ?_⟩]
 rw[l]
 erw[(rel.val k).getD rd]
end
def zjN(td ty tx:TE):TE:=λσ H Q=>td σ H λx H1=>∃ a,x=.ref a/\IsD H1 a/\ty σ H1 λy H2=>tx σ H2 λz H3=>∃ o,VC H3 a y o/\Q (o.getD z) H3
def zjP(td ty:TE):TE:=λσ H Q=>td σ H λx H1=>∃ a,x=.ref a/\IsD H1 a/\ty σ H1 λy H2=>∃ kvs k v,H2 a=some (.dK kvs)/\y=kV k/\vh kvs k=some v/\Q v (upd H2 a (.dK (Wp kvs k)))
section
variable {X:Cx}{o e f:Expr}{apos cpos:Pos}{td ty tx:TE}
def zeo (hu:X.A.units+1<cLine) (ho:PE X o td) (he:PE X e ty) (hf:PE X f tx) (m:M2 X o "get" apos e f cpos):PE X (.Call (.Attribute o "get" apos) [e,f] [] cpos) (zjN td ty tx):=by
 cbv
 erw[wpAny_Call_method m.base m.few m.line PySem.F.plainAttrs_dict PySem.F.slot_dict_get PySem.F.type_dict_get (thn (ho pins s σ H _ I h) λu s1 ⟨x,H1,I1,rx,a,ex,d,q1⟩=>?_)]
 subst ex
 obtain rfl:u=Value.ref a:=rx
 let⟨t1,t2,_⟩:=ye I1 d
 refine⟨t1,t2,?_⟩
 rw[m.trees]
 refine Calls.callWith_builtin rfl (Calls.evalArgs_plain (Calls.spliced_cons (thn (he pins s1 σ H1 _ I1 q1) λiv s2 ⟨y,H2,I2,ry,q2⟩=>
  Calls.spliced_cons (thn (hf pins s2 σ H2 _ I2 q2) λfv s3 ⟨z,H3,I3,rz,ov,g,q3⟩=>Calls.spliced_nil ?_))))
 erw[zij hu I3 g ry rz λw' s4 I4 rw'=>⟨_,H3,I4,rw',q3⟩]
def zeq (ho:PE X o td) (he:PE X e ty) (m:M1 X o "pop" apos e cpos):PE X (.Call (.Attribute o "pop" apos) [e] [] cpos) (zjP td ty):=by
 cbv
 erw[wpAny_Call_method m.base m.few m.line PySem.F.plainAttrs_dict PySem.F.slot_dict_pop PySem.F.type_dict_pop (thn (ho pins s σ H _ I h) λu s1 ⟨x,H1,I1,rx,a,ex,d,q1⟩=>?_)]
 subst ex
 obtain rfl:u=Value.ref a:=rx
 let⟨t1,t2,_⟩:=ye I1 d
 refine⟨t1,t2,?_⟩
 rw[m.trees]
 erw[Calls.callWith_builtin rfl (Calls.evalArgs_plain (Calls.spliced_cons (thn (he pins s1 σ H1 _ I1 q1) λiv s2 ⟨y,H2,I2,ry,kvs,k,v,ea,ey,l,q2⟩=>Calls.spliced_nil ?_)))]
 subst ey
 erw[zkc I2 ea ry l (.inl rfl) λw' s3 I3 rw'=>⟨v,_,I3,rw',q2⟩]
end
section
variable {X:Cx}{pins:Ak}{σ:St}{H:Hp}{s:Am}{a:Ap}{kvs:List (Key×V)}{A:Around}{E:Af}
def zcS (I:Inv X pins σ H s) (e:Rd H a (.dK kvs)) (h:∀ p s',H p=none->Inv X pins σ (upd H p (.dK kvs)) s'->Q (.ref p) s'):wpAny (model X.prog X.w) A (call (.type "dict") [.ref a]) Q E s:=by
 let⟨z,hd,vs,rel,dd⟩:=ZW I.hok e
 refine kt_call_dict hd dd (by rw[<- rel.length];exact z) λh' dd' hs=>?_
 erw[h _ _ (I.hok.fresh (xg _)) (I.laid (λb q hq=>?_) (xg _) (Wo z (x9.mpr (Ne.symm (xj I.big))) rel dd'))]
 erw[(hs.2 b (xj (x5 hq))).trans (x4 _ hq)]
end
section
end
section
end
def qO{α β:Type}[BEq α][LawfulBEq α]:∀{l:List (α×β)}{x:α}{v:β},l.lookup x=some v->(x,v)∈l
 |[],_,_,h=>by simp at h
 | (a,b)::r,x,v,h=>by
  rw[xx]at h
  cases e:x==a with
  |true=>rw[e]at h;have e':=eq_of_beq e;subst e';cases h;exact xr
  |false=>rw[e]at h;exact xl _ (qO h)
def QF{env:Env}:∀(names:List (Str×NameKind))(cs:List (Str×Addr)),
    (∀ y∈names,y.2=.free->∃ c,env.cells.lookup y.1=some c)->(∀ x c,cs.lookup x=some c->env.cells.lookup x=some c) ->
    ∃ cl,(forIn names cs λx r=>if (x.snd==NameKind.free)=true then do
                let z<-cellOf env x.fst
                pure (ForInStep.yield ((x.fst,z)::r))
              else pure (ForInStep.yield r):Sem (List (Str×Addr)))=pure cl/\(∀ x c,cl.lookup x=some c->env.cells.lookup x=some c) /\
      (∀ x,(∃ c,cs.lookup x=some c)∨(x,NameKind.free)∈names->∃ c,cl.lookup x=some c)
  |[],cs,_,h2=>⟨cs,by simp,h2,λx hx=>by
      rcases hx with h | h
      · exact h
      · cases h⟩
  | (n,k)::r,cs,h1,h2=>by
    rw[List.forIn_cons]
    by_cases hk:k=.free
    · subst hk
      let⟨c,hc⟩:=h1 (n,.free) xr rfl
      let e:cellOf env n=pure c:=by unfold cellOf;rw[hc]
      let⟨cl,e1,h3,h4⟩:=QF r ((n,c)::cs) (λy hy=>h1 y (xl _ hy)) (λx c' hx=>by
        rw[xx]at hx
        cases q:x==n with
        |true=>rw[q]at hx;cases hx;rw[eq_of_beq q];exact hc
        |false=>rw[q]at hx;exact h2 x c' hx)
      refine⟨cl,?_,h3,λx hx=>h4 x ?_⟩
      · simp only [beq_self_eq_true, if_true, e, pure_bind]
        erw[e1]
      · by_cases q : x = n
        · subst q;exact .inl ⟨c,by simp⟩
        · rcases hx with ⟨c', hx⟩ | hx
          · exact .inl ⟨c',by rw[xx,x9.mpr q];exact hx⟩
          · rcases List.mem_cons.mp hx with z | z
            · exact absurd (congrArg Prod.fst z) q
            · exact .inr z
    · have hb : (k == NameKind.free) = false := by simpa using hk
      let⟨cl,e1,h3,h4⟩:=QF r cs (λy hy=>h1 y (xl _ hy)) h2
      refine⟨cl,?_,h3,λx hx=>h4 x ?_⟩
      · simp only [hb, Bool.false_eq_true, if_false, pure_bind]
        erw[e1]
      · rcases hx with hx | hx
        · exact .inl hx
        · rcases List.mem_cons.mp hx with z | z
          · exact absurd (congrArg Prod.snd z).symm hk
          · exact .inr z
def ke(h:∀ y∈sc.names,y.2=.free->∃ c,env.cells.lookup y.1=some c) :
  ∃ cl,closureFor sc env=pure cl/\(∀ x c,cl.lookup x=some c->env.cells.lookup x=some c)/\(∀ x,(x,NameKind.free)∈sc.names->∃ c,cl.lookup x=some c):=by
 let⟨cl,e,h1,h2⟩:=QF sc.names [] h (λx c z=>by simp at z)
 refine⟨cl,?_,h1,λx hx=>h2 x (.inr hx)⟩
 simp only[closureFor]
 rw[bind_pure]
 erw[e]
noncomputable abbrev Cx.comp(X:Cx)(N':Ab)(scope:Scope)(cl:List (Str×Addr))(C:Ap)(s2:Am)(H2:Hp)(fp:List Ap):Cx :=
 { X with N:=N',env:=compEnvC scope cl C X.env,s₀:=s2,H₀:=H2,outer:=X.stack,stack:=X.stack,ex:=fp,fn:=λx=>decide (scope.names.lookup x=some .cell),pn:= [],xe:=λ_ _=>False }
structure CSc(psc:Scope)(N:Ab)(sc:Scope)(N':Ab)(k:Nat)(ix:Ac):Prop where
 kind:sc.kind=.function
 cel:∀ y∈sc.names,y.2=.cell->sc.names.lookup y.1=some .cell
 loc:∀ y∈sc.names,y.2=.local->sc.names.lookup y.1=some .local
 fre:∀ y∈sc.names,y.2=.free->psc.names.lookup y.1=some .cell∨psc.names.lookup y.1=some .free
 len:N'.length=k+ix.length
 nd:N'.Nodup
 cap:∀(j i:Nat),ix[j]?=some i->∃ y,N'[k+j]?=some y/\N[i]?=some y/\sc.names.lookup y=some .free
def zcQ(psc:Scope)(N:Ab)(sc:Scope)(N':Ab)(k:Nat)(ix:Ac):Bool :=
 decide (sc.kind=.function)&&sc.names.all (λy=>(decide (y.2≠ .cell)||decide (sc.names.lookup y.1=some .cell))&&(decide (y.2≠ .local)||decide (sc.names.lookup y.1=some .local))&&(decide (y.2≠ .free)||decide (psc.names.lookup y.1=some .cell)||decide (psc.names.lookup y.1=some .free))) &&
 decide (N'.length=k+ix.length)&&decide N'.Nodup&&(List.range ix.length).all (λj=>match N'[k+j]?,N[ix.getD j 0]? with
  |some y,some z=>decide (y=z)&&decide (sc.names.lookup y=some .free)
  |_,_=>false)
def CSc.of(h:zcQ psc N sc N' k ix=true):CSc psc N sc N' k ix:=by
 unfold zcQ at h
 simp only[xh,x0,xG,xL]at h
 let⟨⟨⟨⟨h1,h2⟩,h3⟩,h4⟩,h5⟩:=h
 refine⟨h1,λy hy e=>?_,λy hy e=>?_,λy hy e=>?_,h3,h4,λj i e=>?_⟩
 ·rcases (h2 y hy).1.1 with z | z
  ·erw[absurd e z]
  ·erw[z]
 ·rcases (h2 y hy).1.2 with z | z
  ·erw[absurd e z]
  ·erw[z]
 ·rcases (h2 y hy).2 with (z | z) | z
  ·erw[absurd e z]
  ·erw[.inl z]
  ·erw[.inr z]
 ·let⟨hj,ei⟩:=xa.mp e
  have:=h5 j (uE.mpr hj)
  let e2:ix.getD j 0=i:=by rw[xE,e];rfl
  rw[e2]at this
  split at this
  next y z ey ez=>
   simp only[xh,x0]at this
   let⟨rfl,hl⟩:=this
   exact⟨y,ey,ez,hl⟩
  ·cases this
def cS(k:Nat)(ix:Ac)(σ:St):St:=List.replicate k none++ix.map λi=>(σ[i]?).join
def Jd{env:Env}:∀{names:List (Str×NameKind)}{x:Str},
    ((names.map λ(n,k)=>if (k==NameKind.free&&env.scope.kind==.function&&env.kindOf n==some .cell) then (n,NameKind.cell) else (n,k)).lookup x=some .cell ∨
     (names.map λ(n,k)=>if (k==NameKind.free&&env.scope.kind==.function&&env.kindOf n==some .cell) then (n,NameKind.cell) else (n,k)).lookup x=some .free)->names.lookup x=some .free∨names.lookup x=some .cell
  |[],_,h=>by simp at h
  | (n,k)::r,x,h=>by
    let ih:=@Jd env r x
    rw[xp]at h
    dsimp only at h
    by_cases hcd:(k==NameKind.free&&env.scope.kind==.function&&env.kindOf n==some .cell)=true
    · have hkf : k = .free := by
        simp only[xh]at hcd
        erw[eq_of_beq hcd.1.1]
      rw[if_pos hcd]at h
      cases hx:x==n with
      |true=>rw[xx,hx,hkf];exact .inl rfl
      |false=>simp only[xx,hx]at h;simp only[xx,hx];exact ih h
    · rw [if_neg hcd] at h
      cases hx:x==n with
      |true=>
        simp only[xx,hx]at h
        rw[xx,hx]
        rcases h with h | h
        · exact .inr h
        · exact .inl h
      |false=>simp only[xx,hx]at h;simp only[xx,hx];exact ih h
def J1{env:Env}:∀{names:List (Str×NameKind)}{x:Str},names.lookup x=some .free ->
    ((names.map λ(n,k)=>if (k==NameKind.free&&env.scope.kind==.function&&env.kindOf n==some .cell) then (n,NameKind.cell) else (n,k)).lookup x=some .cell ∨
     (names.map λ(n,k)=>if (k==NameKind.free&&env.scope.kind==.function&&env.kindOf n==some .cell) then (n,NameKind.cell) else (n,k)).lookup x=some .free)
  |[],_,h=>by simp at h
  | (n,k)::r,x,h=>by
    let ih:=@J1 env r x
    rw[xp]
    dsimp only
    cases hx:x==n with
    |true=>
      rw[xx,hx]at h
      cases h
      by_cases hcd:(NameKind.free==NameKind.free&&env.scope.kind==.function&&env.kindOf n==some .cell)=true
      · rw[if_pos hcd];simp[xx,hx]
      · rw[if_neg hcd];simp[xx,hx]
    |false=>
      rw[xx,hx]at h
      by_cases hcd:(k==NameKind.free&&env.scope.kind==.function&&env.kindOf n==some .cell)=true
      · rw[if_pos hcd];simp only[xx,hx];exact ih h
      · rw[if_neg hcd];simp only[xx,hx];exact ih h
structure ClOk(X:Cx)(sc:Scope)(cl:List (Str×Addr))(C:Ap)(h4:Heap):Prop where
 src:∀ x c,cl.lookup x=some c->X.env.cells.lookup x=some c∨(C<c/\h4.IsCell c none)
 inj:∀ x y c,cl.lookup x=some c->cl.lookup y=some c->x=y
 has:∀ x,(sc.names.lookup x=some .free∨sc.names.lookup x=some .cell)->∃ c,cl.lookup x=some c
 own:∀ x c,sc.names.lookup x=some .cell->cl.lookup x=some c->C<c
 old:∀ x c,sc.names.lookup x=some .free->cl.lookup x=some c->X.env.cells.lookup x=some c
def qV:∀(names:List (Str×NameKind))(n:Nat)(acc:List (Str×Addr)),cellsFrom n names acc=cellsFrom n names []++acc
 |[],n,acc=>rfl
 | (x,k)::r,n,acc=>by
  unfold cellsFrom
  split
  ·rw[qV r (n+1) ((x,n)::acc),qV r (n+1) [(x,n)],uv];rfl
  ·erw[qV r n acc]
def ZL:∀(names:List (Str×NameKind))(n:Nat)(y:Str×Addr),y∈cellsFrom n names []->(y.1,NameKind.cell)∈names
 |[],n,y,h=>by cases h
 | (x,k)::r,n,y,h=>by
  unfold cellsFrom at h
  split at h
  next hk=>
   rw[qV]at h
   rcases xF.mp h with h | h
   ·erw[xl _ (ZL r _ y h)]
   ·let e:y=(x,n):=by simpa using h
    subst e
    let hk':=eq_of_beq hk
    subst hk'
    erw[xr]
  ·erw[xl _ (ZL r _ y h)]
def QN{β:Type}:∀(l1 l2:List (Str×β))(x:Str),(l1++l2).lookup x=(match l1.lookup x with | some v=>some v | none=>l2.lookup x)
 |[],l2,x=>rfl
 | (a,b)::l1,l2,x=>by
  rw[List.cons_append,xx,xx]
  cases x==a with
  |true=>rfl
  |false=>erw[QN l1 l2 x]
def vL{M:Model}{A:Around}{E:Af}{s:Am}{scope:Scope}{globals:Ap}{cl:List (Str×Addr)}{qual:Str}{env:Env}{builtins:Ap}{Q:Env->Am->Prop}
  (hQ:Q (newEnv scope ⇑s globals (cellsFrom (⇑s+1) scope.names cl) qual none .none (some env) builtins) { s with heap:=pushCells (s.heap.push { cls:=.type "dict",data:=.dict #[] }) scope.names }) :
  wpAny M A (newFunctionEnv scope globals cl [] qual none .none (some env) builtins) Q E s:=by
 simp only[newFunctionEnv,Option.isSome_some,if_true]
 erw[x3 (wpAny_alloc ?_)]
 refine x3 (wpAny_layCells _ (λname kind cells=>by cases hkc:kind==NameKind.cell<;>simp[hkc]) _ _ _ _ ?_)
 rw[show ({ s with heap:=s.heap.push { cls:=.type "dict",data:=.dict #[] } }:Am).heap.objs.size=⇑s+1 from Heap.size_push ..]
 simp only[List.forIn_nil]
 erw[x3 (x6 (x6 hQ))]
section
variable {X:Cx}{pins:Ak}{σ:St}{H:Hp}{s2:Am}
def ClOk.of(I:Inv X pins σ H s2)(S:CSc X.env.scope X.N sc N' k ix)(hcl1:∀ x c,cl.lookup x=some c->X.env.cells.lookup x=some c)(hcl2:∀ x,(x,NameKind.free)∈sc.names->∃ c,cl.lookup x=some c)
  {g:Heap} {o:Obj} (hg:⇑s2<=g.objs.size):ClOk X sc (cellsFrom (g.objs.size+1) sc.names cl) g.objs.size (pushCells (g.push o) sc.names):=by
 let ok:=cellsFrom_ok sc.names (g.push o) (g.objs.size+1) [] ⟨(λ_ _ hm=>nomatch hm),List.Pairwise.nil⟩ (by rw[Heap.size_push];exact xg _)
 rw[Heap.size_push]at ok
 rw[qV]
 let hnew:∀ x c,(cellsFrom (g.objs.size+1) sc.names []).lookup x=some c->g.objs.size<c/\(pushCells (g.push o) sc.names).IsCell c none/\(x,NameKind.cell)∈sc.names:=λx c e=>by
  let hm:=qO e
  have:=ok.empty x c hm
  exact⟨Nat.lt_of_succ_le this.2,this.1,ZL _ _ _ hm⟩
 let hold:∀ x c,cl.lookup x=some c->c<g.objs.size:=λx c e=>by
  let⟨v,ob,hob,_⟩:=I.cell x c (hcl1 x c e)
  erw[xt (x5 hob) hg]
 let hget:∀ x c,(cellsFrom (g.objs.size+1) sc.names []++cl).lookup x=some c->((cellsFrom (g.objs.size+1) sc.names []).lookup x=some c)∨((cellsFrom (g.objs.size+1) sc.names []).lookup x=none/\cl.lookup x=some c):=λx c e=>by
  rw[QN]at e
  cases q:(cellsFrom (g.objs.size+1) sc.names []).lookup x with
  |some v=>rw[q]at e;exact .inl e
  |none=>rw[q]at e;exact .inr ⟨rfl,e⟩
 let hnone:∀ x,sc.names.lookup x=some .free->(cellsFrom (g.objs.size+1) sc.names []).lookup x=none:=λx hx=>by
  cases q:(cellsFrom (g.objs.size+1) sc.names []).lookup x with
  |none=>rfl
  |some c=>
   have:=S.cel (x,.cell) (hnew x c q).2.2 rfl
   rw[hx]at this;cases this
 refine⟨λx c e=>?_,λx y c e1 e2=>?_,λx hx=>?_,λx c hx e=>?_,λx c hx e=>?_⟩
 ·rcases hget x c e with q | ⟨_,q⟩
  ·erw[.inr ⟨(hnew x c q).1,(hnew x c q).2.1⟩]
  ·erw[.inl (hcl1 x c q)]
 ·rcases hget x c e1 with q1 | ⟨_,q1⟩
  ·rcases hget y c e2 with q2 | ⟨_,q2⟩
   ·let m1:=qO q1
    let m2:=qO q2
    by_cases hxy:x=y
    ·erw[hxy]
    ·exfalso
     have:=ok.apart
     let⟨i,hi,ei⟩:=List.getElem_of_mem m1
     let⟨j,hj,ej⟩:=List.getElem_of_mem m2
     let pw:=List.pairwise_iff_getElem.mp this
     rcases Nat.lt_trichotomy i j with h | h | h
     ·have:=pw i j hi hj h
      rw[ei,ej]at this;exact this rfl
     ·subst h
      rw[ei]at ej
      erw[hxy (congrArg Prod.fst ej)]
     ·have:=pw j i hj hi h
      rw[ei,ej]at this;exact this rfl
   ·erw[absurd (hold y c q2) (Nat.not_lt.mpr (uk (hnew x c q1).1))]
  ·rcases hget y c e2 with q2 | ⟨_,q2⟩
   ·erw[absurd (hold x c q1) (Nat.not_lt.mpr (uk (hnew y c q2).1))]
   ·erw[I.ok.inj x y c (hcl1 x c q1) (hcl1 y c q2)]
 ·rw[QN]
  rcases hx with hx | hx
  ·rw[hnone x hx]
   erw[hcl2 x (qO hx)]
  ·let⟨c,hc⟩:=Q1 hx
   rw[hc];exact⟨c,rfl⟩
 ·rcases hget x c e with q | ⟨q,_⟩
  ·erw[(hnew x c q).1]
  ·let⟨c',hc⟩:=Q1 hx
   rw[hc]at q;cases q
 ·rcases hget x c e with q | ⟨_,q⟩
  ·rw[hnone x hx]at q;cases q
  ·erw[hcl1 x c q]
def Inv.child(I:Inv X pins σ H s2)(S:CSc X.env.scope X.N sc N' k ix)(hf:∀ b∈fp,Jm X pins H b)
  (hfo:∀ b∈fp,∃ o,s2.heap.get? b=some o) {cl:List (Str×Addr)}
  {C:Ap} {s4:Am} (L:ClOk X sc cl C s4.heap) (hC:⇑s2<=C) (keep:∀ b o,s2.heap.get? b=some o->s4.heap.get? b=some o) {m0:Aq} (hns:s4.heap.Ns C m0) (ho:s4.os=s2.os) (hg:AllBare s4.gens) :
  Inv (X.comp N' sc cl C s2 H fp) [] (cS k ix σ) H s4 where
 ok:={
  mod:=I.ok.mod
  kind:=S.kind
  glob:=I.ok.glob
  blt:=I.ok.blt
  above:=hC
  inj:=L.inj
  has:=λx hx=>L.has x (Jd hx)
  cab:=λx c h e=>xH hC (uk (L.own x c (Xf h) e))
  hd:=I.ok.hd
  frames:=I.ok.frames
  stk:=.inl rfl
  exf:=λb hb=>by
   let⟨f0,f1,f2,f3,f4,f5⟩:=hf b hb
   let⟨o,e⟩:=hfo b hb
   refine⟨xj (xt (x5 e) hC),λx c z=>?_⟩
   rcases L.src x c z with z | z
   ·erw[f4 x c z]
   ·erw[Ne.symm (xj (Nat.lt_trans (xt (x5 e) hC) z.1))]
  bs:=λb o e=>I.bs b o e
  bsz:=xH I.ok.bsz I.sz
  noex:=λb o e hb=>by
   let⟨f0,f1,f2,f3,f4,f5⟩:=hf b hb
   rcases f3 with z | z
   ·erw[I.ok.noex b o e z]
   ·erw[absurd (xt (x5 (I.ok.bs b o e).1) z) (ue _)]
  exfs:=λb hb hz=>by
   let⟨f0,f1,f2,f3,f4,f5⟩:=hf b hb
   rcases xw.mp (I.stkSub b hz)with z | z
   ·erw[f1 z]
   ·erw[f2 z]
  funs:=I.stack
  frf:=I.stkFree }
 os:=ho
 bare:=hg
 base:=Un.kept keep
 loc:=⟨m0,hns,λi x v e1 e2 e3=>by
  unfold cS at e2
  by_cases hi:i<k
  ·rw[xc (by simpa using hi),xN,if_pos hi]at e2
   cases e2
  ·obtain⟨j,rfl⟩:∃ j,i=k+j:=⟨i-k,by lia⟩
   rw[xm (by simp),ut,Nat.add_sub_cancel_left,xf]at e2
   cases q:ix[j]? with
   |none=>rw[q]at e2;cases e2
   |some i0=>
    rw[q]at e2
    let⟨y,hy1,hy2,hy3⟩:=S.cap j i0 q
    let ey:y=x:=by
     have:(X.comp N' sc cl C s2 H fp).N[k+j]?=some y:=hy1
     rw[this]at e1;exact Option.some.inj e1
    subst ey
    let ev:σ[i0]?=some (some v):=by
     simp only[uz,Option.some.injEq]at e2
     cases r:σ[i0]? with
     |none=>rw[r]at e2;cases e2
     |some z=>rw[r]at e2;exact congrArg some e2
    let⟨m,hn,hl⟩:=I.loc
    let hfr:=S.fre (y,.free) (qO hy3) rfl
    let hv:Vis X.env.scope y:=.inr hfr
    let⟨u,r1,l1⟩:=hl i0 y v hy2 ev hv
    refine⟨u,r1,.inr ⟨J1 hy3,?_⟩⟩
    let⟨c,hc⟩:=L.has y (.inl hy3)
    refine⟨c,hc,?_⟩
    let hc':=L.old y c hy3 hc
    rcases l1 with ⟨hk,_⟩ | ⟨_,c',hc2,z⟩
    ·let hk':X.env.scope.names.lookup y=some .local:=hk
     rcases hfr with w | w
     ·rw[hk']at w;cases w
     ·rw[hk']at w;cases w
    ·rw[hc']at hc2;cases hc2
     let⟨ob,hob,hd⟩:=z
     exact⟨ob,keep _ _ hob,hd⟩⟩
 cell:=λx c e=>by
  rcases L.src x c e with e | e
  ·let⟨v,ob,hob,hd⟩:=I.cell x c e
   exact⟨v,ob,keep _ _ hob,hd⟩
  ·exact⟨none,e.2⟩
 free:=I.hok.fresh hC
 freeC:=λx c e=>by
  rcases L.src x c e with e | e
  ·erw[I.freeC x c e]
  ·erw[I.hok.fresh (xH hC (uk e.1))]
 pin:=λp hp=>by cases hp
 hok:=I.hok.kept keep
 len:=by
  rw[S.len];unfold cS;simp
def Inv.back(I:Inv X pins σ H s2)(hf:∀ b∈fp,Jm X pins H b)(J:Inv (X.comp N' sc cl C s2 H fp) pl σc H5 s5):Inv X pins σ H5 s5 :=
 I.call' J.os J.base J.hok J.bare λb hb=>by
  let⟨f0,f1,f2,f3,f4,f5⟩:=hf b hb
  exact⟨f3,f1,f4,f5⟩
end
section
variable {X:Cx}{pins:Ak}{σ:St}{H:Hp}{s:Am}
def Inv.track{o:HO}(I:Inv X pins σ H s)(ha:X.s₀.heap.objs.size<=a)(hn:H a=none)(hL:a≠X.env.locals)(hc:∀ x c,X.env.cells.lookup x=some c->c≠a)(hp:∀ p∈X.pn++pins,p.1≠a)
  (new:ObjOk X.prog X.w (upd H a o) s.heap a o):Inv X pins σ (upd H a o) s where
 ok:=I.ok
 os:=I.os
 bare:=I.bare
 base:={
  keep:=I.base.keep
  slot:=I.base.slot
  free:=λb ob e n hx=>by
   rw[zG (xj (xt (x5 e) ha))]
   erw[I.base.free b ob e n hx]
  there:=I.base.there
  tups:=λb xs e=>by
   have:=I.base.tups b xs e
   rw[zG (qz this hn)];exact this
  frzs:=λb ob u e=>by
   have:=I.base.frzs b ob u e
   rw[zG (qz this hn)];exact this
  tbls:=λb ps e=>by
   let⟨mo,this⟩:=I.base.tbls b ps e
   exact⟨mo,by rw[zG (qz this hn)];exact this⟩ }
 loc:=I.loc
 cell:=I.cell
 free:=by rw[zG (Ne.symm hL)];exact I.free
 freeC:=λx c e=>by rw[zG (hc x c e)];exact I.freeC x c e
 pin:=λp h=>by
  let⟨e,n,r⟩:=I.pin p h
  exact⟨e,by rw[zG (hp p h)];exact n,r⟩
 hok:=λb u q=>by
  by_cases hb:b=a
  ·subst hb;rw[zH]at q;cases q;exact new
  ·rw[zG hb]at q
   exact (I.hok b u q).stay (λc v _ r=>r) (λc r=>by rw[zG (qz r hn)];exact r) λc xs r=>by rw[zG (qz r hn)];exact r
 len:=I.len
end
def PF(X:Cx)(ifs:Ag)(t:TT):Prop :=
 ∀(pins:Ak)(s:Am)(σ:St)(H:Hp)(Q:Bool->Hp->Prop),Inv X pins σ H s->t σ H Q ->
  ∅ (forIn ifs true λc r=>if r=true then do let ok<-isTrue c X.env (eval c X.env);pure (ForInStep.yield ok) else pure (ForInStep.yield r)) (TP X pins σ Q) X.xe s
def zk9:TT:=λ_ H Q=>Q true H
def pf_nil:PF X [] zk9:=λ_ _ _ H _ I h=>wpAny_tests_nil ⟨H,I,h⟩
def zi2(h:PT X c t):PF X [c] t:=λpins s σ H Q I hw=>wpAny_tests_one (h pins s σ H Q I hw)
def yR{e target iter:Expr}{ifs:Ag}{act:Sem Unit}(hlp:∀(R:Result->Am->Prop)(s:Am)(I:Nat->Am->Prop)(n:Nat),(∀ n s,I n s->wpAny (model prog w) A ((compTurn e 0 it acc env).onRaise (λx=>do noteFrame x env;theTreesLotGoes x)) (λfin s'=>match fin with
   |.done f=>R (.ok f) s'
   |.again c'=>c'=Code.compLoop e 0 it acc env/\∃ m,m<n/\I m s') (λe s'=>R (.error e) s') s)->I n s->codeAny (model prog w) A (.compLoop e 0 it acc env) R s)
  (heq:compTurn e 0 it acc env=(do
   standAt iter.pos
   match<-pyNext it with
   |none=>pure (.done .next)
   |some v=>
    letOwnedTupleGo target it v
    assign target env v
    let mut ok:=true
    for c in ifs do
     if ok then ok<-isTrue c env (eval c env)
    if ok then act
    again (.compLoop e 0 it acc env))) (I:Nat->Am->Prop)
  (turn:∀ n s,I n s->wpAny (model prog w) A (pyNext it) (λr s₁=>match r with
   |none=>R (.ok .next) s₁
   |some v=>wpAny (model prog w) A (letOwnedTupleGo target it v) (λ_ s₁=>wpAny (model prog w) A (assign target env v) (λ_ s₂=>
     wpAny (model prog w) A (forIn ifs true λc r=>if r=true then do let ok<-isTrue c env (eval c env);pure (ForInStep.yield ok) else pure (ForInStep.yield r)) (λok s₃=>
      if ok=true then wpAny (model prog w) A act (λ_ s₅=>∃ m,m<n/\I m s₅) (λ_ _=>False) s₃
      else ∃ m,m<n/\I m s₃) (λ_ _=>False) s₂) (λ_ _=>False) s₁) (λ_ _=>False) s₁) (λ_ _=>False) s)
  (n:Nat) (h:I n s):codeAny (model prog w) A (.compLoop e 0 it acc env) R s:=by
 erw[hlp R s I n (λn s hI=>?_) h]
 erw[wpAny_noted ?_]
 rw[heq]
 erw[x3 (wpAny_standAt (x3 (Xc (turn n s hI) (λr s₁ h₁=>?_) λ_ _ f=>f.elim)))]
 cases r with
 |none=>erw[x6 h₁]
 |some v=>
  erw[x3 (Xc h₁ (λ_ s₂ h₂=>?_) λ_ _ f=>f.elim)]
  erw[x3 (Xc h₂ (λ_ s₂ h₂=>x3 (Xc h₂ (λok s₃ h₃=>?_) λ_ _ f=>f.elim)) λ_ _ f=>f.elim)]
  cases ok with
  |false=>erw[x6 ⟨rfl,h₃⟩]
  |true=>erw[x3 (Xc h₃ (λ_ s₅ h₅=>x6 ⟨rfl,h₅⟩) λ_ _ f=>f.elim)]
structure Acc(α β:Type) where
 a0:α
 add:α->β->α
 len:α->Nat
 ho:α->HO
def VO{α β:Type}(ac:Acc α β)(k:Nat)(ix:Ac)(g:TG)(tt:TT)(te:St->Hp->(β->Hp->Prop)->Prop)(σ:St)(J:It)(H1:Hp)(Q:α->Hp->Prop):Prop :=
 ∃ W:Nat->Nat->α->Hp->Prop,(∃ m,W 0 m ac.a0 H1)/\∀ i m ys H,W i m ys H->ac.len ys<sizeLine /\
  ((J.stop i H/\Q ys H)∨(J.go i H/\∃ N:α->Hp->Prop,(∀ ys' H',N ys' H'->∃ m',m'<m/\W (i+1) m' ys' H')/\∀ x H',J.yld i H x H'->g x (cS k ix σ) H' λσ2 H2=>σ2.drop k=(cS k ix σ).drop k/\tt σ2 H2 λb H3=>
   if b=true then te σ2 H3 λy H4=>N (ac.add ys y) H4 else N ys H3))
noncomputable abbrev zfG:Acc (List V) V:=⟨[],λys y=>ys++ [y],List.length,.lst⟩
noncomputable abbrev zfF:Acc (List (Key×V)) (Key×V):=⟨[],λys y=>Jc ys y.1 y.2,List.length,.dK⟩
def YF(k:Nat)(ix:Ac)(wi:TI)(g:St->TG)(tt:St->TT)(te:St->TE):TE:=λσ H Q=>
 wi σ H λJ H1=>VO zfG k ix (g σ) (tt σ) (te σ) σ J H1 λys H2=>∀ p,H2 p=none->Q (.ref p) (upd H2 p (.lst ys))
def YG(tk tv:TE):St->Hp->(Key×V->Hp->Prop)->Prop:=λσ H Q=>tk σ H λx H1=>tv σ H1 λy H2=>∃ k,x=kV k/\Q (k,y) H2
def vd(k:Nat)(ix:Ac)(wi:TI)(g:St->TG)(tt:St->TT)(te:St->St->Hp->(Key×V->Hp->Prop)->Prop):TE:=λσ H Q=>
 wi σ H λJ H1=>VO zfF k ix (g σ) (tt σ) (te σ) σ J H1 λys H2=>∀ p,H2 p=none->Q (.ref p) (upd H2 p (.dK ys))
structure zhY(P:Ar)(w:World){α β γ:Type}(ac:Acc α β)(OK:α->Obj->Prop)(RB:β->γ->Prop)(o0:Obj)(na:Sem Aj)(st:Ap->γ->Sem Unit):Prop where
 new:∀(A:Around)(E:Af)(s:Am)(Q:Af),Q (.ref ⇑s) { s with heap:=s.heap.push o0 }->wpAny (model P w) A na Q E s
 z0:OK ac.a0 o0
 live:o0.isFreed=false
 cell:∀ a o,OK a o->∀ v,o.data≠ .cell v
 st:∀(A:Around)(E:Af)(s:Am)(Q:Unit->Am->Prop)(D:Ap)(a:α)(o:Obj)(y:β)(b:γ),OK a o->ac.len a<sizeLine->RB y b->s.heap.get? D=some o ->
  (∀ h' o' t',Heap.SameBut D s.heap h'->h'.get? D=some o'->OK (ac.add a y) o'->Q () { s with heap:=h',toks:=t' })->wpAny (model P w) A (st D b) Q E s
 ok:∀(H:Hp)(h:Heap)(D:Ap)(a:α)(o:Obj),OK a o->ac.len a<=sizeLine->sysModules<D->h.get? D=some o->ObjOk P w H h D (ac.ho a)
def PEv(X:Cx){β γ:Type}(RB:β->γ->Prop)(st:Ap->γ->Sem Unit)(act:Ap->Env->Sem Unit)(te:St->Hp->(β->Hp->Prop)->Prop):Prop:=∀(D:Ap)(pins:Ak)(s:Am)(σ:St)(H:Hp)(Q:β->Hp->Prop)(R:Unit->Am->Prop),Inv X pins σ H s->te σ H Q ->
 (∀ y b s' H',Inv X pins σ H' s'->RB y b->Q y H'->∅ (st D b) R X.xe s')->∅ (act D X.env) R X.xe s
section
variable {X:Cx}{pins:Ak}{σ:St}{H:Hp}{s2:Am}
def Ve{α β γ:Type}{ac:Acc α β}{OK:α->Obj->Prop}{RB:β->γ->Prop}{o0:Obj}{na:Sem Aj}{sto:Ap->γ->Sem Unit}{act:Ap->Env->Sem Unit}{e tg iter:Expr}{ifs:Ag}{scope:Scope}{N':Ab}{k:Nat}{ix:Ac}{g:TG}{tt:TT}{te:St->Hp->(β->Hp->Prop)->Prop}{cl:List (Str×Addr)}{it:Ap}{fp:List Ap}{tn:Nat->Heap->Prop}{J:It}
  {Q:α->Hp->Prop} {RR:Aj->Ap->Result->Am->Prop} {E:Af} (AK:zhY X.prog X.w ac OK RB o0 na sto)
  (hlp:∀(it acc:Aj)(env:Env)(R:Result->Am->Prop)(s:Am)(I:Nat->Am->Prop)(n:Nat),(∀ n s,I n s->∅ ((compTurn e 0 it acc env).onRaise (λx=>do noteFrame x env;theTreesLotGoes x)) (λfin s'=>match fin with
   |.done f=>R (.ok f) s'
   |.again c'=>c'=Code.compLoop e 0 it acc env/\∃ m,m<n/\I m s') (λe s'=>R (.error e) s') s)->I n s->codeAny (model X.prog X.w) X.A (.compLoop e 0 it acc env) R s)
  (heq:∀ it D env,compTurn e 0 it (.ref D) env=(do
   standAt iter.pos
   match<-pyNext it with
   |none=>pure (.done .next)
   |some v=>
    letOwnedTupleGo tg it v
    assign tg env v
    let mut ok:=true
    for c in ifs do
     if ok then ok<-isTrue c env (eval c env)
    if ok then act D env
    again (.compLoop e 0 it (.ref D) env)))
  (hstart:∀(R:Result->Am->Prop)(s:Am)(it acc:Aj)(env:Env),codeAny (model X.prog X.w) X.A (.compLoop e 0 it acc env) R s->∅ (pyIter it) (λit' s'=>codeAny (model X.prog X.w) X.A (.compLoop e 0 it' acc env) R s') (notedBy (model X.prog X.w) X.A env λx s'=>R (.error x) s') s ->
   codeAny (model X.prog X.w) X.A (.compStart e 0 it acc env) R s) (hcalm:X.calm=true)
  (S:CSc X.env.scope X.N scope N' k ix)
  (hg:∀ cl C s2 H2 fp,PG ⋯ tg g) (ht:∀ cl C s2 H2 fp,PF ⋯ ifs tt) (he:∀ cl C s2 H2 fp,PEv ⋯ RB sto act te)
  (I2:Inv X pins σ H s2) (T:wU X.prog X.w X.K tg J fp it tn) (st2:tn 0 s2.heap) (f2:∀ b∈fp,Jm X pins H b) (hR:VO ac k ix g tt te σ J H Q)
  (hcl1:∀ x c,cl.lookup x=some c->X.env.cells.lookup x=some c) (hcl2:∀ x,(x,NameKind.free)∈scope.names->∃ c,cl.lookup x=some c)
  (fin:∀(D C:Ap)(ys:α)(H5:Hp)(s5:Am)(m:Aq),Inv X pins σ (upd H5 D (ac.ho ys)) s5->Q ys H5->H5 D=none->s5.heap.Ns C m->C≠D->⇑s2<=C->upd H5 D (ac.ho ys) C=none ->
   RR (.ref D) C (.ok .next) s5) :
  ∅ na (λacc s₃=>∅ (newFunctionEnv scope X.env.globals cl [] X.env.qual none .none (some X.env)) (λcenv s₄=>
   codeAny (model X.prog X.w) X.A (.compStart e 0 (.ref it) acc { cenv with scope:=relabel scope X.env }) (RR acc cenv.locals) s₄) E s₃) E s2:=by
 erw[AK.new _ _ _ _ (vL ?_)]
 dsimp only
 generalize hH2:s2.heap.push o0=G2
 let hC:G2.objs.size=⇑s2+1:=by rw[<- hH2,Heap.size_push]
 let hDC:⇑s2≠G2.objs.size:=by rw[hC];exact xj (uM _)
 let hCle:⇑s2<=G2.objs.size:=by rw[hC];exact uR _
 let L:=ClOk.of I2 S hcl1 hcl2 (g:=G2) (o:={ cls:=.type "dict",data:=.dict #[] }) hCle
 let below:∀ b,b<⇑s2->b≠G2.objs.size/\b≠⇑s2:=λb hb=>⟨by rw[hC];exact xj (Nat.lt_succ_of_lt hb),xj hb⟩
 let old:∀ b o,s2.heap.get? b=some o->(pushCells (G2.push { cls:=.type "dict",data:=.dict #[] }) scope.names).get? b=some o:=λb o e=>pushCells_keeps _ _ b o (x4 _ (hH2 ▸ x4 _ e))
 let hacc:(pushCells (G2.push { cls:=.type "dict",data:=.dict #[] }) scope.names).get? ⇑s2=some o0:=pushCells_keeps _ _ _ _ (x4 _ (hH2 ▸ x8 _ AK.live))
 let hns₁:(pushCells (G2.push { cls:=.type "dict",data:=.dict #[] }) scope.names).Ns G2.objs.size _:=(Heap.Ns.new G2 (.type "dict")).keeps (pushCells_keeps _ _)
 generalize pushCells (G2.push { cls:=.type "dict",data:=.dict #[] }) scope.names=h₁ at L old hacc hns₁ |-
 generalize cellsFrom (G2.objs.size+1) scope.names cl=cl2 at L |-
 let st1:tn 0 h₁:=T.keep _ _ _ st2 λb _ o e=>old b o e
 let hfo:∀ b∈fp,∃ o,s2.heap.get? b=some o:=λb hb=>let ⟨o,e,_⟩:=T.obj _ _ st2 b hb;⟨o,e⟩
 let Ic:Inv (X.comp N' scope cl2 G2.objs.size s2 H fp) [] (cS k ix σ) H { s2 with heap:=h₁ } :=
  I2.child S f2 hfo L hCle old hns₁ rfl I2.bare
 -- the accumulator D,as a pin
 let dfs:⇑s2∉(X.comp N' scope cl2 G2.objs.size s2 H fp).fs:=λhz=>by
  rcases xw.mp (I2.stkSub _ hz)with z | z
  ·exact absurd I2.lt (by rw[<- z];exact ue _)
  ·erw[I2.nofs (xg _) z]
 let dcell:∀ x c,cl2.lookup x=some c->c≠⇑s2:=λx c e=>by
  rcases L.src x c e with e | e
  ·let⟨v,ob,hob,_⟩:=I2.cell x c e
   erw[xj (x5 hob)]
  ·erw[Ne.symm (xj (Nat.lt_of_le_of_lt hCle e.1))]
 have dpin:∀(ys:α)(ob:Obj)(σ':St)(H':Hp)(s':Am),Inv (X.comp N' scope cl2 G2.objs.size s2 H fp) [] σ' H' s'->OK ys ob->s'.heap.get? ⇑s2=some ob->H' ⇑s2=none ->
   Inv (X.comp N' scope cl2 G2.objs.size s2 H fp) [(⇑s2,ob)] σ' H' s':=λys ob σ' H' s' I' ok e hn=>I'.pins_of λp hp=>by
  let e':p=(⇑s2,ob):=by simpa using hp
  subst e'
  exact⟨e,hn,hDC,dfs,λv z=>AK.cell _ _ ok v z⟩
 let fpc:∀(ob:Obj)(H':Hp),(∀ b∈fp,H' b=none)->∀ b∈fp,Jm (X.comp N' scope cl2 G2.objs.size s2 H fp) [(⇑s2,ob)] H' b:=λob H' hn b hb=>by
  let⟨f0,f1,f2',f3,f4,f5⟩:=f2 b hb
  let⟨o,e⟩:=hfo b hb
  let hb2:=below b (x5 e)
  refine⟨hn b hb,hb2.1,λhz=>?_,.inl hb,λx c z=>?_,λp hp=>?_⟩
  ·rcases xw.mp (I2.stkSub b hz)with z | z
   ·erw[f1 z]
   ·erw[f2' z]
  ·rcases L.src x c z with z | z
   ·erw[f4 x c z]
   ·erw[Ne.symm (xj (Nat.lt_trans (xt (x5 e) hCle) z.1))]
  ·let e':p=(⇑s2,ob):=by simpa using hp
   subst e'
   erw[Ne.symm hb2.2]
 let⟨W,⟨m0,w0⟩,turn⟩:=hR
 have loop:codeAny (model X.prog X.w) X.A (.compLoop e 0 (.ref it) (.ref ⇑s2) (compEnvC scope cl2 G2.objs.size X.env)) (RR (.ref ⇑s2) G2.objs.size)
   { s2 with heap:=h₁ }:=by
  refine yR (hlp _ _ _) (heq _ _ _) (λn s'=>∃ i ys ob H',Inv (X.comp N' scope cl2 G2.objs.size s2 H fp) [(⇑s2,ob)] (cS k ix σ) H' s'/\OK ys ob/\tn i s'.heap/\(∀ b∈fp,H' b=none)/\W i n ys H') ?_ m0
   ⟨0,_,o0,H,dpin _ _ _ _ _ Ic AK.z0 hacc (I2.hok.fresh (xg _)),AK.z0,st1,λb hb=>(f2 b hb).1,w0⟩
  rintro n s3 ⟨i,ys,ob,H3,I3,rv,st3,fr3,w3⟩
  let⟨hlen,hw⟩:=turn i n ys H3 w3
  let hDn:H3 ⇑s2=none:=(I3.pin (⇑s2,ob) (by simp)).2.1
  let hDe:s3.heap.get? ⇑s2=some ob:=(I3.pin (⇑s2,ob) (by simp)).1
  rcases hw with ⟨stop,q⟩ | ⟨go,N,hN,step⟩
  ·refine thn (T.done (X.comp N' scope cl2 G2.objs.size s2 H fp) rfl rfl rfl hcalm i _ s3 _ H3 _ I3 (fpc _ _ fr3) st3 stop) λr s4 ⟨hr,I4⟩=>?_
   subst hr
   let hDe4:s4.heap.get? ⇑s2=some ob:=(I4.pin (⇑s2,ob) (by simp)).1
   let Ib:Inv X pins σ H3 s4:=I2.back f2 I4
   let hz:ac.len ys<=sizeLine:=uk hlen
   let⟨m',hn',_⟩:=I4.loc
   let It:=Ib.track I2.sz hDn (Ne.symm (xj I2.lt)) (λx c e=>by
    let⟨v,ob,hob,_⟩:=I2.cell x c e
    exact xj (x5 hob)) (λp hp=>xj (x5 (I2.pin p hp).1)) (AK.ok _ _ _ _ _ rv hz I2.big hDe4)
   exact fin _ _ ys H3 s4 m' It q hDn hn' (Ne.symm hDC) hCle (by rw[zG (Ne.symm hDC)];exact I4.free)
  ·refine thn (T.item (X.comp N' scope cl2 G2.objs.size s2 H fp) rfl rfl rfl hcalm i _ s3 _ H3 _ I3 (fpc _ _ fr3) st3 go) λr s4 ⟨u,hr,h4⟩=>?_
   subst hr
   erw[thn h4 λ_ s5 ⟨x,H5,I5,r5,y5,st5,fr5⟩=>?_]
   let I5':=I5.pinned (fpc ob H5 fr5) (T.obj _ _ st5)
   erw[thn (hg _ _ _ _ _ _ s5 _ H5 x u _ I5' r5 (step x H5 y5)) λ_ s6 ⟨σ6,H6,I6,hσ,q6⟩=>?_]
   erw[thn (ht _ _ _ _ _ _ s6 σ6 H6 _ I6 q6) λok s7 ⟨H7,I7,q7⟩=>?_]
   let wk:∀{pl:Ak}{H':Hp}{s':Am},Inv (X.comp N' scope cl2 G2.objs.size s2 H fp) pl σ6 H' s'->Inv (X.comp N' scope cl2 G2.objs.size s2 H fp) pl (cS k ix σ) H' s':=λ{pl H' s'} I'=>
    I'.weak (by rw[Ic.len,I'.len]) λj v ev=>by
     by_cases hj:j<k
     ·unfold cS at ev
      rw[xc (by simpa using hj),xN,if_pos hj]at ev
      cases ev
     ·obtain⟨j',rfl⟩:∃ j',j=k+j':=⟨j-k,by lia⟩
      rw[<- List.getElem?_drop,hσ,List.getElem?_drop]
      erw[ev]
   let itk:∀{σ':St}{H':Hp}{s':Am},Inv (X.comp N' scope cl2 G2.objs.size s2 H fp) ([(⇑s2,ob)]++WT fp s5.heap) σ' H' s'->tn (i+1) s'.heap/\∀ b∈fp,H' b=none:=λ{σ' H' s'} I'=>
    ⟨T.keep _ _ _ st5 λb hb o e=>(I'.pin (b,o) (xA _ (xA _ (jW hb e)))).1,λb hb=>by
     let⟨o,e,_⟩:=T.obj _ _ st5 b hb
     exact (I'.pin (b,o) (xA _ (xA _ (jW hb e)))).2.1⟩
   cases ok with
   |false=>
    rw[if_neg (by decide)]at q7 |-
    let⟨m',hm,w7⟩:=hN _ _ q7
    let⟨t7,f7⟩:=itk I7
    exact⟨m',hm,i+1,ys,ob,H7,wk I7.unpinned,rv,t7,f7,w7⟩
   |true=>
    rw[if_pos rfl]at q7 |-
    erw[thn (he _ _ _ _ _ ⇑s2 _ s7 σ6 H7 _ _ I7 q7 λy b s8 H8 I8 r8 n8q=>?_) λ_ _ q=>q]
    let⟨m',hm,w8⟩:=hN _ _ n8q
    let⟨t8,f8⟩:=itk I8
    let I8':Inv (X.comp N' scope cl2 G2.objs.size s2 H fp) [(⇑s2,ob)] σ6 H8 s8:=I8.unpinned
    let e8:s8.heap.get? ⇑s2=some ob:=(I8'.pin (⇑s2,ob) (by simp)).1
    let n8:H8 ⇑s2=none:=(I8'.pin (⇑s2,ob) (by simp)).2.1
    erw[AK.st _ _ s8 _ _ ys ob y b rv hlen r8 e8 λh' o' t' sb e9 ok9=>?_]
    let I8n:Inv (X.comp N' scope cl2 G2.objs.size s2 H fp) [] σ6 H8 s8:=I8'.pins_of λp hp=>by cases hp
    let I9:Inv (X.comp N' scope cl2 G2.objs.size s2 H fp) [] σ6 H8 { s8 with heap:=h',toks:=t' } :=
     I8n.turned (λb o hb e=>(sb.2 b hb).trans e) n8 hDC (.inr (xg _)) (λx c e=>dcell x c e) (λp hp=>by cases hp)
    refine⟨m',hm,i+1,_,o',H8,wk (dpin _ _ _ _ _ I9 ok9 e9 n8),ok9,?_,f8,w8⟩
    exact T.keep _ _ _ t8 λb hb o e=>(sb.2 b (by
     let⟨o',e'⟩:=hfo b hb
     exact (below b (x5 e')).2)).trans e
 erw[hstart _ _ _ _ _ loop (T.self X.A 0 _ _ _ st1 loop)]
noncomputable abbrev zkp (ys:An) (n:Nat):Obj:={ cls:=.type "list",data:=.seq ys.toArray n }
def zaj:zhY P w zfG (λys o=>∃ its n,Vals ys its/\o=zkp its n) RelV (zkp [] 0) (newList []) (λD b=>do let _<-call (.builtin "list.append") [.ref D,b]) where
 new A E s Q h:=wpAny_newObj_type h
 z0:=⟨[],0,.nil,rfl⟩
 live:=rfl
 cell a o h v z:=by
  let⟨its,n,_,rfl⟩:=h
  cases z
 st A E s Q D a o y b h hl r e k:=by
  let⟨its,n,rv,rfl⟩:=h
  refine x3 (call_meets F.slot_list_append ⟨_,e,rfl⟩ F.entry_list_append (F.args_list_append_2 _ _) (PySem.list_append D its.toArray n b (by
   have:=rv.length
   let hl':a.length<sizeLine:=hl
   rw[xn];lia)) ⟨e,x6 ?_⟩)
  let q9:=PySem.IsL.update e (·.push b)
  rw[show its.toArray.push b=(its++ [b]).toArray by simp]at q9
  exact k _ _ _ ⟨by simp[Heap.update],λc hc=>Xd s.heap _ (Ne.symm hc)⟩ q9 ⟨its++ [b],_,rv.append (.cons r .nil),rfl⟩
 ok H h D a o hk hz _ e:=by
  let⟨its,n,rv,rfl⟩:=hk
  exact⟨hz,its,n,rv,e⟩
def zai:zhY P w zfF (λys o=>∃ vs,KV ys vs/\o.IsDictOf (qt P w) vs) (λ(y:Key×V) (b:Aj×Value)=>RelV (kV y.1) b.1/\RelV y.2 b.2) { cls:=.type "dict",data:=.dict #[] } newDict (λD b=>holding [b.1,b.2] (dictSet D b.1 b.2)) where
 new A E s Q h:=wpAny_newObj_type h
 z0:=by
  refine⟨[],.nil,?_⟩
  exact⟨#[],0,⟨rfl,rfl,rfl⟩,rfl,λ_ he=>by simp at he,Pairs.nil,List.nodup_nil⟩
 live:=rfl
 cell a o h v z:=by
  let⟨vs,_,es,ep,_,hd,_⟩:=h
  rw[hd]at z;cases z
 st A E s Q D a o y b h hl r e k:=by
  let⟨vs,rv,hd⟩:=h
  refine Xb (wpAny_dictSet_pairs (JU r.1) (Heap.dictOf_iff.mpr ⟨o,e,hd⟩) (λh' dd sb=>?_) (by rw[<- rv.length];exact uk hl))
  let⟨o',e',r'⟩:=Heap.dictOf_iff.mp dd
  erw[k h' o' _ sb e' ⟨_,rv.put y.1 r.2,r'⟩]
 ok H h D a o hk hz hb e:=by
  let⟨vs,rv,hd⟩:=hk
  exact⟨hz,x9.mpr (uW hb),vs,rv,Heap.dictOf_iff.mpr ⟨o,e,hd⟩⟩
def ZM(I:Inv X pins σ H s)(S:CSc X.env.scope X.N scope N' k ix) :
  ∃ cl,closureFor scope X.env=pure cl/\(∀ x c,cl.lookup x=some c->X.env.cells.lookup x=some c)/\(∀ x,(x,NameKind.free)∈scope.names->∃ c,cl.lookup x=some c) :=
 ke λy hy e=>by
  rcases S.fre y hy e with z | z
  ·erw[I.ok.has _ (.inl z)]
  ·erw[I.ok.has _ (.inr z)]
def Inv.letgo(I2:Inv X pins σ H s2)(I5:Inv X pins σ5 H5 s5)(hCs:⇑s2<=C)(hCn:H5 C=none)(hs:∀ b,b≠C->h'.get? b=s5.heap.get? b):Inv X pins σ5 H5 { s5 with heap:=h' } :=
 I5.turned (λb o hb e=>(hs b hb).trans e) hCn (Ne.symm (xj (xt I2.lt hCs))) (.inr (xH I2.sz hCs))
  (λx c e=>by
   let⟨v,ob,hob,_⟩:=I2.cell x c e
   exact xj (xt (x5 hob) hCs))
  (λp hp=>xj (xt (x5 (I2.pin p hp).1) hCs))
end
section
variable {X:Cx}{elt tg iter:Expr}{ifs:Ag}{scope:Scope}{pos:Pos}{N':Ab}{k:Nat}{ix:Ac}{g:St->TG}{tt:St->TT}{te:St->TE}{wi:TI}
def Kt:compTurn (.ListComp elt [⟨tg,iter,ifs,0⟩] scope pos) 0 it (.ref D) env=(do
   standAt iter.pos
   match<-pyNext it with
   |none=>pure (.done .next)
   |some v=>
    letOwnedTupleGo tg it v
    assign tg env v
    let mut ok:=true
    for c in ifs do
     if ok then ok<-isTrue c env (eval c env)
    if ok then (do let _<-call (.builtin "list.append") [.ref D,<- eval elt env])
    again (.compLoop (.ListComp elt [⟨tg,iter,ifs,0⟩] scope pos) 0 it (.ref D) env)):=compTurn_list elt tg iter ifs scope pos it (.ref D) env
def zey {te:TE}(he:PE X elt te):PEv X RelV (λD b=>do let _<-call (.builtin "list.append") [.ref D,b]) (λD env=>do let _<-call (.builtin "list.append") [.ref D,<- eval elt env]) te:=λD pins s σ H Q R I h k=>
 x3 (Xc (he pins s σ H Q I h) (λb s' ⟨y,H',I',r,q⟩=>k y b s' H' I' r q) λ_ _ z=>z)
def Vg(hcalm:X.calm=true)(S:CSc X.env.scope X.N scope N' k ix)
  {pins:Ak} {σ:St} {H:Hp} {s2:Am} {cl:List (Str×Addr)} {it:Ap} {fp:List Ap} {tn:Nat->Heap->Prop} {J:It} {Q:List V->Hp->Prop} {RR:Aj->Ap->Result->Am->Prop} {E:Af}
  (hg:∀ cl C s2 H2 fp,PG ⋯ tg (g σ)) (ht:∀ cl C s2 H2 fp,PF ⋯ ifs (tt σ)) (he:∀ cl C s2 H2 fp,PE ⋯ elt (te σ))
  (I2:Inv X pins σ H s2) (T:wU X.prog X.w X.K tg J fp it tn) (st2:tn 0 s2.heap) (f2:∀ b∈fp,Jm X pins H b) (hR:VO zfG k ix (g σ) (tt σ) (te σ) σ J H Q)
  (hcl1:∀ x c,cl.lookup x=some c->X.env.cells.lookup x=some c) (hcl2:∀ x,(x,NameKind.free)∈scope.names->∃ c,cl.lookup x=some c)
  (fin:∀(D C:Ap)(ys:List V)(H5:Hp)(s5:Am)(m:Aq),Inv X pins σ (upd H5 D (.lst ys)) s5->Q ys H5->H5 D=none->s5.heap.Ns C m->C≠D->⇑s2<=C->upd H5 D (.lst ys) C=none->RR (.ref D) C (.ok .next) s5) :
  ∅ (newList []) (λacc s₃=>∅ (newFunctionEnv scope X.env.globals cl [] X.env.qual none .none (some X.env)) (λcenv s₄=>
   codeAny (model X.prog X.w) X.A (.compStart (.ListComp elt [⟨tg,iter,ifs,0⟩] scope pos) 0 (.ref it) acc { cenv with scope:=relabel scope X.env }) (RR acc cenv.locals) s₄) E s₃) E s2 :=
 Ve zaj (act:=λD env=>do let _<-call (.builtin "list.append") [.ref D,<- eval elt env]) (λit acc env R s I n h h0=>codeAny_loop rfl I h n h0) (λ_ _ _=>Kt) (λR s it acc env h0 h=>codeAny_compStart_list h0 h) hcalm S hg ht (λcl C s2 H2 fp=>zey (he cl C s2 H2 fp)) I2 T st2 f2 hR hcl1 hcl2 fin
def zgy(hcalm:X.calm=true)(S:CSc X.env.scope X.N scope N' k ix)(hi:PI X tg iter wi)
  (hg:∀ σ cl C s2 H2 fp,PG ⋯ tg (g σ)) (ht:∀ σ cl C s2 H2 fp,PF ⋯ ifs (tt σ)) (he:∀ σ cl C s2 H2 fp,PE ⋯ elt (te σ))
  (hs:∀ x,foldedSetIterable iter X.env x=pure x:=by intro _;rfl):PE X (.ListComp elt [⟨tg,iter,ifs,0⟩] scope pos) (YF k ix wi g tt te):=by
 cbv
 let⟨cl,ecl,hcl1,hcl2⟩:=ZM I S
 rw[eval_ListComp]
 erw[wpAny_comprehension_free rfl hs ecl S.kind S.loc (thn (hi pins s σ H _ I h) λv s1 h1=>thn h1 λitv s2 h2=>?_)]
 let⟨it,fp,tn,J,H2,e,I2,T,st2,f2,hR⟩:=h2
 subst e
 erw[Vg hcalm S (hg σ) (ht σ) (he σ) I2 T st2 f2 hR hcl1 hcl2 ?_]
 intro D C ys H5 s5 m I5 q hD hn hCD hCs hCn
 exact⟨m,hn,λh' hs'=>⟨.ref D,upd H5 D (.lst ys),I2.letgo I5 hCs hCn hs'.2,rfl,q D hD⟩⟩
def zgH{pos' spos:Pos}(hN:X.N.Nodup)(hi':X.N[i]?=some x)(hx:Loc X.env.scope x)(hcalm:X.calm=true)(S:CSc X.env.scope X.N scope N' k ix)(hi:PI X tg iter wi)
  (hg:∀ σ cl C s2 H2 fp,PG ⋯ tg (g σ)) (ht:∀ σ cl C s2 H2 fp,PF ⋯ ifs (tt σ)) (he:∀ σ cl C s2 H2 fp,PE ⋯ elt (te σ))
  (hsw:swapsWith (.ListComp elt [⟨tg,iter,ifs,0⟩] scope pos) (some (.Name x pos')) spos.line X.env=pure true)
  (hs:∀ x,foldedSetIterable iter X.env x=pure x:=by intro _;rfl) (hf:X.fn x=true∨X.env.scope.names.lookup x=some .local:=by first | exact .inl rfl | exact .inr rfl | assumption) :
  PS X (.Assign [.Name x pos'] (.ListComp elt [⟨tg,iter,ifs,0⟩] scope pos) spos) (yB (YF k ix wi g tt te) (Wu i)):=by
 intro pins s σ H D' I h
 let⟨cl,ecl,hcl1,hcl2⟩:=ZM I S
 rw[exec_Assign_Name_used _ _ _ _ hsw]
 erw[x3 (wpAny_standAt (x3 ?_))]
 refine x3 (Xc (wpAny_comprehension_free (Q:=λ_ s'=>SP X pins D' .next s') rfl hs ecl S.kind S.loc
  (thn (hi pins s σ H _ I h) λv s1 h1=>thn h1 λitv s2 h2=>?_)) (λ_ s' hq=>x6 (x6 hq)) λ_ _ e=>e)
 let⟨it,fp,tn,J,H2,e,I2,T,st2,f2,hR⟩:=h2
 subst e
 erw[Vg hcalm S (hg σ) (ht σ) (he σ) I2 T st2 f2 hR hcl1 hcl2 ?_]
 intro D C ys H5 s5 m I5 q hD hn hCD hCs hCn
 erw[wpAny_assign_Name (JM (v:=.ref D) I5 hN hi' hx rfl (λs' I' ⟨a,sb,ha⟩=>?_) hf)]
 let hCa:C≠a:=by
  rcases ha with rfl | ha
  ·erw[Ne.symm (xj (xt I2.lt hCs))]
  ·let⟨v,ob,hob,_⟩:=I2.cell x a ha
   erw[Ne.symm (xj (xt (x5 hob) hCs))]
 exact⟨m,hn.sameBut sb hCa,λh' hs'=>⟨_,_,I2.letgo I' hCs hCn hs'.2,q D hD⟩⟩
end
section
variable {X:Cx}{kx vx tg iter:Expr}{ifs:Ag}{scope:Scope}{pos:Pos}{N':Ab}{k:Nat}{ix:Ac}{g:St->TG}{tt:St->TT}{tk tv:St->TE}{wi:TI}
def zex{tk tv:TE}(hk:PE X kx tk)(hv:PE X vx tv):PEv X (λ(y:Key×V)(b:Aj×Value)=>RelV (kV y.1) b.1/\RelV y.2 b.2) (λD b=>holding [b.1,b.2] (dictSet D b.1 b.2)) (λD env=>do
   let kv<-eval kx env
   let vv<-holding [kv] (eval vx env)
   standAt { kx.pos with endLine:=vx.pos.endLine,endCol:=vx.pos.endCol }
   holding [kv,vv] (dictSet D kv vv)) (YG tk tv):=λD pins s σ H Q R I h kk=>
 x3 (Xc (hk pins s σ H _ I h) (λkv s1 ⟨x,H1,I1,rx,q1⟩=>x3 (Xb (Xc (hv pins s1 σ H1 _ I1 q1) (λvv s2 ⟨y,H2,I2,ry,k,ek,q2⟩=>
  x3 (wpAny_standAt (kk (k,y) (kv,vv) s2 H2 I2 ⟨by rw[<- ek];exact rx,ry⟩ q2))) λ_ _ z=>z))) λ_ _ z=>z)
def Vf(hcalm:X.calm=true)(S:CSc X.env.scope X.N scope N' k ix)
  {pins:Ak} {σ:St} {H:Hp} {s2:Am} {cl:List (Str×Addr)} {it:Ap} {fp:List Ap} {tn:Nat->Heap->Prop} {J:It} {Q:List (Key×V)->Hp->Prop} {RR:Aj->Ap->Result->Am->Prop} {E:Af}
  (hg:∀ cl C s2 H2 fp,PG ⋯ tg (g σ)) (ht:∀ cl C s2 H2 fp,PF ⋯ ifs (tt σ)) (hk:∀ cl C s2 H2 fp,PE ⋯ kx (tk σ)) (hv:∀ cl C s2 H2 fp,PE ⋯ vx (tv σ))
  (I2:Inv X pins σ H s2) (T:wU X.prog X.w X.K tg J fp it tn) (st2:tn 0 s2.heap) (f2:∀ b∈fp,Jm X pins H b) (hR:VO zfF k ix (g σ) (tt σ) (YG (tk σ) (tv σ)) σ J H Q)
  (hcl1:∀ x c,cl.lookup x=some c->X.env.cells.lookup x=some c) (hcl2:∀ x,(x,NameKind.free)∈scope.names->∃ c,cl.lookup x=some c)
  (fin:∀(D C:Ap)(ys:List (Key×V))(H5:Hp)(s5:Am)(m:Aq),Inv X pins σ (upd H5 D (.dK ys)) s5->Q ys H5->H5 D=none->s5.heap.Ns C m->C≠D->⇑s2<=C->upd H5 D (.dK ys) C=none->RR (.ref D) C (.ok .next) s5) :
  ∅ newDict (λacc s₃=>∅ (newFunctionEnv scope X.env.globals cl [] X.env.qual none .none (some X.env)) (λcenv s₄=>
   codeAny (model X.prog X.w) X.A (.compStart (.DictComp kx vx [⟨tg,iter,ifs,0⟩] scope pos) 0 (.ref it) acc { cenv with scope:=relabel scope X.env }) (RR acc cenv.locals) s₄) E s₃) E s2 :=
 Ve zai (act:=λD env=>do
   let kv<-eval kx env
   let vv<-holding [kv] (eval vx env)
   standAt { kx.pos with endLine:=vx.pos.endLine,endCol:=vx.pos.endCol }
   holding [kv,vv] (dictSet D kv vv)) (λit acc env R s I n h h0=>codeAny_loop rfl I h n h0) (λit D env=>compTurn_dict kx vx tg iter ifs scope pos it D env) (λR s it acc env h0 h=>codeAny_compStart_dict h0 h) hcalm S hg ht (λcl C s2 H2 fp=>zex (hk cl C s2 H2 fp) (hv cl C s2 H2 fp)) I2 T st2 f2 hR hcl1 hcl2 fin
def zem(hcalm:X.calm=true)(S:CSc X.env.scope X.N scope N' k ix)(hi:PI X tg iter wi)
  (hg:∀ σ cl C s2 H2 fp,PG ⋯ tg (g σ)) (ht:∀ σ cl C s2 H2 fp,PF ⋯ ifs (tt σ)) (hk:∀ σ cl C s2 H2 fp,PE ⋯ kx (tk σ)) (hv:∀ σ cl C s2 H2 fp,PE ⋯ vx (tv σ))
  (hs:∀ x,foldedSetIterable iter X.env x=pure x:=by intro _;rfl):PE X (.DictComp kx vx [⟨tg,iter,ifs,0⟩] scope pos) (vd k ix wi g tt (λσ=>YG (tk σ) (tv σ))):=by
 cbv
 let⟨cl,ecl,hcl1,hcl2⟩:=ZM I S
 erw[wpAny_comprehension_free rfl hs ecl S.kind S.loc (thn (hi pins s σ H _ I h) λv s1 h1=>thn h1 λitv s2 h2=>?_)]
 let⟨it,fp,tn,J,H2,e,I2,T,st2,f2,hR⟩:=h2
 subst e
 erw[Vf hcalm S (hg σ) (ht σ) (hk σ) (hv σ) I2 T st2 f2 hR hcl1 hcl2 ?_]
 intro D C ys H5 s5 m I5 q hD hn hCD hCs hCn
 exact⟨m,hn,λh' hs'=>⟨.ref D,upd H5 D (.dK ys),I2.letgo I5 hCs hCn hs'.2,rfl,q D hD⟩⟩
def zeH{pos' spos:Pos}(hN:X.N.Nodup)(hi':X.N[i]?=some x)(hx:Loc X.env.scope x)(hcalm:X.calm=true)(S:CSc X.env.scope X.N scope N' k ix)(hi:PI X tg iter wi)
  (hg:∀ σ cl C s2 H2 fp,PG ⋯ tg (g σ)) (ht:∀ σ cl C s2 H2 fp,PF ⋯ ifs (tt σ)) (hk:∀ σ cl C s2 H2 fp,PE ⋯ kx (tk σ)) (hv:∀ σ cl C s2 H2 fp,PE ⋯ vx (tv σ))
  (hsw:swapsWith (.DictComp kx vx [⟨tg,iter,ifs,0⟩] scope pos) (some (.Name x pos')) spos.line X.env=pure true)
  (hs:∀ x,foldedSetIterable iter X.env x=pure x:=by intro _;rfl) (hf:X.fn x=true∨X.env.scope.names.lookup x=some .local:=by first | exact .inl rfl | exact .inr rfl | assumption) :
  PS X (.Assign [.Name x pos'] (.DictComp kx vx [⟨tg,iter,ifs,0⟩] scope pos) spos) (yB (vd k ix wi g tt (λσ=>YG (tk σ) (tv σ))) (Wu i)):=by
 intro pins s σ H D' I h
 let⟨cl,ecl,hcl1,hcl2⟩:=ZM I S
 rw[exec_Assign_Name_used _ _ _ _ hsw]
 erw[x3 (wpAny_standAt (x3 ?_))]
 refine x3 (Xc (wpAny_comprehension_free (Q:=λ_ s'=>SP X pins D' .next s') rfl hs ecl S.kind S.loc
  (thn (hi pins s σ H _ I h) λv s1 h1=>thn h1 λitv s2 h2=>?_)) (λ_ s' hq=>x6 (x6 hq)) λ_ _ e=>e)
 let⟨it,fp,tn,J,H2,e,I2,T,st2,f2,hR⟩:=h2
 subst e
 erw[Vf hcalm S (hg σ) (ht σ) (hk σ) (hv σ) I2 T st2 f2 hR hcl1 hcl2 ?_]
 intro D C ys H5 s5 m I5 q hD hn hCD hCs hCn
 erw[wpAny_assign_Name (JM (v:=.ref D) I5 hN hi' hx rfl (λs' I' ⟨a,sb,ha⟩=>?_) hf)]
 let hCa:C≠a:=by
  rcases ha with rfl | ha
  ·erw[Ne.symm (xj (xt I2.lt hCs))]
  ·let⟨v,ob,hob,_⟩:=I2.cell x a ha
   erw[Ne.symm (xj (xt (x5 hob) hCs))]
 exact⟨m,hn.sameBut sb hCa,λh' hs'=>⟨_,_,I2.letgo I' hCs hCn hs'.2,q D hD⟩⟩
end
class Cs where
 adr:Str->Ap
variable [Cs]
def ExO(C:Ap)(dx:Option Ap)(a:Ap):HO:=.ext λh=>∃ t,h.get? a=some { cls:=.ref C,dict:=dx,data:=.fields #[.ref t,.none,.none,.none,.bool false,.none] }
def kK(p:Str×V):Key×V:=(.inr p.1,p.2)
def dK(p:Str×PyData):PyData×PyData:=(.str p.1,p.2)
mutual
/-- the value v stands for the data d;no list of it lies in M -/
inductive Rep(M:Ae)(H:Hp):V->PyData->Prop
 |none:Rep M H .non .none
 |bool (b:Bool):Rep M H (.bl b) (.bool b)
 |int (i:Int):Rep M H (.int i) (.int i)
 |str (x:Str):Rep M H (.str x) (.str x)
 |list {a:Ap} {vs:List V} {ds:Aa}:H a=some (.lst vs)->¬ M a->RepL M H vs ds->Rep M H (.ref a) (.list ds)
 |tuple {a:Ap} {vs:List V} {ds:Aa}:H a=some (.tup vs)->RepL M H vs ds->Rep M H (.ref a) (.tuple ds)
 |dict {a:Ap} {kvs:List (Str×V)} {ds:Ad}:Rd H a (.dK (kvs.map kK))->¬ M a->kvs.map (·.1)=ds.map (·.1)->RepL M H (kvs.map (·.2)) (ds.map (·.2))->Rep M H (.ref a) (.dict (ds.map dK))
 |inst {a dx:Ap} {c:Str} {fs:List (Str×V)} {ds:Ad}:H a=some (.ins (Cs.adr c) dx fs)->¬ M a->fs.map (·.1)=ds.map (·.1)->RepL M H (fs.map (·.2)) (ds.map (·.2))->Rep M H (.ref a) (.dict ((.none,.str c)::ds.map dK))
 |exo {a:Ap} {dx:Option Ap} {c:Str} {fs:List (Str×V)} {ds:Ad}:H a=some (ExO (Cs.adr c) dx a)->¬ M a->(dx=none/\fs= []∨∃ d,dx=some d/\H d=some (.xd fs)/\¬ M d)->fs.map (·.1)=ds.map (·.1)->RepL M H (fs.map (·.2)) (ds.map (·.2))->Rep M H (.ref a) (.dict ((.bool true,.str c)::ds.map dK))
inductive RepL(M:Ae)(H:Hp):List V->Aa->Prop
 |nil:RepL M H [] []
 |cons {v:V} {vs:List V} {d:PyData} {ds:Aa}:Rep M H v d->RepL M H vs ds->RepL M H (v::vs) (d::ds)
end
def zj4(M:Ae)(H H':Hp):Prop:=∀ b o,¬ M b->H b=some o->H' b=some o
def TupM(H H':Hp):Prop:=∀ b xs,H b=some (.tup xs)->H' b=some (.tup xs)
structure zhZ(M:Ae)(H H':Hp):Prop where
 same:zj4 M H H'
 tups:TupM H H'
 stay:∀ b,H b≠none->H' b≠none
def Same.grow(s:Same H H'):zhZ M H H' :=
 ⟨λb o _ e=>s b o e,λb xs e=>s b _ e,λb h=>by
  cases q:H b with
  |none=>erw[absurd q h]
  |some o=>rw[s b o q];exact λz=>nomatch z⟩
def Rep.go(k:∀ a o,H a=some o->¬ M a->(∀ x,o≠ .dK x)->(∀ b x,o≠ .frz b (.dK x))->H' a=some o/\¬ M' a)(t:∀ a xs,H a=some (.tup xs)->H' a=some (.tup xs))
  (dd:∀ a x,Rd H a (.dK x)->¬ M a->Rd H' a (.dK x)/\¬ M' a) {v:V} {d:PyData} (r:Rep M H v d):Rep M' H' v d :=
 Rep.rec (motive_1:=λv d _=>Rep M' H' v d) (motive_2:=λvs ds _=>RepL M' H' vs ds) .none .bool .int .str
  (λe n _ r=>let z:=k _ _ e n (λ_ z=>nomatch z) (λ_ _ z=>nomatch z);.list z.1 z.2 r) (λe _ r=>.tuple (t _ _ e) r) (λe n q _ r=>.dict (dd _ _ e n).1 (dd _ _ e n).2 q r)
  (λe n q _ r=>let z:=k _ _ e n (λ_ z=>nomatch z) (λ_ _ z=>nomatch z);.inst z.1 z.2 q r)
  (λe n x q _ r=>let z:=k _ _ e n (λ_ z=>nomatch z) (λ_ _ z=>nomatch z);.exo z.1 z.2 (x.imp id λ⟨d,w,q,m⟩=>let z:=k _ _ q m (λ_ z=>nomatch z) (λ_ _ z=>nomatch z);⟨d,w,z.1,z.2⟩) q r) .nil (λ_ _ r t=>.cons r t) r
def RepL.ind{H:Hp}{P:List V->Aa->Prop}(h0:P [] [])(h1:∀{v vs d ds},Rep M H v d->RepL M H vs ds->P vs ds->P (v::vs) (d::ds))(r:RepL M H vs ds):P vs ds:=by
 induction vs generalizing ds with
 |nil=>cases r;exact h0
 |cons v vs ih=>cases r with
  |cons r t=>erw[h1 r t (ih t)]
def j4{M M':Ae}(hr:∀ v d,Rep M H v d->Rep M' H' v d)(r:RepL M H vs ds):RepL M' H' vs ds:=r.ind .nil λr _ t=>.cons (hr _ _ r) t
def Rep.grow(g:zhZ M H H')(r:Rep M H v d):Rep M H' v d :=
 r.go (λa o e n _ _=>⟨g.same _ _ n e,n⟩) g.tups λa x e n=>⟨e.imp (g.same _ _ n) λ⟨o,z⟩=>⟨o,g.same _ _ n z⟩,n⟩
def RepL.grow(g:zhZ M H H')(r:RepL M H vs ds):RepL M H' vs ds:=j4 (λ_ _=>Rep.grow g) r
def Rep.less(g:∀ b,M' b->H b≠ .none->M b)(r:Rep M H v d):Rep M' H v d :=
 r.go (λa o e n _ _=>⟨e,λz=>n (g _ z (by rw[e];exact λz=>nomatch z))⟩) (λ_ _ e=>e) λa x e n=>⟨e,λz=>n (g _ z (by rcases e with e | ⟨o,e⟩<;>rw[e]<;>exact λz=>nomatch z))⟩
def RepL.length{ds:Aa}(r:RepL M H vs ds):vs.length=ds.length:=r.ind (P:=λvs ds=>vs.length=ds.length) rfl λ_ _ ih=>congrArg (·+1) ih
def RepL.append{ds es:Aa}(r:RepL M H vs ds)(s:RepL M H ws es):RepL M H (vs++ws) (ds++es):=r.ind (P:=λvs ds=>RepL M H (vs++ws) (ds++es)) s λr _ ih=>.cons r ih
def RepL.get{H:Hp}{ds:Aa}{i:Nat}{v:V}(r:RepL M H vs ds):vs[i]?=some v->∃ d,ds[i]?=some d/\Rep M H v d :=
 r.ind (P:=λvs ds=>∀ i:Nat,vs[i]?=some v->∃ d,ds[i]?=some d/\Rep M H v d) (λ_ e=>nomatch e) (λr _ ih i e=>by
  cases i with
  |zero=>cases e;exact⟨_,rfl,r⟩
  |succ i=>exact ih i e) i
def RepL.get'{H:Hp}{i:Nat}{d:PyData}(r:RepL M H vs ds)(e:ds[i]?=some d):∃ v,vs[i]?=some v/\Rep M H v d:=by
 let hl:=r.length
 let hi:i<vs.length:=by rw[hl];exact (xa.mp e).1
 let⟨d',e',r'⟩:=r.get (i:=i) (v:=vs[i]) (by simp[hi])
 rw[e]at e';cases e'
 exact⟨vs[i],by simp[hi],r'⟩
def RepL.take{ds:Aa}(n:Nat)(r:RepL M H vs ds):RepL M H (vs.take n) (ds.take n):=r.ind (P:=λvs ds=>∀ n:Nat,RepL M H (vs.take n) (ds.take n)) (λn=>by simp;exact .nil) (λr _ ih n=>by
    cases n with
    |zero=>erw[.nil]
    |succ n=>exact .cons r (ih n)) n
def RepL.drop{ds:Aa}(n:Nat)(r:RepL M H vs ds):RepL M H (vs.drop n) (ds.drop n):=r.ind (P:=λvs ds=>∀ n:Nat,RepL M H (vs.drop n) (ds.drop n)) (λn=>by simp;exact .nil) (λr t ih n=>by
    cases n with
    |zero=>erw[.cons r t]
    |succ n=>exact ih n) n
def RepL.ints:∀(ns:List Int),RepL M H (ns.map V.int) (ns.map PyData.int)
 |[]=>.nil
 |n::ns=>.cons (.int n) (RepL.ints ns)
def Rep.reads(ok:HOk P w H h)(r:Rep M H v d):d.canLay0=true->RelV v u->∃ as,Reads h u d as :=
 Rep.rec (motive_1:=λv d _=>∀ u,d.canLay0=true->RelV v u->∃ as,Reads h u d as) (motive_2:=λvs ds _=>∀ us,PyData.canLayAll0 ds=true->Vals vs us->∃ as,ReadsAll h us ds as)
  (λu _ r=>by cases (show u=Value.none from r);exact⟨_,.none⟩) (λb u _ r=>by cases (show u=Value.bool b from r);exact⟨_,.bool b⟩) (λi u _ r=>by let⟨t,e⟩:=(show ∃ t,u=Value.int i t from r);cases e;exact⟨_,.int i t⟩)
  (λx u _ r=>by let⟨t,e⟩:=(show ∃ t,u=Value.str x t from r);cases e;exact⟨_,.str x t⟩)
  (λ{a vs ds} e n q ih u l r=>by
   cases (show u=Value.ref a from r)
   let⟨_,its,c,rv,ho⟩:=(show ObjOk P w H h a (.lst vs) from ok a _ e)
   let⟨as,z⟩:=ih _ l rv
   exact⟨_,.list ho rfl rfl (by simpa using z)⟩)
  (λ{a vs ds} e q ih u l r=>by
   cases (show u=Value.ref a from r)
   let⟨_,its,rv,o,ho,hc,c,hd⟩:=(show ObjOk P w H h a (.tup vs) from ok a _ e)
   let⟨as,z⟩:=ih _ l rv
   exact⟨_,.tuple ho hc hd (by simpa using z)⟩)
  (λ_ _ _ _ _ _ l _=>by cases l) (λ_ _ _ _ _ _ l _=>by cases l) (λ_ _ _ _ _ _ _ l _=>by cases l) (λus _ r=>by cases r;exact⟨_,.nil⟩)
  (λ_ _ i1 i2 us l r=>by
   let l':=xM.mp l
   cases r with
   |cons r rs=>
    let⟨as,z⟩:=i1 _ l'.1 r
    let⟨bs,y⟩:=i2 _ l'.2 rs
    exact⟨_,.cons z y⟩) r u
def RepL.reads{w:World}{H:Hp}{h:Heap}(ok:HOk P w H h){vs:List V}{ds:Aa}(r:RepL M H vs ds):PyData.canLayAll0 ds=true->Vals vs us->∃ as,ReadsAll h us ds as :=
 r.ind (P:=λvs ds=>∀ us,PyData.canLayAll0 ds=true->Vals vs us->∃ as,ReadsAll h us ds as) (λus _ r=>by cases r;exact⟨_,.nil⟩) (λq _ ih us l r=>by
  let l':=xM.mp l
  cases r with
  |cons r rs=>
   let⟨as,z⟩:=q.reads ok l'.1 r
   let⟨bs,y⟩:=ih _ l'.2 rs
   exact⟨_,.cons z y⟩) us
section
variable (X:Cx)
def wpE(e:Expr):TE:=λσ H Q=>∀(pins:Ak)(s:Am),Inv X pins σ H s->∅ (eval e X.env) (EP X pins σ Q) X.xe s
def wpT(e:Expr):TT:=λσ H Q=>∀(pins:Ak)(s:Am),Inv X pins σ H s->∅ (isTrue e X.env (eval e X.env)) (TP X pins σ Q) X.xe s
def wpW(e:Expr):TT:=λσ H Q=>∀(whole:Sem Aj)(pins:Ak)(s:Am),Inv X pins σ H s->∅ (isTrue e X.env whole) (TP X pins σ Q) X.xe s
def wpA(es:Ag):TA:=λσ H Q=>∀(pos:Pos)(pins:Ak)(s:Am),Inv X pins σ H s->∅ (spliced (backTo pos (starEach es X.env))) (AP X pins σ Q) X.xe s
def wpS(st:Stmt):TS:=λD σ H=>∀(pins:Ak)(s:Am),Inv X pins σ H s->∅ (exec st X.env) (SP X pins D) X.xe s
def wpB(st:List Stmt):TS:=λD σ H=>∀(pins:Ak)(s:Am),Inv X pins σ H s->∅ (execs st X.env) (SP X pins D) X.xe s
def wpG(tg:Expr):TG:=λv σ H Q=>∀(pins:Ak)(s:Am)(u:Aj),Inv X pins σ H s->RelV v u->∅ (assign tg X.env u) (λ_ s'=>∃ σ' H',Inv X pins σ' H' s'/\Q σ' H') X.xe s
def wpF(ifs:Ag):TT:=λσ H Q=>∀(pins:Ak)(s:Am),Inv X pins σ H s ->
 ∅ (forIn ifs true λc r=>if r=true then do let ok<-isTrue c X.env (eval c X.env);pure (ForInStep.yield ok) else pure (ForInStep.yield r)) (TP X pins σ Q) X.xe s
def wpI(tg iter:Expr):TI:=λσ H R=>∀(pins:Ak)(s:Am),Inv X pins σ H s ->
  ∅ (eval iter X.env) (λv s1=>∅ (pyIter v) (PIE X pins σ tg R) X.xe s1) X.xe s
end
section
variable {X:Cx}{e:Expr}{es:Ag}{st:Stmt}{sts:List Stmt}{tg iter:Expr}{σ:St}{H:Hp}
def zC:PE X e (wpE X e):=λpins s σ H Q I h=>h pins s I
def Zf:PT X e (wpT X e):=λpins s σ H Q I h=>h pins s I
def K8:PW X e (wpW X e):=λwh pins s σ H Q I h=>h wh pins s I
def Ze:PA X es (wpA X es):=λpos pins s σ H Q I h=>h pos pins s I
def K7:PS X st (wpS X st):=λpins s σ H D I h=>h pins s I
def jP:PSs X sts (wpB X sts):=λpins s σ H D I h=>h pins s I
def ym:PG X tg (wpG X tg):=λpins s σ H v u Q I r h=>h pins s u I r
def Jb:PI X tg iter (wpI X tg iter):=λpins s σ H R I h=>h pins s I
def PE.wp(h:PE X e t)(q:t σ H Q):wpE X e σ H Q:=λpins s I=>h pins s σ H Q I q
def PT.wp(h:PT X e t)(q:t σ H Q):wpT X e σ H Q:=λpins s I=>h pins s σ H Q I q
def PW.wp(h:PW X e t)(q:t σ H Q):wpW X e σ H Q:=λwh pins s I=>h wh pins s σ H Q I q
def PA.wp(h:PA X es t)(q:t σ H Q):wpA X es σ H Q:=λpos pins s I=>h pos pins s σ H Q I q
def PS.wp(h:PS X st t)(q:t D σ H):wpS X st D σ H:=λpins s I=>h pins s σ H D I q
def PSs.wp(h:PSs X sts t)(q:t D σ H):wpB X sts D σ H:=λpins s I=>h pins s σ H D I q
def PG.wp(h:PG X tg t)(q:t v σ H Q):wpG X tg v σ H Q:=λpins s u I r=>h pins s σ H v u Q I r q
def PF.wp(h:PF X ifs t)(q:t σ H Q):wpF X ifs σ H Q:=λpins s I=>h pins s σ H Q I q
def PI.wp(h:PI X tg iter t)(q:t σ H R):wpI X tg iter σ H R:=λpins s I=>h pins s σ H R I q
def wpE.mono(h:wpE X e σ H Q)(k:∀ v H',Q v H'->Q' v H'):wpE X e σ H Q':=λpins s I=>thn (h pins s I) λu s' ⟨v,H',a,b,c⟩=>⟨v,H',a,b,k v H' c⟩
def wpA.mono(h:wpA X es σ H Q)(k:∀ v H',Q v H'->Q' v H'):wpA X es σ H Q':=λpos pins s I=>thn (h pos pins s I) λu s' ⟨v,H',a,b,c⟩=>⟨v,H',a,b,k v H' c⟩
end
def Al(M:Ae)(H:Hp):Prop:=∀ a,M a->H a≠none
inductive Ent where
 |d (x:PyData)
 |v (x:V)
noncomputable abbrev Ge:=List (Option Ent)
structure RS(M:Ae)(Γ:Ge)(σ:St)(H:Hp):Prop where
 al:Al M H
 at':∀(i:Nat)(d:PyData),Γ[i]?=some (@&d)->∃ v,σ[i]?=some (some v)/\Rep M H v d
 av:∀(i:Nat)(v:V),Γ[i]?=some (some (.v v))->σ[i]?=some (some v)
def zj3(M:Ae)(H:Hp)(v:V):Ent->Prop
 |.d d=>Rep M H v d
 |.v u=>v=u
def RS.setE(h:RS M Γ σ H)(r:zj3 M H v z)(hi:i<σ.length):RS M (Γ.set i (some z)) (σ.set i (some v)) H:=⟨h.al,λj d' e=>by
 by_cases hj:j=i
 ·subst hj
  by_cases hl:j<Γ.length
  ·rw[xk hl]at e
   cases e
   exact⟨v,by rw[xk hi],r⟩
  ·rw[xD (by simpa using hl)]at e;cases e
 ·rw[xi (Ne.symm hj)]at e |-
  exact h.at' j d' e,λj d' e=>by
 by_cases hj:j=i
 ·subst hj
  by_cases hl:j<Γ.length
  ·rw[xk hl]at e
   cases e
   rw[xk hi];exact congrArg (λx=>some (some x)) r
  ·rw[xD (by simpa using hl)]at e;cases e
 ·rw[xi (Ne.symm hj)]at e |-
  exact h.av j d' e⟩
def RS.setV(h:RS M Γ σ H)(hi:i<σ.length):RS M (Γ.set i (some (.v v))) (σ.set i (some v)) H:=h.setE rfl hi
section
variable {X:Cx}{p:Pos}{d1 d2:PyData}
def qd{p:Ap}(n:H p=none):Same H (upd H p o):=λb u e=>by rw[zG (qz e n)];exact e
def zbO(hu:∀ n,n<=60->X.A.units+n<cLine):OpR X (compareOp .Eq) (λx y H Q=>∃ M M' d1 d2,Rep M H x d1/\Rep M' H y d2/\d1.canLay0=true/\d2.canLay0=true/\min d1.depth d2.depth<=60/\Q (.bl (PyData.eqv d1 d2)) H):=by
 intro pins s σ H x y v u Q I rx ry h
 let⟨M,M',d1,d2,r1,r2,c1,c2,hd,q⟩:=h
 let⟨as,z1⟩:=r1.reads I.hok c1 rx
 let⟨bs,z2⟩:=r2.reads I.hok c2 ry
 erw[SeqAt.compareEq_reads z1 z2 c1 c2 (hu _ hd) ⟨.bl _,H,I,rfl,q⟩]
def zbP(hu:∀ n,n<=60->X.A.units+n<cLine):OpR X (compareOp .NotEq) (λx y H Q=>∃ M M' d1 d2,Rep M H x d1/\Rep M' H y d2/\d1.canLay0=true/\d2.canLay0=true/\min d1.depth d2.depth<=60/\Q (.bl (!PyData.eqv d1 d2)) H):=by
 intro pins s σ H x y v u Q I rx ry h
 let⟨M,M',d1,d2,r1,r2,c1,c2,hd,q⟩:=h
 let⟨as,z1⟩:=r1.reads I.hok c1 rx
 let⟨bs,z2⟩:=r2.reads I.hok c2 ry
 erw[SeqAt.compareNe_reads z1 z2 c1 c2 (hu _ hd) ⟨.bl _,H,I,rfl,q⟩]
def Room.u60(r:Room k A):∀ n,n<=60->A.units+n<cLine:=λn h=>by have:=r.units;lia
end
end L2
namespace PySem
open PySem.AutoSeq1 (wpAny_loadPart')
def YK(l:Ap)(items:Array Aj)(n:Nat)(dd:Option Ap)(sl:Array (Option Aj))(x:Int)(u:Tok)(hb1:¬ (decide (x< -(2 ^ 63))||decide (x≥2 ^ 63))=true)(hc0:¬ (items.isEmpty||x==1)=true)(hc1:¬ (decide (x<=0)||items.isEmpty)=true)(hc2:¬ (items.size:Int)*x>(2 ^ 63-1) / 8)(hc3:¬ Builtin.Tuple.tupleTooMany ((items.size:Int)*x)=true)(hsz:((List.replicate x.toNat items).foldl (·++·) #[]).size<=sizeLine) :
  Meets (Builtin.«tuple.__mul__» ⟨[.ref l,.int x u],[]⟩) (λ_ R s=>s.heap.get? l=some { cls:=.type "tuple",dict:=dd,data:=.seq items n,slots:=sl }/\R (.ok (.ret (Value.ref ⇑s))) { s with heap:=s.heap.push { cls:=Value.type "tuple",data:=Data.seq ((List.replicate x.toNat items).foldl (·++·) #[]) },toks:=s.toks }) :=
 .of_wp λprog w A R s h=>by
  let⟨hp,g,d,tk,os⟩:=s;let⟨hl,h⟩:=h
  let f1:=AutoSeq1.idx_int
  wp_walk using Xg hl
  erw[wpAny_ite_false (Xa hb1) ?_]
  wp_walk using Xg hl
  first | (refine wpAny_ite_false (Xa hc2) ?_;wp_walk using Xg hl) | skip
  first | (refine wpAny_ite_false (Xa (Nat.not_lt.mpr hsz)) ?_;wp_walk using Xg hl) | skip
  exact⟨_,rfl,h⟩
def YI(l:Ap)(items:Array Aj)(n:Nat)(dd:Option Ap)(sl:Array (Option Aj))(x:Int)(u:Tok)(hb1:¬ (decide (x< -(2 ^ 63))||decide (x≥2 ^ 63))=true)(hc0:(items.isEmpty||x==1)=true) :
  Meets (Builtin.«tuple.__mul__» ⟨[.ref l,.int x u],[]⟩) (λ_ R s=>s.heap.get? l=some { cls:=.type "tuple",dict:=dd,data:=.seq items n,slots:=sl }/\R (.ok (.ret (Value.ref l))) { s with heap:=s.heap,toks:=s.toks }) :=
 .of_wp λprog w A R s h=>by
  let⟨hp,g,d,tk,os⟩:=s;let⟨hl,h⟩:=h
  let f1:=AutoSeq1.idx_int
  wp_walk using Xg hl
  erw[wpAny_ite_false (Xa hb1) ?_]
  wp_walk using Xg hl
  exact⟨_,rfl,h⟩
def YJ(l:Ap)(items:Array Aj)(n:Nat)(dd:Option Ap)(sl:Array (Option Aj))(x:Int)(u:Tok)(hb1:¬ (decide (x< -(2 ^ 63))||decide (x≥2 ^ 63))=true)(hc0:¬ (items.isEmpty||x==1)=true)(hc1:(decide (x<=0)||items.isEmpty)=true) :
  Meets (Builtin.«tuple.__mul__» ⟨[.ref l,.int x u],[]⟩) (λ_ R s=>s.heap.get? l=some { cls:=.type "tuple",dict:=dd,data:=.seq items n,slots:=sl }/\R (.ok (.ret (Value.ref ⇑s))) { s with heap:=s.heap.push { cls:=Value.type "tuple",data:=Data.seq #[] },toks:=s.toks }) :=
 .of_wp λprog w A R s h=>by
  let⟨hp,g,d,tk,os⟩:=s;let⟨hl,h⟩:=h
  let f1:=AutoSeq1.idx_int
  wp_walk using Xg hl
  erw[wpAny_ite_false (Xa hb1) ?_]
  wp_walk using Xg hl
  exact⟨_,rfl,h⟩
def Q9:fillsNumberSlot (.type "tuple") "mul" =pure false :=
 fillsNumberSlot_seq (id:= "tuple.__mul__") (r:=some (.builtin "tuple.__rmul__")) F.slot_tuple_mul.lookup (by decide +kernel) F.slot_tuple_rmul.lookup (by decide +kernel)
def vH:seqRepeat? (.type "tuple")=pure (some (.builtin "tuple.__mul__")):=by
 unfold seqRepeat?
 rw[seqSlot_of (T:= "tuple") (name:= "__mul__") (id:= "tuple.__mul__") F.slot_tuple_mul.lookup (by decide +kernel),seqSlot_of (T:= "tuple") (name:= "__rmul__") (id:= "tuple.__rmul__") F.slot_tuple_rmul.lookup (by decide +kernel)]
 rfl
def wu(a:Int)(t:Tok)(l:Ap)(items:Array Aj)(n:Nat)(dd:Option Ap)(sl:Array (Option Aj)) :
  Meets (Builtin.«int.__rmul__» ⟨[.int a t,.ref l],[]⟩) (λ_ R s=>s.heap.get? l=some { cls:=.type "tuple",dict:=dd,data:=.seq items n,slots:=sl }/\R (.ok (.ret Value.notImplemented)) s) :=
 .of_wp λprog w A R s h=>by let⟨hp,g,d,tk,os⟩:=s;let⟨hl,h⟩:=h;wp_walk using Xg hl;exact⟨_,rfl,h⟩
end PySem
namespace L2
open PySem PySem.Spec PyProof.Rows
variable [Cs]
section
variable {X:Cx}
def zkH(K:Ah):R2:=λx y H Q=>∃ l k xs,x=.ref l/\y=.int k/\SqT K H l xs/\ -(2 ^ 63)<=k/\k<2 ^ 63/\xs.length*k.toNat<=sizeLine /\
 ((xs= []∨k=1)->Q (.ref l) H)/\∀ p,H p=none->Q (.ref p) (upd H p (.tup (List.replicate k.toNat xs).flatten))
def zgu:OpR X (binaryOp .Mult) (zkH X.K):=by
 intro pins s σ H x y v u Q I rx ry h
 let⟨l,k,xs,rfl,rfl,hH,h1,h2,hz,qs,q⟩:=h
 cases rx
 let⟨t,rfl⟩:=ry
 let⟨its,r,hit,hzz⟩:=I.tuple hH
 let hl:=r.length
 let⟨⟨cls,dd,data,sl⟩,ho,hc,n,hd⟩:=id hit
 simp only at hc hd
 subst hc hd
 let hb1:¬ (decide (k< -(2 ^ 63))||decide (k≥2 ^ 63))=true:=by
  simp only[xL,x0];lia
 let hnew:List.foldl (λx1 x2=>x1++x2) #[] (List.replicate k.toNat its.toArray)=(List.replicate k.toNat its).flatten.toArray:=by
  have:=JA its k.toNat []
  rw[uT]at this
  erw[this]
 refine wpAny_binaryOp_repeat_ref (T:= "tuple") (U:= "int") (by decide) ⟨_,ho,rfl⟩ (λs'=>typeIs_int s' k t) Q9 F.fills_int_mul F.slot_int_rmul vH F.slot_int_index.lookup
  (call_meets F.slot_int_rmul (typeIs_int s k t) F.entry_int_rmul (F.args_int_rmul_2 _ _) (wu k t l its.toArray n dd sl) ⟨ho,rfl,⟨_,ho,rfl⟩,?_⟩)
 by_cases hc0:(its.toArray.isEmpty||k==1)=true
 ·refine call_meets F.slot_tuple_mul ⟨_,ho,rfl⟩ F.entry_tuple_mul (F.args_tuple_mul_2 _ _) (YI l its.toArray n dd sl k t hb1 hc0) ⟨ho,?_⟩
  refine⟨.ref l,H,I,rfl,qs ?_⟩
  simp only[xL,beq_iff_eq]at hc0
  rcases hc0 with z | z
  ·left
   have:its= []:=by simpa using z
   subst this
   erw[List.eq_nil_of_length_eq_zero hl]
  ·erw[.inr z]
 ·by_cases hc1:(decide (k<=0)||its.toArray.isEmpty)=true
  ·refine call_meets F.slot_tuple_mul ⟨_,ho,rfl⟩ F.entry_tuple_mul (F.args_tuple_mul_2 _ _) (YJ l its.toArray n dd sl k t hb1 hc0 hc1) ⟨ho,?_⟩
   let e0:(List.replicate k.toNat xs).flatten= []:=by
    simp only[xL,x0]at hc1
    rcases hc1 with z | z
    ·rw[show k.toNat=0 by lia];rfl
    ·exact absurd (by simp[z]) hc0
   refine⟨.ref ⇑s,_,I.laid (λb u e=>x4 _ e) (xg _) ?_,rfl,by have:=q _ (I.hok.fresh (xg _));rw[e0]at this;exact this⟩
   exact⟨ub _,[],.nil,⟨_,x8 _ rfl,rfl,_,rfl⟩⟩
  ·let hlen:its.length*k.toNat<=sizeLine:=by rw[<- hl];exact hz
   let hk0:0<k:=by
    simp only[xL,x0]at hc1;lia
   let hm:((its.toArray.size:Int)*k)=((its.length*k.toNat:Nat):Int):=by
    rw[xn]
    have:k=(k.toNat:Int):=by lia
    rw[Int.natCast_mul,<- this]
   let hsl:(sizeLine:Nat)<=(2 ^ 63-1) / 8:=by decide
   let hc2:¬ (its.toArray.size:Int)*k>(2 ^ 63-1) / 8:=by
    rw[hm]
    let h63:((2 ^ 63-1) / 8:Int)=(((2 ^ 63-1) / 8:Nat):Int):=by decide
    rw[h63]
    intro z
    have:=Int.ofNat_lt.mp z
    lia
   let hc3:¬ Builtin.Tuple.tupleTooMany ((its.toArray.size:Int)*k)=true:=by
    unfold Builtin.Tuple.tupleTooMany
    rw[hm,x0]
    intro z
    have:=Int.ofNat_lt.mp z
    lia
   refine call_meets F.slot_tuple_mul ⟨_,ho,rfl⟩ F.entry_tuple_mul (F.args_tuple_mul_2 _ _) (YK l its.toArray n dd sl k t hb1 hc0 hc1 hc2 hc3 (by rw[hnew,xn,yh,Nat.mul_comm];exact hlen)) ⟨ho,?_⟩
   rw[hnew]
   refine⟨.ref ⇑s,_,I.laid (λb u e=>x4 _ e) (xg _) ?_,rfl,q _ (I.hok.fresh (xg _))⟩
   exact⟨by rw[yh,Nat.mul_comm];exact hz,_,r.rep k.toNat,⟨_,x8 _ rfl,rfl,_,rfl⟩⟩
def RepL.rep(h:RepL M H vs ds):∀ k:Nat,RepL M H (List.replicate k vs).flatten (List.replicate k ds).flatten
 |0=>.nil
 |k+1=>by rw[xP,xP,uh,uh];exact h.append (RepL.rep h k)
def Rep.tup_inv(r:Rep M H v (.tuple ds)):∃ a vs,v=.ref a/\H a=some (.tup vs)/\RepL M H vs ds:=by
 cases r with
 |tuple e q=>exact⟨_,_,rfl,e,q⟩
def Rep.lst_inv(r:Rep M H v (.list ds)):∃ a vs,v=.ref a/\H a=some (.lst vs)/\¬ M a/\RepL M H vs ds:=by
 cases r with
 |list e n q=>exact⟨_,_,rfl,e,n,q⟩
variable {p:Pos}{a b:Expr}{d:PyData}{ds:Aa}
def zjc(K:Ah):R2:=λx y H Q=>∃ a b xs ys,x=.ref a/\y=.ref b/\SqT K H a xs/\SqT K H b ys/\xs.length+ys.length<=sizeLine/\(xs= []->Q (.ref b) H)/\(ys= []->Q (.ref a) H)/\∀ p,H p=none->Q (.ref p) (upd H p (.tup (xs++ys)))
def zeg:OpR X (binaryOp .Add) (zjc X.K):=by
 intro pins s σ H x y v u Q I rx ry h
 let⟨a,b,xs,ys,rfl,rfl,ha,hb,hz,q0,q1,q⟩:=h
 cases rx
 cases ry
 let⟨its,r,hit,_⟩:=I.tuple ha
 let⟨its2,r2,hit2,_⟩:=I.tuple hb
 by_cases hv:its= []
 ·let⟨⟨cls,dd,data,sl⟩,ho,hc,n,hd⟩:=id hit
  let⟨⟨cls2,dd2,data2,sl2⟩,ho2,hc2,n2,hd2⟩:=id hit2
  simp only at hc hd hc2 hd2
  subst hc hd hc2 hd2
  refine concat_meets ⟨_,ho,rfl⟩ ⟨_,ho2,rfl⟩ noFill_tuple_add seq_tuple_add PySem.F.slot_tuple_add PySem.F.entry_tuple_add (PySem.F.args_tuple_add_2 _ _)
   (tuple_addW0 a b its.toArray its2.toArray n n2 dd dd2 sl sl2 (by simp[hv])) ⟨ho,ho2,⟨.ref b,H,I,rfl,q0 ?_⟩⟩
  erw[r.nil_iff.mp hv]
 ·refine HT.cat_tup hit hit2 hv (λhw=>⟨.ref a,H,I,rfl,q1 (r2.nil_iff.mp hw)⟩) (λ_=>?_) (by rw[<- r.length,<- r2.length];exact hz)
  refine⟨.ref ⇑s,_,I.laid (λb u e=>x4 _ e) (xg _) ?_,rfl,q _ (I.hok.fresh (xg _))⟩
  exact⟨by rw[xy];exact hz,_,r.append r2,⟨_,x8 _ rfl,rfl,_,rfl⟩⟩
def VM(r:RepL M H vs ds)(h:atI ds i=some d):∃ v,atI vs i=some v/\Rep M H v d:=by
 unfold atI at h |-
 rw[r.length]
 cases e:ixN ds.length i with
 |none=>rw[e]at h;cases h
 |some j=>
  rw[e]at h
  erw[r.get' h]
end
def tyD:PyData->String
 |.none=> "NoneType"
 |.bool _=> "bool"
 |.int _=> "int"
 |.str _=> "str"
 |.list _=> "list"
 |.tuple _=> "tuple"
 |.dict _=> "dict"
def Rep.ty {K:Ah}{v:V}(r:Rep M H v d) (hd:tyD d≠ "dict"):J4 K H v (.type (tyD d)):=by
 cases r with
 |none=>erw[.non]
 |bool b=>erw[.bl b]
 |int i=>erw[.int i]
 |str x=>erw[.str x]
 |list e n q=>erw[.lst e]
 |tuple e q=>erw[.tup e]
 |dict _ _ _ _=>erw[absurd rfl hd]
 |inst _ _ _ _=>erw[absurd rfl hd]
 |exo _ _ _ _ _=>erw[absurd rfl hd]
section
variable {X:Cx}
def zcO:ji X (.builtin "isinstance") (λxs H Q=>∃ x T t k,xs= [x,.ty T]/\J4 X.K H x t/\W.kitOne X.K t (.type T)=some k/\Q (.bl k) H):=by
 intro pins s σ H xs us Q I r h
 let⟨x,T,t,k,rfl,ty,e,q⟩:=h
 let⟨u,w',rfl,rx,rc⟩:=zae r
 cases (show w'=Value.type T from rc)
 erw[zbD I rx ty e λtk=>⟨.bl k,H,I.tok tk,rfl,q⟩]
variable {p:Pos}{b:Expr}
def zb2(bs:List Bool):(List.range bs.length).all (λi=>(bs[i]?).getD false)=bs.all id:=by
 let e:(List.range bs.length).map (λi=>(bs[i]?).getD false)=bs:=by
  apply List.ext_getElem
  ·simp
  ·intro i h1 h2
   simp[h2]
 let h:=congrArg (λl=>List.all l id) e
 rw[uX]at h
 erw[h]
def zb3(bs:List Bool):(List.range bs.length).any (λi=>(bs[i]?).getD false)=bs.any id:=by
 let e:(List.range bs.length).map (λi=>(bs[i]?).getD false)=bs:=by
  apply List.ext_getElem
  ·simp
  ·intro i h1 h2
   simp[h2]
 let h:=congrArg (λl=>List.any l id) e
 rw[uH]at h
 erw[h]
def zaf{bs:List Bool}(rv:Vals (bs.map V.bl) its){i:Nat}(e:its[i]?=some v):∃ b,bs[i]?=some b/\v=.bool b:=by
 let hi:=(xa.mp e).1
 let hl:=rv.length
 rw[xo]at hl
 let hb:i<bs.length:=by lia
 let⟨u,hu,ru⟩:=rv.get (i:=i) (x:=V.bl bs[i]) (by simp[hb])
 rw[e]at hu;cases hu
 exact⟨bs[i],by simp[hb],ru⟩
def zaw (hc:X.calm=true):ji X (.builtin "all") (λxs H Q=>∃ (p:Ap) (bs:List Bool),xs= [.ref p]/\SqL X.K H p (bs.map V.bl)/\Q (.bl (bs.all id)) H):=by
 intro pins s σ H xs us Q I r h
 let⟨p,bs,rfl,hq,q⟩:=h
 let⟨u,rfl,rx⟩:=j7 r
 cases rx
 let⟨its,rv,pl,hz⟩:=I.list hq
 let hne:p≠⇑s:=by
  let⟨o,n,e,_⟩:=pl
  erw[xj (x5 e)]
 let hl:=rv.length
 rw[xo]at hl
 refine call_all_walk (wpAny_pyIter_list pl.isList ⟨⇑s,_,_,_,_,_,λi=>(bs[i]?).getD false,rfl,Walks.list (show X.A.in1.handled=none from I.ok.hd hc) ⇑s p hne its.toArray,
  ⟨⟨_,x8 _ rfl,rfl,rfl⟩,pl.isList.at λo e=>x4 _ e⟩,λi v s' Q' E' hP hQ=>?_,λh' tk hk=>?_⟩)
 ·let⟨b,hb,rfl⟩:=zaf rv (by simpa using hP)
  dsimp only at hQ;rw[hb]at hQ
  erw[Xh hQ]
 ·rw[xn,<- hl,zb2]
  refine⟨.bl _,H,I.kept λb o e=>hk b o ?_ (x4 _ e),rfl,q⟩
  intro z
  rw[uB]at z
  exact absurd (x5 e) (by rw[z];exact ue _)
def zax (hc:X.calm=true):ji X (.builtin "any") (λxs H Q=>∃ (p:Ap) (bs:List Bool),xs= [.ref p]/\SqL X.K H p (bs.map V.bl)/\Q (.bl (bs.any id)) H):=by
 intro pins s σ H xs us Q I r h
 let⟨p,bs,rfl,hq,q⟩:=h
 let⟨u,rfl,rx⟩:=j7 r
 cases rx
 let⟨its,rv,pl,hz⟩:=I.list hq
 let hne:p≠⇑s:=by
  let⟨o,n,e,_⟩:=pl
  erw[xj (x5 e)]
 let hl:=rv.length
 rw[xo]at hl
 refine call_any_walk (wpAny_pyIter_list pl.isList ⟨⇑s,_,_,_,_,_,λi=>(bs[i]?).getD false,rfl,Walks.list (show X.A.in1.handled=none from I.ok.hd hc) ⇑s p hne its.toArray,
  ⟨⟨_,x8 _ rfl,rfl,rfl⟩,pl.isList.at λo e=>x4 _ e⟩,λi v s' Q' E' hP hQ=>?_,λh' tk hk=>?_⟩)
 ·let⟨b,hb,rfl⟩:=zaf rv (by simpa using hP)
  dsimp only at hQ;rw[hb]at hQ
  erw[Xh hQ]
 ·rw[xn,<- hl,zb3]
  refine⟨.bl _,H,I.kept λb o e=>hk b o ?_ (x4 _ e),rfl,q⟩
  intro z
  rw[uB]at z
  exact absurd (x5 e) (by rw[z];exact ue _)
def RepL.bls:∀{vs:List V}{bs:List Bool},RepL M H vs (bs.map PyData.bool)->vs=bs.map V.bl
 |_,[],.nil=>rfl
 |_,b::bs,.cons q t=>by cases q;rw[xp,<- RepL.bls t]
def zaq:bootBuiltins "all" =some (.builtin "all"):=by decide +kernel
def zar:bootBuiltins "any" =some (.builtin "any"):=by decide +kernel
def ZJ:bootBuiltins "list" =some (.type "list"):=by decide +kernel
def JR:bootBuiltins "tuple" =some (.type "tuple"):=by decide +kernel
def v8:bootBuiltins "int" =some (.type "int"):=by decide +kernel
def Y8:bootBuiltins "bool" =some (.type "bool"):=by decide +kernel
def Jr:bootBuiltins "set" =some (.type "set"):=by decide +kernel
end
section
def zZ(n:Nat):Aa:=(List.range n).map λ(i:Nat)=>PyData.int (i:Int)
def zF(n:Nat):(zZ n).length=n:=by simp[zZ]
def ju(h:(zZ n)[i]?=some d):i<n/\d=.int (i:Int):=by
 unfold zZ at h
 rw[xf]at h
 let hi:i<n:=by
  cases e:(List.range n)[i]? with
  |none=>rw[e]at h;cases h
  |some j=>simpa using (xa.mp e).1
 rw[um hi]at h
 exact⟨hi,(Option.some.inj h).symm⟩
end
def zjY(X:Cx)(ts:Ag):TGs:=λvs σ H Q=>∀(pins:Ak)(s:Am)(us:An),Inv X pins σ H s->Vals vs us ->
  ∅ (assignInOrder ((assignEach ts X.env).map (·.2)) us) (λ_ s'=>∃ σ' H',Inv X pins σ' H' s'/\Q σ' H') X.xe s
def WS:PGs X ts (zjY X ts):=λpins s σ H vs us Q I r h=>h pins s us I r
def PGs.wp(h:PGs X ts t)(q:t vs σ H Q):zjY X ts vs σ H Q:=λpins s us I r=>h pins s σ H vs us Q I r q
section
end
def zia(q:ix[j]?=some i0)(h:σ[i0]?=some (some v)):(cS k ix σ)[k+j]?=some (some v):=by
 unfold cS
 rw[xm (by simp),ut,Nat.add_sub_cancel_left,xf,q]
 simp[h]
section
variable {X:Cx}{elt tg iter:Expr}{ifs:Ag}{scope:Scope}{pos:Pos}{N':Ab}{k:Nat}{ix:Ac}{σ:St}{H:Hp}{Q:VK}
def gU(X:Cx)(N':Ab)(scope:Scope)(tg:Expr)(σ0:St):TG:=λv σ H Q=>∀ cl C s2 H2 fp,wpG ⋯ tg v σ H Q
def fU(X:Cx)(N':Ab)(scope:Scope)(ifs:Ag)(σ0:St):TT:=λσ H Q=>∀ cl C s2 H2 fp,wpF ⋯ ifs σ H Q
def eU(X:Cx)(N':Ab)(scope:Scope)(elt:Expr)(σ0:St):TE:=λσ H Q=>∀ cl C s2 H2 fp,wpE ⋯ elt σ H Q
def zen(hcalm:X.calm=true)(S:CSc X.env.scope X.N scope N' k ix)(hf:∀ x,foldedSetIterable iter X.env x=pure x:=by intro _;rfl) :
    PE X (.ListComp elt [⟨tg,iter,ifs,0⟩] scope pos) (YF k ix (wpI X tg iter) (gU X N' scope tg) (fU X N' scope ifs) (eU X N' scope elt)) :=
  zgy hcalm S Jb (λ_ cl C s2 H2 fp pins s σ H v u Q I r h=>h cl C s2 H2 fp pins s u I r) (λ_ cl C s2 H2 fp pins s σ H Q I h=>h cl C s2 H2 fp pins s I)
    (λ_ cl C s2 H2 fp pins s σ H Q I h=>h cl C s2 H2 fp pins s I) hf
def zgI{pos' spos:Pos}(hN:X.N.Nodup)(hi':X.N[i]?=some x)(hx:Loc X.env.scope x)(hcalm:X.calm=true)(S:CSc X.env.scope X.N scope N' k ix)
  (hsw:swapsWith (.ListComp elt [⟨tg,iter,ifs,0⟩] scope pos) (some (.Name x pos')) spos.line X.env=pure true) (hs:∀ x,foldedSetIterable iter X.env x=pure x:=by intro _;rfl)
  (hf:X.fn x=true∨X.env.scope.names.lookup x=some .local:=by first | exact .inl rfl | exact .inr rfl | assumption) :
  PS X (.Assign [.Name x pos'] (.ListComp elt [⟨tg,iter,ifs,0⟩] scope pos) spos) (yB (YF k ix (wpI X tg iter) (gU X N' scope tg) (fU X N' scope ifs) (eU X N' scope elt)) (Wu i)) :=
 zgH hN hi' hx hcalm S Jb (λ_ cl C s2 H2 fp pins s σ H v u Q I r h=>h cl C s2 H2 fp pins s u I r) (λ_ cl C s2 H2 fp pins s σ H Q I h=>h cl C s2 H2 fp pins s I)
  (λ_ cl C s2 H2 fp pins s σ H Q I h=>h cl C s2 H2 fp pins s I) hsw hs hf
end
section
end
structure Kn(P:Ar)(w:World)(K:Ah)(mg:Aq)(base:Heap)(CX:CXT)(x:Str)(k:Nat)(sp:Sp):Prop where
 ex:∃(f:Ap)(fd:FuncData)(ps:Ab),FnOk P w K mg base CX k f fd ps sp/\mg x=some (.ref f)/\W.keepIn K (.ref f)=true/\Binds K fd ps []
section
variable {X:Cx}{x:Str}{k:Nat}{CX:CXT}{E:XK}{e:Expr}{es:Ag}{p pos:Pos}
def zhK (kn:Kn X.prog X.w X.K X.mg X.base CX x k sp) (hr:Room k X.A) (hg:Gl X x) (hx:VI CX X E) (h:wpA X (e::es) σ H λvs H1=>sp vs H1 Q E) (hdb:(↥x):=by decide)
    (he:starEach (e::es) X.env=(false,eval e X.env)::starEach es X.env:=by rfl) (hpl:(backTo pos (starEach es X.env)).any (·.1)=false:=by rfl):wpE X (.Call (.Name x p) (e::es) [] pos) σ H Q:=by
  let⟨f,fd,ps,F,hm,hk,hb⟩:=kn.ex
  erw[(zgw F hr hg hm hk hb .nil hx Ze hdb he hpl).wp (h.mono λvs H1 q=>?_)]
  rw[xU];exact q
end
def yA(h:vs.length<=N.length):(start N vs).length=N.length:=by
 unfold start;simp;lia
structure Df(K:Ah)(mg:Aq)(x:Str)(st:Stmt)(ps:Ab):Prop where
 ex:∃ f fd,Fun K x x st f fd/\mg x=some (.ref f)/\Binds K fd ps []
section
variable {P:Ar}{w:World}{K:Ah}{mg:Aq}{base:Heap}{x:Str}{st:Stmt}{N ps:Ab}{k:Nat}
def Df.kn(D:Df K mg x st ps)(S:j9 N ps (defScope st))(len:∀ vs H Q E,sp vs H Q E->vs.length=ps.length)
  (hbody:∀(f:Ap)(cdv:Aj)(A:Around)(outer:List Env)(s:Am)(H:Hp)(vs:List V)(Q:VK)(E:XK),Room k (A.deeper (envOfC x (defScope st) ⇑s f cdv))->sp vs H Q E ->
   wpB (Q4 CX0 P w K mg base N x (defScope st) f cdv A outer s H E).nox (defBody st) { nx:=λ_ H'=>Q .non H',rt:=Q } (start N vs) H):Kn P w K mg base CX0 x (k+1) sp:=by
 let⟨f,fd,F,hm,hb⟩:=D.ex
 exact⟨f,fd,ps,F.ok S len (λcdv A outer s H vs Q E hr h=>⟨_,jP,hbody f cdv A outer s H vs Q E hr h⟩),hm,F.kp,hb⟩
end
section
variable {X:Cx}{σ:St}{H:Hp}{D:QX}{sts:List Stmt}{e:Expr}{pos pos':Pos}{x:Str}
def zlk(i:Nat)(hN:X.N.Nodup)(h:wpE X e σ H Q)(k:∀ v H',Q v H'->wpB X sts D (σ.set i (some v)) H')(hi:X.N[i]?=some x:=by rfl)(hx:Loc X.env.scope x:=by first | exact Or.inl rfl | exact Or.inr rfl)(hs:swapsWith e (some (.Name x pos')) pos.line X.env=pure false:=by rfl)
    (hf:X.fn x=true∨X.env.scope.names.lookup x=some .local:=by first | exact .inl rfl | exact .inr rfl | assumption):wpB X (.Assign [.Name x pos'] e pos::sts) D σ H :=
  (Qc (WX hN hi hx zC hs hf) jP).wp (h.mono k)
end
section
end
mutual
/-- no list within -/
noncomputable def noL:PyData->Bool
 |.list _=>false
 |.tuple ds=>zgm ds
 |.dict _=>false
 |_=>true
noncomputable def zgm:Aa->Bool
 |[]=>true
 |d::ds=>noL d&&zgm ds
end
def Rep.free(h:noL d=true)(r:Rep M H v d):Rep M' H v d :=
 Rep.rec (motive_1:=λv d _=>noL d=true->Rep M' H v d) (motive_2:=λvs ds _=>zgm ds=true->RepL M' H vs ds) (λ_=>.none) (λb _=>.bool b) (λi _=>.int i) (λx _=>.str x) (λ_ _ _ _ h=>by simp[noL]at h) (λe _ ih h=>.tuple e (ih (by simpa [noL] using h)))
  (λ_ _ _ _ _ h=>by cases h) (λ_ _ _ _ _ h=>by cases h) (λ_ _ _ _ _ _ h=>by cases h) (λ_=>.nil) (λ_ _ i1 i2 h=>by
   rw[zgm,xh]at h
   exact .cons (i1 h.1) (i2 h.2)) r h
section
end
def Df.of{K:Ah}{x:Str}{st:Stmt}{ps:Ab}{f:Ap}{oc:Aj}{od an:Option Ap}{sl:Array (Option Aj)}{kV dc pm cd ct:Aj}(X:K.In h)(G:h.Ns mainGlobals mg)
  (a:PySem.W.nsIn K mainGlobals x=some (some (.ref f))) (l:K.lookup f=some ⟨oc,od,.func (PySem.W.fnOf x x (qZ st) (defBody st) (defScope st) .none kV dc pm an cd ct),sl⟩) (c:PySem.W.codeIn K cd x=true) (k:PySem.W.keepIn K (.ref f)=true)
  (hb:∀(kV doc pm:Aj)(an:Option Ap)(cdv ct:Aj)(us:An),us.length=ps.length->bindArgs (PySem.W.fnOf x x (qZ st) (defBody st) (defScope st) .none kV doc pm an cdv ct) ⟨us,[]⟩=pure (ps.zip us)):Df K mg x st ps :=
 ⟨f,_,QJ l c k,PySem.W.mg_of X G a,(QJ l c k).binds hb⟩
structure Dl(K:Ah)(x:Str)(st:Stmt)(fa:Ap)(p:Str):Prop where
 ex:∃ fd:FuncData,Fun K x x st fa fd/\∀(s:Am)(u:Aj),BindsTo s fd ⟨[u],[]⟩ [(p,u)]
def Dl.of{K:Ah}{x p:Str}{st:Stmt}{f fa:Ap}{oc:Aj}{od an:Option Ap}{sl:Array (Option Aj)}{kV dc pm cd ct:Aj}(X:K.In h)(G:h.Ns mainGlobals mg)(hfa:mg x=some (.ref fa))
  (a:PySem.W.nsIn K mainGlobals x=some (some (.ref f))) (l:K.lookup f=some ⟨oc,od,.func (PySem.W.fnOf x x (qZ st) (defBody st) (defScope st) .none kV dc pm an cd ct),sl⟩) (c:PySem.W.codeIn K cd x=true) (k:PySem.W.keepIn K (.ref f)=true)
  (hb:∀(s:Am)(u:Aj),BindsTo s (PySem.W.fnOf x x (qZ st) (defBody st) (defScope st) .none kV dc pm an cd ct) ⟨[u],[]⟩ [(p,u)]):Dl K x st fa p:=by
 let e:=hfa.symm.trans (PySem.W.mg_of X G a)
 cases e
 exact⟨_,QJ l c k,hb⟩
def zab(K:Ah):Sp:=λvs H Q _=>∃(a:Ap)(ns:List Int),vs= [.ref a]/\SqL K H a (ns.map V.int)/\ns.length<=63/\∀ H',Q (.bl true) H'
def Fun.law{P:Ar}{w:World}{K:Ah}{mg:Aq}{base:Heap}{st:Stmt}{k:Nat}{f:Ap}(F:Fun K x x st f fd)(S:j9 N [p] (defScope st))
  (hbody:∀(cdv:Aj)(A:Around)(outer:List Env)(s:Am)(H:Hp)(Q:VK)(E:XK)(a:Ap)(ns:List Int),Room k (A.deeper (envOfC x (defScope st) ⇑s f cdv))->SqL K H a (ns.map V.int)->ns.length<=63->(∀ H',Q (.bl true) H') ->
   wpB (Q4 CX0 P w K mg base N x (defScope st) f cdv A outer s H E).nox (defBody st) { nx:=λ_ H'=>Q .non H',rt:=Q } (start N [.ref a]) H):FnOk P w K mg base CX0 (k+1) f fd [p] (zab K) :=
 F.ok S (λvs H Q E ⟨a,ns,e,_⟩=>by rw[e];rfl) λcdv A outer s H vs Q E hr ⟨a,ns,e,hS,hlen,kk⟩=>⟨_,jP,by subst e;exact hbody cdv A outer s H Q E a ns hr hS hlen kk⟩
def walkL{l:PySem.W.OpenLaw}{q:Ar}{loose:Ab}{XP:(Aq)->Heap->Prop}{YP:World->Heap->Prop}{K:Params->Ah}{st:Stmt}(hn:l.most=some 63)(hdf:d.params.defaults= [])(hk:Room k callerA)
  (hY:∀(w:World)(h:Heap),YP w h->(K w.params).In h)
  (F:∀(w:World)(mg:Aq)(fa:Ap)(h:Heap),(K w.params).In h->h.Ns mainGlobals mg->mg d.name=some (.ref fa) ->
   Dl (K w.params) "law" st fa "_law_script" /\∀ (fd:FuncData),Fun (K w.params) "law" "law" st fa fd->∀ base:Heap,FnOk l.prog w (K w.params) mg base CX0 k fa fd ["_law_script"] (zab (K w.params))) :
  PySem.W.WalkO q loose XP YP l.row.toRowW d [] (λf vs=>PySem.call f vs) :=
 L2.walk_of (n:=63) (k:=k) (x:= "_law_script") (CX:=λ_=>CX0) (sp:=λw=>zab (K w.params)) hn (by decide) hdf hk hY (λw mg fa h KX G hm=>by
  let⟨⟨fd,Ff,hb⟩,hF⟩:=F w mg fa h KX G hm
  exact⟨fd,hb,λbase _ _=>hF fd Ff base⟩) (λ_ _ a ns hl _ hS=>⟨a,ns,rfl,hS,hl,λ_=>rfl⟩) λ_ _ _ _ _ z=>z
section
variable {X:Cx}{pins:Ak}{σ:St}{H:Hp}{Q:VK}{k:Nat}{sp:Sp}{f:Ap}{fd:FuncData}{ps:Ab}{x:Str}{e:Expr}{es:Ag}{p pos:Pos}
def Je{s:Am}{us:An}{vs:List V}(F:FnOk X.prog X.w X.K X.mg X.base CX0 k f fd ps sp)(hr:Room k X.A)(hb:Binds X.K fd ps [])
  (I:Inv X pins σ H s) (r:Vals vs us) (h:sp vs H Q E0):∅ (call (.ref f) us) (EP X pins σ Q) X.xe s:=by
 let hl:us.length=ps.length:=by rw[<- r.length];exact F.len _ _ _ _ h
 let hb':=hb s us I.kIn (by simpa using hl)
 rw[xU]at hb'
 erw[wpAny_call (Xj (F.run X.A X.stack s H ⟨us,[]⟩ us vs Q E0 hr I.env0 hb' r h) λr s' hq=>?_)]
 cases r with
 |error e=>erw[False.elim hq]
 |ok fl=>
  cases fl with
  |ret u=>erw[I.after hq]
  |next=>erw[False.elim hq]
  |brk=>erw[False.elim hq]
  |cont=>erw[False.elim hq]
def zfx (kn:Kn X.prog X.w X.K X.mg X.base CX0 x k sp) (hr:Room k X.A) (hg:Gl X x) (h:wpA X (e::es) σ H λvs H1=>sp vs H1 Q E0) (hdb:(↥x))
  (he:starEach (e::es) X.env=(false,eval e X.env)::starEach es X.env) (hpl:(backTo pos (starEach es X.env)).any (·.1)=false):wpE X (.Call (.Name x p) (e::es) [] pos) σ H Q:=λpins s I=>by
 let⟨f,fd,ps,F,hm,hk,hb⟩:=kn.ex
 erw[Xi (Qp I hg hm ?_ hdb)]
 erw[PySem.W.callWith_K I.ok.mod.kin hk (thn (h pos pins s I) λus s1 ⟨vs,H1,I1,r,q⟩=>⟨I1.kIn,Je F hr hb I1 r q⟩) he hpl]
def zcq (kn:Kn X.prog X.w X.K X.mg X.base CX0 x k sp) (hr:Room k X.A) (hg:Gl X x) (h:sp [] H Q E0) (hdb:(↥x)):wpE X (.Call (.Name x p) [] [] pos) σ H Q:=λpins s I=>by
 let⟨f,fd,ps,F,hm,hk,hb⟩:=kn.ex
 erw[Xi (Qp I hg hm ?_ hdb)]
 erw[PySem.W.callWith_K0 I.kIn hk (Je F hr hb I .nil h)]
def zcp{r:Str}{i:Nat}(kn:Kn X.prog X.w X.K X.mg X.base CX0 x k sp)(hb0:X.mg x=some (.ref b))(hr:Room k X.A)
  (hN:X.N[i]?=some r) (hv:Vis X.env.scope r) (hd:(↥r)) (hcd:(r==("__classdict__" :Str))=false) (hσ:σ[i]?=some (some (.ref b)))
  (h:wpA X (e::es) σ H λvs H1=>sp vs H1 Q E0) (he:starEach (e::es) X.env=(false,eval e X.env)::starEach es X.env) (hpl:(backTo pos (starEach es X.env)).any (·.1)=false):wpE X (.Call (.Name r p) (e::es) [] pos) σ H Q:=λpins s I=>by
 let⟨f,fd,ps,F,hm,hk,hb⟩:=kn.ex
 rw[hb0]at hm;cases hm
 erw[Xi (thn (qB hN hv hd hcd pins s σ H (λv H'=>v=.ref b/\H'=H) I ⟨_,hσ,rfl,rfl⟩) λu s1 ⟨v,H1,I1,r1,e1,e2⟩=>?_)]
 subst e1 e2
 cases r1
 erw[PySem.W.callWith_K I1.ok.mod.kin hk (thn (h pos pins s1 I1) λus s1 ⟨vs,H1,I1,r,q⟩=>⟨I1.kIn,Je F hr hb I1 r q⟩) he hpl]
end
section
variable {prog:Ar}{w:World}{A:Around}{E:Af}{s:Am}
def zfd{Q:An->Am->Prop}(hl:s.heap.IsList l (x::xs).toArray)(hh:A.handled=none)(hz:(x::xs).length<=sizeLine)
  (k:∀ (h2:Heap) (tk:Nat),(∀ b o,s.heap.get? b=some o->h2.get? b=some o)->Q [x,.ref h2.objs.size] { s with heap:=h2.push { cls:=.type "list",data:=.seq xs.toArray },toks:=tk }) :
  wpAny (model prog w) A (unpackItems (.ref l) 2 (some 1)) Q E s:=by
 let⟨ol,hol,hcl,hdl⟩:=id hl
 let hlt:=x5 hol
 let hne:l≠⇑s:=xj hlt
 unfold unpackItems notIterableAtAll
 erw[x3 (x3 (wpAny_specialOf hl.typeIs PySem.F.slot_list_iter.lookup (x6 ?_)))]
 simp only[uA,if_false]
 erw[x3 (Xb (wpAny_pyIter_list hl ?_))]
 refine x3 (Xb (PySem.W.kun_draw hne 1 0 _ _ ⟨_,x8 _ rfl,rfl,rfl⟩ (hl.push _) (by simp) λh1 it1 sb1=>?_))
 let hl1:=(hl.push _).extBut sb1.extBut hne
 let⟨oi,hoi,_⟩:=id it1
 let⟨o1,ho1,_⟩:=id hl1
 let hfst:(((x::xs).toArray.toList.drop 0).take 1)= [x]:=rfl
 rw[hfst]
 rw[if_neg (show ¬ ([x].length<1) by simp)]
 refine x3 (Xb (PySem.W.kun_collect (s:={ s with heap:=h1 }) (T:= "list_iterator") (.inr (.inr (.inl rfl))) (Walks.list (A:=A.in1) hh ⇑s l hne (x::xs).toArray) (λj u st=>st.1.typeIs) (k:=1) (by simp) ⟨it1,hl1⟩ (x5 hoi) (x5 ho1) (λh2 tk hk=>?_) (by simpa using hz)))
 let hdr:(x::xs).toArray.toList.drop 1=xs:=rfl
 rw[hdr]
 rw[if_neg (by lia)]
 let keep:∀ b o,s.heap.get? b=some o->h2.get? b=some o:=λb o e=>by
  let hb:b≠⇑s:=xj (x5 e)
  erw[hk b o hb (sb1.extBut b o hb (x4 _ e))]
 let h0:xs.length-(2-1-1)=xs.length:=by lia
 rw[h0,xW,uN]
 refine x3 (wpAny_newList (x6 ?_) (by simp at hz;lia))
 erw[k h2 tk keep]
def zcb{Q:An->Am->Prop}(hl:IsTup s.heap l (x::xs).toArray)(hh:A.handled=none)(hz:(x::xs).length<=sizeLine)
  (k:∀ (h2:Heap) (tk:Nat),(∀ b o,s.heap.get? b=some o->h2.get? b=some o)->Q [x,.ref h2.objs.size] { s with heap:=h2.push { cls:=.type "list",data:=.seq xs.toArray },toks:=tk }) :
  wpAny (model prog w) A (unpackItems (.ref l) 2 (some 1)) Q E s:=by
 let⟨ol,hol,_⟩:=id hl
 let hlt:=x5 hol
 let hne:l≠⇑s:=xj hlt
 unfold unpackItems notIterableAtAll
 erw[x3 (x3 (wpAny_specialOf hl.typeIs PySem.F.slot_tuple_iter.lookup (x6 ?_)))]
 simp only[uA,if_false]
 erw[x3 (Xb (iter_tuple hl ?_))]
 refine x3 (Xb (draw_tuple hne 1 0 _ _ ⟨_,x8 _ rfl,rfl,rfl⟩ (hl.push _) (by simp) λh1 it1 sb1=>?_))
 let hl1:=(hl.push _).extBut sb1.extBut hne
 let⟨oi,hoi,_⟩:=id it1
 let⟨o1,ho1,_⟩:=id hl1
 let hfst:(((x::xs).toArray.toList.drop 0).take 1)= [x]:=rfl
 rw[hfst]
 rw[if_neg (show ¬ ([x].length<1) by simp)]
 refine x3 (Xb (PySem.W.kun_collect (s:={ s with heap:=h1 }) (T:= "tuple_iterator") (.inr (.inr (.inr rfl))) (Walks.tuple (A:=A.in1) hh ⇑s l hne (x::xs).toArray) (λj u st=>st.1.typeIs) (k:=1) (by simp) ⟨it1,hl1⟩ (x5 hoi) (x5 ho1) (λh2 tk hk=>?_) (by simpa using hz)))
 let hdr:(x::xs).toArray.toList.drop 1=xs:=rfl
 rw[hdr]
 rw[if_neg (by lia)]
 let keep:∀ b o,s.heap.get? b=some o->h2.get? b=some o:=λb o e=>by
  let hb:b≠⇑s:=xj (x5 e)
  erw[hk b o hb (sb1.extBut b o hb (x4 _ e))]
 let h0:xs.length-(2-1-1)=xs.length:=by lia
 rw[h0,xW,uN]
 refine x3 (wpAny_newList (x6 ?_) (by simp at hz;lia))
 erw[k h2 tk keep]
end
section
end
section
variable {X:Cx}
def zhS(K:Ah)(i j:Nat):TG:=λv σ H Q=>∃ l y ys,v=.ref l/\(SqL K H l (y::ys)∨SqT K H l (y::ys))/\∀ p,H p=none->Q ((σ.set i (some y)).set j (some (.ref p))) (upd H p (.lst ys))
def zgB{k:Nat}{px py ps pos:Pos}(hc:X.calm=true)(hN:X.N.Nodup)(hi:X.N[i]?=some x)(hx:Loc X.env.scope x)(hfx:X.fn x=true∨X.env.scope.names.lookup x=some .local)(hj:X.N[j]?=some y)(hy:Loc X.env.scope y)(hfy:X.fn y=true∨X.env.scope.names.lookup y=some .local) :
  PG X (.Tuple [.Name x px,.Starred (.Name y py) ps] k pos) (zhS X.K i j):=by
 intro pins s σ H v u Q I r h
 let⟨l,z,zs,rfl,hq,q⟩:=h
 cases r
 let fin:∀ {w:Aj} {ws:An} {h2:Heap} {tk:Nat},RelV z w->Vals zs ws->zs.length+1<=sizeLine->(∀ b o,s.heap.get? b=some o->h2.get? b=some o)->∅ (assignInOrder ((assignEach [.Name x px,.Starred (.Name y py) ps] X.env).map (·.2)) [w,.ref h2.objs.size]) (λ_ s'=>∃ σ' H',Inv X pins σ' H' s'/\Q σ' H') X.xe { s with heap:=h2.push { cls:=.type "list",data:=.seq ws.toArray },toks:=tk }:=λ{w ws h2 tk} r1 r2 hz keep=>by
  let I2:=I.kept (t':=tk) keep
  let I3:=I2.lnew (t':=tk) r2 (by lia)
  erw[assignInOrder_cons (wpAny_assign_Name (Jh I3 hN hi hx r1 (λs4 I4=>?_) hfx))]
  erw[assignInOrder_cons (wpAny_assign_Name (Jh (v:=.ref h2.objs.size) I4 hN hj hy rfl (λs5 I5=>?_) hfy))]
  erw[assignInOrder_nil ⟨_,_,I5,q _ I2.fresh⟩]
 rw[assign_Tuple]
 erw[x3 (wpAny_standAt ?_)]
 unfold unpack
 rcases hq with hq | hq
 ·let⟨its,rv,pl,hz⟩:=I.list hq
  cases rv with
  |cons r1 r2=>
   rename_i w ws
   exact x3 (Xb (zfd (x:=w) (xs:=ws) pl.isList (I.ok.hd hc) (by have:=r2.length;simp at hz |-;lia) λh2 tk keep=>fin r1 r2 (by simpa using hz) keep))
 ·let⟨its,rv,pl,hz⟩:=I.tuple hq
  cases rv with
  |cons r1 r2=>
   rename_i w ws
   exact x3 (Xb (zcb (x:=w) (xs:=ws) pl (I.ok.hd hc) (by have:=r2.length;simp at hz |-;lia) λh2 tk keep=>fin r1 r2 (by simpa using hz) keep))
def zkj(K:Ah)(n:Nat)(t:TGs):TG:=λv σ H Q=>∃ a xs,v=.ref a/\SqL K H a xs/\xs.length=n/\t xs σ H Q
def zgC(hc:X.calm=true)(h:PGs X es t)(hn:(assignEach es X.env).length=n)(hst:(assignEach es X.env).findIdx? (·.1)=none):PG X (.Tuple es k pos) (zkj X.K n t):=by
 intro pins s σ H v u Q I r hw
 let⟨a,xs,e1,hq,hl,hw⟩:=hw
 subst e1
 cases r
 let⟨its,rv,pl,hz⟩:=I.list hq
 rw[assign_Tuple]
 erw[x3 (wpAny_standAt ?_)]
 unfold unpack
 let hsz:(assignEach es X.env).length=its.toArray.size:=by rw[hn,<- hl,rv.length,xn]
 rw[hst,hsz]
 erw[x3 (Xb (PySem.W.kun_itemsOf (I.ok.hd hc) pl.isList λh' hx=>?_))]
 let I1:=I.kept (t':=s.toks) λb o e=>hx b o (xj (x5 e)) e
 exact h pins _ σ H xs _ Q I1 (by simpa using rv) hw
end
end L2
namespace L3
open PySem PySem.Spec PyProof.Rows L2
inductive OV where
 |d (x:PyData)
 |l (xs:List OV)
 |t (xs:List OV)
 |m (kvs:Ad)
 |o (c:Str) (ns:Ab) (xs:List OV)
noncomputable abbrev Gv:=List (Option OV)
mutual
noncomputable def OV.view:OV->PyData
 |.d x=>x
 |.l xs=>.list (OV.views xs)
 |.t xs=>.tuple (OV.views xs)
 |.m kvs=>.dict (kvs.map dK)
 |.o c ns xs=>.dict ((.none,.str c)::(ns.zip (OV.views xs)).map dK)
noncomputable def OV.views:List OV->Aa
 |[]=> []
 |x::xs=>x.view::OV.views xs
end
def OV.views_d(xs:Aa):OV.views (xs.map .d)=xs:=by
 induction xs with
 |nil=>rfl
 |cons x xs ih=>simp[OV.views,OV.view,ih]
def OV.views_map(xs:List OV):OV.views xs=xs.map OV.view:=by
 induction xs with
 |nil=>rfl
 |cons x xs ih=>simp[OV.views,ih]
variable [Cs]
mutual
/-- v stands for the value;its own lists lie at A -/
inductive OR(M:Ae)(H:Hp):V->OV->List Ap->Prop
 |d {v:V} {x:PyData}:Rep M H v x->OR M H v (.d x) []
 |l {a:Ap} {vs:List V} {xs:List OV} {A:List Ap}:H a=some (.lst vs)->ORL M H vs xs A->OR M H (.ref a) (.l xs) (a::A)
 |t {a:Ap} {vs:List V} {xs:List OV} {A:List Ap}:H a=some (.tup vs)->ORL M H vs xs A->OR M H (.ref a) (.t xs) A
 |m {a:Ap} {kvs:List (Str×V)} {ds:Ad}:H a=some (.dK (kvs.map kK))->kvs.map (·.1)=ds.map (·.1)->RepL M H (kvs.map (·.2)) (ds.map (·.2))->OR M H (.ref a) (.m ds) [a]
 |o {a dx:Ap} {c:Str} {fs:List (Str×V)} {ns:Ab} {xs:List OV} {A:List Ap}:H a=some (.ins (Cs.adr c) dx fs)->fs.map (·.1)=ns->ORL M H (fs.map (·.2)) xs A->OR M H (.ref a) (.o c ns xs) (a::A)
inductive ORL(M:Ae)(H:Hp):List V->List OV->List Ap->Prop
 |nil:ORL M H [] [] []
 |cons {v:V} {vs:List V} {x:OV} {xs:List OV} {A B:List Ap}:OR M H v x A->ORL M H vs xs B->ORL M H (v::vs) (x::xs) (A++B)
end
abbrev qk:Ae:=λ_=>False
def ORL.ind{H:Hp}{P:List V->List OV->List Ap->Prop}(h0:P [] [] [])(h1:∀{v vs x xs A B},OR M H v x A->ORL M H vs xs B->P vs xs B->P (v::vs) (x::xs) (A++B)){vs:List V}{os:List OV}(r:ORL M H vs os A):P vs os A:=by
 induction vs generalizing os A with
 |nil=>cases r;exact h0
 |cons v vs ih=>cases r with
  |cons r t=>erw[h1 r t (ih t)]
def OV.views_len(xs:List OV):(OV.views xs).length=xs.length:=by rw[OV.views_map,xo]
def ORL.length{M:Ae}{H:Hp}{os:List OV}(r:ORL M H vs os A):vs.length=os.length:=r.ind (P:=λvs os _=>vs.length=os.length) rfl λ_ _ ih=>congrArg (·+1) ih
def zhM{α β:Type}:∀{ns:List α}{xs:List β},ns.length=xs.length->(ns.zip xs).map (·.1)=ns:=λ{ns xs} h=>by rw[List.map_fst_zip (Nat.le_of_eq h)]
def zhN{α β:Type}:∀{ns:List α}{xs:List β},ns.length=xs.length->(ns.zip xs).map (·.2)=xs:=λ{ns xs} h=>by rw[List.map_snd_zip (Nat.le_of_eq h.symm)]
def OR.go(hr:∀ v d,Rep M H v d->Rep M' H' v d)(ht:∀ b xs,H b=some (.tup xs)->H' b=some (.tup xs)){v:V}{o:OV}(h:∀ a∈A,H' a=H a)(r:OR M H v o A):OR M' H' v o A :=
 OR.rec (motive_1:=λv o A _=>(∀ a∈A,H' a=H a)->OR M' H' v o A) (motive_2:=λvs os A _=>(∀ a∈A,H' a=H a)->ORL M' H' vs os A) (λr _=>.d (hr _ _ r)) (λe _ ih h=>.l (by rw[h _ xr];exact e) (ih λa ha=>h a (xl _ ha))) (λe _ ih h=>.t (ht _ _ e) (ih h))
  (λe k r h=>.m (by rw[h _ xr];exact e) k (j4 hr r)) (λe k _ ih h=>.o (by rw[h _ xr];exact e) k (ih λa ha=>h a (xl _ ha))) (λ_=>.nil)
  (λ_ _ i1 i2 h=>.cons (i1 λa ha=>h a (uf _ ha)) (i2 λa ha=>h a (xA _ ha))) r h
def ORL.go{M M':Ae}{H H':Hp}(hr:∀ v d,Rep M H v d->Rep M' H' v d)(ht:∀ b xs,H b=some (.tup xs)->H' b=some (.tup xs))(h:∀ a∈A,H' a=H a)(r:ORL M H v o A):ORL M' H' v o A :=
 r.ind (P:=λv o A=>(∀ a∈A,H' a=H a)->ORL M' H' v o A) (λ_=>.nil) (λr _ ih h=>.cons (r.go hr ht λa ha=>h a (uf _ ha)) (ih λa ha=>h a (xA _ ha))) h
def OR.rep(hm:∀ b,M' b->M b){v:V}{o:OV}(h:∀ a∈A,¬ M' a)(r:OR M H v o A):Rep M' H v o.view :=
 OR.rec (motive_1:=λv o A _=>(∀ a∈A,¬ M' a)->Rep M' H v o.view) (motive_2:=λvs os A _=>(∀ a∈A,¬ M' a)->RepL M' H vs (OV.views os)) (λr _=>r.less λb hb _=>hm b hb) (λe _ ih h=>.list e (h _ xr) (ih λa ha=>h a (xl _ ha))) (λe _ ih h=>.tuple e (ih h))
  (λe k r h=>.dict (.inl e) (h _ xr) k (j4 (λ_ _ x=>x.less λb hb _=>hm b hb) r))
  (λ{a dx c fs ns xs A} e k r ih h=>by
   let hl:ns.length=(OV.views xs).length:=by rw[OV.views_len,<- r.length,<- k,xo,xo]
   refine .inst e (h _ xr) (by rw[zhM hl];exact k) ?_
   rw[zhN hl]
   exact ih λa ha=>h a (xl _ ha)) (λ_=>.nil)
  (λ_ _ i1 i2 h=>.cons (i1 λa ha=>h a (uf _ ha)) (i2 λa ha=>h a (xA _ ha))) r h
def OR.weak{v:V}{o:OV}(r:OR M H v o A):Rep qk H v o.view:=r.rep (λ_ h=>h.elim) λ_ _ h=>h
def OR.laid{v:V}{o:OV}(r:OR M H v o A):∀ a∈A,∃ vs,H a=some vs :=
 OR.rec (motive_1:=λ_ _ A _=>∀ a∈A,∃ vs,H a=some vs) (motive_2:=λ_ _ A _=>∀ a∈A,∃ vs,H a=some vs) (λ_ _ h=>by cases h) (λe _ ih=>List.forall_mem_cons.mpr ⟨⟨_,e⟩,ih⟩) (λ_ _ ih=>ih) (λe _ _=>List.forall_mem_cons.mpr ⟨⟨_,e⟩,λ_ h=>by cases h⟩) (λe _ _ ih=>List.forall_mem_cons.mpr ⟨⟨_,e⟩,ih⟩) (λ_ h=>by cases h)
  (λ_ _ i1 i2 a h=>(xF.mp h).elim (i1 a) (i2 a)) r
def ORL.data(r:RepL M H vs ds):ORL M H vs (ds.map .d) []:=r.ind (P:=λvs ds=>ORL M H vs (ds.map .d) []) .nil λr _ ih=>.cons (.d r) ih
noncomputable abbrev Fp:=Nat->List Ap
def fset(F:Fp)(i:Nat)(A:List Ap):Fp:=λj=>if j=i then A else F j
def zJ:fset F i A i=A:=by unfold fset;rw[if_pos rfl]
def zP(h:j≠i):fset F i A j=F j:=by unfold fset;rw[if_neg h]
def MM(M0:Ae)(F:Fp):Ae:=λa=>M0 a∨∃ i,a∈F i
noncomputable abbrev Nu:=List (Option V)
structure RS(M0:Ae)(F:Fp)(Γ:Gv)(ν:Nu)(H:Hp):Prop where
 al0:∀ a,M0 a->H a≠none
 dis0:∀ i a,a∈F i->¬ M0 a
 nd:∀ i,(F i).Nodup
 dis:∀ i j a,a∈F i->a∈F j->i=j
 at':∀ i o,Γ[i]?=some (some o)->∃ v,ν[i]?=some (some v)/\OR (MM M0 F) H v o (F i)
 emp:∀ i,(∀ o,Γ[i]?≠some (some o))->F i= []
 len:ν.length=Γ.length
structure Stp(F:Fp)(H:Hp)(F':Fp)(H':Hp):Prop where
 keep:∀ b o,H b=some o->(∀ i,b∉F i)->H' b=some o/\∀ i,b∉F' i
 tups:∀ b xs,H b=some (.tup xs)->H' b=some (.tup xs)
 stay:∀ b,H b≠none->H' b≠none
def Stp.refl(F:Fp)(H:Hp):Stp F H F H:=⟨λ_ _ e n=>⟨e,n⟩,λ_ _ e=>e,λ_ h=>h⟩
def Stp.trans(a:Stp F H F1 H1)(b:Stp F1 H1 F2 H2):Stp F H F2 H2 :=
 ⟨λc o e n=>let ⟨e1,n1⟩:=a.keep c o e n;b.keep c o e1 n1,λc xs e=>b.tups c xs (a.tups c xs e),λc h=>b.stay c (a.stay c h)⟩
def Stp.same(s:Same H H'):Stp F H F H':=⟨λb o e n=>⟨s b o e,n⟩,λb xs e=>s b _ e,λb h=>by
 cases q:H b with
 |none=>erw[absurd q h]
 |some o=>rw[s b o q];exact λz=>nomatch z⟩
section
variable {M0:Ae}{F F':Fp}{Γ Γ':Gv}{ν ν':Nu}{H H':Hp}
def RS.laidF(r:RS M0 F Γ ν H)(h:a∈F i):∃ vs,H a=some vs:=by
 by_cases q:∃ o,Γ[i]?=some (some o)
 ·let⟨o,q⟩:=q
  let⟨v,_,z⟩:=r.at' i o q
  erw[z.laid a h]
 ·rw[r.emp i λo e=>q ⟨o,e⟩]at h;cases h
def RS.al(r:RS M0 F Γ ν H):Al (MM M0 F) H:=λa h=>by
 rcases h with h | ⟨i,h⟩
 ·erw[r.al0 a h]
 ·let⟨vs,e⟩:=r.laidF h
  rw[e];exact λz=>nomatch z
def qe(s:Stp F H F' H')(h0:∀ a,M0 a->H a≠none)(r:Rep (MM M0 F) H v d):Rep (MM M0 F') H' v d:=by
 let go:∀ b o,H b=some o->¬ MM M0 F b->H' b=some o/\¬ MM M0 F' b:=λb o e n=>by
  let⟨e',n'⟩:=s.keep b _ e λi h=>n (.inr ⟨i,h⟩)
  refine⟨e',?_⟩
  rintro (h | ⟨i,h⟩)
  ·erw[n (.inl h)]
  ·erw[n' i h]
 exact r.go (λa o e n _ _=>go a o e n) s.tups λa x e n=>by
  rcases e with e | ⟨o,e⟩
  ·exact⟨.inl (go a _ e n).1,(go a _ e n).2⟩
  ·exact⟨.inr ⟨o,(go a _ e n).1⟩,(go a _ e n).2⟩
def W0(s:Stp F H F' H')(h0:∀ a,M0 a->H a≠none)(r:RepL (MM M0 F) H vs ds):RepL (MM M0 F') H' vs ds:=j4 (λ_ _=>qe s h0) r
def RS.same(r:RS M0 F Γ ν H)(s:Same H H'):RS M0 F Γ ν H' where
 al0 a h:=by
  have:=r.al0 a h
  cases q:H a with
  |none=>erw[absurd q this]
  |some o=>rw[s a o q];exact λz=>nomatch z
 dis0:=r.dis0
 nd:=r.nd
 dis:=r.dis
 at' i o e:=by
  let⟨v,e1,q⟩:=r.at' i o e
  exact⟨v,e1,q.go (λv d x=>x.grow s.grow) (λb xs e=>s b _ e) λa ha=>by
   let⟨vs,z⟩:=q.laid a ha
   rw[z,s a _ z]⟩
 emp:=r.emp
 len:=r.len
def RS.put{o:OV}{v:V}(r:RS M0 F Γ ν H)(s:Stp F H (fset F i A) H')(hF:∀ j,j≠i->∀ a∈F j,H' a=H a)
  (hm:∀ a,M0 a->H' a≠none) (hA0:∀ a∈A,¬ M0 a) (hAn:A.Nodup) (hAd:∀ j,j≠i->∀ a∈A,a∉F j) (hi:i<Γ.length)
  (q:OR (MM M0 (fset F i A)) H' v o A):RS M0 (fset F i A) (Γ.set i (some o)) (ν.set i (some v)) H' where
 al0:=hm
 dis0 j a h:=by
  by_cases hj:j=i
  ·subst hj;rw[zJ]at h;exact hA0 a h
  ·rw[zP hj]at h;exact r.dis0 j a h
 nd j:=by
  by_cases hj:j=i
  ·subst hj;rw[zJ];exact hAn
  ·rw[zP hj];exact r.nd j
 dis j k a h1 h2:=by
  by_cases hj:j=i
  ·by_cases hk:k=i
   ·rw[hj,hk]
   ·subst hj;rw[zJ]at h1;rw[zP hk]at h2;exact absurd h2 (hAd k hk a h1)
  ·by_cases hk:k=i
   ·subst hk;rw[zJ]at h2;rw[zP hj]at h1;exact absurd h1 (hAd j hj a h2)
   ·rw[zP hj]at h1;rw[zP hk]at h2;exact r.dis j k a h1 h2
 at' j p e:=by
  by_cases hj:j=i
  ·subst hj
   rw[xk hi]at e
   cases e
   refine⟨v,by rw[xk (by rw[r.len];exact hi)],?_⟩
   rw[zJ];exact q
  ·rw[xi (Ne.symm hj)]at e |-
   let⟨u,e1,z⟩:=r.at' j p e
   refine⟨u,e1,?_⟩
   rw[zP hj]
   erw[z.go (λv d x=>qe s r.al0 x) s.tups (hF j hj)]
 emp j h:=by
  by_cases hj:j=i
  ·subst hj
   rw[xk hi]at h
   erw[absurd rfl (h o)]
  ·rw[zP hj]
   erw[r.emp j λp e=>h p ?_]
   rw[xi (Ne.symm hj)];exact e
 len:=by rw[xK,xK];exact r.len
def RS.setD(r:RS M0 F Γ ν H)(q:Rep (MM M0 F) H v d)(hi:i<Γ.length):∃ F',RS M0 F' (Γ.set i (@&d)) (ν.set i (some v)) H/\Stp F H F' H:=by
 let s:Stp F H (fset F i []) H:=⟨λb o e n=>⟨e,λj=>by
  by_cases hj:j=i
  ·subst hj;rw[zJ];exact λz=>nomatch z
  ·rw[zP hj];exact n j⟩,λ_ _ e=>e,λ_ h=>h⟩
 exact⟨_,r.put s (λ_ _ _ _=>rfl) r.al0 (λ_ h=>nomatch h) .nil (λ_ _ _ h=>nomatch h) hi (.d (qe s r.al0 q)),s⟩
def Ws(F:Fp)(n:Nat):Fp:=λj=>if j<n then F j else []
def V6(h:j<n):Ws F n j=F j:=by unfold Ws;rw[if_pos h]
def KN(h:¬ j<n):Ws F n j= []:=by unfold Ws;rw[if_neg h]
def jV(h:a∈Ws F n j):j<n/\a∈F j:=by
 unfold Ws at h
 split at h
 ·exact⟨by assumption,h⟩
 ·cases h
def Ji(h:∀ j a,a∈F' j->∃ k,a∈F k):Stp F H F' H:=⟨λb o e n=>⟨e,λj hj=>let ⟨k,hk⟩:=h j b hj;n k hk⟩,λ_ _ e=>e,λ_ h=>h⟩
def RS.cut(r:RS M0 F Γ ν H)(n:Nat):RS M0 (Ws F n) (Γ.take n) (ν.take n) H/\Stp F H (Ws F n) H:=by
 let s:Stp F H (Ws F n) H:=Ji λj a h=>⟨j,(jV h).2⟩
 refine⟨⟨r.al0,λj a h=>r.dis0 j a (jV h).2,λj=>?_,λj k a h1 h2=>r.dis j k a (jV h1).2 (jV h2).2,λj o e=>?_,λj h=>?_,?_⟩,s⟩
 ·by_cases hj:j<n
  ·rw[V6 hj];exact r.nd j
  ·rw[KN hj];exact .nil
 ·let hj:j<n:=by
   by_cases hj:j<n
   ·erw[hj]
   ·rw[xD (by rw[xI];lia)]at e;cases e
  rw[xT hj]at e |-
  let⟨v,e1,q⟩:=r.at' j o e
  exact⟨v,e1,by rw[V6 hj];exact q.go (λ_ _ x=>qe s r.al0 x) s.tups λ_ _=>rfl⟩
 ·by_cases hj:j<n
  ·rw[V6 hj]
   erw[r.emp j λo e=>h o ?_]
   rw[xT hj];exact e
  ·erw[KN hj]
 ·rw[xI,xI,r.len]
def RS.ext(r:RS M0 F Γ ν H)(k:Nat):RS M0 F (Γ++List.replicate k none) (ν++List.replicate k none) H:=by
 let get:∀{α:Type}(l:List (Option α))(j:Nat)(o:α),(l++List.replicate k none)[j]?=some (some o)->l[j]?=some (some o):=λ{α} l j o e=>by
  by_cases hj:j<l.length
  ·rw[xc hj]at e;exact e
  ·rw[xm (by lia),xN]at e
   split at e<;>cases e
 let put:∀{α:Type}(l:List (Option α))(j:Nat)(o:α),l[j]?=some (some o)->(l++List.replicate k none)[j]?=some (some o):=λ{α} l j o e=>by
  rw[xc (xa.mp e).1];exact e
 exact⟨r.al0,r.dis0,r.nd,r.dis,λj o e=>let ⟨v,e1,q⟩:=r.at' j o (get _ _ _ e);⟨v,put _ _ _ e1,q⟩,λj h=>r.emp j λo e=>h o (put _ _ _ e),by simp[r.len]⟩
def Yy{α:Type}(l:List (Option α))(x:α):(l++List.replicate 1 none).set l.length (some x)=l++ [some x]:=by
 rw[uu _ _ (xg _)];simp
def RS.new1{p:Ap}{o:OV}{H':Hp}(r:RS M0 F Γ ν H)(n:H p=none)(same:Same H H')(q:Stp F H (fset F Γ.length [p]) H'->OR (MM M0 (fset F Γ.length [p])) H' (.ref p) o [p]) :
  RS M0 (fset F Γ.length [p]) (Γ++ [some o]) (ν++ [some (.ref p)]) H'/\Stp F H (fset F Γ.length [p]) H':=by
 let hp:∀ i,p∉F i:=λi h=>by
  let⟨vs,e⟩:=r.laidF h
  rw[n]at e;cases e
 let s:Stp F H (fset F Γ.length [p]) H':=⟨λb o e nb=>⟨same b o e,λj h=>by
  by_cases hj:j=Γ.length
  ·subst hj;rw[zJ]at h
   let e':b=p:=by simpa using h
   subst e';rw[n]at e;cases e
  ·rw[zP hj]at h;exact nb j h⟩,λb xs e=>same b _ e,(Stp.same (F:=F) same).stay⟩
 let r1:=(r.ext 1).put (A:= [p]) s (λj _ a ha=>by
   let⟨u,eu⟩:=r.laidF ha
   rw[same a u eu,eu])
  (λa h=>s.stay a (r.al0 a h)) (λa ha h=>by
   let e:a=p:=by simpa using ha
   subst e;exact r.al0 a h n) (xB.mpr ⟨(λz=>nomatch z),.nil⟩) (λj _ a ha=>by
   let e:a=p:=by simpa using ha
   subst e;exact hp j) (by simp) (q s)
 rw[Yy]at r1
 let e2:(ν++List.replicate 1 none).set Γ.length (some (V.ref p))=ν++ [some (V.ref p)]:=by rw[<- r.len,Yy]
 rw[e2]at r1
 exact⟨r1,s⟩
def RS.newO(r:RS M0 F Γ ν H)(n:H p=none)(q:RepL (MM M0 F) H vs ds) :
  RS M0 (fset F Γ.length [p]) (Γ++ [some (.l (ds.map .d))]) (ν++ [some (.ref p)]) (upd H p (.lst vs))/\Stp F H (fset F Γ.length [p]) (upd H p (.lst vs)):=r.new1 n (qd n) λs=>.l zH (ORL.data (W0 s r.al0 q))
def RS.of{Γ':Gv}{ν':Nu}{H':Hp}(r:RS M0 F Γ ν H)(B:Fp)(s:∀ F',(∀ j a,a∈F' j->a∈B j)->Stp F H F' H')(d0:∀ j a,a∈B j->¬ M0 a)(nd:∀ j,(B j).Nodup)
  (dis:∀ j k o p a,Γ'[j]?=some (some o)->Γ'[k]?=some (some p)->a∈B j->a∈B k->j=k)
  (h:∀ F',(∀ j a,a∈F' j->a∈B j)->Stp F H F' H'->∀ j o,Γ'[j]?=some (some o)->∃ v,ν'[j]?=some (some v)/\OR (MM M0 F') H' v o (B j)) (len:ν'.length=Γ'.length):∃ F',RS M0 F' Γ' ν' H'/\Stp F H F' H':=by
 let sub:∀ j a,a∈(match Γ'[j]? with | some (some _)=>B j | _=> [])->∃ o,Γ'[j]?=some (some o)/\a∈B j:=λj a=>by
  split
  ·erw[λh=>⟨_,‹_›,h⟩]
  ·erw[λh=>nomatch h]
 let u:=λj a h=>(sub j a h).choose_spec.2
 let s:=s (λj=>match Γ'[j]? with | some (some _)=>B j | _=> []) u
 refine⟨_,⟨λa h=>s.stay a (r.al0 a h),λj a h=>d0 _ a (u j a h),λj=>?_,λj k a h1 h2=>?_,λj o e=>?_,λj h=>?_,len⟩,s⟩
 ·split
  ·erw[nd _]
  ·erw[.nil]
 ·let⟨o,e1,z1⟩:=sub j a h1
  let⟨p,e2,z2⟩:=sub k a h2
  erw[dis j k o p a e1 e2 z1 z2]
 ·let⟨v,ev,q⟩:=h _ u s j o e
  refine⟨v,ev,?_⟩
  rw[show (match Γ'[j]? with | some (some _)=>B j | _=> [])=B j by rw[e]]
  erw[q]
 ·split
  ·erw[absurd ‹_› (h _)]
  ·rfl
def RS.map{Γ':Gv}{ν':Nu}(r:RS M0 F Γ ν H)(g:Nat->Nat)(h:∀ j o,Γ'[j]?=some (some o)->Γ[g j]?=some (some o)/\ν'[j]?=ν[g j]?)
  (inj:∀ j k o p,Γ'[j]?=some (some o)->Γ'[k]?=some (some p)->g j=g k->j=k) (len:ν'.length=Γ'.length):∃ F',RS M0 F' Γ' ν' H/\Stp F H F' H :=
 r.of (λj=>F (g j)) (λF' h=>Ji λj a q=>⟨_,h j a q⟩) (λj=>r.dis0 _) (λj=>r.nd _) (λj k o p a e1 e2 z1 z2=>inj j k o p e1 e2 (r.dis _ _ a z1 z2)) (λF' _ s j o e=>by
  let⟨e1,e2⟩:=h j o e
  let⟨v,ev,q⟩:=r.at' _ _ e1
  exact⟨v,e2.trans ev,q.go (λ_ _ x=>qe s r.al0 x) s.tups λ_ _=>rfl⟩) len
def RS.move(r:RS M0 F (Γ++ [some o]) (ν++ [some v]) H)(hi:i<Γ.length):∃ F',RS M0 F' (Γ.set i (some o)) (ν.set i (some v)) H/\Stp F H F' H:=by
 let hl:ν.length=Γ.length:=by simpa using r.len
 refine r.map (λj=>if j=i then Γ.length else j) (λj p e=>?_) (λj k o p e1 e2=>?_) (by simp[hl])
 ·split
  ·subst j
   rw[xk hi]at e
   cases e
   simp[hl,hi]
  next hj=>
   rw[xi (Ne.symm hj)]at e |-
   let hjl:=(xa.mp e).1
   rw[xc hjl,xc (by lia)]
   exact⟨e,rfl⟩
 ·let h1:=(xa.mp e1).1
  let h2:=(xa.mp e2).1
  rw[xK]at h1 h2
  split<;>split<;>lia
def RS.dropD(r:RS M0 F (Γ++ [some o]) (ν++ [some v]) H):∃ F',RS M0 F' Γ ν H/\Stp F H F' H/\Rep (MM M0 F') H v o.view:=by
 let hl:ν.length=Γ.length:=by have:=r.len;simp at this;exact this
 let⟨r1,s⟩:=r.cut Γ.length
 let e1:(Γ++ [some o]).take Γ.length=Γ:=by simp
 let e2:(ν++ [some v]).take Γ.length=ν:=by rw[<- hl];simp
 rw[e1,e2]at r1
 refine⟨_,r1,s,?_⟩
 let⟨u,e,q⟩:=r.at' Γ.length o (by rw[xm (xg _)];simp)
 rw[xm (by lia),hl]at e
 simp at e
 subst e
 erw[q.rep (λb hb=>?_) (λa ha hb=>?_)]
 ·rcases hb with hb | ⟨j,hb⟩
  ·erw[.inl hb]
  ·erw[.inr ⟨j,(jV hb).2⟩]
 ·rcases hb with hb | ⟨j,hb⟩
  ·erw[r.dis0 _ a ha hb]
  ·have:=r.dis _ _ a ha (jV hb).2
   have:=(jV hb).1
   lia
def RS.frz(r:RS M0 F Γ ν H)(e:Γ[i]?=some (some o)):∃ F' v,ν[i]?=some (some v)/\RS M0 F' (Γ.set i (some (.d o.view))) ν H/\Stp F H F' H/\Rep (MM M0 F') H v o.view:=by
 let⟨v,ev,q⟩:=r.at' i o e
 let hi:=(xa.mp e).1
 let s:Stp F H (fset F i []) H:=Ji λj a h=>by
  by_cases hj:j=i
  ·subst hj;rw[zJ]at h;cases h
  ·rw[zP hj]at h;exact⟨j,h⟩
 let hq:Rep (MM M0 (fset F i [])) H v o.view:=q.rep (λb hb=>by
  rcases hb with hb | ⟨j,hb⟩
  ·erw[.inl hb]
  ·by_cases hj:j=i
   ·subst hj;rw[zJ]at hb;cases hb
   ·rw[zP hj]at hb;exact .inr ⟨j,hb⟩) (λa ha hb=>by
  rcases hb with hb | ⟨j,hb⟩
  ·erw[r.dis0 _ a ha hb]
  ·by_cases hj:j=i
   ·subst hj;rw[zJ]at hb;cases hb
   ·rw[zP hj]at hb;exact hj (r.dis _ _ a hb ha))
 let r1:=r.put s (λ_ _ _ _=>rfl) r.al0 (λ_ h=>nomatch h) .nil (λ_ _ _ h=>nomatch h) hi (.d hq)
 let e2:ν.set i (some v)=ν:=by
  apply xR
  intro j
  by_cases hj:i=j
  ·subst hj;rw[xk (xa.mp ev).1,ev]
  ·rw[xi hj]
 rw[e2]at r1
 exact⟨_,v,ev,r1,s,hq⟩
def RS.mut{xs xs':List OV}{vs:List V}(r:RS M0 F Γ ν H)(e:Γ[i]?=some (some (.l xs)))(ev:ν[i]?=some (some (.ref a)))
  (h:∀ us A,H a=some (.lst us)->ORL (MM M0 F) H us xs A->F i=a::A->∃ A',(∀ b∈A',b∈A)/\A'.Nodup/\ORL (MM M0 F) H vs xs' A') :
  ∃ F',RS M0 F' (Γ.set i (some (.l xs'))) ν (upd H a (.lst vs))/\Stp F H F' (upd H a (.lst vs)):=by
 let⟨v,ev',q⟩:=r.at' i _ e
 rw[ev]at ev';cases ev'
 let hi:=(xa.mp e).1
 generalize hA:F i=Ai at q
 cases q with
 |l ea qa=>
  rename_i us A
  let⟨A',sub,nd',q'⟩:=h us A ea qa hA
  let nd:=r.nd i
  rw[hA]at nd
  let hnA:=(xB.mp nd).1
  let inF:∀ b,b∈(a::A')->b∈F i:=λb hb=>by
   rw[hA]
   rcases xw.mp hb with z | z
   ·rw[z];exact xr
   ·erw[xl _ (sub b z)]
  let s:Stp F H (fset F i (a::A')) (upd H a (.lst vs)):=⟨λb o eb nb=>⟨by rw[zG (λz=>nb i (by rw[hA,z];exact xr))];exact eb,λj hj=>by
   by_cases z:j=i
   ·subst z;rw[zJ]at hj;exact nb j (inF b hj)
   ·rw[zP z]at hj;exact nb j hj⟩,λb xs eb=>by rw[zG (zkq eb ea (by intro z;cases z))];exact eb,λb hb=>by
   by_cases z:b=a
   ·subst z;rw[zH];exact λw=>nomatch w
   ·rw[zG z];exact hb⟩
  let r1:=r.put s (λj hj b hb=>by
    rw[zG]
    intro z
    subst z
    exact hj (r.dis j i b hb (by rw[hA];exact xr))) (λb hb=>s.stay b (r.al0 b hb)) (λb hb=>r.dis0 i b (inF b hb)) (xB.mpr ⟨λz=>hnA (sub a z),nd'⟩)
   (λj hj b hb hbj=>hj (r.dis j i b hbj (inF b hb))) hi (.l zH (q'.go (λ_ _ x=>qe s r.al0 x) s.tups λb hb=>by
    rw[zG];intro z;subst z;exact hnA (sub b hb)))
  let e2:ν.set i (some (V.ref a))=ν:=by
   apply xR
   intro j
   by_cases hj:i=j
   ·subst hj;rw[xk (xa.mp ev).1,ev]
   ·rw[xi hj]
  rw[e2]at r1
  exact⟨_,r1,s⟩
end
def ORL.snoc{M:Ae}{H:Hp}{v:V}{d:PyData}(q:Rep M H v d){os:List OV}(r:ORL M H vs os A):ORL M H (vs++ [v]) (os++ [OV.d d]) A:=r.ind (P:=λvs os A=>ORL M H (vs++ [v]) (os++ [OV.d d]) A) (.cons (.d q) .nil) λr _ ih=>.cons r ih
def ORL.setD{M:Ae}{H:Hp}{v:V}{d:PyData}(q:Rep M H v d){os:List OV}{j:Nat}{x:PyData}(r:ORL M H vs os A):os[j]?=some (.d x)->ORL M H (vs.set j v) (os.set j (OV.d d)) A :=
 r.ind (P:=λvs os A=>∀ j:Nat,os[j]?=some (.d x)->ORL M H (vs.set j v) (os.set j (OV.d d)) A) (λ_ e=>nomatch e) (λr t ih j e=>by
  cases j with
  |zero=>cases e;cases r;exact .cons (.d q) t
  |succ j=>exact .cons r (ih j e)) j
def ORL.insD{M:Ae}{H:Hp}{v:V}{d:PyData}(q:Rep M H v d){os:List OV}(j:Nat)(r:ORL M H vs os A):ORL M H (vs.take j++v::vs.drop j) (os.take j++OV.d d::os.drop j) A :=
 r.ind (P:=λvs os A=>∀ j:Nat,ORL M H (vs.take j++v::vs.drop j) (os.take j++OV.d d::os.drop j) A) (λj=>by simp;exact .cons (.d q) .nil) (λr t ih j=>by
  cases j with
  |zero=>erw[.cons (A:= []) (.d q) (.cons r t)]
  |succ j=>exact .cons r (ih j)) j
def ORL.get{M:Ae}{H:Hp}{os:List OV}{j:Nat}{x:PyData}(r:ORL M H vs os A):os[j]?=some (.d x)->∃ v,vs[j]?=some v/\Rep M H v x :=
 r.ind (P:=λvs os A=>∀ j:Nat,os[j]?=some (.d x)->∃ v,vs[j]?=some v/\Rep M H v x) (λ_ e=>nomatch e) (λr t ih j e=>by
  cases j with
  |zero=>cases e;cases r with
   |d r=>exact⟨_,rfl,r⟩
  |succ j=>exact ih j e) j
noncomputable abbrev St:=L2.St
inductive R(α:Type) where
 |ok (a:α)
 |bad
def R.bind{α β:Type}(r:R α)(f:α->R β):R β:=match r with
 |.ok a=>f a
 |.bad=>.bad
def R.get{α β:Type}(o:Option α)(f:α->R β):R β:=match o with
 |some a=>f a
 |none=>.bad
def R.bind_assoc{α β γ:Type}(r:R α)(f:α->R β)(g:β->R γ):(r.bind f).bind g=r.bind λa=>(f a).bind g:=by cases r<;>rfl
def R.get_bind{α β γ:Type}(o:Option α)(f:α->R β)(g:β->R γ):(R.get o f).bind g=R.get o λa=>(f a).bind g:=by cases o<;>rfl
def R.got{α β:Type}{o:Option α}{f:α->R β}{T:R β->Prop}(hb:T .bad->False)(h:T (R.get o f)):∃ a,o=some a/\T (f a):=by
 cases o with
 |none=>erw[(hb h).elim]
 |some a=>exact⟨a,rfl,h⟩
def R.gif{β:Type}{c:Prop}[Decidable c]{r:R β}{T:R β->Prop}(hb:T .bad->False)(h:T (if c then r else .bad)):c/\T r:=by
 by_cases q:c
 ·rw[if_pos q]at h;exact⟨q,h⟩
 ·rw[if_neg q]at h;exact (hb h).elim
noncomputable abbrev EM(α:Type):=Gv->R (α×Gv)
inductive FV where
 |dat (x:PyData)
 |own (i:Nat)
@[reducible] noncomputable def derf(Γ:Gv):FV->Option PyData
 |.dat x=>some x
 |.own i=>match Γ[i]? with
  |some (some o)=>some o.view
  |_=>none
@[reducible] noncomputable def derS(Γ:Gv):FV->Option PyData
 |.dat x=>some x
 |.own i=>match Γ[i]? with
  |some (@&x)=>some x
  |_=>none
def leaves:List OV->Option (Aa)
 |[]=>some []
 |.d x::r=>(leaves r).map (x::·)
 |.l _::_=>none
 |.t _::_=>none
 |.m _::_=>none
 |.o _ _ _::_=>none
def WG(xs:Aa):leaves (xs.map .d)=some xs:=by
 induction xs with
 |nil=>rfl
 |cons x r ih=>simp[leaves,ih]
def derL(Γ:Gv):FV->Option (Aa)
 |.dat (.list xs)=>some xs
 |.own i=>match Γ[i]? with
  |some (some (.l xs))=>leaves xs
  |some (@&(.list xs))=>some xs
  |_=>none
 |_=>none
def Sees(mp:Ac)(ν:Nu)(σ:St):Prop:=∀(s i:Nat)(v:V),mp[s]?=some i->ν[i]?=some (some v)->σ[s]?=some (some v)
def EPost{α:Type}(M0:Ae)(F:Fp)(ν:Nu)(σ:St)(H:Hp)(P:Fp->Gv->Hp->α->Prop)(r:R (α×Gv)):Prop:=match r with
 |.ok (a,Γ')=>∀ F' H',RS M0 F' Γ' ν H'->Stp F H F' H'->P F' Γ' H' a
 |.bad=>False
section
variable {α:Type}{M0:Ae}{F:Fp}{ν:Nu}{σ:St}{H:Hp}
def EPost.mono(h:EPost M0 F ν σ H P r)(k:∀ F' Γ' H' a,RS M0 F' Γ' ν H'->Stp F H F' H'->P F' Γ' H' a->P' F' Γ' H' a):EPost M0 F ν σ H P' r:=by
 cases r with
 |ok a=>erw[λF' H' rs s=>k F' _ H' _ rs s (h F' H' rs s)]
 |bad=>erw[h]
def EPost.seq{r:R (α×Gv)}(h:EPost M0 F ν σ H P (r.bind k)) :
  EPost M0 F ν σ H (λF1 Γ1 H1 a=>EPost M0 F1 ν σ H1 P (k (a,Γ1))) r:=by
 cases r with
 |ok a=>
  let⟨a,Γ1⟩:=a
  intro F1 H1 rs1 s1
  let h':EPost M0 F ν σ H P (k (a,Γ1)):=h
  revert h'
  generalize k (a,Γ1)=r2
  intro h'
  cases r2 with
  |ok b=>erw[λF' H' rs s=>h' F' H' rs (s1.trans s)]
  |bad=>erw[h']
 |bad=>erw[h]
def EPost.step(h:EPost M0 F ν σ H P r)(s1:Stp F H F1 H1):EPost M0 F1 ν σ H1 P r:=by
 cases r with
 |ok b=>erw[λF' H' rs s=>h F' H' rs (s1.trans s)]
 |bad=>erw[h]
end
def FOk(M0:Ae)(F:Fp)(ν:Nu)(H:Hp)(v:V):FV->Prop
 |.dat x=>Rep (MM M0 F) H v x
 |.own i=>ν[i]?=some (some v)
section
variable {M0:Ae}{F F':Fp}{Γ:Gv}{ν:Nu}{H H':Hp}{v:V}{u:FV}{x:PyData}
def FOk.stp(h:FOk M0 F ν H v u)(s:Stp F H F' H')(h0:∀ a,M0 a->H a≠none):FOk M0 F' ν H' v u:=by
 cases u with
 |dat x=>erw[qe s h0 h]
 |own i=>erw[h]
def FOk.weak(h:FOk M0 F ν H v u)(rs:RS M0 F Γ ν H)(e:derf Γ u=some x):Rep qk H v x:=by
 cases u with
 |dat y=>cases e;exact Rep.less (λ_ z _=>z.elim) h
 |own i=>
  dsimp only [derf]at e
  split at e
  next o q=>
   cases e
   let⟨w,e1,r⟩:=rs.at' i o q
   let h':=h
   rw[h']at e1;cases e1
   erw[r.weak]
  ·cases e
def FOk.strong(h:FOk M0 F ν H v u)(rs:RS M0 F Γ ν H)(e:derS Γ u=some x):Rep (MM M0 F) H v x:=by
 cases u with
 |dat y=>cases e;exact h
 |own i=>
  dsimp only [derS]at e
  split at e
  next y q=>
   cases e
   let⟨w,e1,r⟩:=rs.at' i _ q
   let h':=h
   rw[h']at e1;cases e1
   generalize F i=A at r
   cases r with
   |d r=>erw[r]
  ·cases e
def ORL.leaf{vs:List V}{os:List OV}(r:ORL M H vs os A):leaves os=some ds->RepL M H vs ds/\A= [] :=
 r.ind (P:=λvs os A=>∀ ds,leaves os=some ds->RepL M H vs ds/\A= []) (λ_ e=>by cases e;exact⟨.nil,rfl⟩) (λ{_ _ x xs _ _} r _ ih ds e=>by
  cases r with
  |d r=>
   unfold leaves at e
   cases q:leaves xs with
   |none=>rw[q]at e;cases e
   |some ys=>
    rw[q]at e;cases e
    let⟨h1,h2⟩:=ih _ q
    exact⟨.cons r h1,by rw[h2];rfl⟩
  |_=>cases e) ds
def FOk.list(h:FOk M0 F ν H v u)(rs:RS M0 F Γ ν H)(e:derL Γ u=some ds):∃ a vs,v=.ref a/\H a=some (.lst vs)/\RepL (MM M0 F) H vs ds:=by
 unfold derL at e
 split at e
 ·cases e
  let⟨a,vs,rfl,e1,_,r⟩:=Rep.lst_inv h
  exact⟨a,vs,rfl,e1,r⟩
 next i=>
  let h':=h
  split at e
  next q=>
   let⟨w,e1,r⟩:=rs.at' i _ q
   rw[h']at e1;cases e1
   generalize F i=A at r
   cases r with
   |l ea qa=>exact⟨_,_,rfl,ea,(ORL.leaf qa e).1⟩
  next q=>
   cases e
   let⟨w,e1,r⟩:=rs.at' i _ q
   rw[h']at e1;cases e1
   generalize F i=A at r
   cases r with
   |d r=>
    let⟨a,vs,rfl,e1,_,r⟩:=Rep.lst_inv r
    exact⟨a,vs,rfl,e1,r⟩
  ·cases e
 ·cases e
end
def SE(X:Cx)(mp:Ac)(e:Expr)(f:EM FV):Prop:=∀(M0:Ae)(F:Fp)(Γ:Gv)(ν:Nu)(σ:St)(H:Hp)(Q:VK),RS M0 F Γ ν H->Sees mp ν σ ->
 EPost M0 F ν σ H (λF' Γ' H' u=>∀ v,FOk M0 F' ν H' v u->Q v H') (f Γ)->wpE X e σ H Q
def SN(X:Cx)(mp:Ac)(e:Expr)(f:EM (Aa)):Prop:=∀(M0:Ae)(F:Fp)(Γ:Gv)(ν:Nu)(σ:St)(H:Hp)(Q:VK),RS M0 F Γ ν H->Sees mp ν σ ->
 EPost M0 F ν σ H (λF' Γ' H' ds=>∀ vs p,RepL (MM M0 F') H' vs ds->H' p=none->Q (.ref p) (upd H' p (.lst vs))) (f Γ)->wpE X e σ H Q
def ST(X:Cx)(mp:Ac)(e:Expr)(f:EM Bool):Prop:=∀(M0:Ae)(F:Fp)(Γ:Gv)(ν:Nu)(σ:St)(H:Hp)(Q:Bool->Hp->Prop),RS M0 F Γ ν H->Sees mp ν σ ->
 EPost M0 F ν σ H (λF' Γ' H' b=>Q b H') (f Γ)->wpT X e σ H Q
def SW(X:Cx)(mp:Ac)(e:Expr)(f:EM Bool):Prop:=∀(M0:Ae)(F:Fp)(Γ:Gv)(ν:Nu)(σ:St)(H:Hp)(Q:Bool->Hp->Prop),RS M0 F Γ ν H->Sees mp ν σ ->
 EPost M0 F ν σ H (λF' Γ' H' b=>Q b H') (f Γ)->wpW X e σ H Q
section
variable {X:Cx}{mp:Ac}{a b e:Expr}{pos p:Pos}{fa fb:EM FV}{ta:EM Bool}{na:EM (Aa)}
section
variable {β:Type}{M0:Ae}{F:Fp}{Γ:Gv}{ν:Nu}{σ:St}{H:Hp}{P:Fp->Gv->Hp->β->Prop}
def SE.run{Q:VK}{k:FV×Gv->R (β×Gv)}(ha:SE X mp a fa)(rs:RS M0 F Γ ν H)(hs:Sees mp ν σ)(h:EPost M0 F ν σ H P ((fa Γ).bind k))
  (kk:∀ F1 Γ1 H1 u v,RS M0 F1 Γ1 ν H1->Stp F H F1 H1->FOk M0 F1 ν H1 v u->EPost M0 F1 ν σ H1 P (k (u,Γ1))->Q v H1):wpE X a σ H Q :=
 ha M0 F Γ ν σ H Q rs hs (h.seq.mono λF1 Γ1 H1 u rs1 s1 h1 v hv=>kk F1 Γ1 H1 u v rs1 s1 hv h1)
def SN.run{Q:VK}{k:Aa×Gv->R (β×Gv)}(ha:SN X mp a na)(rs:RS M0 F Γ ν H)(hs:Sees mp ν σ)(h:EPost M0 F ν σ H P ((na Γ).bind k))
  (kk:∀ F1 Γ1 H1 ds vs p,RS M0 F1 Γ1 ν H1->Stp F H F1 H1->RepL (MM M0 F1) H1 vs ds->H1 p=none->EPost M0 F1 ν σ H1 P (k (ds,Γ1))->Q (.ref p) (upd H1 p (.lst vs))):wpE X a σ H Q :=
 ha M0 F Γ ν σ H Q rs hs (h.seq.mono λF1 Γ1 H1 u rs1 s1 h1 vs p r n=>kk F1 Γ1 H1 u vs p rs1 s1 r n h1)
def ST.run{Q:Bool->Hp->Prop}{k:Bool×Gv->R (β×Gv)}(ha:ST X mp a ta)(rs:RS M0 F Γ ν H)(hs:Sees mp ν σ)(h:EPost M0 F ν σ H P ((ta Γ).bind k))
  (kk:∀ F1 Γ1 H1 u,RS M0 F1 Γ1 ν H1->Stp F H F1 H1->EPost M0 F1 ν σ H1 P (k (u,Γ1))->Q u H1):wpT X a σ H Q :=
 ha M0 F Γ ν σ H Q rs hs (h.seq.mono λF1 Γ1 H1 u rs1 s1 h1=>kk F1 Γ1 H1 u rs1 s1 h1)
end
@[reducible] noncomputable def fNew(n:EM (Aa)):EM FV:=λΓ=>(n Γ).bind λ(ds,Γ1)=>.ok (.dat (.list ds),Γ1)
def SN.se(h:SN X mp a na):SE X mp a (fNew na):=λM0 F Γ ν σ H Q rs hs hp=>
 h.run rs hs hp λF1 Γ1 H1 ds vs p rs1 s1 r n h1=>by
  let s2:Same H1 (upd H1 p (.lst vs)):=qd n
  erw[h1 F1 _ (rs1.same s2) (.same s2) _ (Rep.list zH (λz=>rs1.al p z n) (r.grow s2.grow))]
@[reducible] noncomputable def fVar(i:Nat):EM FV:=λΓ=>match Γ[i]? with
 |some (@&x)=>.ok (.dat x,Γ)
 |some (some (.l _))=>.ok (.own i,Γ)
 |some (some (.t _))=>.ok (.own i,Γ)
 |some (some (.m _))=>.ok (.own i,Γ)
 |some (some (.o _ _ _))=>.ok (.own i,Γ)
 |_=>.bad
def zjv {s i:Nat}(hN:X.N[s]?=some x) (hv:Vis X.env.scope x) (hm:mp[s]?=some i) (hd:(↥x)) (hcd:(x==("__classdict__" :Str))=false) :
  SE X mp (.Name x pos) (fVar i):=by?
 unfold fVar at hp
 split at hp
 next y q=>
  let⟨v,e1,r⟩:=rs.at' i _ q
  generalize hA:F i=A at r
  cases r with
  |d r=>erw[(qB hN hv hd hcd).wp ⟨v,hs s i v hm e1,hp F H rs (.refl F H) v r⟩]
 next y q=>
  let⟨v,e1,r⟩:=rs.at' i _ q
  erw[(qB hN hv hd hcd).wp ⟨v,hs s i v hm e1,hp F H rs (.refl F H) v e1⟩]
 next y q=>
  let⟨v,e1,r⟩:=rs.at' i _ q
  erw[(qB hN hv hd hcd).wp ⟨v,hs s i v hm e1,hp F H rs (.refl F H) v e1⟩]
 next y q=>
  let⟨v,e1,r⟩:=rs.at' i _ q
  erw[(qB hN hv hd hcd).wp ⟨v,hs s i v hm e1,hp F H rs (.refl F H) v e1⟩]
 next y _ _ q=>
  let⟨v,e1,r⟩:=rs.at' i _ q
  erw[(qB hN hv hd hcd).wp ⟨v,hs s i v hm e1,hp F H rs (.refl F H) v e1⟩]
 ·erw[hp.elim]
@[reducible] noncomputable def fFrz(i:Nat):EM FV:=λΓ=>match Γ[i]? with
 |some (some o)=>.ok (.dat o.view,Γ.set i (some (.d o.view)))
 |_=>.bad
def zjn {s i:Nat}(hN:X.N[s]?=some x) (hv:Vis X.env.scope x) (hm:mp[s]?=some i) (hd:(↥x)) (hcd:(x==("__classdict__" :Str))=false) :
  SE X mp (.Name x pos) (fFrz i):=by?
 unfold fFrz at hp
 delta hp o q
 let⟨F',v,e1,rs1,s1,r⟩:=rs.frz q
 erw[(qB hN hv hd hcd).wp ⟨v,hs s i v hm e1,hp F' H rs1 s1 v r⟩]
@[reducible] noncomputable def fC(x:PyData):EM FV:=λΓ=>.ok (.dat x,Γ)
def zjo{i j}:SE X mp (.Constant (.int i) j pos) (fC (.int i)):=λM0 F Γ ν σ H Q rs hs hp=>pe_int.wp (hp F H rs (.refl F H) _ (Rep.int i))
def zgS{x j}:SE X mp (.Constant (.bool x) j pos) (fC (.bool x)):=λM0 F Γ ν σ H Q rs hs hp=>pe_bl.wp (hp F H rs (.refl F H) _ (Rep.bool x))
def zjt{x j}:SE X mp (.Constant (.str x) j pos) (fC (.str x)):=λM0 F Γ ν σ H Q rs hs hp=>pe_str.wp (hp F H rs (.refl F H) _ (Rep.str x))
def zgY (hg:Gl X x) (hm:∃ t,X.mg x=some (.int i t)) (hd:(↥x)):SE X mp (.Name x pos) (fC (.int i)):=by?
 let⟨t,hm⟩:=hm
 erw[(K3 (v:=.int i) hg hm ⟨t,rfl⟩ hd).wp (hp F H rs (.refl F H) _ (Rep.int i))]
def zgZ (hg:Gl X x) (hm:∃ t,X.mg x=some (.str i t)) (hd:(↥x)):SE X mp (.Name x pos) (fC (.str i)):=by?
 let⟨t,hm⟩:=hm
 erw[(K3 (v:=.str i) hg hm ⟨t,rfl⟩ hd).wp (hp F H rs (.refl F H) _ (Rep.str i))]
def OpS(X:Cx)(f:Aj->Aj->Sem Aj)(g:PyData->PyData->Option PyData):Prop:=∀ x y z,g x y=some z->∃ r:R2,OpR X f r/\∀(M:Ae)(H:Hp)(v u:V)(Q:VK),
 Al M H->Rep M H v x->Rep M H u y->(∀ w H',Same H H'->Rep M H' w z->Q w H')->r v u H Q
@[reducible] noncomputable def fBin(g:PyData->PyData->Option PyData)(fa fb:EM FV):EM FV:=λΓ=>(fa Γ).bind λ(u,Γ1)=>(fb Γ1).bind λ(w,Γ2)=>R.get (derS Γ2 u) λx=>R.get (derS Γ2 w) λy=>R.get (g x y) λz=>.ok (.dat z,Γ2)
def zjl(ho:OpS X (binaryOp op) g)(ha:SE X mp a fa)(hb:SE X mp b fb):SE X mp (.BinOp a op b pos) (fBin g fa fb):=by?
 let key:=ho
 refine (WR (r:=λv u H Q=>∃ M x y z,g x y=some z/\Al M H/\Rep M H v x/\Rep M H u y/\∀ w H',Same H H'->Rep M H' w z->Q w H') ?_ zC zC).wp
  (ha.run rs hs hp λF1 Γ1 H1 u v rs1 s1 o1 h1=>hb.run rs1 hs h1 λF2 Γ2 H2 w v2 rs2 s2 o2 h2=>?_)
 ·rintro pins s σ H x y v u Q I rx ry ⟨M,dx,dy,dz,e,al,r1,r2,k⟩
  let⟨r,hr,hh⟩:=ho dx dy dz e
  erw[hr pins s σ H x y v u Q I rx ry (hh M H x y Q al r1 r2 k)]
 ·let⟨x,e1,h2⟩:=R.got id h2
  let⟨y,e2,h2⟩:=R.got id h2
  let⟨z,e3,h2⟩:=R.got id h2
  exact⟨MM M0 F2,x,y,z,e3,rs2.al,(o1.stp s2 rs1.al0).strong rs2 e1,o2.strong rs2 e2,λw' H3 s3 r3=>h2 F2 H3 (rs2.same s3) (.same s3) w' r3⟩
def wK(X:Cx)(op:CmpOp)(g:PyData->PyData->Option Bool):Prop:=∀ x y z,g x y=some z->∃ r:R2,OpR X (compareOp op) r/\∀(H:Hp)(v u:V)(Q:VK),
 Rep qk H v x->Rep qk H u y->Q (.bl z) H->r v u H Q
@[reducible] noncomputable def fCmp(g:PyData->PyData->Option Bool)(fa fb:EM FV):EM Bool:=λΓ=>(fa Γ).bind λ(u,Γ1)=>(fb Γ1).bind λ(w,Γ2)=>R.get (derf Γ2 u) λx=>R.get (derf Γ2 w) λy=>R.get (g x y) λz=>.ok (z,Γ2)
@[reducible] noncomputable def fB(t:EM Bool):EM FV:=λΓ=>(t Γ).bind λ(b,Γ1)=>.ok (.dat (.bool b),Γ1)
def Qn(ho:wK X op g):OpR X (compareOp op) (λv u H Q=>∃ x y z,g x y=some z/\Rep qk H v x/\Rep qk H u y/\Q (.bl z) H):=by
 rintro pins s σ H x y v u Q I rx ry ⟨dx,dy,dz,e,r1,r2,k⟩
 let⟨r,hr,hh⟩:=ho dx dy dz e
 erw[hr pins s σ H x y v u Q I rx ry (hh H x y Q r1 r2 k)]
section
variable {M0:Ae}{F:Fp}{Γ:Gv}{ν:Nu}{σ:St}{H:Hp}{β:Type}{P:Fp->Gv->Hp->β->Prop}
def KG{Q:VK}(ha:SE X mp a fa)(hb:SE X mp b fb)(rs:RS M0 F Γ ν H)(hs:Sees mp ν σ)(hp:EPost M0 F ν σ H P ((fCmp g fa fb Γ).bind k))
  (kk:∀ F2 Γ2 H2 z,RS M0 F2 Γ2 ν H2->Stp F H F2 H2->EPost M0 F2 ν σ H2 P (k (z,Γ2))->Q (.bl z) H2) :
  wpE X a σ H λv H1=>wpE X b σ H1 λu H2=>∃ x y z,g x y=some z/\Rep qk H2 v x/\Rep qk H2 u y/\Q (.bl z) H2:=by
 unfold fCmp at hp
 rw[R.bind_assoc]at hp
 erw[ha.run rs hs hp λF1 Γ1 H1 u v rs1 s1 o1 h1=>?_]
 dsimp only at h1
 rw[R.bind_assoc]at h1
 erw[hb.run rs1 hs h1 λF2 Γ2 H2 w v2 rs2 s2 o2 h2=>?_]
 dsimp only at h2
 rw[R.get_bind]at h2
 let⟨x,e1,h2⟩:=R.got id h2
 rw[R.get_bind]at h2
 let⟨y,e2,h2⟩:=R.got id h2
 rw[R.get_bind]at h2
 let⟨z,e3,h2⟩:=R.got id h2
 exact⟨x,y,z,e3,(o1.stp s2 rs1.al0).weak rs2 e1,o2.weak rs2 e2,kk F2 Γ2 H2 z rs2 (s1.trans s2) h2⟩
end
def R.bind_ok{α:Type}(r:R α):r.bind .ok=r:=by cases r<;>rfl
def yu(ho:wK X op g)(ha:SE X mp a fa)(hb:SE X mp b fb)(hm:behindInMarks op b=false):SE X mp (.Compare a [op] [b] pos) (fB (fCmp g fa fb)):=λM0 F Γ ν σ H Q rs hs hp=>
 (zgx (Qn ho) zC zC hm).wp (KG ha hb rs hs hp λF2 Γ2 H2 z rs2 s2 h2=>h2 F2 H2 rs2 (.refl _ _) _ (Rep.bool z))
def yz(ho:wK X op g)(ha:SE X mp a fa)(hb:SE X mp b fb)(hm:behindInMarks op b=false):ST X mp (.Compare a [op] [b] pos) (fCmp g fa fb):=λM0 F Γ ν σ H Q rs hs hp=>
 (zgJ (Qn ho) zC zC hm).wp (KG (k:=.ok) (Q:=λv H'=>∃ k,v=.bl k/\Q k H') ha hb rs hs (by rw[R.bind_ok];exact hp) λF2 Γ2 H2 z rs2 s2 h2=>⟨z,rfl,h2 F2 H2 rs2 (.refl _ _)⟩)
end
def truD:PyData->Option Bool
 |.none=>some false
 |.bool b=>some b
 |.int i=>some (i !=0)
 |.list xs=>some (!xs.isEmpty)
 |.tuple xs=>some (!xs.isEmpty)
 |_=>none
def Ye(r:RepL M H vs ds):(!vs.isEmpty)= !ds.isEmpty:=by cases r<;>rfl
def zad{K:Ah}{H:Hp}{v:V}(r:Rep M H v x)(e:truD x=some k):zfD K v H k:=by
 cases r with
 |none=>cases e;rfl
 |bool b=>cases e;rfl
 |int i=>cases e;rfl
 |str x=>cases e
 |list ea n q=>cases e;exact .inl ⟨_,SqL.of ea,(Ye q).symm⟩
 |tuple ea q=>cases e;exact .inr (.inl ⟨_,SqT.of ea,(Ye q).symm⟩)
 |dict _ _ _ _=>cases e
 |inst _ _ _ _=>cases e
 |exo _ _ _ _ _=>cases e
section
variable {X:Cx}{mp:Ac}{a b c e:Expr}{es:Ag}{pos p p2:Pos}{fa fb fc:EM FV}{ta tb:EM Bool}
@[reducible] noncomputable def fTru(fa:EM FV):EM Bool:=λΓ=>(fa Γ).bind λ(u,Γ1)=>R.get (derf Γ1 u) λx=>R.get (truD x) λk=>.ok (k,Γ1)
def zfb(ha:SE X mp a fa)(he:∀ whole,isTrue a X.env whole=(do let v<-whole;standAt a.pos;holding [v] (truthy v))):ST X mp a (fTru fa):=λM0 F Γ ν σ H Q rs hs hp=>
 (Ys zC he).wp (ha.run rs hs hp λF1 Γ1 H1 u v rs1 s1 o1 h1=>by
  let⟨x,ex,h1⟩:=R.got id h1
  let⟨k,ek,h1⟩:=R.got id h1
  exact⟨k,zad (o1.weak rs1 ex) ek,h1 F1 H1 rs1 (.refl _ _)⟩)
@[reducible] noncomputable def fNotT(ta:EM Bool):EM Bool:=λΓ=>(ta Γ).bind λ(b,Γ1)=>.ok (!b,Γ1)
def zjM(h:ST X mp a ta):ST X mp (.UnaryOp .Not a pos) (fNotT ta):=λM0 F Γ ν σ H Q rs hs hp=>
 (zi9 Zf).wp (h.run rs hs hp λF1 Γ1 H1 b rs1 s1 h1=>h1 F1 H1 rs1 (.refl _ _))
def SW.st(h:SW X mp a ta):ST X mp a ta:=λM0 F Γ ν σ H Q rs hs hp pins s I=>h M0 F Γ ν σ H Q rs hs hp _ pins s I
def zhv(h:ST X mp a ta):SW X mp (.BoolOp .And [a] pos) ta:=λM0 F Γ ν σ H Q rs hs hp=>(zgK Zf).wp (h M0 F Γ ν σ H Q rs hs hp)
def zhw(h:ST X mp a ta):SW X mp (.BoolOp .Or [a] pos) ta:=λM0 F Γ ν σ H Q rs hs hp=>(zjb Zf).wp (h M0 F Γ ν σ H Q rs hs hp)
@[reducible] noncomputable def fAndT(ta tb:EM Bool):EM Bool:=λΓ=>(ta Γ).bind λ(b,Γ1)=>if b then tb Γ1 else .ok (false,Γ1)
@[reducible] noncomputable def fOrT(ta tb:EM Bool):EM Bool:=λΓ=>(ta Γ).bind λ(b,Γ1)=>if b then .ok (true,Γ1) else tb Γ1
def zfe(ha:ST X mp a ta)(hb:SW X mp (.BoolOp .And (b::es) pos) tb):SW X mp (.BoolOp .And (a::b::es) pos) (fAndT ta tb):=λM0 F Γ ν σ H Q rs hs hp=>
 (zja Zf K8).wp (ha.run rs hs hp λF1 Γ1 H1 b rs1 s1 h1=>by
  cases b with
  |true=>erw[Yg (hb M0 F1 Γ1 ν σ H1 Q rs1 hs h1)]
  |false=>exact Yf (h1 F1 H1 rs1 (.refl _ _)))
def zhW(ha:ST X mp a ta)(hb:SW X mp (.BoolOp .Or (b::es) pos) tb):SW X mp (.BoolOp .Or (a::b::es) pos) (fOrT ta tb):=λM0 F Γ ν σ H Q rs hs hp=>
 (zkF Zf K8).wp (ha.run rs hs hp λF1 Γ1 H1 b rs1 s1 h1=>by
  cases b with
  |true=>erw[Yg (h1 F1 H1 rs1 (.refl _ _))]
  |false=>exact Yf (hb M0 F1 Γ1 ν σ H1 Q rs1 hs h1))
@[reducible] noncomputable def fAndV(fa fb:EM FV):EM FV:=λΓ=>(fa Γ).bind λ(u,Γ1)=>match derf Γ1 u with
 |some (.bool true)=>fb Γ1
 |some (.bool false)=>.ok (.dat (.bool false),Γ1)
 |_=>.bad
@[reducible] noncomputable def fOrV(fa fb:EM FV):EM FV:=λΓ=>(fa Γ).bind λ(u,Γ1)=>match derf Γ1 u with
 |some (.bool true)=>.ok (.dat (.bool true),Γ1)
 |some (.bool false)=>fb Γ1
 |_=>.bad
def zeS{op}(h:SE X mp a fa):SE X mp (.BoolOp op [a] pos) fa:=λM0 F Γ ν σ H Q rs hs hp=>(zi0 zC).wp (h M0 F Γ ν σ H Q rs hs hp)
def zeO(ha:SE X mp a fa)(hb:SE X mp (.BoolOp .And (b::es) pos) fb):SE X mp (.BoolOp .And (a::b::es) pos) (fAndV fa fb):=λM0 F Γ ν σ H Q rs hs hp=>
 (ziZ zC zC).wp (ha.run rs hs hp λF1 Γ1 H1 u v rs1 s1 o1 h1=>by
  dsimp only at h1
  split at h1
  next ex=>
   cases o1.weak rs1 ex
   exact⟨true,rfl,Yg (hb M0 F1 Γ1 ν σ H1 Q rs1 hs h1)⟩
  next ex=>
   cases o1.weak rs1 ex
   exact⟨false,rfl,Yf (h1 F1 H1 rs1 (.refl _ _) _ (Rep.bool false))⟩
  ·exact h1.elim)
def zhV(ha:SE X mp a fa)(hb:SE X mp (.BoolOp .Or (b::es) pos) fb):SE X mp (.BoolOp .Or (a::b::es) pos) (fOrV fa fb):=λM0 F Γ ν σ H Q rs hs hp=>
 (zkD zC zC).wp (ha.run rs hs hp λF1 Γ1 H1 u v rs1 s1 o1 h1=>by
  dsimp only at h1
  split at h1
  next ex=>
   cases o1.weak rs1 ex
   exact⟨true,rfl,Yg (h1 F1 H1 rs1 (.refl _ _) _ (Rep.bool true))⟩
  next ex=>
   cases o1.weak rs1 ex
   exact⟨false,rfl,Yf (hb M0 F1 Γ1 ν σ H1 Q rs1 hs h1)⟩
  ·exact h1.elim)
def zhD:UnR X (unaryOp .Not) (λx H Q=>∃ k,zfD X.K x H k/\Q (.bl (!k)) H):=by
 intro pins s σ H x v Q I rx h
 let⟨k,hk,q⟩:=h
 erw[not_of (thn (zfi pins s σ H x v _ I rx ⟨k,hk,q⟩) λb s' ⟨H',I',q'⟩=>⟨.bl (!b),H',I',rfl,q'⟩)]
def zjr(ha:SE X mp a fa):SE X mp (.UnaryOp .Not a pos) (fB (fNotT (fTru fa))):=by?
 unfold fB fNotT fTru at hp
 rw[R.bind_assoc,R.bind_assoc]at hp
 erw[(zew zhD zC).wp (ha.run rs hs hp λF1 Γ1 H1 u v rs1 s1 o1 h1=>?_)]
 dsimp only at h1
 rw[R.get_bind]at h1
 let⟨x,ex,h1⟩:=R.got id h1
 rw[R.get_bind]at h1
 let⟨k,ek,h1⟩:=R.got id h1
 exact⟨k,zad (o1.weak rs1 ex) ek,h1 F1 H1 rs1 (.refl _ _) _ (Rep.bool _)⟩
@[reducible] noncomputable def fIf(t:EM Bool)(fa fb:EM FV):EM FV:=λΓ=>(t Γ).bind λ(b,Γ1)=>if b then fa Γ1 else fb Γ1
def zkR(hc:ST X mp c ta)(ha:SE X mp a fa)(hb:SE X mp b fb):SE X mp (.IfExp c a b pos) (fIf ta fa fb):=λM0 F Γ ν σ H Q rs hs hp=>
 (zes Zf zC zC).wp (hc.run rs hs hp λF1 Γ1 H1 b rs1 s1 h1=>by
  cases b with
  |true=>erw[Yg (ha M0 F1 Γ1 ν σ H1 Q rs1 hs h1)]
  |false=>exact Yf (hb M0 F1 Γ1 ν σ H1 Q rs1 hs h1))
@[reducible] noncomputable def fChain(g g':PyData->PyData->Option Bool)(fa fb fc:EM FV):EM Bool:=λΓ=>(fa Γ).bind λ(u,Γ1)=>(fb Γ1).bind λ(w,Γ2)=>R.get (derf Γ2 u) λx=>R.get (derf Γ2 w) λy=>R.get (g x y) λt=>if t then (fc Γ2).bind λ(t,Γ3)=>R.get (derf Γ3 w) λy=>R.get (derf Γ3 t) λz=>R.get (g' y z) λk=>.ok (k,Γ3) else .ok (false,Γ2)
section
variable {M0:Ae}{F:Fp}{Γ:Gv}{ν:Nu}{σ:St}{H:Hp}{β:Type}{P:Fp->Gv->Hp->β->Prop}
def Vc{Q:VK}(ha:SE X mp a fa)(hb:SE X mp b fb)(hc:SE X mp c fc)(rs:RS M0 F Γ ν H)(hs:Sees mp ν σ)(hp:EPost M0 F ν σ H P ((fChain g g' fa fb fc Γ).bind k))
  (kk:∀ F2 Γ2 H2 z,RS M0 F2 Γ2 ν H2->EPost M0 F2 ν σ H2 P (k (z,Γ2))->Q (.bl z) H2) :
  Kp (λv u H Q=>∃ x y z,g x y=some z/\Rep qk H v x/\Rep qk H u y/\Q (.bl z) H) (λv u H Q=>∃ x y z,g' x y=some z/\Rep qk H v x/\Rep qk H u y/\Q (.bl z) H) (wpE X a) (wpE X b) (wpE X c) σ H Q:=by
 unfold fChain at hp
 rw[R.bind_assoc]at hp
 erw[ha.run rs hs hp λF1 Γ1 H1 u v rs1 s1 o1 h1=>?_]
 dsimp only at h1
 rw[R.bind_assoc]at h1
 erw[hb.run rs1 hs h1 λF2 Γ2 H2 w v2 rs2 s2 o2 h2=>?_]
 dsimp only at h2
 rw[R.get_bind]at h2
 let⟨x,e1,h2⟩:=R.got id h2
 rw[R.get_bind]at h2
 let⟨y,e2,h2⟩:=R.got id h2
 rw[R.get_bind]at h2
 let⟨t,e3,h2⟩:=R.got id h2
 refine⟨x,y,t,e3,(o1.stp s2 rs1.al0).weak rs2 e1,o2.weak rs2 e2,t,rfl,?_⟩
 cases t with
 |false=>erw[Yf (kk F2 Γ2 H2 false rs2 h2)]
 |true=>
  rw[if_pos rfl,R.bind_assoc]at h2
  erw[Yg (hc.run rs2 hs h2 λF3 Γ3 H3 t v3 rs3 s3 o3 h3=>?_)]
  dsimp only at h3
  rw[R.get_bind]at h3
  let⟨y',e4,h3⟩:=R.got id h3
  rw[R.get_bind]at h3
  let⟨z,e5,h3⟩:=R.got id h3
  rw[R.get_bind]at h3
  let⟨kz,e6,h3⟩:=R.got id h3
  exact⟨y',z,kz,e6,(o2.stp s3 rs2.al0).weak rs3 e4,o3.weak rs3 e5,kk F3 Γ3 H3 kz rs3 h3⟩
end
def zeP(ho:wK X op g)(ho':wK X op' g')(ha:SE X mp a fa)(hb:SE X mp b fb)(hc:SE X mp c fc)(hm:lastMarks [op,op'] [b,c]=false) :
  SE X mp (.Compare a [op,op'] [b,c] pos) (fB (fChain g g' fa fb fc)):=λM0 F Γ ν σ H Q rs hs hp=>
 (zel (Qn ho) (Qn ho') zC zC zC hm).wp (Vc ha hb hc rs hs hp λF2 Γ2 H2 z rs2 h2=>h2 F2 H2 rs2 (.refl _ _) _ (Rep.bool z))
def ze9(ho:wK X op g)(ho':wK X op' g')(ha:SE X mp a fa)(hb:SE X mp b fb)(hc:SE X mp c fc)(hm:lastMarks [op,op'] [b,c]=false) :
  ST X mp (.Compare a [op,op'] [b,c] pos) (fChain g g' fa fb fc):=λM0 F Γ ν σ H Q rs hs hp=>
 (zeJ (Qn ho) (Qn ho') zC zC zC hm).wp (Vc (k:=.ok) ha hb hc rs hs (by rw[R.bind_ok];exact hp) λF2 Γ2 H2 z rs2 h2=>⟨z,rfl,h2 F2 H2 rs2 (.refl _ _)⟩)
inductive FOks(M0:Ae)(F:Fp)(ν:Nu)(H:Hp):List V->List FV->Prop
 |nil:FOks M0 F ν H [] []
 |cons {v:V} {vs:List V} {u:FV} {us:List FV}:FOk M0 F ν H v u->FOks M0 F ν H vs us->FOks M0 F ν H (v::vs) (u::us)
def derSs(Γ:Gv):List FV->Option (Aa)
 |[]=>some []
 |u::us=>match derS Γ u,derSs Γ us with
  |some x,some xs=>some (x::xs)
  |_,_=>none
def FOks.strong{M0:Ae}{F:Fp}{Γ:Gv}{ν:Nu}{H:Hp}(rs:RS M0 F Γ ν H):∀{vs:List V}{us:List FV}{ds:Aa},FOks M0 F ν H vs us->derSs Γ us=some ds->RepL (MM M0 F) H vs ds
 |_,_,_,.nil,e=>by cases e;exact .nil
 |_,_,_,.cons h t,e=>by
  unfold derSs at e
  split at e
  next e1 e2=>
   cases e
   erw[.cons (h.strong rs e1) (FOks.strong rs t e2)]
  ·cases e
def FOks.length{M0:Ae}{F:Fp}{ν:Nu}{H:Hp}:∀{vs:List V}{us:List FV},FOks M0 F ν H vs us->vs.length=us.length
 |_,_,.nil=>rfl
 |_,_,.cons _ t=>by rw[xq,xq,FOks.length t]
def SL(X:Cx)(mp:Ac)(es:Ag)(f:EM (List FV)):Prop:=∀(M0:Ae)(F:Fp)(Γ:Gv)(ν:Nu)(σ:St)(H:Hp)(Q:List V->Hp->Prop),RS M0 F Γ ν H->Sees mp ν σ ->
 EPost M0 F ν σ H (λF' Γ' H' us=>∀ vs,FOks M0 F' ν H' vs us->Q vs H') (f Γ)->wpA X es σ H Q
def SL.run{β:Type}{M0:Ae}{F:Fp}{Γ:Gv}{ν:Nu}{σ:St}{H:Hp}{P:Fp->Gv->Hp->β->Prop}{fl:EM (List FV)}{Q:List V->Hp->Prop}{k:List FV×Gv->R (β×Gv)}(ha:SL X mp es fl)(rs:RS M0 F Γ ν H)(hs:Sees mp ν σ)(h:EPost M0 F ν σ H P ((fl Γ).bind k))
  (kk:∀ F1 Γ1 H1 us vs,RS M0 F1 Γ1 ν H1->Stp F H F1 H1->FOks M0 F1 ν H1 vs us->EPost M0 F1 ν σ H1 P (k (us,Γ1))->Q vs H1):wpA X es σ H Q :=
 ha M0 F Γ ν σ H Q rs hs (h.seq.mono λF1 Γ1 H1 u rs1 s1 h1 v hv=>kk F1 Γ1 H1 u v rs1 s1 hv h1)
@[reducible] noncomputable def fNil:EM (List FV):=λΓ=>.ok ([],Γ)
@[reducible] noncomputable def fCons(fa:EM FV)(fl:EM (List FV)):EM (List FV):=λΓ=>(fa Γ).bind λ(u,Γ1)=>(fl Γ1).bind λ(us,Γ2)=>.ok (u::us,Γ2)
def zjB:SL X mp [] fNil:=λM0 F Γ ν σ H Q rs hs hp=>pa_nil.wp (hp F H rs (.refl _ _) [] .nil)
def zhb{fl:EM (List FV)}(ha:SE X mp a fa)(hl:SL X mp es fl)(hst:starEach (a::es) X.env=(false,eval a X.env)::starEach es X.env):SL X mp (a::es) (fCons fa fl):=λM0 F Γ ν σ H Q rs hs hp=>
 (zT zC Ze hst).wp (ha.run rs hs hp λF1 Γ1 H1 u v rs1 s1 o1 h1=>hl.run rs1 hs h1 λF2 Γ2 H2 us vs rs2 s2 o2 h2=>h2 F2 H2 rs2 (.refl _ _) _ (.cons (o1.stp s2 rs1.al0) o2))
def sz6{n:Nat}(h:n<=1000000):n<=sizeLine:=by have:=Xe;lia
@[reducible] noncomputable def fTup(fl:EM (List FV)):EM FV:=λΓ=>(fl Γ).bind λ(us,Γ1)=>R.get (derSs Γ1 us) λds=>if us.length<=1000000 then .ok (.dat (.tuple ds),Γ1) else .bad
@[reducible] noncomputable def fLst(fl:EM (List FV)):EM (Aa):=λΓ=>(fl Γ).bind λ(us,Γ1)=>R.get (derSs Γ1 us) λds=>if us.length<=1000000 then .ok (ds,Γ1) else .bad
def zju{fl:EM (List FV)}{x1}(h:SL X mp es fl):SE X mp (.Tuple es x1 pos) (fTup fl):=λM0 F Γ ν σ H Q rs hs hp=>
 (zev Ze).wp (h.run rs hs hp λF1 Γ1 H1 us vs rs1 s1 o1 h1=>by
  let⟨ds,e,h1⟩:=R.got id h1
  let⟨hz,h1⟩:=R.gif id h1
  exact⟨by rw[o1.length];exact sz6 hz,λp n=>h1 F1 _ (rs1.same (qd n)) (.same (qd n)) _ (Rep.tuple zH ((o1.strong rs1 e).grow (qd n).grow))⟩)
def zjF{fl:EM (List FV)}(h:SL X mp es fl):SN X mp (.List es pos) (fLst fl):=λM0 F Γ ν σ H Q rs hs hp=>
 (zeu Ze).wp (h.run rs hs hp λF1 Γ1 H1 us vs rs1 s1 o1 h1=>by
  let⟨ds,e,h1⟩:=R.got id h1
  let⟨hz,h1⟩:=R.gif id h1
  exact⟨by rw[o1.length];exact sz6 hz,λp n=>h1 F1 H1 rs1 (.refl _ _) vs p (o1.strong rs1 e) n⟩)
@[reducible] noncomputable def itemF(Γ:Gv)(u:FV)(i:Int):Option PyData:=match u with
 |.dat (.list xs)=>atI xs i
 |.dat (.tuple xs)=>atI xs i
 |.own k=>match Γ[k]? with
  |some (some (.l xs))=>match atI xs i with
   |some (.d x)=>some x
   |_=>none
  |some (@&(.list xs))=>atI xs i
  |_=>none
 |_=>none
def zfH{α:Type}{xs:List α}{i:Int}{x:α}(h:atI xs i=some x):∃ j,ixN xs.length i=some j/\xs[j]?=some x:=by
 unfold atI at h
 cases e:ixN xs.length i with
 |none=>rw[e]at h;cases h
 |some j=>rw[e]at h;exact⟨j,rfl,h⟩
def zh5{α:Type}{xs:List α}{i:Int}{x:α}{j:Nat}(h:ixN xs.length i=some j)(h2:xs[j]?=some x):atI xs i=some x:=by
 unfold atI;rw[h];exact h2
def FOk.item{M0:Ae}{F:Fp}{Γ:Gv}{ν:Nu}{H:Hp}{v:V}{u:FV}{i:Int}{x:PyData}{K:Ah}(h:FOk M0 F ν H v u)(rs:RS M0 F Γ ν H)(e:itemF Γ u i=some x) :
  ∃ l vs w,v=.ref l/\(SqL K H l vs∨SqT K H l vs)/\atI vs i=some w/\Rep (MM M0 F) H w x:=by
 unfold itemF at e
 split at e
 ·let⟨a,vs,rfl,e1,_,r⟩:=Rep.lst_inv h
  let⟨w,ew,rw'⟩:=VM r e
  exact⟨a,vs,w,rfl,.inl (SqL.of e1),ew,rw'⟩
 ·let⟨a,vs,rfl,e1,r⟩:=Rep.tup_inv h
  let⟨w,ew,rw'⟩:=VM r e
  exact⟨a,vs,w,rfl,.inr (SqT.of e1),ew,rw'⟩
 next k=>
  let h':=h
  split at e
  next q=>
   split at e
   next y eo=>
    cases e
    let⟨w,e1,r⟩:=rs.at' k _ q
    rw[h']at e1;cases e1
    generalize F k=A at r
    cases r with
    |l ea qa=>
     let⟨j,ej,exj⟩:=zfH eo
     let⟨w,ew,r⟩:=qa.get exj
     rw[<- qa.length]at ej
     exact⟨_,_,w,rfl,.inl (SqL.of ea),zh5 ej ew,r⟩
   ·cases e
  next q=>
   let⟨w,e1,r⟩:=rs.at' k _ q
   rw[h']at e1;cases e1
   generalize F k=A at r
   cases r with
   |d r=>
    let⟨a,vs,rfl,e1,_,r⟩:=Rep.lst_inv r
    let⟨w,ew,rw'⟩:=VM r e
    exact⟨a,vs,w,rfl,.inl (SqL.of e1),ew,rw'⟩
  ·cases e
 ·cases e
@[reducible] noncomputable def fIx(fa fb:EM FV):EM FV:=λΓ=>(fa Γ).bind λ(u,Γ1)=>(fb Γ1).bind λ(w,Γ2)=>match derf Γ2 w with
 |some (.int i)=>R.get (itemF Γ2 u i) λx=>.ok (.dat x,Γ2)
 |_=>.bad
def zkS(ha:SE X mp a fa)(hb:SE X mp b fb)(hx:wz b):SE X mp (.Subscript a b pos) (fIx fa fb):=λM0 F Γ ν σ H Q rs hs hp=>
 (zet (ix_list.or ziC) zC zC hx).wp (ha.run rs hs hp λF1 Γ1 H1 u v rs1 s1 o1 h1=>hb.run rs1 hs h1 λF2 Γ2 H2 w v2 rs2 s2 o2 h2=>by
  delta h2 i e1
  let⟨x,e2,h2⟩:=R.got id h2
  let⟨l,vs,z,rfl,hq,ez,rz⟩:=(o1.stp s2 rs1.al0).item rs2 e2
  cases o2.weak rs2 e1
  rcases hq with hq | hq
  ·erw[.inl ⟨l,vs,i,z,rfl,rfl,hq,ez,h2 F2 H2 rs2 (.refl _ _) z rz⟩]
  ·exact .inr ⟨l,vs,i,z,rfl,rfl,hq,ez,h2 F2 H2 rs2 (.refl _ _) z rz⟩)
def Q3{α:Type}(xs:List α)(lo hi:Option Int):List α:=(xs.drop (HT.sIx xs.length 0 lo)).take (HT.sIx xs.length xs.length hi-HT.sIx xs.length 0 lo)
def Yv(r:RepL M H vs ds)(lo hi:Option Int):RepL M H (Ju vs lo hi) (Q3 ds lo hi):=by
 unfold Ju Q3
 rw[r.length]
 erw[(r.drop _).take _]
def SOp(X:Cx)(mp:Ac)(e:Option Expr)(f:EM (Option Int)):Prop:=∃ t:TO,PO X e t/\∀(M0:Ae)(F:Fp)(Γ:Gv)(ν:Nu)(σ:St)(H:Hp)(Q:Option Int->Hp->Prop),RS M0 F Γ ν H->Sees mp ν σ ->
 EPost M0 F ν σ H (λF' Γ' H' b=>Q b H') (f Γ)->t σ H Q
@[reducible] noncomputable def zdN:EM (Option Int):=λΓ=>.ok (none,Γ)
@[reducible] noncomputable def y7(fa:EM FV):EM (Option Int):=λΓ=>(fa Γ).bind λ(u,Γ1)=>match derf Γ1 u with
 |some (.int i)=>.ok (some i,Γ1)
 |_=>.bad
def zhk:SOp X mp none zdN:=⟨_,yp,λM0 F Γ ν σ H Q rs hs hp=>hp F H rs (.refl _ _)⟩
def zaa(ha:SE X mp a fa):SOp X mp (some a) (y7 fa):=⟨_,yq zC,λM0 F Γ ν σ H Q rs hs hp=>ha.run rs hs hp λF1 Γ1 H1 u v rs1 s1 o1 h1=>by
 dsimp only at h1
 split at h1
 next i e1=>
  cases o1.weak rs1 e1
  exact⟨i,rfl,h1 F1 H1 rs1 (.refl _ _)⟩
 ·exact h1.elim⟩
@[reducible] noncomputable def zf3(fa:EM FV)(fl fh:EM (Option Int)):EM (Aa):=λΓ=>(fa Γ).bind λ(u,Γ1)=>(fl Γ1).bind λ(lo,Γ2)=>(fh Γ2).bind λ(hi,Γ3)=>R.get (derL Γ3 u) λds=>.ok (Q3 ds lo hi,Γ3)
def zjE{lo hi:Option Expr}(ha:SE X mp a fa)(hl:SOp X mp lo fl)(hh:SOp X mp hi fh):SN X mp (.Subscript a (.Slice lo hi none p2) pos) (zf3 fa fl fh):=by?
 let⟨tl,pl,kl⟩:=hl
 let⟨th,ph,kh⟩:=hh
 erw[(Ja yv zC pl ph).wp (ha.run rs hs hp λF1 Γ1 H1 u v rs1 s1 o1 h1=>?_)]
 erw[kl M0 F1 Γ1 ν σ H1 _ rs1 hs (h1.seq.mono λF2 Γ2 H2 lo rs2 s2 h2=>?_)]
 erw[kh M0 F2 Γ2 ν σ H2 _ rs2 hs (h2.seq.mono λF3 Γ3 H3 hi rs3 s3 h3=>?_)]
 let⟨ds,e,h3⟩:=R.got id h3
 let⟨l,vs,rfl,el,rl⟩:=((o1.stp s2 rs1.al0).stp s3 rs2.al0).list rs3 e
 exact⟨l,vs,rfl,SqL.of el,λp n=>h3 F3 H3 rs3 (.refl _ _) _ p (Yv rl lo hi) n⟩
@[reducible] noncomputable def zf2(fa fb:EM FV):EM (Aa):=λΓ=>(fa Γ).bind λ(u,Γ1)=>(fb Γ1).bind λ(w,Γ2)=>R.get (derL Γ2 u) λxs=>R.get (derL Γ2 w) λys=>if xs.length+ys.length<=1000000 then .ok (xs++ys,Γ2) else .bad
def zjD(ha:SE X mp a fa)(hb:SE X mp b fb):SN X mp (.BinOp a .Add b pos) (zf2 fa fb):=λM0 F Γ ν σ H Q rs hs hp=>
 (WR ziR zC zC).wp (ha.run rs hs hp λF1 Γ1 H1 u v rs1 s1 o1 h1=>hb.run rs1 hs h1 λF2 Γ2 H2 w v2 rs2 s2 o2 h2=>by
  let⟨xs,e1,h2⟩:=R.got id h2
  let⟨ys,e2,h2⟩:=R.got id h2
  let⟨hz,h2⟩:=R.gif id h2
  let⟨l,vs,rfl,el,rl⟩:=(o1.stp s2 rs1.al0).list rs2 e1
  let⟨l2,vs2,rfl,el2,rl2⟩:=o2.list rs2 e2
  exact⟨l,l2,vs,vs2,rfl,rfl,el,el2,by rw[rl.length,rl2.length];exact sz6 hz,λp n=>h2 F2 H2 rs2 (.refl _ _) _ p (rl.append rl2) n⟩)
structure BiK(X:Cx)(x:Str)(val:Aj):Prop where
 gl:Gl X x
 mg:X.mg x=none
 bt:bootBuiltins x=some val
 n:x≠ "__name__"
 d:(↥x)
def lenD:PyData->Option Nat
 |.list xs=>some xs.length
 |.tuple xs=>some xs.length
 |_=>none
@[reducible] noncomputable def f1(g:PyData->Option PyData)(fa:EM FV):EM FV:=λΓ=>(fa Γ).bind λ(u,Γ1)=>R.get (derf Γ1 u) λx=>R.get (g x) λy=>.ok (.dat y,Γ1)
def JO(X:Cx)(f:Aj)(g:PyData->Option PyData):Prop:=∀ x z,g x=some z->noL z=true/\∃ r,ji X f r/\∀(H:Hp)(v:V)(Q:VK),
 Rep qk H v x->(∀ w,Rep qk H w z->Q w H)->r [v] H Q
def yO(ho:JO X f g):ji X f (λvs H Q=>∃ v x z,vs= [v]/\g x=some z/\Rep qk H v x/\∀ w,Rep qk H w z->Q w H):=by
 rintro pins s σ H xs us Q I r ⟨v,x,z,rfl,e,rv,k⟩
 let⟨_,r',hr,hh⟩:=ho x z e
 erw[hr pins s σ H [v] us Q I r (hh H v Q rv k)]
def zdM{Q:VK}(hz:∀ x z,g x=some z->noL z=true)(ha:SE X mp a fa)(rs:RS M0 F Γ ν H)(hs:Sees mp ν σ)(hst:a⁻¹)
  (hp:EPost M0 F ν σ H (λF' Γ' H' u=>∀ v,FOk M0 F' ν H' v u->Q v H') (f1 g fa Γ)):wpA X [a] σ H λvs H1=>∃ v x z,vs= [v]/\g x=some z/\Rep qk H1 v x/\∀ w,Rep qk H1 w z->Q w H1 :=
 (zT zC pa_nil hst).wp (ha.run rs hs hp λF1 Γ1 H1 u v rs1 s1 o1 h1=>by
  let⟨x,ex,h1⟩:=R.got id h1
  let⟨y,ey,h1⟩:=R.got id h1
  exact⟨v,x,y,rfl,ey,o1.weak rs1 ex,λw rw'=>h1 F1 H1 rs1 (.refl _ _) w (Rep.free (hz x y ey) rw')⟩)
def K9{id:String}(ho:JO X (.builtin id) g)(B:BiK X x (.builtin id))(ha:SE X mp a fa)(hst:a⁻¹):SE X mp (.Call (.Name x p) [a] [] pos) (f1 g fa):=λM0 F Γ ν σ H Q rs hs hp=>
 (ZC (yO ho) B.gl B.mg B.bt Ze B.n B.d hst rfl).wp (zdM (λx z e=>(ho x z e).1) ha rs hs hst hp)
def zkU{id:String}(ho:JO X (.type id) g)(B:BiK X x (.type id))(ha:SE X mp a fa)(hst:a⁻¹):SE X mp (.Call (.Name x p) [a] [] pos) (f1 g fa):=λM0 F Γ ν σ H Q rs hs hp=>
 (js (yO ho) B.gl B.mg B.bt Ze B.n B.d hst rfl).wp (zdM (λx z e=>(ho x z e).1) ha rs hs hst hp)
def gLen(x:PyData):Option PyData:=(lenD x).map λn=>.int n
def zif:JO X (.builtin "len") gLen:=λx z e=>by
 cases x with
 |list xs=>cases e;exact⟨rfl,_,ZK,λH v Q r k=>by
   let⟨l,vs,rfl,el,_,rl⟩:=r.lst_inv
   exact⟨l,vs,rfl,.inl (SqL.of el),by rw[rl.length];exact k _ (.int _)⟩⟩
 |tuple xs=>cases e;exact⟨rfl,_,ZK,λH v Q r k=>by
   let⟨l,vs,rfl,el,rl⟩:=r.tup_inv
   exact⟨l,vs,rfl,.inr (SqT.of el),by rw[rl.length];exact k _ (.int _)⟩⟩
 |_=>cases e
def gInt:PyData->Option PyData
 |.int i=>some (.int i)
 |.bool b=>some (.int (if b then 1 else 0))
 |_=>none
def zie:JO X (.type "int") gInt:=λx z e=>by
 cases x with
 |int i=>cases e;exact⟨rfl,_,Vb,λH v Q r k=>by cases r;exact .inl ⟨i,rfl,k _ (.int _)⟩⟩
 |bool b=>cases e;exact⟨rfl,_,Vb,λH v Q r k=>by cases r;exact .inr ⟨b,rfl,k _ (.int _)⟩⟩
 |_=>cases e
def qi:Aa->Option (List Bool)
 |[]=>some []
 |.bool b::r=>(qi r).map (b::·)
 |_=>none
def jM(bs:List Bool):qi (bs.map .bool)=some bs:=by
 induction bs with
 |nil=>rfl
 |cons b r ih=>simp[qi,ih]
def QE:∀{ds:Aa}{bs:List Bool},qi ds=some bs->ds=bs.map .bool
 |[],bs,e=>by cases e;rfl
 |.bool b::r,bs,e=>by
  unfold qi at e
  cases q:qi r with
  |none=>rw[q]at e;cases e
  |some l=>rw[q]at e;cases e;rw[QE q];rfl
 |.none::r,bs,e=>by cases e
 |.int _::r,bs,e=>by cases e
 |.str _::r,bs,e=>by cases e
 |.list _::r,bs,e=>by cases e
 |.tuple _::r,bs,e=>by cases e
 |.dict _::r,bs,e=>by cases e
def gAll:PyData->Option PyData
 |.list xs=>(qi xs).map λbs=>.bool (bs.all id)
 |_=>none
def gAny:PyData->Option PyData
 |.list xs=>(qi xs).map λbs=>.bool (bs.any id)
 |_=>none
def zic (hc:X.calm=true):JO X (.builtin "all") gAll:=λx z e=>by
 cases x with
 |list xs=>
  dsimp only [gAll]at e
  cases q:qi xs with
  |none=>rw[q]at e;cases e
  |some bs=>
   rw[q]at e;cases e
   exact⟨rfl,_,zaw hc,λH v Q r k=>by
    let⟨l,vs,rfl,el,_,rl⟩:=r.lst_inv
    rw[QE q]at rl
    rw[rl.bls]at el
    exact⟨l,bs,rfl,SqL.of el,k _ (.bool _)⟩⟩
 |_=>cases e
def zid (hc:X.calm=true):JO X (.builtin "any") gAny:=λx z e=>by
 cases x with
 |list xs=>
  dsimp only [gAny]at e
  cases q:qi xs with
  |none=>rw[q]at e;cases e
  |some bs=>
   rw[q]at e;cases e
   exact⟨rfl,_,zax hc,λH v Q r k=>by
    let⟨l,vs,rfl,el,_,rl⟩:=r.lst_inv
    rw[QE q]at rl
    rw[rl.bls]at el
    exact⟨l,bs,rfl,SqL.of el,k _ (.bool _)⟩⟩
 |_=>cases e
def W6(Γ:Gv)(u:FV):Option (Aa):=match u with
 |.dat (.tuple xs)=>some xs
 |u=>derL Γ u
def FOk.seq{K:Ah}(h:FOk M0 F ν H v u)(rs:RS M0 F Γ ν H)(e:W6 Γ u=some ds) :
  ∃ l vs,v=.ref l/\(SqL K H l vs∨SqT K H l vs)/\RepL (MM M0 F) H vs ds:=by
 unfold W6 at e
 split at e
 ·cases e
  let⟨a,vs,rfl,e1,r⟩:=Rep.tup_inv h
  exact⟨a,vs,rfl,.inr (SqT.of e1),r⟩
 ·let⟨a,vs,rfl,e1,r⟩:=h.list rs e
  exact⟨a,vs,rfl,.inl (SqL.of e1),r⟩
@[reducible] noncomputable def fListC(fa:EM FV):EM (Aa):=λΓ=>(fa Γ).bind λ(u,Γ1)=>R.get (W6 Γ1 u) λds=>.ok (ds,Γ1)
def zhe (B:BiK X x (.type "list")) (ha:SE X mp a fa) (hst:a⁻¹):SN X mp (.Call (.Name x p) [a] [] pos) (fListC fa):=λM0 F Γ ν σ H Q rs hs hp=>
 (js Q0 B.gl B.mg B.bt (zT zC pa_nil hst) B.n B.d hst rfl).wp (ha.run rs hs hp λF1 Γ1 H1 u v rs1 s1 o1 h1=>by
  let⟨ds,e,h1⟩:=R.got id h1
  let⟨l,vs,rfl,hq,r⟩:=o1.seq rs1 e
  exact⟨l,vs,rfl,hq,λp n=>h1 F1 H1 rs1 (.refl _ _) vs p r n⟩)
@[reducible] noncomputable def fTupC(fa:EM FV):EM FV:=λΓ=>(fa Γ).bind λ(u,Γ1)=>R.get (derL Γ1 u) λds=>.ok (.dat (.tuple ds),Γ1)
def zeT (B:BiK X x (.type "tuple")) (ha:SE X mp a fa) (hst:a⁻¹):SE X mp (.Call (.Name x p) [a] [] pos) (fTupC fa):=λM0 F Γ ν σ H Q rs hs hp=>
 (js vp B.gl B.mg B.bt (zT zC pa_nil hst) B.n B.d hst rfl).wp (ha.run rs hs hp λF1 Γ1 H1 u v rs1 s1 o1 h1=>by
  let⟨ds,e,h1⟩:=R.got id h1
  let⟨l,vs,rfl,el,r⟩:=o1.list rs1 e
  exact⟨l,vs,rfl,.inl ⟨SqL.of el,λp n=>h1 F1 _ (rs1.same (qd n)) (.same (qd n)) _ (Rep.tuple zH (r.grow (qd n).grow))⟩⟩)
def isiB (a T:String):Option Bool:=if (T= "int" ∨T= "bool" ∨T= "list" ∨T= "tuple" ∨T= "str")/\¬ a= "dict" then some (a==T||(a== "bool" &&T== "int")) else none
def ziz{K:Ah}(h:isiB (tyD x) T=some k):PySem.W.kitOne K (.type (tyD x)) (.type T)=some k:=by
 unfold isiB at h
 split at h
 next hT=>
  cases h
  rcases hT.1 with rfl | rfl | rfl | rfl | rfl<;>cases x<;>kernel_rfl
 ·cases h
def ziy (h:isiB (tyD x) T=some k):tyD x≠ "dict" :=by
 unfold isiB at h
 split at h
 ·rename_i hT;exact hT.2
 ·cases h
@[reducible] noncomputable def fIsi(T:String)(fa:EM FV):EM FV:=λΓ=>(fa Γ).bind λ(u,Γ1)=>R.get (derf Γ1 u) λx=>R.get (isiB (tyD x) T) λk=>.ok (.dat (.bool k),Γ1)
def zjp (B:BiK X x (.builtin "isinstance")) (BT:BiK X y (.type T)) (ha:SE X mp a fa) (hst:starEach [a,.Name y p2] X.env=(false,eval a X.env)::starEach [.Name y p2] X.env) :
  SE X mp (.Call (.Name x p) [a,.Name y p2] [] pos) (fIsi T fa):=λM0 F Γ ν σ H Q rs hs hp=>
 (ZC zcO B.gl B.mg B.bt (zT zC (zT (zgv (v:=.ty T) BT.gl BT.mg BT.bt rfl BT.n BT.d) pa_nil rfl) hst) B.n B.d hst rfl).wp (ha.run rs hs hp λF1 Γ1 H1 u v rs1 s1 o1 h1=>by
  let⟨z,ex,h1⟩:=R.got id h1
  let⟨k,ek,h1⟩:=R.got id h1
  exact⟨v,T,_,k,rfl,(o1.weak rs1 ex).ty (ziy ek),ziz ek,h1 F1 H1 rs1 (.refl _ _) _ (Rep.bool k)⟩)
@[reducible] noncomputable def f2(g:PyData->PyData->Option PyData)(fa fb:EM FV):EM FV:=λΓ=>(fa Γ).bind λ(u,Γ1)=>(fb Γ1).bind λ(w,Γ2)=>R.get (derf Γ2 u) λx=>R.get (derf Γ2 w) λy=>R.get (g x y) λz=>.ok (.dat z,Γ2)
def gMin:PyData->PyData->Option PyData
 |.int i,.int j=>some (.int (if j<i then j else i))
 |_,_=>none
def gMax:PyData->PyData->Option PyData
 |.int i,.int j=>some (.int (if j>i then j else i))
 |_,_=>none
def zdT(h:gMin x y=some z):∃ i j,x=.int i/\y=.int j/\z=.int (if j<i then j else i):=by
 cases x<;>cases y<;>cases h
 exact⟨_,_,rfl,rfl,rfl⟩
def zdS(h:gMax x y=some z):∃ i j,x=.int i/\y=.int j/\z=.int (if j>i then j else i):=by
 cases x<;>cases y<;>cases h
 exact⟨_,_,rfl,rfl,rfl⟩
def zg3 (hc:X.calm=true) (B:BiK X x (.builtin "min")) (ha:SE X mp a fa) (hb:SE X mp b fb) (hst:starEach [a,b] X.env=(false,eval a X.env)::starEach [b] X.env) (hst2:b⁻¹) :
  SE X mp (.Call (.Name x p) [a,b] [] pos) (f2 gMin fa fb):=λM0 F Γ ν σ H Q rs hs hp=>
 (ZC (zaA hc) B.gl B.mg B.bt (zT zC (zT zC pa_nil hst2) hst) B.n B.d hst (by rw[hst2];rfl)).wp (ha.run rs hs hp λF1 Γ1 H1 u v rs1 s1 o1 h1=>hb.run rs1 hs h1 λF2 Γ2 H2 w v2 rs2 s2 o2 h2=>by
  let⟨x,e1,h2⟩:=R.got id h2
  let⟨y,e2,h2⟩:=R.got id h2
  let⟨z,e3,h2⟩:=R.got id h2
  let⟨i,j,rfl,rfl,rfl⟩:=zdT e3
  cases (o1.stp s2 rs1.al0).weak rs2 e1
  cases o2.weak rs2 e2
  exact⟨i,j,rfl,h2 F2 H2 rs2 (.refl _ _) _ (Rep.int _)⟩)
def zg2 (hc:X.calm=true) (B:BiK X x (.builtin "max")) (ha:SE X mp a fa) (hb:SE X mp b fb) (hst:starEach [a,b] X.env=(false,eval a X.env)::starEach [b] X.env) (hst2:b⁻¹) :
  SE X mp (.Call (.Name x p) [a,b] [] pos) (f2 gMax fa fb):=λM0 F Γ ν σ H Q rs hs hp=>
 (ZC (zaz hc) B.gl B.mg B.bt (zT zC (zT zC pa_nil hst2) hst) B.n B.d hst (by rw[hst2];rfl)).wp (ha.run rs hs hp λF1 Γ1 H1 u v rs1 s1 o1 h1=>hb.run rs1 hs h1 λF2 Γ2 H2 w v2 rs2 s2 o2 h2=>by
  let⟨x,e1,h2⟩:=R.got id h2
  let⟨y,e2,h2⟩:=R.got id h2
  let⟨z,e3,h2⟩:=R.got id h2
  let⟨i,j,rfl,rfl,rfl⟩:=zdS e3
  cases (o1.stp s2 rs1.al0).weak rs2 e1
  cases o2.weak rs2 e2
  exact⟨i,j,rfl,h2 F2 H2 rs2 (.refl _ _) _ (Rep.int _)⟩)
def gNeg:PyData->Option PyData
 |.int i=>some (.int (-i))
 |_=>none
def zjq(ha:SE X mp a fa):SE X mp (.UnaryOp .USub a pos) (f1 gNeg fa):=λM0 F Γ ν σ H Q rs hs hp=>
 (zew zfk zC).wp (ha.run rs hs hp λF1 Γ1 H1 u v rs1 s1 o1 h1=>by
  let⟨x,ex,h1⟩:=R.got id h1
  let⟨y,ey,h1⟩:=R.got id h1
  cases x with
  |int i=>
   cases ey
   cases o1.weak rs1 ex
   exact⟨i,rfl,h1 F1 H1 rs1 (.refl _ _) _ (Rep.int _)⟩
  |_=>cases ey)
open Classical in
def binD(op:Operator)(x y:PyData):Option PyData:=match op with
 |.Add=>match x,y with
  |.int i,.int j=>some (.int (i+j))
  |.tuple a,.tuple b=>if a.length+b.length<=1000000 then some (.tuple (a++b)) else none
  |_,_=>none
 |.Sub=>match x,y with
  |.int i,.int j=>some (.int (i-j))
  |_,_=>none
 |.Mult=>match x,y with
  |.int i,.int j=>if (-(2 ^ 64)<i/\i<2 ^ 64)∨(-(2 ^ 64)<j/\j<2 ^ 64) then some (.int (i*j)) else none
  |.tuple a,.int n=>if 0<=n/\n<1000000/\a.length*n.toNat<=1000000 then some (.tuple (List.replicate n.toNat a).flatten) else none
  |_,_=>none
 |.Mod=>match x,y with
  |.int i,.int j=>if 0<j then some (.int (i % j)) else none
  |_,_=>none
 |.FloorDiv=>match x,y with
  |.int i,.int j=>if 0<j/\j<1073741824 then some (.int (i / j)) else none
  |_,_=>none
 |.Pow=>match x,y with
  |.int i,.int j=>if 0<=j/\j<=1000000/\i.natAbs<2 ^ 64 then some (.int (i ^ j.toNat)) else none
  |_,_=>none
 |.LShift=>match x,y with
  |.int i,.int j=>if 0<=j/\j<=1000000/\i.natAbs<2 ^ 64 then some (.int (i*2 ^ j.toNat)) else none
  |_,_=>none
 |.RShift=>match x,y with
  |.int i,.int j=>if 0<=j then some (.int (i / 2 ^ j.toNat)) else none
  |_,_=>none
 |.BitAnd=>match x,y with
  |.int i,.int j=>some (.int (Builtin.bitAnd i j))
  |_,_=>none
 |_=>none
def QK{x y z:PyData}{f:Int->Int->Option PyData}(e:(match x,y with
  |.int i,.int j=>f i j
  |_,_=>none)=some z):∃ i j,x=.int i/\y=.int j/\f i j=some z:=by
 split at e
 ·exact⟨_,_,rfl,rfl,e⟩
 ·cases e
def jo{α:Type}{c:Prop}{_:Decidable c}{x z:α}(e:(if c then some x else none)=some z):c/\x=z:=by
 split at e
 ·exact⟨‹_›,Option.some.inj e⟩
 ·cases e
def zgb{op:Operator}{x y z:PyData}{i j k:Int}{C:Int->Int->Prop}{f:Int->Int->Int}(hc:C i j)(ho:OpR X (binaryOp op) (rI C λi j=>.int (f i j))) :
  ∃ r:R2,OpR X (binaryOp op) r/\∀(M:Ae)(H:Hp)(v u:V)(Q:VK),Al M H->Rep M H v (.int i)->Rep M H u (.int j)->(∀ w H',Same H H'->Rep M H' w (.int (f i j))->Q w H')->r v u H Q :=
 ⟨_,ho,λM H v u Q _ r1 r2 k=>by cases r1;cases r2;exact⟨i,j,rfl,rfl,hc,k _ H (Same.refl H) (.int _)⟩⟩
def WC{op:Operator}{i j:Int}{f:Int->Int->Int}(ho:OpR X (binaryOp op) (rI0 λi j=>.int (f i j))) :
  ∃ r:R2,OpR X (binaryOp op) r/\∀(M:Ae)(H:Hp)(v u:V)(Q:VK),Al M H->Rep M H v (.int i)->Rep M H u (.int j)->(∀ w H',Same H H'->Rep M H' w (.int (f i j))->Q w H')->r v u H Q :=
 ⟨_,ho,λM H v u Q _ r1 r2 k=>by cases r1;cases r2;exact⟨i,j,rfl,rfl,k _ H (Same.refl H) (.int _)⟩⟩
def zh8(op:Operator):OpS X (binaryOp op) (binD op):=λx y z e=>by
 let ii:∀{f:Int->Int->Int}{C:Int->Int->Prop}(_:OpR X (binaryOp op) (rI C λi j=>.int (f i j))),(∃ i j,x=.int i/\y=.int j/\C i j/\PyData.int (f i j)=z)->∃ r:R2,OpR X (binaryOp op) r/\∀(M:Ae)(H:Hp)(v u:V)(Q:VK),Al M H->Rep M H v x->Rep M H u y->(∀ w H',Same H H'->Rep M H' w z->Q w H')->r v u H Q:=λho ⟨i,j,e1,e2,h,e3⟩=>by
  subst e1 e2 e3
  erw[zgb (x:=.none) (y:=.none) (z:=.none) (k:=0) h ho]
 cases op with
 |Add=>
  dsimp only [binD]at e
  split at e
  ·cases e;exact WC Kc
  ·let⟨h,rfl⟩:=jo e
   exact⟨_,zeg,λM H v u Q _ q1 q2 k=>by
    let⟨l,vs,rfl,e,r⟩:=q1.tup_inv
    let⟨l2,vs2,rfl,e2,r2⟩:=q2.tup_inv
    refine⟨l,l2,vs,vs2,rfl,rfl,SqT.of e,SqT.of e2,by rw[r.length,r2.length];exact sz6 h,λz=>k _ H (Same.refl H) ?_,λz=>k _ H (Same.refl H) ?_,λp np=>k _ _ (qd np) (.tuple zH ((r.append r2).grow (qd np).grow))⟩
    ·subst z
     cases r
     erw[q2]
    ·subst z
     cases r2
     rw[xU];exact q1⟩
  ·cases e
 |Sub=>
  let⟨i,j,rfl,rfl,e⟩:=QK e
  cases e;exact WC ziY
 |Mult=>
  dsimp only [binD]at e
  split at e
  ·erw[ii zej ⟨_,_,rfl,rfl,(jo e :)⟩]
  next n=>
   let⟨h,rfl⟩:=jo e
   exact⟨_,zgu,λM H v u Q _ q1 q2 k=>by
    let⟨l,vs,rfl,e,r⟩:=q1.tup_inv
    cases q2
    refine⟨l,_,vs,rfl,rfl,SqT.of e,by lia,by lia,by rw[r.length];exact sz6 h.2.2,λhs=>k _ H (Same.refl H) ?_,λp np=>k _ _ (qd np) (.tuple zH ((r.rep _).grow (qd np).grow))⟩
    rcases hs with z | z
    ·subst z
     cases r
     have:(List.replicate n.toNat ([]:Aa)).flatten= []:=by simp
     rw[this];exact q1
    ·subst z
     let key:∀ l:Aa,(List.replicate (1:Int).toNat l).flatten=l:=λl=>by simp
     rw[key];exact q1⟩
  ·cases e
 |Mod=>exact ii zei (let ⟨i,j,a,b,e⟩:=QK e;⟨i,j,a,b,(jo e :)⟩)
 |FloorDiv=>exact ii zgr (let ⟨i,j,a,b,e⟩:=QK e;⟨i,j,a,b,(jo e :)⟩)
 |Pow=>exact ii ziU (let ⟨i,j,a,b,e⟩:=QK e;⟨i,j,a,b,(jo e :)⟩)
 |LShift=>exact ii ziV (let ⟨i,j,a,b,e⟩:=QK e;⟨i,j,a,b,(jo e :)⟩)
 |RShift=>exact ii ziW (let ⟨i,j,a,b,e⟩:=QK e;⟨i,j,a,b,(jo e :)⟩)
 |BitAnd=>
  let⟨i,j,rfl,rfl,e⟩:=QK e
  cases e;exact WC ziQ
 |_=>cases e
def lay:Nat->PyData->Bool
 |_,.none=>true
 |_,.bool _=>true
 |_,.int _=>true
 |_,.str x=>PyData.strOk x
 |n+1,.list xs=>xs.all (lay n)
 |n+1,.tuple xs=>xs.all (lay n)
 |_,_=>false
def ZN(ih:∀ d,lay n d=true->d.canLay0=true/\d.depth<=n):∀ xs:Aa,xs.all (lay n)=true->PyData.canLayAll0 xs=true/\PyData.depthAll xs<=n
 |[],_=>⟨rfl,ub _⟩
 |x::r,h=>by
  rw[xX,xh]at h
  let⟨a,b⟩:=ih x h.1
  let⟨c,d⟩:=ZN ih r h.2
  exact⟨by simp[PyData.canLayAll0,a,c],by simp only[PyData.depthAll];lia⟩
def q8:∀(n:Nat)(d:PyData),lay n d=true->d.canLay0=true/\d.depth<=n
 |n,.none,_=>⟨rfl,ub _⟩
 |n,.bool _,_=>⟨rfl,ub _⟩
 |n,.int _,_=>⟨rfl,ub _⟩
 |n,.str _,h=>⟨by simpa [PyData.canLay0,lay] using h,ub _⟩
 |n+1,.list xs,h=>by
  let⟨a,b⟩:=ZN (q8 n) xs (by simpa [lay] using h)
  exact⟨by simpa [PyData.canLay0] using a,by simp only[PyData.depth];lia⟩
 |n+1,.tuple xs,h=>by
  let⟨a,b⟩:=ZN (q8 n) xs (by simpa [lay] using h)
  exact⟨by simpa [PyData.canLay0] using a,by simp only[PyData.depth];lia⟩
 |0,.list _,h=>by simp[lay]at h
 |0,.tuple _,h=>by simp[lay]at h
 |0,.dict _,h=>by simp[lay]at h
 |n+1,.dict _,h=>by simp[lay]at h
def isN:PyData->Bool
 |.none=>true
 |_=>false
def inD(x:PyData)(ys:Aa):Bool:=ys.any λy=>PyData.eqv y x
def cmpD(op:CmpOp)(x y:PyData):Option Bool:=match op with
 |.Eq=>if lay 20 x&&lay 20 y then some (PyData.eqv x y) else none
 |.NotEq=>if lay 20 x&&lay 20 y then some (!PyData.eqv x y) else none
 |.Lt=>match x,y with
  |.int i,.int j=>some (decide (i<j))
  |_,_=>none
 |.LtE=>match x,y with
  |.int i,.int j=>some (decide (i<=j))
  |_,_=>none
 |.Gt=>match x,y with
  |.int i,.int j=>some (decide (j<i))
  |_,_=>none
 |.GtE=>match x,y with
  |.int i,.int j=>some (decide (j<=i))
  |_,_=>none
 |.In=>match y with
  |.list ys=>if lay 20 x&&ys.all (lay 20) then some (inD x ys) else none
  |.tuple ys=>if lay 20 x&&ys.all (lay 20) then some (inD x ys) else none
  |_=>none
 |.NotIn=>match y with
  |.list ys=>if lay 20 x&&ys.all (lay 20) then some (!inD x ys) else none
  |.tuple ys=>if lay 20 x&&ys.all (lay 20) then some (!inD x ys) else none
  |_=>none
 |.Is=>match y with
  |.none=>some (isN x)
  |_=>none
 |.IsNot=>match y with
  |.none=>some (!isN x)
  |_=>none
end
section
variable {X:Cx}
open Classical in
/-- is the value w equal to the data? -/
noncomputable def eqW(h:Heap)(dx:PyData)(w:Aj):Bool:=if ∃ d as,Reads h w d as/\d.canLay0=true/\PyData.eqv d dx=true then true else false
def zdL(r:Reads h w d as)(hl:d.canLay0=true):eqW h dx w=PyData.eqv d dx:=by
 unfold eqW
 cases e:PyData.eqv d dx with
 |true=>rw[if_pos ⟨d,as,r,hl,e⟩]
 |false=>
  rw[if_neg]
  rintro⟨d',as',r',hl',e'⟩
  have:=SeqAt.Reads.unique d d' w as as' hl r r'
  rw[<- this,e]at e';cases e'
def QZ:∀{us:An}{ys:Aa}{as:List Ap},ReadsAll h us ys as->ys.all (lay 20)=true->us.any (eqW h dx)=inD dx ys
 |_,_,_,.nil,_=>rfl
 |_,_,_,.cons r t,hl=>by
  rw[xX,xh]at hl
  unfold inD
  rw[xQ,xQ,zdL r (q8 20 _ hl.1).1,QZ t hl.2];rfl
def Q6(rx:Reads s.heap v dx bs)(hx:lay 20 dx=true)(hu:∀ n,n<=60->A.units+n<cLine):∀{us:An}{ys:Aa}{as:List Ap},ReadsAll s.heap us ys as->ys.all (lay 20)=true->∀ u∈us,SeqAt.EqAt A s u v (eqW s.heap dx u)
 |_,_,_,.nil,_=>λu hu=>by cases hu
 |_,_,_,.cons r t,hl=>λu' hu'=>by
  rw[xX,xh]at hl
  rcases xw.mp hu' with rfl | hu'
  ·rw[zdL r (q8 20 _ hl.1).1]
   let h1:=q8 20 _ hl.1
   let h2:=q8 20 _ hx
   exact SeqAt.eqAt_reads _ _ _ _ _ _ _ _ r rx h1.1 h2.1 (hu _ (xH (Nat.min_le_left _ _) (by lia)))
  ·erw[Q6 rx hx hu t hl.2 u' hu']
def zkG(K:Ah)(neg:Bool):R2:=λx y H Q=>∃ M M' dx ys p vs,Rep M H x dx/\y=.ref p/\(SqL K H p vs∨SqT K H p vs)/\RepL M' H vs ys/\lay 20 dx=true/\ys.all (lay 20)=true/\Q (.bl (if neg then !inD dx ys else inD dx ys)) H
def zeh(hr:Room 1 X.A):OpR X (compareOp .In) (zkG X.K false):=by
 intro pins s σ H x y v u Q I rx ry h
 let⟨M,M',dx,ys,p,vs,r1,rfl,hq,r2,l1,l2,q⟩:=h
 cases ry
 let⟨bs,z1⟩:=r1.reads I.hok (q8 20 _ l1).1 rx
 let hu:=(hr.in1).u60
 rcases hq with hq | hq
 ·let⟨its,r,pl,hz⟩:=I.list hq
  let⟨as,z2⟩:=r2.reads I.hok (ZN (q8 20) _ l2).1 r
  refine SeqAt.in_listAt (eqW s.heap dx) pl.isList (λw hw=>Q6 z1 l1 hu z2 l2 w (by simpa using hw)) ⟨.bl _,H,I,rfl,?_⟩
  rw[show its.toArray.any (eqW s.heap dx)=its.any (eqW s.heap dx) by simp,QZ z2 l2]
  erw[q]
 ·let⟨its,r,pl,hz⟩:=I.tuple hq
  let⟨as,z2⟩:=r2.reads I.hok (ZN (q8 20) _ l2).1 r
  refine SeqAt.in_tupleAt (eqW s.heap dx) pl (λw hw=>Q6 z1 l1 hu z2 l2 w (by simpa using hw)) ⟨.bl _,H,I,rfl,?_⟩
  rw[show its.toArray.any (eqW s.heap dx)=its.any (eqW s.heap dx) by simp,QZ z2 l2]
  erw[q]
def Vu(hr:Room 1 X.A):OpR X (compareOp .NotIn) (zkG X.K true):=by
 intro pins s σ H x y v u Q I rx ry h
 let⟨M,M',dx,ys,p,vs,r1,rfl,hq,r2,l1,l2,q⟩:=h
 cases ry
 let⟨bs,z1⟩:=r1.reads I.hok (q8 20 _ l1).1 rx
 let hu:=(hr.in1).u60
 rcases hq with hq | hq
 ·let⟨its,r,pl,hz⟩:=I.list hq
  let⟨as,z2⟩:=r2.reads I.hok (ZN (q8 20) _ l2).1 r
  refine SeqAt.notIn_listAt (eqW s.heap dx) pl.isList (λw hw=>Q6 z1 l1 hu z2 l2 w (by simpa using hw)) ⟨.bl _,H,I,rfl,?_⟩
  rw[show its.toArray.any (eqW s.heap dx)=its.any (eqW s.heap dx) by simp,QZ z2 l2]
  erw[q]
 ·let⟨its,r,pl,hz⟩:=I.tuple hq
  let⟨as,z2⟩:=r2.reads I.hok (ZN (q8 20) _ l2).1 r
  refine SeqAt.notIn_tupleAt (eqW s.heap dx) pl (λw hw=>Q6 z1 l1 hu z2 l2 w (by simpa using hw)) ⟨.bl _,H,I,rfl,?_⟩
  rw[show its.toArray.any (eqW s.heap dx)=its.any (eqW s.heap dx) by simp,QZ z2 l2]
  erw[q]
def W3(r:Rep M H v x):decide (v=.non)=isN x:=by
 cases r<;>rfl
def Jt(hr:Room 1 X.A)(op:CmpOp):wK X op (cmpD op):=λx y z e=>by
 let h60:=hr.u60
 let ly:∀{w},(if lay 20 x&&lay 20 y then some w else none)=some z->x.canLay0=true/\y.canLay0=true/\min x.depth y.depth<=60/\w=z:=λe=>by
  let⟨h,e⟩:=jo e
  rw[xh]at h
  let h1:=q8 20 _ h.1
  exact⟨h1.1,(q8 20 _ h.2).1,xH (Nat.min_le_left _ _) (by lia),e⟩
 cases op with
 |Eq=>
  let⟨h1,h2,h3,rfl⟩:=ly e
  exact⟨_,zbO h60,λH v u Q r1 r2 k=>⟨_,_,_,_,r1,r2,h1,h2,h3,k⟩⟩
 |NotEq=>
  let⟨h1,h2,h3,rfl⟩:=ly e
  exact⟨_,zbP h60,λH v u Q r1 r2 k=>⟨_,_,_,_,r1,r2,h1,h2,h3,k⟩⟩
 |Lt=>
  dsimp only [cmpD]at e
  split at e
  ·cases e;exact⟨_,zkx,λH v u Q r1 r2 k=>by cases r1;cases r2;exact⟨_,_,rfl,rfl,k⟩⟩
  ·cases e
 |LtE=>
  dsimp only [cmpD]at e
  split at e
  ·cases e;exact⟨_,zkw,λH v u Q r1 r2 k=>by cases r1;cases r2;exact⟨_,_,rfl,rfl,k⟩⟩
  ·cases e
 |Gt=>
  dsimp only [cmpD]at e
  split at e
  ·cases e;exact⟨_,zkv,λH v u Q r1 r2 k=>by cases r1;cases r2;exact⟨_,_,rfl,rfl,k⟩⟩
  ·cases e
 |GtE=>
  dsimp only [cmpD]at e
  split at e
  ·cases e;exact⟨_,zku,λH v u Q r1 r2 k=>by cases r1;cases r2;exact⟨_,_,rfl,rfl,k⟩⟩
  ·cases e
 |In=>
  dsimp only [cmpD]at e
  split at e
  ·let⟨h,rfl⟩:=jo e
   rw[xh]at h
   exact⟨_,zeh hr,λH v u Q r1 r2 k=>by
    let⟨l,vs,rfl,el,_,rl⟩:=r2.lst_inv
    exact⟨_,_,_,_,l,vs,r1,rfl,.inl (SqL.of el),rl,h.1,h.2,k⟩⟩
  ·let⟨h,rfl⟩:=jo e
   rw[xh]at h
   exact⟨_,zeh hr,λH v u Q r1 r2 k=>by
    let⟨l,vs,rfl,el,rl⟩:=r2.tup_inv
    exact⟨_,_,_,_,l,vs,r1,rfl,.inr (SqT.of el),rl,h.1,h.2,k⟩⟩
  ·cases e
 |NotIn=>
  dsimp only [cmpD]at e
  split at e
  ·let⟨h,rfl⟩:=jo e
   rw[xh]at h
   exact⟨_,Vu hr,λH v u Q r1 r2 k=>by
    let⟨l,vs,rfl,el,_,rl⟩:=r2.lst_inv
    exact⟨_,_,_,_,l,vs,r1,rfl,.inl (SqL.of el),rl,h.1,h.2,k⟩⟩
  ·let⟨h,rfl⟩:=jo e
   rw[xh]at h
   exact⟨_,Vu hr,λH v u Q r1 r2 k=>by
    let⟨l,vs,rfl,el,rl⟩:=r2.tup_inv
    exact⟨_,_,_,_,l,vs,r1,rfl,.inr (SqT.of el),rl,h.1,h.2,k⟩⟩
  ·cases e
 |Is=>
  dsimp only [cmpD]at e
  split at e
  ·cases e
   exact⟨_,ziT,λH v u Q r1 r2 k=>by cases r2;exact⟨rfl,by rw[W3 r1];exact k⟩⟩
  ·cases e
 |IsNot=>
  dsimp only [cmpD]at e
  split at e
  ·cases e
   exact⟨_,zgt,λH v u Q r1 r2 k=>by
    cases r2
    refine⟨rfl,?_⟩
    rw[W3 r1];exact k⟩
  ·cases e
end
mutual
inductive IT where
 |nm (s i:Nat)
 |tp (ts:ITs)
inductive ITs where
 |nil
 |cons (t:IT) (ts:ITs)
end
mutual
/-- what a store makes of the frame -/
noncomputable def tgF:IT->PyData->Gv->Option Gv
 |.nm _ i,x,Γ=>if i<Γ.length then some (Γ.set i (@&x)) else none
 |.tp ts,.tuple xs,Γ=>tgFs ts xs Γ
 |.tp ts,.list xs,Γ=>tgFs ts xs Γ
 |_,_,_=>none
noncomputable def tgFs:ITs->Aa->Gv->Option Gv
 |.nil,[],Γ=>some Γ
 |.cons t ts,x::xs,Γ=>(tgF t x Γ).bind λΓ=>tgFs ts xs Γ
 |_,_,_=>none
end
def ITs.len:ITs->Nat
 |.nil=>0
 |.cons _ ts=>ts.len+1
def vf:∀{ts:ITs}{ds:Aa}{Γ Γ':Gv},tgFs ts ds Γ=some Γ'->ds.length=ts.len
 |.nil,[],_,_,_=>rfl
 |.nil,_::_,_,_,e=>by simp[tgFs]at e
 |.cons t ts,[],_,_,e=>by simp[tgFs]at e
 |.cons t ts,d::ds,Γ,Γ',e=>by
  rw[tgFs]at e
  cases q:tgF t d Γ with
  |none=>rw[q]at e;cases e
  |some Γ1=>rw[q]at e;rw[xq,vf e];rfl
def Kq(t:IT):∀(d:PyData)(Γ Γ':Gv),tgF t d Γ=some Γ'->Γ'.length=Γ.length:=by
 erw[IT.rec (motive_1:=λt=>∀(d:PyData)(Γ Γ':Gv),tgF t d Γ=some Γ'->Γ'.length=Γ.length) (motive_2:=λts=>∀(ds:Aa)(Γ Γ':Gv),tgFs ts ds Γ=some Γ'->Γ'.length=Γ.length) ?_ ?_ ?_ ?_ t]
 ·intro s i d Γ Γ' e
  rw[tgF]at e
  split at e
  ·cases e;simp
  ·cases e
 ·intro ts ih d Γ Γ' e
  cases d with
  |tuple xs=>rw[tgF]at e;exact ih _ _ _ e
  |list xs=>rw[tgF]at e;exact ih _ _ _ e
  |_=>simp[tgF]at e
 ·intro ds Γ Γ' e
  cases ds with
  |nil=>simp[tgFs]at e;rw[e]
  |cons=>simp[tgFs]at e
 ·intro t ts ih1 ih2 ds Γ Γ' e
  cases ds with
  |nil=>simp[tgFs]at e
  |cons d ds=>
   rw[tgFs]at e
   cases q:tgF t d Γ with
   |none=>rw[q]at e;cases e
   |some Γ1=>rw[q]at e;rw[ih2 _ _ _ e,ih1 _ _ _ q]
def SG(X:Cx)(mp:Ac)(kp:Nat->Prop)(tg:Expr)(t:IT):Prop:=∀(M0:Ae)(F:Fp)(Γ Γ':Gv)(ν:Nu)(σ:St)(H:Hp)(v:V)(d:PyData)(Q:St->Hp->Prop),RS M0 F Γ ν H->Sees mp ν σ->σ.length=X.N.length->Rep (MM M0 F) H v d ->
 tgF t d Γ=some Γ'->(∀ F' ν' σ',RS M0 F' Γ' ν' H->Stp F H F' H->Sees mp ν' σ'->σ'.length=X.N.length->(∀ i:Nat,kp i->ν'[i]?=ν[i]?)->(∀ s i:Nat,mp[s]?=some i->kp i->σ'[s]?=σ[s]?)->Q σ' H)->wpG X tg v σ H Q
def SGs(X:Cx)(mp:Ac)(kp:Nat->Prop)(tgs:Ag)(ts:ITs):Prop:=∀(M0:Ae)(F:Fp)(Γ Γ':Gv)(ν:Nu)(σ:St)(H:Hp)(vs:List V)(ds:Aa)(Q:St->Hp->Prop),RS M0 F Γ ν H->Sees mp ν σ->σ.length=X.N.length->RepL (MM M0 F) H vs ds ->
 tgFs ts ds Γ=some Γ'->(∀ F' ν' σ',RS M0 F' Γ' ν' H->Stp F H F' H->Sees mp ν' σ'->σ'.length=X.N.length->(∀ i:Nat,kp i->ν'[i]?=ν[i]?)->(∀ s i:Nat,mp[s]?=some i->kp i->σ'[s]?=σ[s]?)->Q σ' H)->zjY X tgs vs σ H Q
section
variable {X:Cx}{mp:Ac}{kp:Nat->Prop}{tg:Expr}{tgs:Ag}{t:IT}{ts:ITs}{pos:Pos}
def Sees.set(h:Sees mp ν σ)(hn:mp.Nodup)(hm:mp[s]?=some i)(hs:s<σ.length):Sees mp (ν.set i (some v)) (σ.set s (some v)):=λs' j w e1 e2=>by
 by_cases hj:i=j
 ·subst hj
  have:s'=s:=by
   let h1:=(xa.mp e1).1
   let h2:=(xa.mp hm).1
   exact (List.getElem?_inj h1 hn).mp (by rw[e1,hm])
  subst this
  rw[xk hs]
  by_cases hl:i<ν.length
  ·rw[xk hl]at e2;rw[e2]
  ·rw[xD (by simpa using hl)]at e2;cases e2
 ·rw[xi hj]at e2
  have:s'≠s:=λz=>hj (by subst z;rw[hm]at e1;exact Option.some.inj e1)
  rw[xi (Ne.symm this)]
  erw[h s' j w e1 e2]
def zg6(hN:X.N.Nodup)(hn:mp.Nodup)(hi:X.N[s]?=some x)(hm:mp[s]?=some i)(hlo:¬ kp i)(hx:Loc X.env.scope x)(hf:X.fn x=true∨X.env.scope.names.lookup x=some .local):SG X mp kp (.Name x pos) (.nm s i) :=
 λM0 F Γ Γ' ν σ H v d Q rs hs hl r e k=>by
  rw[tgF]at e
  split at e
  next hi'=>
   cases e
   let hsl:s<σ.length:=by rw[hl];exact (xa.mp hi).1
   let⟨F',rs',s'⟩:=rs.setD r hi'
   refine (K4 hN hi hx hf).wp (k F' _ _ rs' s' (hs.set hn hm hsl) (by simpa using hl) (λj hj=>?_) (λs2 j e2 hj=>?_))
   ·rw[xi (λz=>hlo (by rw[z];exact hj))]
   ·rw[xi]
    intro z
    subst z
    rw[hm]at e2
    cases e2
    erw[hlo hj]
  ·cases e
def zg7:SGs X mp kp [] .nil:=λM0 F Γ Γ' ν σ H vs ds Q rs hs hl r e k=>by
 cases r with
 |nil=>
  simp[tgFs]at e
  subst e
  erw[pgs_nil.wp ⟨rfl,k F ν σ rs (.refl _ _) hs hl (λ_ _=>rfl) (λ_ _ _ _=>rfl)⟩]
 |cons r rr=>simp[tgFs]at e
def zeW(h1:SG X mp kp tg t)(h2:SGs X mp kp tgs ts)(hst:(assignEach (tg::tgs) X.env).map (·.2)=assign tg X.env::(assignEach tgs X.env).map (·.2)):SGs X mp kp (tg::tgs) (.cons t ts):=λM0 F Γ Γ' ν σ H vs ds Q rs hs hl r e k=>by
 cases r with
 |nil=>simp[tgFs]at e
 |cons r rr=>
  rename_i v vs d ds
  rw[tgFs]at e
  cases e1:tgF t d Γ with
  |none=>rw[e1]at e;cases e
  |some Γ1=>
   rw[e1]at e
   erw[(zez ym WS hst).wp ⟨v,vs,rfl,h1 M0 F Γ Γ1 ν σ H v d _ rs hs hl r e1 λF1 ν1 σ1 rs1 s1 hs1 hl1 n1 m1=>?_⟩]
   erw[h2 M0 F1 Γ1 Γ' ν1 σ1 H vs ds _ rs1 hs1 hl1 (W0 s1 rs.al0 rr) e λF2 ν2 σ2 rs2 s2 hs2 hl2 n2 m2=>k F2 ν2 σ2 rs2 (s1.trans s2) hs2 hl2 (λi hi=>(n2 i hi).trans (n1 i hi)) (λs i e hi=>(m2 s i e hi).trans (m1 s i e hi))]
def zjy(hc:X.calm=true)(h:SGs X mp kp tgs ts)(hl:ts.len=(assignEach tgs X.env).length)(hst:(assignEach tgs X.env).findIdx? (·.1)=none):SG X mp kp (.Tuple tgs n pos) (.tp ts):=λM0 F Γ Γ' ν σ H v d Q rs hs hl' r e k=>by
 cases d with
 |tuple ds=>
  rw[tgF]at e
  let⟨a,vs,rfl,ea,rr⟩:=r.tup_inv
  exact (zi4 hc WS rfl hst).wp ⟨a,vs,rfl,SqT.of ea,by rw[rr.length,vf e,hl],h M0 F Γ Γ' ν σ H vs ds Q rs hs hl' rr e k⟩
 |list ds=>
  rw[tgF]at e
  let⟨a,vs,rfl,ea,_,rr⟩:=r.lst_inv
  exact (zgC hc WS rfl hst).wp ⟨a,vs,rfl,SqL.of ea,by rw[rr.length,vf e,hl],h M0 F Γ Γ' ν σ H vs ds Q rs hs hl' rr e k⟩
 |_=>simp[tgF]at e
end
def JI(M0:Ae)(F:Fp)(J:It)(ds:Aa)(H1:Hp):Prop:=∀(i:Nat)(F':Fp)(H':Hp),Stp F H1 F' H'->(∀ a,M0 a->H1 a≠none) ->
 (∀ d,ds[i]?=some d->J.go i H'/\∀ x H2,J.yld i H' x H2->Same H' H2/\Rep (MM M0 F') H2 x d)/\(ds.length<=i->J.stop i H')
def SI(X:Cx)(mp:Ac)(tg iter:Expr)(f:EM (Aa)):Prop:=∀(M0:Ae)(F:Fp)(Γ:Gv)(ν:Nu)(σ:St)(H:Hp)(R:It->Hp->Prop),RS M0 F Γ ν H->Sees mp ν σ ->
 EPost M0 F ν σ H (λF' Γ' H' ds=>∀ J,JI M0 F' J ds H'->R J H') (f Γ)->wpI X tg iter σ H R
section
variable {X:Cx}{mp:Ac}{a b c e tg iter:Expr}{ifs:Ag}{pos p:Pos}{fa:EM FV}{ta:EM Bool}
@[reducible] noncomputable def fSeqL(fa:EM FV):EM (Aa):=λΓ=>(fa Γ).bind λ(u,Γ1)=>match derS Γ1 u with
 |some (.list ds)=>.ok (ds,Γ1)
 |_=>.bad
@[reducible] noncomputable def fSeqT(fa:EM FV):EM (Aa):=λΓ=>(fa Γ).bind λ(u,Γ1)=>match derS Γ1 u with
 |some (.tuple ds)=>.ok (ds,Γ1)
 |_=>.bad
def zd1{F:Fp}{K:Ah}{H1:Hp}{l:Ap}(e:H1 l=some (.lst vs))(n:∀ j,l∉F j)(r:RepL (MM M0 F) H1 vs ds):JI M0 F (Itl K l) ds H1:=λi F' H' s h0=>by
 let e':=(s.keep l _ e n).1
 refine⟨λd hd=>?_,λhl=>⟨vs,SqL.of e',by rw[r.length];exact hl⟩⟩
 let⟨v,hv,rv⟩:=r.get' hd
 exact⟨⟨vs,v,SqL.of e',hv⟩,λx H2 ⟨e2,y⟩=>by
  subst e2
  have:=y vs (SqL.of e')
  rw[hv]at this;cases this
  exact⟨Same.refl _,qe s h0 rv⟩⟩
def zgd{F:Fp}{K:Ah}{H1:Hp}{l:Ap}(e:H1 l=some (.lst vs))(n:¬ MM M0 F l)(r:RepL (MM M0 F) H1 vs ds):JI M0 F (Itl K l) ds H1:=zd1 e (λj hj=>n (.inr ⟨j,hj⟩)) r
def ziD{F:Fp}{K:Ah}{H1:Hp}{l:Ap}(e:H1 l=some (.tup vs))(r:RepL (MM M0 F) H1 vs ds):JI M0 F (Itt K l) ds H1:=λi F' H' s h0=>by
 let e':=s.tups l _ e
 refine⟨λd hd=>?_,λhl=>⟨vs,SqT.of e',by rw[r.length];exact hl⟩⟩
 let⟨v,hv,rv⟩:=r.get' hd
 exact⟨⟨vs,v,SqT.of e',hv⟩,λx H2 ⟨e2,y⟩=>by
  subst e2
  have:=y vs (SqT.of e')
  rw[hv]at this;cases this
  exact⟨Same.refl _,qe s h0 rv⟩⟩
def zg9(ha:SE X mp iter fa):SI X mp tg iter (fSeqL fa):=λM0 F Γ ν σ H R rs hs hp=>
 (K5 zC).wp (ha.run rs hs hp λF1 Γ1 H1 u v rs1 s1 o1 h1=>by
  delta h1 ds eu
  let⟨l,vs,rfl,e,n,r⟩:=(o1.strong rs1 eu).lst_inv
  exact⟨l,rfl,⟨vs,SqL.of e⟩,h1 F1 H1 rs1 (.refl _ _) _ (zgd e n r)⟩)
def zjz(ha:SE X mp iter fa):SI X mp tg iter (fSeqT fa):=λM0 F Γ ν σ H R rs hs hp=>
 (zi5 zC).wp (ha.run rs hs hp λF1 Γ1 H1 u v rs1 s1 o1 h1=>by
  delta h1 ds eu
  let⟨l,vs,rfl,e,r⟩:=(o1.strong rs1 eu).tup_inv
  exact⟨l,rfl,⟨vs,SqT.of e⟩,h1 F1 H1 rs1 (.refl _ _) _ (ziD e r)⟩)
@[reducible] noncomputable def fRange(fa:EM FV):EM (Aa):=λΓ=>(fa Γ).bind λ(u,Γ1)=>match derf Γ1 u with
 |some (.int n)=>if -1000000<=n/\n<=1000000 then .ok (zZ n.toNat,Γ1) else .bad
 |_=>.bad
def zd2(n:Nat)(H1:Hp):JI M0 F (Itr 0 n) (zZ n) H1:=λi F' H' s h0=>by
 refine⟨λd hd=>?_,λhl=>?_⟩
 ·let⟨hi,rfl⟩:=ju hd
  exact⟨hi,λx H2 ⟨e,y⟩=>by subst e y;exact⟨Same.refl _,by rw[show (0:Int)+(i:Int)=i by lia];exact .int _⟩⟩
 ·show n<=i
  simpa [zF] using hl
def zeY (B:BiK X x (.type "range")) (ex:x= "range") (ha:SE X mp a fa) (hst:a⁻¹):SI X mp tg (.Call (.Name x p) [a] [] pos) (fRange fa):=λM0 F Γ ν σ H R rs hs hp=>by
 subst ex
 exact (zbU B.gl B.mg (zT zC pa_nil hst) hst).wp (ha.run rs hs hp λF1 Γ1 H1 u v rs1 s1 o1 h1=>by
  delta h1 n eu
  delta h1 hn
  cases o1.weak rs1 eu
  exact⟨n,rfl,by lia,by lia,h1 F1 H1 rs1 (.refl _ _) _ (zd2 n.toNat H1)⟩)
def SF(X:Cx)(mp:Ac)(ifs:Ag)(f:EM Bool):Prop:=∀(M0:Ae)(F:Fp)(Γ:Gv)(ν:Nu)(σ:St)(H:Hp)(Q:Bool->Hp->Prop),RS M0 F Γ ν H->Sees mp ν σ ->
 EPost M0 F ν σ H (λF' Γ' H' b=>Q b H') (f Γ)->wpF X ifs σ H Q
@[reducible] noncomputable def fYes:EM Bool:=λΓ=>.ok (true,Γ)
def zjw:SF X mp [] fYes:=λM0 F Γ ν σ H Q rs hs hp=>pf_nil.wp (hp F H rs (.refl _ _))
def zjx(h:ST X mp c ta):SF X mp [c] ta:=λM0 F Γ ν σ H Q rs hs hp=>(zi2 Zf).wp (h M0 F Γ ν σ H Q rs hs hp)
def mpC(mp:Ac)(n k:Nat)(ix:Ac):Ac:=(List.range k).map (n+·)++ix.map λi=>mp.getD i 0
def ziK(h:s<k):(mpC mp n k ix)[s]?=some (n+s):=by
 unfold mpC
 rw[xc (by simpa using h),xf,um h];rfl
def zec:(mpC mp n k ix)[k+j]?=(ix[j]?).map λi=>mp.getD i 0:=by
 unfold mpC
 rw[xm (by simp),xf]
 simp
def SNt(mp:Ac)(t:TE)(f:EM (Aa)):Prop:=∀(M0:Ae)(F:Fp)(Γ:Gv)(ν:Nu)(σ:St)(H:Hp)(Q:VK),RS M0 F Γ ν H->Sees mp ν σ ->
 EPost M0 F ν σ H (λF' Γ' H' ds=>∀ vs p,RepL (MM M0 F') H' vs ds->H' p=none->Q (.ref p) (upd H' p (.lst vs))) (f Γ)->t σ H Q
end
inductive AV where
 |v (u:FV)
 |io (i:Nat)
inductive AOks(M0:Ae)(F:Fp)(ν:Nu)(H:Hp):List V->List AV->Prop
 |nil:AOks M0 F ν H [] []
 |v {v:V} {vs:List V} {u:FV} {as:List AV}:FOk M0 F ν H v u->AOks M0 F ν H vs as->AOks M0 F ν H (v::vs) (.v u::as)
 |io {v:V} {vs:List V} {i:Nat} {as:List AV}:ν[i]?=some (some v)->AOks M0 F ν H vs as->AOks M0 F ν H (v::vs) (.io i::as)
def APost(M0:Ae)(F:Fp)(ν:Nu)(σ:St)(H:Hp)(P:Fp->Gv->Nu->Hp->List AV->Prop)(r:R (List AV×Gv)):Prop:=match r with
 |.ok (as,Γ')=>∀ F' ν' H',RS M0 F' Γ' ν' H'->ν <+: ν'->Stp F H F' H'->P F' Γ' ν' H' as
 |.bad=>False
def OPost(M0:Ae)(F:Fp)(ν:Nu)(σ:St)(H:Hp)(P:Fp->Gv->Hp->OV->V->Prop)(r:R (OV×Gv)):Prop:=match r with
 |.ok (o,Γ')=>∀ F' H' v,RS M0 F' (Γ'++ [some o]) (ν++ [some v]) H'->Stp F H F' H'->P F' Γ' H' o v
 |.bad=>False
def SA(X:Cx)(mp:Ac)(es:Ag)(f:EM (List AV)):Prop:=∀(M0:Ae)(F:Fp)(Γ:Gv)(ν:Nu)(σ:St)(H:Hp)(Q:List V->Hp->Prop),RS M0 F Γ ν H->Sees mp ν σ ->
 APost M0 F ν σ H (λF' Γ' ν' H' as=>∀ vs,AOks M0 F' ν' H' vs as->Q vs H') (f Γ)->wpA X es σ H Q
def SO(X:Cx)(mp:Ac)(e:Expr)(f:EM OV):Prop:=∀(M0:Ae)(F:Fp)(Γ:Gv)(ν:Nu)(σ:St)(H:Hp)(Q:VK),RS M0 F Γ ν H->Sees mp ν σ ->
 OPost M0 F ν σ H (λF' Γ' H' o v=>Q v H') (f Γ)->wpE X e σ H Q
section
variable {M0:Ae}{F:Fp}{ν:Nu}{σ:St}{H:Hp}{α:Type}
def APost.seq{r:R (α×Gv)}(h:APost M0 F ν σ H P (r.bind k)):EPost M0 F ν σ H (λF1 Γ1 H1 a=>APost M0 F1 ν σ H1 P (k (a,Γ1))) r:=by
 cases r with
 |ok a=>
  let⟨a,Γ1⟩:=a
  intro F1 H1 rs1 s1
  let h':APost M0 F ν σ H P (k (a,Γ1)):=h
  revert h'
  generalize k (a,Γ1)=r2
  intro h'
  cases r2 with
  |ok b=>erw[λF' ν' H' rs hn s=>h' F' ν' H' rs hn (s1.trans s)]
  |bad=>erw[h']
 |bad=>erw[h]
def APost.mono(h:APost M0 F ν σ H P r)(k:∀ F' Γ' ν' H' as,RS M0 F' Γ' ν' H'->ν <+: ν'->Stp F H F' H'->P F' Γ' ν' H' as->P' F' Γ' ν' H' as):APost M0 F ν σ H P' r:=by
 cases r with
 |ok a=>erw[λF' ν' H' rs hn s=>k F' _ ν' H' _ rs hn s (h F' ν' H' rs hn s)]
 |bad=>erw[h]
def OPost.seq{r:R (α×Gv)}(h:OPost M0 F ν σ H P (r.bind k)):EPost M0 F ν σ H (λF1 Γ1 H1 a=>OPost M0 F1 ν σ H1 P (k (a,Γ1))) r:=by
 cases r with
 |ok a=>
  let⟨a,Γ1⟩:=a
  intro F1 H1 rs1 s1
  let h':OPost M0 F ν σ H P (k (a,Γ1)):=h
  revert h'
  generalize k (a,Γ1)=r2
  intro h'
  cases r2 with
  |ok b=>erw[λF' H' v rs s=>h' F' H' v rs (s1.trans s)]
  |bad=>erw[h']
 |bad=>erw[h]
def OPost.mono(h:OPost M0 F ν σ H P r)(k:∀ F' Γ' H' o v,RS M0 F' (Γ'++ [some o]) (ν++ [some v]) H'->Stp F H F' H'->P F' Γ' H' o v->P' F' Γ' H' o v):OPost M0 F ν σ H P' r:=by
 cases r with
 |ok a=>erw[λF' H' v rs s=>k F' _ H' _ v rs s (h F' H' v rs s)]
 |bad=>erw[h]
end
section
variable {X:Cx}{mp:Ac}{a b c e:Expr}{es:Ag}{pos p p2:Pos}{fa:EM FV}{na nb:EM (Aa)}{fl:EM (List AV)}{fo:EM OV}
@[reducible] noncomputable def fOwn(n:EM (Aa)):EM OV:=λΓ=>(n Γ).bind λ(ds,Γ1)=>.ok (.l (ds.map .d),Γ1)
def SN.so(h:SN X mp a na):SO X mp a (fOwn na):=λM0 F Γ ν σ H Q rs hs hp=>
 h M0 F Γ ν σ H Q rs hs (hp.seq.mono λF1 Γ1 H1 ds rs1 s1 h1 vs p r n=>by
  let⟨r2,s2⟩:=rs1.newO n r
  exact h1 _ _ _ r2 s2)
@[reducible] noncomputable def fOD(f:EM OV):EM FV:=λΓ=>(f Γ).bind λ(o,Γ1)=>.ok (.dat o.view,Γ1)
def SO.se(h:SO X mp a fo):SE X mp a (fOD fo):=λM0 F Γ ν σ H Q rs hs hp=>
 h M0 F Γ ν σ H Q rs hs (by
  let hp':EPost M0 F ν σ H (λF' Γ' H' u=>∀ v,FOk M0 F' ν H' v u->Q v H') ((fo Γ).bind λ(o,Γ1)=>.ok (.dat o.view,Γ1)):=hp
  revert hp'
  generalize fo Γ=r
  intro hp'
  cases r with
  |ok z=>
   let⟨o,Γ1⟩:=z
   intro F' H' v rs' s'
   let⟨F2,rs2,s2,r2⟩:=rs'.dropD
   erw[hp' F2 H' rs2 (s'.trans s2) v r2]
  |bad=>exact hp')
def FOk.ext(h:FOk M0 F ν H v u)(hn:ν <+: ν'):FOk M0 F ν' H v u:=by
 cases u with
 |dat x=>erw[h]
 |own i=>
  let h':=h
  let⟨t,rfl⟩:=hn
  show (ν++t)[i]?=_
  rw[xc (xa.mp h').1];exact h'
@[reducible] noncomputable def aNil:EM (List AV):=λΓ=>.ok ([],Γ)
@[reducible] noncomputable def aCons(fa:EM FV)(fl:EM (List AV)):EM (List AV):=λΓ=>(fa Γ).bind λ(u,Γ1)=>(fl Γ1).bind λ(as,Γ2)=>.ok (.v u::as,Γ2)
@[reducible] noncomputable def aIo(i:Nat)(fl:EM (List AV)):EM (List AV):=λΓ=>match Γ[i]? with
 |some (some _)=>(fl Γ).bind λ(as,Γ2)=>.ok (.io i::as,Γ2)
 |_=>.bad
def zjg:SA X mp [] aNil:=λM0 F Γ ν σ H Q rs hs hp=>pa_nil.wp (hp F ν H rs (uO _) (.refl _ _) [] .nil)
def APost.tail{F:Fp}{ν:Nu}{σ:St}{H:Hp}{f:List AV->List AV}(h:APost M0 F ν σ H P (r.bind λ(as,Γ2)=>.ok (f as,Γ2))) :
  APost M0 F ν σ H (λF' Γ' ν' H' as=>P F' Γ' ν' H' (f as)) r:=by
 cases r with
 |ok a=>erw[h]
 |bad=>erw[h]
def zgM(ha:SE X mp a fa)(hl:SA X mp es fl)(hst:starEach (a::es) X.env=(false,eval a X.env)::starEach es X.env):SA X mp (a::es) (aCons fa fl):=λM0 F Γ ν σ H Q rs hs hp=>
 (zT zC Ze hst).wp (ha M0 F Γ ν σ H _ rs hs (hp.seq.mono λF1 Γ1 H1 u rs1 s1 h1 v o1=>
  hl M0 F1 Γ1 ν σ H1 _ rs1 hs (h1.tail.mono λF2 Γ2 ν2 H2 as rs2 hn s2 h2 vs oks=>h2 (v::vs) (.v ((o1.stp s2 rs1.al0).ext hn) oks))))
def zkQ {s i:Nat}(hN:X.N[s]?=some x) (hv:Vis X.env.scope x) (hm:mp[s]?=some i) (hd:(↥x)) (hcd:(x==("__classdict__" :Str))=false) (hl:SA X mp es fl) (hst:starEach (.Name x pos::es) X.env=(false,eval (.Name x pos) X.env)::starEach es X.env) :
  SA X mp (.Name x pos::es) (aIo i fl):=by?
 unfold aIo at hp
 delta hp o q
 let⟨v,e1,r⟩:=rs.at' i _ q
 exact (zT (qB hN hv hd hcd) Ze hst).wp ⟨v,hs s i v hm e1,hl M0 F Γ ν σ H _ rs hs (hp.tail.mono λF2 Γ2 ν2 H2 as rs2 hn s2 h2 vs oks=>h2 (v::vs) (.io (by
  let⟨t,rfl⟩:=hn
  rw[xc (xa.mp e1).1];exact e1) oks))⟩
inductive RF where
 |ok (r:OV) (outs:List (Option OV))
 |bad
def spX(n:Nat)(run:List OV->RF):Sp:=λvs H Q E=>vs.length=n/\∃(M0:Ae)(F:Fp)(args:List OV),RS M0 F (args.map some) (vs.map some) H/\match run args with
 |.ok r outs=>∀ F' v H',RS M0 F' (outs++ [some r]) (vs.map some++ [some v]) H'->Stp F H F' H'->Q v H'
 |.bad=>False
def Ran(n:Nat)(run:List OV->RF):Prop:=∀ args,run args≠ .bad->args.length=n
def toArg(Γ:Gv):AV->Option OV
 |.v u=>(derS Γ u).map .d
 |.io i=>match Γ[i]? with
  |some (some o)=>some o
  |_=>none
def toArgs(Γ:Gv):List AV->Option (List OV)
 |[]=>some []
 |a::as=>match toArg Γ a,toArgs Γ as with
  |some o,some os=>some (o::os)
  |_,_=>none
def ios:List AV->Ac
 |[]=> []
 |.v _::as=>ios as
 |.io i::as=>i::ios as
def putBack:List AV->List (Option OV)->Gv->Option Gv
 |[],_,Γ=>some Γ
 |.v _::as,_::os,Γ=>putBack as os Γ
 |.io i::as,some o::os,Γ=>if i<Γ.length then putBack as os (Γ.set i (some o)) else none
 |_,_,_=>none
def mem_ios:i∈ios as↔∃ j:Nat,as[j]?=some (.io i):=by
 induction as with
 |nil=>simp[ios]
 |cons a as ih=>
  cases a with
  |v u=>
   rw[ios,ih]
   constructor
   ·rintro⟨j,h⟩;exact⟨j+1,by simpa using h⟩
   ·rintro⟨j,h⟩
    cases j with
    |zero=>simp at h
    |succ j=>exact⟨j,by simpa using h⟩
  |io k=>
   rw[ios,xw,ih]
   constructor
   ·rintro (rfl | ⟨j,h⟩)
    ·exact⟨0,rfl⟩
    ·exact⟨j+1,by simpa using h⟩
   ·rintro⟨j,h⟩
    cases j with
    |zero=>simp at h;exact .inl h.symm
    |succ j=>exact .inr ⟨j,by simpa using h⟩
def wF:∀{as:List AV}{i j k:Nat},(ios as).Nodup->as[j]?=some (.io i)->as[k]?=some (.io i)->j=k
 |[],_,_,_,_,h,_=>by simp at h
 |.v u::as,i,j,k,nd,h1,h2=>by
  cases j with
  |zero=>simp at h1
  |succ j=>
   cases k with
   |zero=>simp at h2
   |succ k=>exact congrArg (·+1) (wF (by rw[ios]at nd;exact nd) (by simpa using h1) (by simpa using h2))
 |.io m::as,i,j,k,nd,h1,h2=>by
  rw[ios,xB]at nd
  cases j with
  |zero=>
   cases k with
   |zero=>rfl
   |succ k=>
    simp at h1;subst h1
    exact absurd (mem_ios.mpr ⟨k,by simpa using h2⟩) nd.1
  |succ j=>
   cases k with
   |zero=>
    simp at h2;subst h2
    exact absurd (mem_ios.mpr ⟨j,by simpa using h1⟩) nd.1
   |succ k=>exact congrArg (·+1) (wF nd.2 (by simpa using h1) (by simpa using h2))
section
variable {M0:Ae}{F:Fp}{Γ:Gv}{ν:Nu}{H:Hp}
def AOks.get:∀{vs:List V}{as:List AV}{args:List OV}{j:Nat}{o:OV},AOks M0 F ν H vs as->toArgs Γ as=some args->args[j]?=some o ->
  ∃ v,vs[j]?=some v/\((∃ u x,as[j]?=some (.v u)/\derS Γ u=some x/\o=.d x/\FOk M0 F ν H v u)∨∃ i,as[j]?=some (.io i)/\ν[i]?=some (some v)/\Γ[i]?=some (some o))
 |_,_,_,j,o,.nil,e,h=>by cases e;simp at h
 |_,_,_,j,o,.v (u:=u) h1 t,e,h=>by
  unfold toArgs at e
  split at e
  next o' os e1 e2=>
   cases e
   cases j with
   |zero=>
    simp at h;subst h
    simp only[toArg,uI]at e1
    let⟨x,ex,rfl⟩:=e1
    exact⟨_,rfl,.inl ⟨u,x,rfl,ex,rfl,h1⟩⟩
   |succ j=>
    let⟨v,ev,q⟩:=AOks.get (j:=j) t e2 (by simpa using h)
    exact⟨v,by simpa using ev,by simpa using q⟩
  ·cases e
 |_,_,_,j,o,.io (i:=i) h1 t,e,h=>by
  unfold toArgs at e
  split at e
  next o' os e1 e2=>
   cases e
   cases j with
   |zero=>
    simp at h;subst h
    simp only[toArg]at e1
    split at e1
    next q=>
     cases e1
     exact⟨_,rfl,.inr ⟨i,rfl,h1,q⟩⟩
    ·cases e1
   |succ j=>
    let⟨v,ev,q⟩:=AOks.get (j:=j) t e2 (by simpa using h)
    exact⟨v,by simpa using ev,by simpa using q⟩
  ·cases e
def AOks.len:∀{vs:List V}{as:List AV},AOks M0 F ν H vs as->vs.length=as.length
 |_,_,.nil=>rfl
 |_,_,.v _ t=>by rw[xq,xq,AOks.len t]
 |_,_,.io _ t=>by rw[xq,xq,AOks.len t]
def jv:∀{as:List AV}{args:List OV},toArgs Γ as=some args->args.length=as.length
 |[],_,e=>by cases e;rfl
 |a::as,_,e=>by
  unfold toArgs at e
  split at e
  next e1 e2=>
   cases e
   rw[xq,xq,jv e2]
  ·cases e
def cM(M0:Ae)(F:Fp)(as:List AV):Ae:=λa=>M0 a∨∃ i,i∉ios as/\a∈F i
def cF(F:Fp)(as:List AV):Fp:=λj=>match as[j]? with
 |some (.io i)=>F i
 |_=> []
def zhP(h:as[j]?=some (.io i)):cF F as j=F i:=by unfold cF;rw[h]
def Js{a:Ap}(h:a∈cF F as j):∃ i,as[j]?=some (.io i)/\a∈F i:=by
 unfold cF at h
 split at h
 ·rename_i i e;exact⟨i,e,h⟩
 ·cases h
def cMM:MM (cM M0 F as) (cF F as)=MM M0 F:=by
 funext a
 apply propext
 constructor
 ·rintro ((h | ⟨i,_,h⟩) | ⟨j,h⟩)
  ·erw[.inl h]
  ·erw[.inr ⟨i,h⟩]
  ·let⟨i,_,h⟩:=Js h;exact .inr ⟨i,h⟩
 ·rintro (h | ⟨i,h⟩)
  ·erw[.inl (.inl h)]
  ·by_cases hi:i∈ios as
   ·let⟨j,hj⟩:=mem_ios.mp hi
    exact .inr ⟨j,by rw[zhP hj];exact h⟩
   ·erw[.inl (.inr ⟨i,hi,h⟩)]
def w4{as:List AV}(rs:RS M0 F Γ ν H)(oks:AOks M0 F ν H vs as)(e:toArgs Γ as=some args)(nd:(ios as).Nodup):RS (cM M0 F as) (cF F as) (args.map some) (vs.map some) H where
 al0 a h:=by
  rcases h with h | ⟨i,_,h⟩
  ·erw[rs.al0 a h]
  ·erw[rs.al a (.inr ⟨i,h⟩)]
 dis0 j a h:=by
  let⟨i,hi,ha⟩:=Js h
  rintro (h0 | ⟨i',hi',ha'⟩)
  ·erw[rs.dis0 i a ha h0]
  ·have:=rs.dis _ _ a ha ha'
   subst this
   erw[hi' (mem_ios.mpr ⟨j,hi⟩)]
 nd j:=by
  unfold cF
  split
  ·erw[rs.nd _]
  ·erw[.nil]
 dis j k a h1 h2:=by
  let⟨i,hi,ha⟩:=Js h1
  let⟨i',hi',ha'⟩:=Js h2
  have:=rs.dis _ _ a ha ha'
  subst this
  erw[wF nd hi hi']
 at' j o ej:=by
  rw[xf]at ej
  cases q:args[j]? with
  |none=>rw[q]at ej;cases ej
  |some o'=>
   rw[q]at ej
   let eo:o'=o:=by simpa using ej
   subst eo
   let⟨v,ev,h⟩:=oks.get e q
   refine⟨v,by rw[xf,ev];rfl,?_⟩
   rw[cMM]
   rcases h with ⟨u,x,ea,ex,rfl,ok⟩ | ⟨i,ea,en,eg⟩
   ·have:cF F as j= []:=by unfold cF;rw[ea]
    rw[this]
    erw[.d (ok.strong rs ex)]
   ·rw[zhP ea]
    let⟨v',ev',r⟩:=rs.at' i o' eg
    rw[en]at ev';cases ev'
    erw[r]
 emp j h:=by
  unfold cF
  split
  next i ea=>
   exfalso
   let hj:j<args.length:=by rw[jv e];exact (xa.mp ea).1
   exact h args[j] (by rw[xf,xb hj];rfl)
  ·rfl
 len:=by rw[xo,xo,oks.len,jv e]
def Zg:∀{as:List AV}{outs:List (Option OV)}{Γ Γ2:Gv},putBack as outs Γ=some Γ2->(ios as).Nodup->Γ2.length=Γ.length/\(∀ i:Nat,i∉ios as->Γ2[i]?=Γ[i]?)/\∀ j i:Nat,as[j]?=some (.io i)->∃ o,outs[j]?=some (some o)/\Γ2[i]?=some (some o)/\i<Γ.length
 |[],_,Γ,_,e,_=>by
  have:some Γ=some _:=e
  cases this
  exact⟨rfl,λ_ _=>rfl,λj i h=>by simp at h⟩
 |.v u::as,[],Γ,_,e,_=>by cases e
 |.v u::as,x::os,Γ,Γ2,e,nd=>by
  let⟨h0,h1,h2⟩:=Zg (as:=as) (Γ:=Γ) (Γ2:=Γ2) e (by rw[ios]at nd;exact nd)
  refine⟨h0,λi hi=>h1 i (by rw[ios]at hi;exact hi),λj i hj=>?_⟩
  cases j with
  |zero=>simp at hj
  |succ j=>
   let⟨o,a,b⟩:=h2 j i (by simpa using hj)
   exact⟨o,by simpa using a,b⟩
 |.io k::as,[],Γ,_,e,_=>by cases e
 |.io k::as,none::os,Γ,_,e,_=>by cases e
 |.io k::as,some o::os,Γ,Γ2,e,nd=>by
  rw[putBack]at e
  split at e
  next hk=>
   rw[ios,xB]at nd
   let⟨h0,h1,h2⟩:=Zg e nd.2
   rw[xK]at h0
   refine⟨h0,λi hi=>?_,λj i hj=>?_⟩
   ·rw[ios,xw]at hi
    rw[h1 i (λz=>hi (.inr z)),xi (λz=>hi (.inl z.symm))]
   ·cases j with
    |zero=>
     have:k=i:=by simpa using hj
     subst this
     refine⟨o,rfl,?_,hk⟩
     rw[h1 k nd.1,xk hk]
    |succ j=>
     let⟨o',a,b,c⟩:=h2 j i (by simpa using hj)
     exact⟨o',by simpa using a,b,by simpa using c⟩
  ·cases e
open Classical in
def Va{as:List AV}{outs:List (Option OV)}{r:OV}{v:V}{Γ2:Gv}{ν0:Nu}{Fc':Fp}{H':Hp}{n:Nat}(rs:RS M0 F Γ ν H)(oks:AOks M0 F ν H vs as)(e:toArgs Γ as=some args)(nd:(ios as).Nodup)
  (rc:RS (cM M0 F as) Fc' (outs++ [some r]) (vs.map some++ [some v]) H') (sc:Stp (cF F as) H Fc' H') (pb:putBack as outs Γ=some Γ2) (hν:ν0 <+: ν) (hn:ν0.length=n) :
  ∃ F',RS M0 F' (Γ2.take n++ [some r]) (ν0++ [some v]) H'/\Stp F H F' H':=by
 classical
 let⟨p0,p1,p2⟩:=Zg pb nd
 let hol:outs.length=as.length:=by have:=rc.len;simp[oks.len]at this;lia
 let⟨tl,rfl⟩:=hν
 let hnl:n<=Γ.length:=by have:=rs.len;simp at this;lia
 let htl:(Γ2.take n).length=n:=by rw[xI];lia
 obtain⟨B,f3,f1,f2⟩:∃ B:Fp,B n=Fc' as.length/\(∀ i j:Nat,i≠n->as[j]?=some (.io i)->B i=Fc' j)/\∀ i,i≠n->i∉ios as->B i=F i :=
  ⟨λi=>if i=n then Fc' as.length else if h:∃ j:Nat,as[j]?=some (.io i) then Fc' h.choose else F i,if_pos rfl,λi j hi hj=>by
   let hex:∃ j:Nat,as[j]?=some (.io i):=⟨j,hj⟩
   dsimp only;rw[if_neg hi,dif_pos hex,wF nd hex.choose_spec hj],λi hi hj=>by dsimp only;rw[if_neg hi,dif_neg λh=>hj (mem_ios.mpr h)]⟩
 let cls:∀ i,(∃ j:Nat,B i=Fc' j/\(i=n/\j=as.length∨i≠n/\as[j]?=some (.io i)))∨i≠n/\i∉ios as/\B i=F i:=λi=>by
  by_cases hi:i=n
  ·erw[.inl ⟨_,hi ▸ f3,.inl ⟨hi,rfl⟩⟩]
  ·by_cases hj:i∈ios as
   ·let⟨j,hj⟩:=mem_ios.mp hj
    erw[.inl ⟨j,f1 i j hi hj,.inr ⟨hi,hj⟩⟩]
   ·erw[.inr ⟨hi,hj,f2 i hi hj⟩]
 let out:∀{j:Nat}{a:Ap},a∈Fc' j->¬ M0 a/\∀ i,i∉ios as->a∉F i:=λ{j a} ha=>
  ⟨λz=>rc.dis0 j a ha (.inl z),λi hi z=>rc.dis0 j a ha (.inr ⟨i,hi,z⟩)⟩
 refine rs.of B (λF' hF=>⟨λb o eb nb=>?_,sc.tups,sc.stay⟩) (λi a ha=>?_) (λi=>?_) (λi k _ _ a _ _ h1 h2=>?_) (λF' hF st i o ei=>?_) (by simp[htl,hn])
 ·let⟨e1,n1⟩:=sc.keep b o eb λj hj=>let ⟨i,_,ha⟩:=Js hj;nb i ha
  refine⟨e1,λi hi=>?_⟩
  let h:=hF i b hi
  rcases cls i with ⟨j,q,_⟩ | ⟨_,_,q⟩<;>rw[q]at h
  ·erw[n1 j h]
  ·erw[nb i h]
 ·rcases cls i with ⟨j,q,_⟩ | ⟨_,_,q⟩<;>rw[q]at ha
  ·erw[(out ha).1]
  ·erw[rs.dis0 i a ha]
 ·rcases cls i with ⟨j,q,_⟩ | ⟨_,_,q⟩<;>rw[q]
  ·erw[rc.nd j]
  ·erw[rs.nd i]
 ·rcases cls i with ⟨j,q,c⟩ | ⟨_,c,q⟩<;>rcases cls k with ⟨j',q',c'⟩ | ⟨_,c',q'⟩<;>rw[q]at h1<;>rw[q']at h2
  ·cases rc.dis _ _ a h1 h2
   rcases c with ⟨rfl,rfl⟩ | ⟨_,c⟩<;>rcases c' with ⟨rfl,z⟩ | ⟨_,c'⟩<;>simp_all
  ·erw[absurd h2 ((out h1).2 k c')]
  ·erw[absurd h1 ((out h2).2 i c)]
  ·erw[rs.dis _ _ a h1 h2]
 ·let conv:∀{w:V}{o:OV}{A:List Ap},OR (MM (cM M0 F as) Fc') H' w o A->OR (MM M0 F') H' w o A:=λ{w o A} q=>q.go (λv d x=>x.less λb hb _=>by
   rcases hb with hb | ⟨i,hb⟩
   ·erw[.inl (.inl hb)]
   ·let h:=hF i b hb
    rcases cls i with ⟨j,q,_⟩ | ⟨_,c,q⟩<;>rw[q]at h
    ·erw[.inr ⟨j,h⟩]
    ·exact .inl (.inr ⟨i,c,h⟩)) (λ_ _ e=>e) λ_ _=>rfl
  let hil:=(xa.mp ei).1
  simp[htl]at hil
  by_cases hi:i=n
  ·subst hi
   rw[xm (by lia),htl]at ei
   have:r=o:=by simpa using ei
   subst this
   let⟨w,ew,q⟩:=rc.at' as.length r (by rw[<- hol];simp)
   rw[<- oks.len]at ew
   have:v=w:=by simpa using ew
   subst this
   exact⟨v,by simp[<- hn],f3 ▸ conv q⟩
  ·rw[xc (by lia),xT (by lia)]at ei
   rw[xc (by lia)]
   by_cases hj:i∈ios as
   ·let⟨j,hj⟩:=mem_ios.mp hj
    let⟨o',eo,eg,_⟩:=p2 j i hj
    rw[eg]at ei
    have:o'=o:=by simpa using ei
    subst this
    let hjl:=(xa.mp hj).1
    let⟨w,ew,q⟩:=rc.at' j o' (by rw[xc (by lia)];exact eo)
    rw[xc (by rw[xo,oks.len];exact hjl),xf]at ew
    let⟨v',ev',hh⟩:=oks.get e (xb (by rw[jv e];exact hjl))
    rw[ev']at ew
    cases (by simpa using ew:v'=w)
    rcases hh with ⟨u,x,ea,_⟩ | ⟨i',ea,en,_⟩<;>rw[hj]at ea<;>cases ea
    rw[xc (by lia)]at en
    exact⟨_,en,f1 i j hi hj ▸ conv q⟩
   ·rw[p1 i hj]at ei
    let⟨w,ew,q⟩:=rs.at' i o ei
    rw[xc (by lia)]at ew
    refine⟨w,ew,f2 i hi hj ▸ q.go (λv d x=>qe st rs.al0 x) st.tups λa ha=>?_⟩
    let⟨us,ea⟩:=rs.laidF ha
    rw[ea]
    erw[(sc.keep a _ ea λj hk=>?_).1]
    let⟨i',hi',ha'⟩:=Js hk
    cases rs.dis _ _ a ha ha'
    erw[hj (mem_ios.mpr ⟨j,hi'⟩)]
end
@[reducible] noncomputable def fCall(run:List OV->RF)(fl:EM (List AV)):EM OV:=λΓ=>(fl Γ).bind λ(as,Γ1)=>match toArgs Γ1 as with
 |none=>.bad
 |some args=>if (ios as).Nodup then match run args with
  |.ok r outs=>match putBack as outs Γ1 with
   |some Γ2=>.ok (r,Γ2.take Γ.length)
   |none=>.bad
  |.bad=>.bad
  else .bad
def Qm{F:Fp}{Γ:Gv}{ν:Nu}{σ:St}{run:List OV->RF}{Q:VK}(rs:RS M0 F Γ ν H)(hrun:Ran n run)
  (hp:OPost M0 F ν σ H (λF' Γ' H' o v=>Q v H') (fCall run fl Γ)):APost M0 F ν σ H (λF1 Γ1 ν1 H1 as=>∀ vs,AOks M0 F1 ν1 H1 vs as->spX n run vs H1 Q E0) (fl Γ):=by
 unfold fCall at hp
 generalize fl Γ=ra at hp
 cases ra with
 |bad=>erw[hp]
 |ok z=>
  let⟨as,Γ1⟩:=z
  intro F1 ν1 H1 rs1 hn s1 vs oks
  simp only[R.bind]at hp
  split at hp
  ·erw[hp.elim]
  next args ea=>
   delta hp nd
   let hl:vs.length=n:=by
    rw[oks.len,<- jv ea]
    erw[hrun args λz=>?_]
    rw[z]at hp;exact hp.elim
   refine⟨hl,cM M0 F1 as,cF F1 as,args,w4 rs1 oks ea nd,?_⟩
   delta hp r outs er
   delta hp Γ2 eb
   intro F' v H' rc sc
   let⟨F2,rs2,s2⟩:=Va rs1 oks ea nd rc sc eb hn rs.len
   erw[hp F2 H' v rs2 (s1.trans s2)]
def zhg{run:List OV->RF}(kn:Kn X.prog X.w X.K X.mg X.base CX0 x k (spX n run))(hr:Room k X.A)(hg:Gl X x)(hrun:Ran n run)(hl:SA X mp (a::es) fl)
  (hdb:(↥x)) (he:starEach (a::es) X.env=(false,eval a X.env)::starEach es X.env) (hpl:(backTo pos (starEach es X.env)).any (·.1)=false):SO X mp (.Call (.Name x p) (a::es) [] pos) (fCall run fl):=λM0 F Γ ν σ H Q rs hs hp=>
 zfx kn hr hg (hl M0 F Γ ν σ H _ rs hs (Qm rs hrun hp)) hdb he hpl
def ze2{run:List OV->RF}(kn:Kn X.prog X.w X.K X.mg X.base CX0 x k (spX n run))(hr:Room k X.A)(hg:Gl X x)(hrun:Ran n run)
  (hdb:(↥x)):SO X mp (.Call (.Name x p) [] [] pos) (fCall run aNil):=by?
 let h:=Qm rs hrun hp F ν H rs (uO _) (.refl _ _) [] .nil
 erw[zcq kn hr hg h hdb]
end
inductive FL where
 |next
 |ret (o:OV)
 |brk
 |cnt
noncomputable abbrev SM:=Gv->R (FL×Gv)
def SPost(M0:Ae)(F:Fp)(ν:Nu)(H:Hp)(mp:Ac)(N:Nat)(io:Ac)(D:QX)(r:R (FL×Gv)):Prop:=match r with
 |.ok (.next,Γ')=>∀ F' ν' σ' H',RS M0 F' Γ' ν' H'->Stp F H F' H'->Sees mp ν' σ'->σ'.length=N->(∀ i∈io,ν'[i]?=ν[i]?)->D.nx σ' H'
 |.ok (.brk,Γ')=>∀ F' ν' σ' H',RS M0 F' Γ' ν' H'->Stp F H F' H'->Sees mp ν' σ'->σ'.length=N->(∀ i∈io,ν'[i]?=ν[i]?)->D.bk σ' H'
 |.ok (.cnt,Γ')=>∀ F' ν' σ' H',RS M0 F' Γ' ν' H'->Stp F H F' H'->Sees mp ν' σ'->σ'.length=N->(∀ i∈io,ν'[i]?=ν[i]?)->D.ct σ' H'
 |.ok (.ret o,Γ')=>∀ F' ν' v H',RS M0 F' (Γ'++ [some o]) (ν'++ [some v]) H'->Stp F H F' H'->(∀ i∈io,ν'[i]?=ν[i]?)->D.rt v H'
 |.bad=>False
def SS(X:Cx)(mp:Ac)(io:Ac)(st:Stmt)(f:SM):Prop:=∀(M0:Ae)(F:Fp)(Γ:Gv)(ν:Nu)(σ:St)(H:Hp)(D:QX),RS M0 F Γ ν H->Sees mp ν σ->σ.length=X.N.length ->
 SPost M0 F ν H mp X.N.length io D (f Γ)->wpS X st D σ H
def SB(X:Cx)(mp:Ac)(io:Ac)(sts:List Stmt)(f:SM):Prop:=∀(M0:Ae)(F:Fp)(Γ:Gv)(ν:Nu)(σ:St)(H:Hp)(D:QX),RS M0 F Γ ν H->Sees mp ν σ->σ.length=X.N.length ->
 SPost M0 F ν H mp X.N.length io D (f Γ)->wpB X sts D σ H
section
variable {M0:Ae}{F F1:Fp}{ν ν1:Nu}{σ:St}{H H1:Hp}{mp:Ac}{N:Nat}{io:Ac}{D:QX}{r:R (FL×Gv)}
def SPost.step(h:SPost M0 F ν H mp N io D r)(s1:Stp F H F1 H1)(hn:∀ i∈io,ν1[i]?=ν[i]?):SPost M0 F1 ν1 H1 mp N io D r:=by
 cases r with
 |ok z=>
  let⟨fl,Γ'⟩:=z
  cases fl with
  |next=>erw[λF' ν' σ' H' a b c d e=>h F' ν' σ' H' a (s1.trans b) c d λi hi=>(e i hi).trans (hn i hi)]
  |brk=>erw[λF' ν' σ' H' a b c d e=>h F' ν' σ' H' a (s1.trans b) c d λi hi=>(e i hi).trans (hn i hi)]
  |cnt=>erw[λF' ν' σ' H' a b c d e=>h F' ν' σ' H' a (s1.trans b) c d λi hi=>(e i hi).trans (hn i hi)]
  |ret o=>erw[λF' ν' v H' a b e=>h F' ν' v H' a (s1.trans b) λi hi=>(e i hi).trans (hn i hi)]
 |bad=>erw[h]
def SPost.seq{α:Type}{r:R (α×Gv)}{k:α×Gv->R (FL×Gv)}(hs:Sees mp ν σ)(hl:σ.length=N)(h:SPost M0 F ν H mp N io D (r.bind k)):EPost M0 F ν σ H (λF1 Γ1 H1 a=>SPost M0 F1 ν H1 mp N io D (k (a,Γ1))) r:=by
 cases r with
 |ok z=>
  let⟨a,Γ1⟩:=z
  intro F1 H1 rs1 s1
  let h':=h
  erw[h'.step s1 λ_ _=>rfl]
 |bad=>erw[h]
def SPost.seqO{r:R (OV×Gv)}(hs:Sees mp ν σ)(hl:σ.length=N)(h:SPost M0 F ν H mp N io D (r.bind k)):OPost M0 F ν σ H (λF1 Γ1 H1 o v=>SPost M0 F1 ν H1 mp N io D (k (o,Γ1))) r:=by
 cases r with
 |ok z=>
  let⟨a,Γ1⟩:=z
  intro F1 H1 v rs1 s1
  let h':=h
  erw[h'.step s1 λ_ _=>rfl]
 |bad=>erw[h]
end
@[reducible] noncomputable def sNext:SM:=λΓ=>.ok (.next,Γ)
@[reducible] noncomputable def sSeq(f g:SM):SM:=λΓ=>match f Γ with
 |.ok (.next,Γ1)=>g Γ1
 |r=>r
section
variable {X:Cx}{mp io:Ac}{a b c e tg iter:Expr}{pos p p2 pos':Pos}{fa fb:EM FV}{ta:EM Bool}{na:EM (Aa)}{fo:EM OV}{st:Stmt}{sts body els:List Stmt}{f g:SM}
def zjh:SB X mp io [] sNext:=λM0 F Γ ν σ H D rs hs hl hp=>pss_nil.wp (hp F ν σ H rs (.refl _ _) hs hl λ_ _=>rfl)
def zeU{nx:St->Hp->Prop}(hp:SPost M0 F ν H mp N io D (sSeq f g Γ))
  (hn:∀ F1 Γ1 ν1 σ1 H1,RS M0 F1 Γ1 ν1 H1->Sees mp ν1 σ1->σ1.length=N->SPost M0 F1 ν1 H1 mp N io D (g Γ1)->nx σ1 H1):SPost M0 F ν H mp N io { D with nx:=nx } (f Γ):=by
 unfold sSeq at hp
 generalize f Γ=r at hp
 cases r with
 |ok z=>
  let⟨fl,Γ'⟩:=z
  cases fl with
  |next=>erw[λF' ν' σ' H' a b c d e=>hn F' Γ' ν' σ' H' a c d (hp.step b e)]
  |brk=>erw[hp]
  |cnt=>erw[hp]
  |ret o=>erw[hp]
 |bad=>erw[hp]
def zgN(h1:SS X mp io st f)(h2:SB X mp io sts g):SB X mp io (st::sts) (sSeq f g):=λM0 F Γ ν σ H D rs hs hl hp=>
 (Qc K7 jP).wp (h1 M0 F Γ ν σ H _ rs hs hl (zeU hp λF1 Γ1 ν1 σ1 H1 rs1 hs1 hl1 h=>h2 M0 F1 Γ1 ν1 σ1 H1 D rs1 hs1 hl1 h))
@[reducible] noncomputable def zje:SM:=λ_=>.bad
def ze8:SS X mp io st zje:=λM0 F Γ ν σ H D rs hs hl hp=>hp.elim
@[reducible] noncomputable def fD(fa:EM FV):EM OV:=λΓ=>(fa Γ).bind λ(u,Γ1)=>match derS Γ1 u with
 |some x=>.ok (.d x,Γ1)
 |none=>.bad
def RS.newD(r:RS M0 F Γ ν H)(q:Rep (MM M0 F) H v x):RS M0 F (Γ++ [@&x]) (ν++ [some v]) H:=by
 let he:=r.emp _ λo e=>by
  rw[xD (xg _)]at e;cases e
 refine⟨r.al0,r.dis0,r.nd,r.dis,λj o e=>?_,λj h=>?_,by simp[r.len]⟩
 ·by_cases hj:j<Γ.length
  ·rw[xc hj]at e
   let⟨w,e1,z⟩:=r.at' j o e
   exact⟨w,by rw[xc (by rw[r.len];exact hj)];exact e1,z⟩
  ·let hj':j=Γ.length:=by
    have:=(xa.mp e).1
    simp at this;lia
   subst hj'
   rw[xm (xg _)]at e
   have:(OV.d x)=o:=by simpa using e
   subst this
   refine⟨v,by rw[xm (by rw[r.len];exact xg _),r.len];simp,?_⟩
   rw[he];exact .d q
 ·refine r.emp j λo e=>h o ?_
  rw[xc (xa.mp e).1];exact e
def SE.so(h:SE X mp a fa):SO X mp a (fD fa):=λM0 F Γ ν σ H Q rs hs hp=>
 h M0 F Γ ν σ H Q rs hs (hp.seq.mono λF1 Γ1 H1 u rs1 s1 h1 v hv=>by
  delta h1 x e
  exact h1 F1 H1 v (rs1.newD (hv.strong rs1 e)) (.refl _ _))
@[reducible] noncomputable def fMove(i:Nat):EM OV:=λΓ=>match Γ[i]? with
 |some (some o)=>.ok (o,Γ.set i none)
 |_=>.bad
def RS.take{M0:Ae}{F:Fp}{Γ:Gv}{ν:Nu}{H:Hp}{i:Nat}{o:OV}(r:RS M0 F Γ ν H)(e:Γ[i]?=some (some o)):∃ F' v,ν[i]?=some (some v)/\RS M0 F' (Γ.set i none++ [some o]) (ν++ [some v]) H/\Stp F H F' H:=by
 let⟨v,ev,_⟩:=r.at' i o e
 let hl:=r.len
 let hi:=(xa.mp e).1
 let lt:∀{j p},(Γ.set i none++ [some o])[j]?=some (some p)->j≠Γ.length->j≠i/\j<Γ.length/\Γ[j]?=some (some p):=λ{j p} ej hj=>by
  let h1:=(xa.mp ej).1
  simp at h1
  rw[xc (by simp;lia)]at ej
  have:j≠i:=λz=>by subst z;simp[hi]at ej
  rw[xi (Ne.symm this)]at ej
  exact⟨this,by lia,ej⟩
 let⟨F',r'⟩:=r.map (Γ':=Γ.set i none++ [some o]) (ν':=ν++ [some v]) (λj=>if j=Γ.length then i else j) (λj p ej=>by
  split
  ·subst j
   simp at ej
   subst ej
   exact⟨e,by simp[<- hl,ev]⟩
  next hj=>
   let⟨_,h1,h2⟩:=lt ej hj
   exact⟨h2,xc (by lia)⟩) (λj k o p e1 e2=>by
  let h1:=@lt _ _ e1
  let h2:=@lt _ _ e2
  split<;>split<;>lia) (by simp[hl])
 exact⟨F',v,ev,r'⟩
def zhj {s i:Nat}(hN:X.N[s]?=some x) (hv:Vis X.env.scope x) (hm:mp[s]?=some i) (hd:(↥x)) (hcd:(x==("__classdict__" :Str))=false) :
  SO X mp (.Name x pos) (fMove i):=by?
 unfold fMove at hp
 delta hp o q
 let⟨F',v,e1,rs1,s1⟩:=rs.take q
 erw[(qB hN hv hd hcd).wp ⟨v,hs s i v hm e1,hp F' H v rs1 s1⟩]
@[reducible] noncomputable def sRet(fo:EM OV):SM:=λΓ=>(fo Γ).bind λ(o,Γ1)=>.ok (.ret o,Γ1)
def zjK(h:SO X mp e fo):SS X mp io (.Return (some e) pos) (sRet fo):=λM0 F Γ ν σ H D rs hs hl hp=>
 (Kh zC).wp (h M0 F Γ ν σ H _ rs hs ((SPost.seqO hs hl hp).mono λF1 Γ1 H1 o v rs1 s1 h1=>h1 F1 ν v H1 rs1 (.refl _ _) λ_ _=>rfl))
def SOt(mp:Ac)(t:TE)(f:EM OV):Prop:=∀(M0:Ae)(F:Fp)(Γ:Gv)(ν:Nu)(σ:St)(H:Hp)(Q:VK),RS M0 F Γ ν H->Sees mp ν σ ->
 OPost M0 F ν σ H (λF' Γ' H' o v=>Q v H') (f Γ)->t σ H Q
def SNt.so(h:SNt mp t na):SOt mp t (fOwn na):=λM0 F Γ ν σ H Q rs hs hp=>
 h M0 F Γ ν σ H Q rs hs (hp.seq.mono λF1 Γ1 H1 ds rs1 s1 h1 vs p r n=>by
  let⟨r2,s2⟩:=rs1.newO n r
  exact h1 _ _ _ r2 s2)
def SNt.sd(h:SNt mp t na):SOt mp t (fD (fNew na)):=λM0 F Γ ν σ H Q rs hs hp=>
 h M0 F Γ ν σ H Q rs hs (by
  let hp':OPost M0 F ν σ H (λF' Γ' H' o v=>Q v H') ((na Γ).bind λ(ds,Γ1)=>.ok (.d (.list ds),Γ1)):=by
   let e:fD (fNew na) Γ=(na Γ).bind λ(ds,Γ1)=>.ok (.d (.list ds),Γ1):=by
    unfold fD fNew
    cases na Γ<;>rfl
   rw[<- e];exact hp
  exact hp'.seq.mono λF1 Γ1 H1 ds rs1 s1 h1 vs p r n=>by
   let s2:Same H1 (upd H1 p (.lst vs)):=qd n
   exact h1 F1 _ _ ((rs1.same s2).newD (Rep.list zH (λz=>rs1.al p z n) (r.grow s2.grow))) (.same s2))
@[reducible] noncomputable def sAsg(io:Ac)(i:Nat)(fo:EM OV):SM:=λΓ=>(fo Γ).bind λ(o,Γ1)=>if i<Γ1.length/\i∉io then .ok (.next,Γ1.set i (some o)) else .bad
def yy{t:TE}(hps:PS X st (yB t (Wu s)))(hn:mp.Nodup)(hm:mp[s]?=some i)(hsl:s<X.N.length)(h:SOt mp t fo):SS X mp io st (sAsg io i fo):=λM0 F Γ ν σ H D rs hs hl hp=>
 hps.wp (h M0 F Γ ν σ H _ rs hs ((SPost.seqO hs hl hp).mono λF1 Γ1 H1 o v rs1 s1 h1=>by
  delta h1 hh
  let⟨F2,rs2,s2⟩:=rs1.move hh.1
  exact h1 F2 _ _ H1 rs2 s2 (hs.set hn hm (by rw[hl];exact hsl)) (by simpa using hl) λj hj=>by
   rw[xi (λz=>hh.2 (by rw[z];exact hj))]))
def Kl{s i:Nat}(hN:X.N.Nodup)(hi:X.N[s]?=some x)(hx:Loc X.env.scope x)(hf:X.fn x=true∨X.env.scope.names.lookup x=some .local)(hn:mp.Nodup)(hm:mp[s]?=some i)(h:SO X mp e fo)
  (hsw:swapsWith e (some (.Name x pos')) pos.line X.env=pure false):SS X mp io (.Assign [.Name x pos'] e pos) (sAsg io i fo) :=
 yy (WX hN hi hx zC hsw hf) hn hm (xa.mp hi).1 h
@[reducible] noncomputable def sAsgT(t:IT)(fa:EM FV):SM:=λΓ=>(fa Γ).bind λ(u,Γ1)=>match derS Γ1 u with
 |some x=>match tgF t x Γ1 with
  |some Γ2=>.ok (.next,Γ2)
  |none=>.bad
 |none=>.bad
def ze7{t:IT}(ha:SE X mp e fa)(hg:SG X mp (·∈io) tg t)(hsw:swapsWithSole [tg] e pos.line X.env=pure false)(hw:swappedStores [tg] e X.env=pure none)
  (hps:PS X (.Assign [tg] e pos) (yB (wpE X e) (wpG X tg))):SS X mp io (.Assign [tg] e pos) (sAsgT t fa):=λM0 F Γ ν σ H D rs hs hl hp=>
 hps.wp (ha M0 F Γ ν σ H _ rs hs ((SPost.seq hs hl hp).mono λF1 Γ1 H1 u rs1 s1 h1 v hv=>by
  delta h1 x ex
  delta h1 Γ2 et
  exact hg M0 F1 Γ1 Γ2 ν σ H1 v x _ rs1 hs hl (hv.strong rs1 ex) et λF2 ν2 σ2 rs2 s2 hs2 hl2 n2 m2=>h1 F2 ν2 σ2 H1 rs2 s2 hs2 hl2 n2))
@[reducible] noncomputable def sExpr(fa:EM FV):SM:=λΓ=>(fa Γ).bind λ(_,Γ1)=>.ok (.next,Γ1)
def zho(ha:SE X mp e fa)(hsw:swapsWith e none pos.line X.env=pure false):SS X mp io (.Expr e pos) (sExpr fa):=λM0 F Γ ν σ H D rs hs hl hp=>
 (Qr zC hsw).wp (ha M0 F Γ ν σ H _ rs hs ((SPost.seq hs hl hp).mono λF1 Γ1 H1 u rs1 s1 h1 v hv=>h1 F1 ν σ H1 rs1 (.refl _ _) hs hl λ_ _=>rfl))
@[reducible] noncomputable def sIf(t:EM Bool)(f g:SM):SM:=λΓ=>(t Γ).bind λ(b,Γ1)=>if b then f Γ1 else g Γ1
def zkW(hc:ST X mp c ta)(ha:SB X mp io body f)(hb:SB X mp io els g):SS X mp io (.If c body els pos) (sIf ta f g):=λM0 F Γ ν σ H D rs hs hl hp=>
 (zkE Zf jP jP).wp (hc M0 F Γ ν σ H _ rs hs ((SPost.seq hs hl hp).mono λF1 Γ1 H1 b rs1 s1 h1=>by
  cases b with
  |true=>erw[Yg (ha M0 F1 Γ1 ν σ H1 D rs1 hs hl h1)]
  |false=>exact Yf (hb M0 F1 Γ1 ν σ H1 D rs1 hs hl h1)))
def jk(t:IT)(body:SM):Aa->Gv->R (FL×Gv)
 |[],Γ=>.ok (.next,Γ)
 |d::ds,Γ=>match tgF t d Γ with
  |none=>.bad
  |some Γ1=>match body Γ1 with
   |.ok (.next,Γ2)=>jk t body ds Γ2
   |.ok (.cnt,Γ2)=>jk t body ds Γ2
   |.ok (.brk,Γ2)=>.ok (.next,Γ2)
   |r=>r
@[reducible] noncomputable def sFor(t:IT)(src:EM (Aa))(body:SM):SM:=λΓ=>(src Γ).bind λ(ds,Γ1)=>jk t body ds Γ1
def zjI{t:IT}{src:EM (Aa)}(hpo:PassesOwn (model X.prog X.w) X.A X.env X.xe)(hc:X.calm=true)(hi:SI X mp tg iter src)(hg:SG X mp (·∈io) tg t)(hb:SB X mp io body f)
  (hf:∀ x,foldedSetIterable iter X.env x=pure x):SS X mp io (.For tg iter body [] pos) (sFor t src f):=λM0 F Γ ν σ H D rs hs hl hp=>by
 erw[(zeG hpo hc Jb ym jP hf).wp (hi M0 F Γ ν σ H _ rs hs ((SPost.seq hs hl hp).mono λF1 Γ1 H1 ds rs1 s1 h1 J hJ=>?_))]
 dsimp only at h1
 refine⟨λi m σ' H'=>m=ds.length-i/\i<=ds.length/\∃ F' Γ' ν',RS M0 F' Γ' ν' H'/\Stp F1 H1 F' H'/\Sees mp ν' σ'/\σ'.length=X.N.length/\SPost M0 F' ν' H' mp X.N.length io D (jk t f (ds.drop i) Γ'),⟨ds.length,by simp,ub _,F1,Γ1,ν,rs1,.refl _ _,hs,hl,h1⟩,?_⟩
 rintro i m σ' H' ⟨rfl,hil,F',Γ',ν',rs',st',hs',hl',hp'⟩
 let⟨jgo,jst⟩:=hJ i F' H' st' rs1.al0
 by_cases hlt:i<ds.length
 ·let⟨go,yl⟩:=jgo ds[i] (by simp[hlt])
  rw[List.drop_eq_getElem_cons hlt,jk]at hp'
  refine .inr ⟨go,λσ2 H2=>∃ F2 Γ2 ν2,RS M0 F2 Γ2 ν2 H2/\Stp F1 H1 F2 H2/\Sees mp ν2 σ2/\σ2.length=X.N.length/\SPost M0 F2 ν2 H2 mp X.N.length io D (jk t f (ds.drop (i+1)) Γ2),λσ2 H2 h=>⟨ds.length-(i+1),by lia,rfl,hlt,h⟩,λx H2 hy=>?_⟩
  let⟨s2,rx⟩:=yl x H2 hy
  cases et:tgF t ds[i] Γ' with
  |none=>rw[et]at hp';exact hp'.elim
  |some Γ2=>
   rw[et]at hp'
   dsimp only at hp'
   erw[hg M0 F' Γ' Γ2 ν' σ' H2 x ds[i] _ (rs'.same s2) hs' hl' rx et λF3 ν3 σ3 rs3 s3 hs3 hl3 n3 m3=>?_]
   let sA:=(Stp.same s2).trans s3
   erw[hb M0 F3 Γ2 ν3 σ3 H2 _ rs3 hs3 hl3 ?_]
   cases ef:f Γ2 with
   |bad=>rw[ef]at hp';exact hp'.elim
   |ok z=>
    let⟨fl,Γ4⟩:=z
    rw[ef]at hp'
    cases fl with
    |next=>erw[λF4 ν4 σ4 H4 a b c d e=>⟨F4,Γ4,ν4,a,(st'.trans sA).trans b,c,d,hp'.step (sA.trans b) λi hi=>(e i hi).trans (n3 i hi)⟩]
    |cnt=>erw[λF4 ν4 σ4 H4 a b c d e=>⟨F4,Γ4,ν4,a,(st'.trans sA).trans b,c,d,hp'.step (sA.trans b) λi hi=>(e i hi).trans (n3 i hi)⟩]
    |brk=>erw[λF4 ν4 σ4 H4 a b c d e=>hp' F4 ν4 σ4 H4 a (sA.trans b) c d λi hi=>(e i hi).trans (n3 i hi)]
    |ret o=>erw[λF4 ν4 v4 H4 a b e=>hp' F4 ν4 v4 H4 a (sA.trans b) λi hi=>(e i hi).trans (n3 i hi)]
 ·let e:i=ds.length:=by lia
  subst e
  rw[uN,jk]at hp'
  erw[.inl ⟨jst (xg _),hp' F' ν' σ' H' rs' (.refl _ _) hs' hl' λ_ _=>rfl⟩]
def QP{M0:Ae}{F:Fp}{Γ:Gv}{ν:Nu}{H:Hp}{i:Nat}{xs:List OV}(rs:RS M0 F Γ ν H)(e:Γ[i]?=some (some (.l xs))):∃ a vs A,ν[i]?=some (some (.ref a))/\H a=some (.lst vs)/\ORL (MM M0 F) H vs xs A/\F i=a::A/\A.Nodup:=by
 let⟨v,ev,q⟩:=rs.at' i _ e
 let nd:=rs.nd i
 generalize hA:F i=A at q
 rw[hA]at nd
 cases q with
 |l ea qa=>exact⟨_,_,_,ev,ea,qa,rfl,(xB.mp nd).2⟩
def Ka{M0:Ae}{F:Fp}{Γ:Gv}{ν:Nu}{H:Hp}{i:Nat}{xs xs':List OV}{a:Ap}{vs vs':List V}(rs:RS M0 F Γ ν H)(e:Γ[i]?=some (some (.l xs)))(en:ν[i]?=some (some (.ref a)))(eh:H a=some (.lst vs))
  (h:∀ A,ORL (MM M0 F) H vs xs A->ORL (MM M0 F) H vs' xs' A):∃ F',RS M0 F' (Γ.set i (some (.l xs'))) ν (upd H a (.lst vs'))/\Stp F H F' (upd H a (.lst vs')) :=
 rs.mut e en λus A eu qa eF=>by
  rw[eh]at eu;cases eu
  let nd:=rs.nd i
  rw[eF]at nd
  exact⟨A,λ_ h=>h,(xB.mp nd).2,h A qa⟩
def isOwn(Γ:Gv)(i:Nat):Bool:=match Γ[i]? with
 |some (some (.l _))=>true
 |_=>false
def WE{Γ:Gv}{i:Nat}(h:isOwn Γ i=true):∃ xs,Γ[i]?=some (some (.l xs)):=by
 unfold isOwn at h
 split at h
 ·rename_i xs e;exact⟨xs,e⟩
 ·cases h
structure NmK(X:Cx)(mp:Ac)(s i:Nat)(x:Str):Prop where
 hN:X.N[s]?=some x
 hv:Vis X.env.scope x
 hm:mp[s]?=some i
 hd:(↥x)
 hcd:(x==("__classdict__" :Str))=false
@[reducible] noncomputable def sApp(i:Nat)(fa:EM FV):SM:=λΓ=>if isOwn Γ i then (fa Γ).bind λ(u,Γ1)=>match derS Γ1 u,Γ1[i]? with
 |some x,some (some (.l xs))=>if xs.length<1000000 then .ok (.next,Γ1.set i (some (.l (xs++ [.d x])))) else .bad
 |_,_=>.bad
 else .bad
def zjH{s i:Nat}{x:Str}(n:NmK X mp s i x)(ha:SE X mp a fa)(hst:a⁻¹)(hline:(p2.endLine==pos.line)=true) :
  SS X mp io (.Expr (.Call (.Attribute (.Name x p) "append" p2) [a] [] pos) pos') (sApp i fa):=λM0 F Γ ν σ H D rs hs hl hp=>by
 unfold sApp at hp
 delta hp hw
 let⟨xs0,e0⟩:=WE hw
 let⟨a0,vs0,A0,en0,eh0,q0,_,_⟩:=QP rs e0
 refine (Qr (KZ PySem.F.plainAttrs_list PySem.F.slot_list_append PySem.F.type_list_append Vs (qB n.hN n.hv n.hd n.hcd) (zT zC pa_nil hst) rfl (by rw[hst];rfl) hline hst rfl) rfl).wp ⟨.ref a0,hs s i _ n.hm en0,.inl ⟨rfl,_,SqL.of eh0⟩,?_⟩
 erw[ha M0 F Γ ν σ H _ rs hs ((SPost.seq hs hl hp).mono λF1 Γ1 H1 u rs1 s1 h1 v hv=>?_)]
 delta h1 y xs ey ex
 delta h1 hz
 let⟨a1,vs1,A1,en1,eh1,q1,_,_⟩:=QP rs1 ex
 rw[en0]at en1
 cases en1
 refine⟨a0,vs1,v,rfl,rfl,eh1,by have:=Xe;rw[q1.length];lia,?_⟩
 let⟨F2,rs2,s2⟩:=Ka rs1 ex en0 eh1 λA qa=>qa.snoc (hv.strong rs1 ey)
 erw[h1 F2 ν σ _ rs2 s2 hs hl λ_ _=>rfl]
@[reducible] noncomputable def sSet(i:Nat)(fi fv:EM FV):SM:=λΓ=>(fv Γ).bind λ(u,Γ1)=>if isOwn Γ1 i then (fi Γ1).bind λ(w,Γ2)=>match derS Γ2 u,derf Γ2 w,Γ2[i]? with
 |some x,some (.int k),some (some (.l xs))=>match ixN xs.length k with
  |some j=>match xs[j]? with
   |some (.d _)=>.ok (.next,Γ2.set i (some (.l (xs.set j (.d x)))))
   |_=>.bad
  |none=>.bad
 |_,_,_=>.bad
 else .bad
def zjL{s i:Nat}{x:Str}(n:NmK X mp s i x)(hi:SE X mp b fb)(hv:SE X mp a fa)(hsw:swapsWithSole [.Subscript (.Name x p) b p2] a pos.line X.env=pure false)(hw:swappedStores [.Subscript (.Name x p) b p2] a X.env=pure none)
  (hps:∀{te:TE}{g:TG},PE X a te->PG X (.Subscript (.Name x p) b p2) g->PS X (.Assign [.Subscript (.Name x p) b p2] a pos) (yB te g)) (hpg:∀{to ti:TE}{t:zfC},PE X (.Name x p) to->PE X b ti->zh2 X t->PG X (.Subscript (.Name x p) b p2) (zki to ti t)) :
  SS X mp io (.Assign [.Subscript (.Name x p) b p2] a pos) (sSet i fb fa):=λM0 F Γ ν σ H D rs hs hl hp=>by
 erw[(hps zC (hpg (qB n.hN n.hv n.hd n.hcd) zC zeV)).wp (hv M0 F Γ ν σ H _ rs hs ((SPost.seq hs hl hp).mono λF1 Γ1 H1 u rs1 s1 h1 v ov=>?_))]
 delta h1 hw
 let⟨xs0,e0⟩:=WE hw
 let⟨a0,vs0,A0,en0,eh0,q0,_,_⟩:=QP rs1 e0
 refine⟨.ref a0,hs s i _ n.hm en0,?_⟩
 erw[hi M0 F1 Γ1 ν σ H1 _ rs1 hs ((SPost.seq hs hl h1).mono λF2 Γ2 H2 w rs2 s2 h2 vi oi=>?_)]
 delta h2 y k xs ey ek ex
 delta h2 j ej
 delta h2 z ez
 let⟨a1,vs1,A1,en1,eh1,q1,_,_⟩:=QP rs2 ex
 rw[en0]at en1
 cases en1
 cases oi.weak rs2 ek
 refine⟨a0,vs1,k,j,rfl,rfl,eh1,by rw[q1.length];exact ej,?_⟩
 let⟨F3,rs3,s3⟩:=Ka rs2 ex en0 eh1 λA qa=>qa.setD ((ov.stp s2 rs1.al0).strong rs2 ey) ez
 erw[h2 F3 ν σ _ rs3 s3 hs hl λ_ _=>rfl]
def vG(n:Nat)(x:Int):Nat:=if x<0 then (x+(n:Int)).toNat else min x.toNat n
def rIns:V->List V->Hp->VK->Prop:=λx vs H Q=>∃ l xs i y,x=.ref l/\vs= [.int i,y]/\H l=some (.lst xs)/\ -(2 ^ 63)<=i/\i<2 ^ 63/\xs.length<sizeLine/\Q .non (upd H l (.lst (xs.take (vG xs.length i)++y::xs.drop (vG xs.length i))))
def zbK:MtM X "list.insert" rIns:=by
 intro pins s σ H x vs v us Q I rx rv h
 let⟨l,xs,i,y,rfl,rfl,hH,h1,h2,hz,q⟩:=h
 cases rx
 let⟨u,w',rfl,ru,rw'⟩:=zae rv
 let⟨t,rfl⟩:=ru
 let⟨z,its,n,r,hl,e⟩:=I.lstM hH
 let hf:Builtin.List.listFitsIndex i=true:=by
  unfold Builtin.List.listFitsIndex
  simp only[xh,x0]
  exact⟨h1,h2⟩
 refine call_meets PySem.F.slot_list_insert ⟨_,e,rfl⟩ PySem.F.entry_list_insert (PySem.F.args_list_insert_3 _ _ _) (PySem.AutoSeq1.list_insert_list_int_val_1 l its.toArray n i t w' (by simp[hf]) (by rw[xn];lia)) ⟨e,?_⟩
 refine⟨.non,_,I.lset hH e ?_ ((r.take _).append (.cons rw' (r.drop _))) ?_,rfl,q⟩
 ·show (its.toArray.extract 0 (if i<0 then (i+(its.toArray.size:Int)).toNat else min i.toNat its.toArray.size)).push w'++its.toArray.extract (if i<0 then (i+(its.toArray.size:Int)).toNat else min i.toNat its.toArray.size)=_
  rw[xn,<- hl]
  show (its.toArray.extract 0 (vG xs.length i)).push w'++its.toArray.extract (vG xs.length i) xs.length=_
  apply Array.ext'
  simp
  exact uq (by rw[uw];lia)
 ·simp only[xy,xq,xI,uw]
  lia
@[reducible] noncomputable def Ki(i:Nat)(fi fv:EM FV):SM:=λΓ=>if isOwn Γ i then (fi Γ).bind λ(w,Γ1)=>(fv Γ1).bind λ(u,Γ2)=>match derS Γ2 u,derf Γ2 w,Γ2[i]? with
 |some x,some (.int k),some (some (.l xs))=>if xs.length<1000000/\ -1000000<=k/\k<=1000000 then .ok (.next,Γ2.set i (some (.l (xs.take (vG xs.length k)++.d x::xs.drop (vG xs.length k))))) else .bad
 |_,_,_=>.bad
 else .bad
def zjJ{s i:Nat}{x:Str}(n:NmK X mp s i x)(hi:SE X mp b fb)(ha:SE X mp a fa)(hst:starEach [b,a] X.env=(false,eval b X.env)::starEach [a] X.env)(hst2:a⁻¹)(hline:(p2.endLine==pos.line)=true) :
  SS X mp io (.Expr (.Call (.Attribute (.Name x p) "insert" p2) [b,a] [] pos) pos') (Ki i fb fa):=λM0 F Γ ν σ H D rs hs hl hp=>by
 unfold Ki at hp
 delta hp hw
 let⟨xs0,e0⟩:=WE hw
 let⟨a0,vs0,A0,en0,eh0,q0,_,_⟩:=QP rs e0
 refine (Qr (KZ PySem.F.plainAttrs_list PySem.F.slot_list_insert PySem.F.type_list_insert zbK (qB n.hN n.hv n.hd n.hcd) (zT zC (zT zC pa_nil hst2) hst) rfl (by rw[hst,hst2];rfl) hline hst (by rw[hst2];rfl)) rfl).wp ⟨.ref a0,hs s i _ n.hm en0,.inl ⟨rfl,_,SqL.of eh0⟩,?_⟩
 erw[hi M0 F Γ ν σ H _ rs hs ((SPost.seq hs hl hp).mono λF1 Γ1 H1 w rs1 s1 h1 vi oi=>?_)]
 erw[ha M0 F1 Γ1 ν σ H1 _ rs1 hs ((SPost.seq hs hl h1).mono λF2 Γ2 H2 u rs2 s2 h2 v ov=>?_)]
 delta h2 y k xs ey ek ex
 delta h2 hz
 let⟨a1,vs1,A1,en1,eh1,q1,_,_⟩:=QP rs2 ex
 rw[en0]at en1
 cases en1
 cases (oi.stp s2 rs1.al0).weak rs2 ek
 refine⟨a0,vs1,k,v,rfl,rfl,eh1,by lia,by lia,by have:=Xe;rw[q1.length];lia,?_⟩
 let⟨F3,rs3,s3⟩:=Ka (vs':=vs1.take (vG vs1.length k)++v::vs1.drop (vG vs1.length k)) rs2 ex en0 eh1 λA qa=>by
  rw[q1.length];exact qa.insD (ov.strong rs2 ey) _
 erw[h2 F3 ν σ _ rs3 s3 hs hl λ_ _=>rfl]
end
end L3
namespace L2
open PySem PySem.Spec PyProof.Rows
variable [Cs]
section
variable {X:Cx}{pins:Ak}{σ:List (Option V)}{H:Hp}{s:Am}{h':Heap}
def Inv.turnedL{ch:List Ap}(I:Inv X pins σ H s)(k:∀ b o,b∉ch->s.heap.get? b=some o->h'.get? b=some o)(there:∀ b o,b∈ch->s.heap.get? b=some o->∃ o',h'.get? b=some o')(hf:∀ b∈ch,Jm X pins H b):Inv X pins σ H { s with heap:=h',toks:=t' }:=by
 let nit:∀ b u,H b=some u->b∉ch:=λb u e z=>by rw[(hf b z).1]at e;cases e
 refine I.step (λb hb=>?_) (λb o _ _ hc e _=>k b o hc e) (λb o _ _ hc e _=>⟨o.slots,k b o hc e⟩) (λ_ _ _ _ n=>n)
  (λb o hc e=>⟨o,k b o hc e⟩) (λ_ _ e=>e) (λ_ _ _ e=>e) (λb ps e=>⟨#[],by rw[e];simp⟩) (λm hm=>?_) (λb u e=>?_) I.bare
 ·let⟨f0,f1,f2,f3,f4,f5⟩:=hf b hb
  exact⟨f3,f1,f4,f5⟩
 ·let⟨o,es,ep,ho,r⟩:=hm
  exact⟨o,es,ep,k _ o (λz=>(hf _ z).2.1 rfl) ho,r⟩
 ·refine (I.hok b u e).stay (λc v hc q=>k c v ?_ q) (λ_ q=>q) λ_ _ q=>q
  rcases hc with z | z
  ·rw[z];exact nit b u e
  ·erw[nit c _ z]
end
def Ite(K:Ah)(a:Ap):It :=
 ⟨λi H=>∃ xs x,SqL K H a xs/\xs[i]?=some x,λi H x H'=>∃ p y,H p=none/\H'=upd H p (.tup [.int i,y])/\x=.ref p/\∀ xs,SqL K H a xs->xs[i]?=some y,λi H=>∃ xs,SqL K H a xs/\xs.length<=i⟩
def zcf{K:Ah}{elts:Ag}{x1:Nat}{pos:Pos}(a e it:Ap)(hei:e≠it):wU P w K (.Tuple elts x1 pos) (Ite K a) [e,it] e (λi h=>(∃ old,IsEnum h e it i old)/\h.IsListIter it a i) where
 mem:=by simp
 obj:=λi h st b hb=>by
  let⟨⟨old,he⟩,hit⟩:=st
  rcases xw.mp hb with rfl | hb
  ·exact⟨_,he,λv z=>by cases z⟩
  ·let eb:b=it:=by simpa using hb
   subst eb
   let⟨o,e,c,d⟩:=hit
   exact⟨o,e,λv z=>by rw[d]at z;cases z⟩
 keep:=λi h h' st k=>by
  let⟨⟨old,he⟩,hit⟩:=st
  exact⟨⟨old,k e (by simp) _ he⟩,hit.at λo q=>k it (by simp) o q⟩
 item:=by
  intro X hP hw hK hc i pins s σ H E I hf st hg
  subst hP hw hK
  let⟨⟨old,he⟩,hit⟩:=st
  let⟨xs,x,hq,hx⟩:=hg
  let⟨its,rv,p,hz⟩:=I.list hq
  let⟨u,hu,ru⟩:=rv.get hx
  let helt:e<⇑s:=x5 he
  let hilt:it<⇑s:=by let⟨_,q,_⟩:=hit;exact x5 q
  refine wpAny_pyNext_enum_item he hit p.isList (by simpa using hu) hei λh1 ho hit1 hT hsz hk=>⟨.ref ⇑s,rfl,wpAny_letOwnedTupleGo_enum ho λh2 he2 hs2=>?_⟩
  let keep2:∀ b o,b≠e->b≠it->s.heap.get? b=some o->h2.get? b=some o:=λb o h1' h2' q=>(hs2.2 b h1').trans (hk b o h1' h2' q)
  let hit2:h2.IsListIter it a (i+1):=hit1.at λo q=>(hs2.2 it (Ne.symm hei)).trans q
  let I1:Inv X pins σ H { s with heap:=h2,toks:=s.toks+1 }:=I.turnedL (λb o hb q=>keep2 b o (λz=>hb (by simp[z])) (λz=>hb (by simp[z])) q) (λb o hb q=>by
   rcases xw.mp hb with rfl | hb
   ·exact⟨_,he2⟩
   ·let eb:b=it:=by simpa using hb
    subst eb
    let⟨o',q',_⟩:=hit2
    exact⟨o',q'⟩) hf
  let hTn:H ⇑s=none:=I.hok.fresh (xg _)
  let hT2:h2.get? ⇑s=some { cls:=.type "tuple",data:=.seq #[.int i s.toks,u] }:=(hs2.2 _ (uW helt)).trans hT
  let I2:Inv X pins σ (upd H ⇑s (.tup [.int i,x])) { s with heap:=h2,toks:=s.toks+1 }:=I1.track I.sz hTn (Ne.symm (xj I.lt)) (λy c q=>by
    let⟨v,ob,hob,_⟩:=I.cell y c q
    exact xj (x5 hob)) (λq hq'=>xj (x5 (I.pin q hq').1))
   ⟨by show 2<=sizeLine;decide,[.int i s.toks,u],.cons ⟨_,rfl⟩ (.cons ru .nil),⟨_,hT2,rfl,_,rfl⟩⟩
  refine⟨.ref ⇑s,_,I2,rfl,⟨_,x,hTn,rfl,rfl,λys hy=>by rw[I.list_inj hy hq];exact hx⟩,⟨⟨u,by simpa using he2⟩,hit2⟩,λb hb=>?_⟩
  rw[zG]
  ·erw[(hf b hb).1]
  ·rcases xw.mp hb with rfl | hb
   ·erw[xj helt]
   ·let eb:b=it:=by simpa using hb
    subst eb;exact xj hilt
 done:=by
  intro X hP hw hK hc i pins s σ H E I hf st hg
  subst hP hw hK
  let⟨⟨old,he⟩,hit⟩:=st
  let⟨xs,hq,hx⟩:=hg
  let⟨its,rv,p,hz⟩:=I.list hq
  let⟨f0,f1,f2,f3,f4,f5⟩:=hf it (by simp)
  let hl:=rv.length
  exact wpAny_pyNext_enum_end (I.ok.hd hc) he hit p.isList (by simp;lia) λh1 eb=>⟨rfl,I.turned (λb o hb q=>eb b o hb q) f0 f1 f3 f4 f5⟩
 self:=λ_ _ _ _ _ st h=>by
  let⟨⟨old,he⟩,_⟩:=st
  erw[wpAny_pyIter_enum he h]
def boot_enumW:bootBuiltins "enumerate" =some (.type "enumerate"):=by decide +kernel
section
variable {X:Cx}
def zkk(K:Ah)(tl:TE):TI:=λσ H R=>tl σ H λx H1=>∃ a,x=.ref a/\(∃ xs,SqL K H1 a xs)/\R (Ite K a) H1
def zgD {elts:Ag}{x1:Nat}{pt:Pos}{l:Expr}{p pos:Pos}(hg:Gl X "enumerate") (hm:X.mg "enumerate" =none) (hst:l⁻¹) :
  PI X (.Tuple elts x1 pt) (.Call (.Name "enumerate" p) [l] [] pos) (zkk X.K (wpE X l)):=by
 intro pins s σ H R I h
 let h':zfg (wpE X l) zjR σ H (λvs H1=>∃ v,vs= [v]/\∃ a,v=.ref a/\(∃ xs,SqL X.K H1 a xs)/\R (Ite X.K a) H1):=wpE.mono h λv H1 q=>⟨v,rfl,q⟩
 erw[Call_ (QM I hg hm boot_enumW (PyProof.Rows.callWith_type1 (thn ((zT zC pa_nil hst) pos pins s σ H _ I h') λus s1 ⟨vs,H1,I1,r1,q1⟩=>?_) hst rfl))]
 let⟨v,rfl,a,rfl,⟨xs,hq⟩,q⟩:=q1
 let⟨u,rfl,ru⟩:=j7 r1
 cases ru
 let⟨its,rv,pl,hz⟩:=I1.list hq
 erw[call_enumerate_list pl.isList λh1 he hit hsz hk=>?_]
 erw[wpAny_pyIter_enum he ?_]
 let I2:Inv X pins σ H1 { s1 with heap:=h1 }:=I1.kept hk
 refine⟨⇑s1+1,[⇑s1+1,⇑s1],_,_,H1,rfl,I2,zcf a _ _ (Nat.succ_ne_self _),⟨⟨_,he⟩,hit⟩,λb hb=>?_,q⟩
 rcases xw.mp hb with rfl | hb
 ·erw[I1.fpOk (uR _) (I1.hok.fresh (uR _))]
 ·let eb:b=⇑s1:=by simpa using hb
  subst eb
  erw[I1.fpOk (xg _) (I1.hok.fresh (xg _))]
end
end L2
namespace L3
open PySem PySem.Spec PyProof.Rows L2
variable [Cs]
def qR(ds:Aa):Aa:=ds.zipIdx.map λp=>PyData.tuple [.int p.2,p.1]
def Qo{i:Nat}(h:(qR ds)[i]?=some d):∃ x,ds[i]?=some x/\d=.tuple [.int i,x]:=by
 unfold qR at h
 rw[xf,List.getElem?_zipIdx]at h
 cases e:ds[i]? with
 |none=>rw[e]at h;cases h
 |some x=>rw[e]at h;simp at h;exact⟨x,rfl,h.symm⟩
def zbu(ds:Aa):(qR ds).length=ds.length:=by simp[qR]
@[reducible] noncomputable def fEnum(fa:EM FV):EM (Aa):=λΓ=>(fa Γ).bind λ(u,Γ1)=>match derS Γ1 u with
 |some (.list ds)=>.ok (qR ds,Γ1)
 |_=>.bad
def zgc{F:Fp}{K:Ah}{H1:Hp}{l:Ap}(e:H1 l=some (.lst vs))(n:¬ MM M0 F l)(r:RepL (MM M0 F) H1 vs ds):JI M0 F (Ite K l) (qR ds) H1:=λi F' H' s h0=>by
 let e':=(s.keep l _ e λj hj=>n (.inr ⟨j,hj⟩)).1
 refine⟨λd hd=>?_,λhl=>⟨vs,SqL.of e',by rw[zbu]at hl;rw[r.length];exact hl⟩⟩
 let⟨x,hx,rfl⟩:=Qo hd
 let⟨v,hv,rv⟩:=r.get' hx
 refine⟨⟨vs,v,SqL.of e',hv⟩,λz H2 ⟨p,y,np,e2,ez,hy⟩=>?_⟩
 subst e2 ez
 have:=hy vs (SqL.of e')
 rw[hv]at this;cases this
 exact⟨qd np,.tuple zH (.cons (.int _) (.cons ((qe s h0 rv).grow (qd np).grow) .nil))⟩
section
variable {X:Cx}{mp:Ac}{a:Expr}{p pos:Pos}{fa:EM FV}
def zg8 (B:BiK X x (.type "enumerate")) (ex:x= "enumerate") (ha:SE X mp a fa) (hst:a⁻¹):SI X mp (.Tuple elts x1 pt) (.Call (.Name x p) [a] [] pos) (fEnum fa):=λM0 F Γ ν σ H R rs hs hp=>by
 subst ex
 exact (zgD B.gl B.mg hst).wp (ha.run rs hs hp λF1 Γ1 H1 u v rs1 s1 o1 h1=>by
  delta h1 ds eu
  let⟨l,vs,rfl,e,n,r⟩:=(o1.strong rs1 eu).lst_inv
  exact⟨l,rfl,⟨vs,SqL.of e⟩,h1 F1 H1 rs1 (.refl _ _) _ (zgc e n r)⟩)
end
end L3
namespace L2
open PySem PySem.Spec PyProof.Rows
variable [Cs]
structure zj0(M:Ae)(H:Hp)(b c:Ap)(cells:List Int)(i l t s:Int):Prop where
 mb:M b
 hb:H b=some (.lst [.ref c,.int i,.int l,.int t,.int s])
 hc:Rep M H (.ref c) (.list (cells.map PyData.int))
 hi:0<=i
def BoxAt(M:Ae)(H:Hp)(b:Ap):Prop:=∃ c cells i l t s,zj0 M H b c cells i l t s
def BoxAt.lst(B:BoxAt M H b):∃ xs,H b=some (.lst xs):=let ⟨_,_,_,_,_,_,B⟩:=B;⟨_,B.hb⟩
def ze6(K:Ah):Sp:=λvs H Q _=>∃(a:Ap)(ns:List Int),vs= [.ref a]/\SqL K H a (ns.map V.int)/\ns.length<=63/\∀ b H',Same H H'->H b=none->H' b≠none->BoxAt (λa=>a=b) H' b->Q (.ref b) H'
section
end
def vZ{n i:Nat}(e:(List.replicate n none:Ge)[i]?=some (some z)):False:=by
 rw[xN]at e
 split at e
 ·cases e
 ·cases e
def RS.blank{M:Ae}(n:Nat)(al:Al M H):RS M (List.replicate n none) σ H:=⟨al,λi d e=>(vZ e).elim,λi d e=>(vZ e).elim⟩
section
variable {X:Cx}{H:Hp}{D:QX}{sts:List Stmt}{p pos pos' p2:Pos}{x:Str}{k:Nat}{Q:VK}
def zjX {ns:List Int}{N:Ab}(hN:X.N.Nodup) (kb:Kn X.prog X.w X.K X.mg X.base CX0 "_law_box" k (ze6 X.K)) (hr:Room k X.A) (hS:SqL X.K H a (ns.map V.int)) (hlen:ns.length<=63)
  (kk:∀ b σ' H',Same H H'->H b=none->BoxAt (λa=>a=b) H' b->RS (λa=>a=b) ((List.replicate X.N.length none).set 1 (some (.v (.ref b)))) σ' H'->σ'.length=X.N.length->wpB X sts D σ' H')
  (hNe:X.N=N) (h0:N[0]?=some ("_law_script" :Str)) (hi:X.N[1]?=some x:=by rfl) (hv0:Vis X.env.scope "_law_script" :=by first | exact Or.inl rfl | exact Or.inr (Or.inl rfl) | exact Or.inr (Or.inr rfl)) (hx:Loc X.env.scope x:=by first | exact Or.inl rfl | exact Or.inr rfl)
  (hf:X.fn x=true∨X.env.scope.names.lookup x=some .local:=by first | exact .inl rfl | exact .inr rfl | assumption) (hg:Gl X "_law_box" :=by rfl)
  (hs:starEach [.Name "_law_script" p2] X.env= [(false,eval (.Name "_law_script" p2) X.env)]:=by rfl) (hpl:(backTo p (starEach [] X.env)).any (·.1)=false:=by rfl) {p3:Pos} :
  wpB X (.Assign [.Name x pos'] (.Call (.Name "_law_box" p3) [.Name "_law_script" p2] [] p) pos::sts) D (start N [.ref a]) H:=by
 let hl:1<N.length:=by rw[<- hNe];exact (xa.mp hi).1
 let hst:(start N [V.ref a]).length=N.length:=yA (by simp;lia)
 refine zlk 1 (Q:=λv H'=>∃ b,v=.ref b/\Same H H'/\H b=none/\BoxAt (λa=>a=b) H' b) hN (zhK kb hr hg zkC ((zT (qB (by rw[hNe];exact h0) hv0) pa_nil hs).wp ⟨.ref a,by simp[start],a,ns,rfl,hS,hlen,λb H' s' nb _ hB=>⟨b,rfl,s',nb,hB⟩⟩) (by decide) hs hpl) (λv H1 ⟨b,ev,s1,nb,hB⟩=>?_) hi hx rfl hf
 subst ev
 refine kk b _ H1 s1 nb hB ((RS.blank X.N.length (λc hc=>?_)).setV (by rw[hst];exact hl)) (by rw[xK,hst,hNe])
 subst hc
 let⟨xs,hx⟩:=hB.lst
 rw[hx]
 erw[λz=>nomatch z]
end
end L2
namespace L2
open PySem PySem.Spec PyProof.Rows
variable [Cs]
section
end
end L2
namespace L3
open PySem PySem.Spec PyProof.Rows L2
variable [Cs]
def QL:Aa->Option (List Int)
 |[]=>some []
 |.int b::r=>(QL r).map (b::·)
 |_=>none
def WA(ns:List Int):QL (ns.map .int)=some ns:=by
 induction ns with
 |nil=>rfl
 |cons b r ih=>simp[QL,ih]
section
end
section
variable {X:Cx}{mp:Ac}{a:Expr}{p2 pos:Pos}{fa:EM FV}
@[reducible] noncomputable def KK(fa:EM FV)(fl fh:EM (Option Int)):EM FV:=λΓ=>(fa Γ).bind λ(u,Γ1)=>(fl Γ1).bind λ(lo,Γ2)=>(fh Γ2).bind λ(hi,Γ3)=>match derS Γ3 u with
 |some (.tuple ds)=>if HT.sIx ds.length 0 lo=0/\HT.sIx ds.length ds.length hi=ds.length then .bad else .ok (.dat (.tuple (Q3 ds lo hi)),Γ3)
 |_=>.bad
def zgT{lo hi:Option Expr}(ha:SE X mp a fa)(hl:SOp X mp lo fl)(hh:SOp X mp hi fh):SE X mp (.Subscript a (.Slice lo hi none p2) pos) (KK fa fl fh):=by?
 let⟨tl,pl,kl⟩:=hl
 let⟨th,ph,kh⟩:=hh
 erw[(Ja zjC zC pl ph).wp (ha.run rs hs hp λF1 Γ1 H1 u v rs1 s1 o1 h1=>?_)]
 erw[kl M0 F1 Γ1 ν σ H1 _ rs1 hs (h1.seq.mono λF2 Γ2 H2 lo rs2 s2 h2=>?_)]
 erw[kh M0 F2 Γ2 ν σ H2 _ rs2 hs (h2.seq.mono λF3 Γ3 H3 hi rs3 s3 h3=>?_)]
 delta h3 ds e
 split at h3
 ·erw[h3.elim]
 next hw=>
  let o3:=((o1.stp s2 rs1.al0).stp s3 rs2.al0)
  let⟨l,vs,rfl,el,rl⟩:=(o3.strong rs3 e).tup_inv
  exact⟨l,vs,rfl,SqT.of el,by rw[rl.length];exact hw,λp n=>h3 F3 _ (rs3.same (qd n)) (.same (qd n)) _ (Rep.tuple zH ((Yv rl lo hi).grow (qd n).grow))⟩
end
end L3
namespace Tab
open PySem PySem.SetTable
section
variable {prog:Ar}{w:World}
inductive Keys(prog:Ar)(w:World):List (Int×Value)->List Int->Prop
 |nil:Keys prog w [] []
 |cons {k:Int} {t:Tok} {es ks}:Keys prog w es ks->Keys prog w (((intKind prog w).hash k,.int k t)::es) (k::ks)
def Keys.length{es:List (Int×Value)}{ks:List Int}(h:Keys prog w es ks):es.length=ks.length:=by
 induction h with
 |nil=>rfl
 |cons _ ih=>simp[ih]
def dedup{K:Type}[DecidableEq K](ks:List K):List K:=ks.foldl PyProof.Rows.step_dedup []
section
variable {K:Type}[DecidableEq K]
def zcc(σ:List K)(v k:K):(PyProof.Rows.step_dedup σ v).any (·==k)=(σ.any (·==k)||decide (k=v)):=by
 unfold PyProof.Rows.step_dedup
 by_cases e:k=v
 ·subst e;split<;>simp_all
 ·have:(v==k)=false:=by simpa using λh:v=k=>e h.symm
  split<;>simp[this,e]
def Jg(σ:List K)(v:K):(PyProof.Rows.step_dedup σ v).length=if σ.any (·==v) then σ.length else σ.length+1:=by
 unfold PyProof.Rows.step_dedup;split<;>simp
def Wn{ks:List K}{i:Nat}{k:K}(h:ks[i]?=some k):dedup (ks.take (i+1))=PyProof.Rows.step_dedup (dedup (ks.take i)) k:=by
 unfold dedup
 rw[xY,h,List.foldl_append];rfl
def dedup_len(l:List K):(dedup l).length<=l.length:=by
 suffices H:∀(l acc:List K),(l.foldl PyProof.Rows.step_dedup acc).length<=acc.length+l.length by simpa [dedup] using H l []
 intro l
 induction l with
 |nil=>simp
 |cons x l ih=>
  intro acc
  have:=ih (PyProof.Rows.step_dedup acc x)
  rw[Jg]at this
  rw[uy,xq]
  split at this<;>lia
end
end
section
end
section
end
section
end
end Tab
namespace L2
open PySem PySem.Spec PyProof.Rows
variable [Cs]
section
end
end L2
namespace L3
open PySem PySem.Spec PyProof.Rows L2
variable [Cs]
section
end
end L3
namespace L2
open PySem PySem.Spec PyProof.Rows
def W8(n:Nat):sliceRange ((n:Int)-1) (-1) (-1)=(List.range n).map λk=>n-1-k:=by
 unfold sliceRange
 let h1:¬ ((-1:Int)>0):=by decide
 let hc:(if (-1:Int)>0 then (if (n:Int)-1< -1 then (-1-((n:Int)-1)+ -1-1) / -1 else 0) else (if (n:Int)-1> -1 then ((n:Int)-1- -1- -1-1) / (- -1) else 0)).toNat=n:=by
  rw[if_neg h1]
  split
  ·have:((n:Int)-1- -1- -1-1) / (- -1)=n:=by
    let e:(- -1:Int)=1:=by decide
    rw[e,Int.ediv_one];lia
   rw[this];rfl
  ·lia
 simp only[hc]
 apply uo
 intro k hk
 have:=uE.mp hk
 lia
def vK(its:An):slicePick its.toArray none none (some (-1))=its.reverse.toArray:=by
 unfold slicePick
 let hb:sliceBounds none none (some (-1)) its.toArray.size=((its.length:Int)-1,-1,-1):=by
  simp[sliceBounds]
 rw[hb]
 simp only[W8]
 congr 1
 rw[List.filterMap_map]
 have:∀(l:Ac),(∀ k∈l,k<its.length)->l.filterMap ((λx=>its.toArray[x]?)∘λk=>its.length-1-k)=l.filterMap λk=>its.reverse[k]?:=by
  intro l hl
  induction l with
  |nil=>rfl
  |cons k l ih=>
   let hk:=hl k (by simp)
   let e:((λx=>its.toArray[x]?)∘λk=>its.length-1-k) k=its.reverse[k]?:=by
    simp only[Function.comp,List.getElem?_toArray]
    rw[List.getElem?_reverse hk]
   rw[ua,ua,e,ih λj hj=>hl j (xl _ hj)]
 rw[this _ λk hk=>uE.mp hk]
 let key:∀(xs:An),(List.range xs.length).filterMap (λk=>xs[k]?)=xs:=by
  intro xs
  induction xs with
  |nil=>rfl
  |cons x xs ih=>
   rw[xq,List.range_succ_eq_map,ua]
   simp only[List.getElem?_cons_zero,List.filterMap_map]
   congr 1
 have:=key its.reverse
 rwa [List.length_reverse]at this
section
variable {X:Cx}{e:Expr}{te:TE}{st:Expr}{ts:TO}{pos p2:Pos}
def tRev(K:Ah)(te:TE)(ts:TO):TE:=λσ H Q=>te σ H λx H1=>ts σ H1 λk H2=>k=some (-1)/\∃ a xs,x=.ref a/\SqL K H2 a xs/\∀ p,H2 p=none->Q (.ref p) (upd H2 p (.lst xs.reverse))
def zi1(he:PE X e te)(hst:PO X (some st) ts):PE X (.Subscript e (.Slice none none (some st) p2) pos) (tRev X.K te ts):=by
 cbv
 erw[Subscript_ (thn (he pins s σ H _ I h) λv s1 ⟨x,H1,I1,r1,q1⟩=>?_)]
 erw[wpAny_Slice ?_]
 rw[evalPart_none]
 erw[x6 (x6 ?_)]
 erw[thn (hst pins s1 σ H1 _ I1 q1) λvs s3 ⟨k,H3,I3,ps,q3⟩=>?_]
 let⟨rfl,a,xs,rfl,hx,q⟩:=q3
 let I4:Inv X pins σ H3 { s3 with heap:=s3.heap.push { cls:=.type "slice",data:=.fields #[.none,.none,vs] } }:=I3.kept (t':=s3.toks) λb ob q=>x4 _ q
 let hs:(s3.heap.push { cls:=.type "slice",data:=.fields #[.none,.none,vs] }).IsSliceOf ⇑s3 .none .none vs:=Heap.IsSliceOf.new ..
 show ∅ (subscriptTail e (.Slice none none (some st) p2) v (.ref ⇑s3)) (EP X pins σ Q) X.xe { s3 with heap:=s3.heap.push { cls:=.type "slice",data:=.fields #[.none,.none,vs] } }
 cases r1
 let⟨its,r,ht,hz⟩:=I4.list hx
 let hlen:=r.length
 refine tail_any ht.isList.typeIs slot_list_getitem.lookup ?_ (by with_unfolding_all rfl)
 refine wpAny_getItem_list_slice ht.isList hs .none .none ps (by simp) ?_ (by rw[xn]<;>lia)
 rw[vK]
 refine⟨.ref _,_,I4.laid (λb ob q=>x4 _ q) (xg _) ?_,rfl,q _ (I4.hok.fresh (xg _))⟩
 exact⟨by rw[List.length_reverse];exact hz,_,0,r.reverse,x8 _ rfl⟩
end
variable [Cs]
section
end
end L2
namespace L3
open PySem PySem.Spec PyProof.Rows L2
variable [Cs]
section
variable {X:Cx}{mp:Ac}{a st:Expr}{p p2 pos:Pos}{fa fs:EM FV}
@[reducible] noncomputable def KJ(fa:EM FV)(fs:EM (Option Int)):EM (Aa):=λΓ=>(fa Γ).bind λ(u,Γ1)=>(fs Γ1).bind λ(k,Γ2)=>if k=some (-1) then match derL Γ2 u with
 |some ds=>.ok (ds.reverse,Γ2)
 |none=>.bad
 else .bad
def Yw:∀{vs:List V}{ds:Aa},RepL M H vs ds->RepL M H vs.reverse ds.reverse
 |_,_,.nil=>.nil
 |_,_,.cons h t=>by
  rw[uG,uG]
  erw[(Yw t).append (.cons h .nil)]
def zhc{fs:EM (Option Int)}(ha:SE X mp a fa)(hk:SOp X mp (some st) fs):SN X mp (.Subscript a (.Slice none none (some st) p2) pos) (KJ fa fs):=by?
 let⟨tk,pk,kk⟩:=hk
 erw[(zi1 zC pk).wp (ha.run rs hs hp λF1 Γ1 H1 u v rs1 s1 o1 h1=>?_)]
 erw[kk M0 F1 Γ1 ν σ H1 _ rs1 hs (h1.seq.mono λF2 Γ2 H2 k rs2 s2 h2=>?_)]
 delta h2 hk1
 delta h2 ds e
 let⟨l,vs,rfl,el,rl⟩:=(o1.stp s2 rs1.al0).list rs2 e
 exact⟨hk1,l,vs,rfl,SqL.of el,λp n=>h2 F2 H2 rs2 (.refl _ _) _ p (Yw rl) n⟩
end
section
end
section
end
def ORL.snocO(q:OR M H v o B):∀{vs:List V}{os:List OV}{A:List Ap},ORL M H vs os A->ORL M H (vs++ [v]) (os++ [o]) (A++B)
 |_,_,_,.nil=>by simpa using ORL.cons q .nil
 |_,_,_,.cons r t=>by rw[uv];exact .cons r (ORL.snocO q t)
section
end
section
end
section
end
inductive IW where
 |v (s i:Nat)
 |c (n:Int)
def wD(Γ:Gv):IW->Option PyData
 |.v _ i=>match Γ[i]? with
  |some (@&x)=>some x
  |_=>none
 |.c n=>some (.int n)
def WOk(X:Cx)(mp:Ac)(a:Expr)(w:IW):Prop:=∀(M0:Ae)(F:Fp)(Γ:Gv)(ν:Nu)(σ:St)(H:Hp)(x:PyData),RS M0 F Γ ν H->Sees mp ν σ->wD Γ w=some x->∃ v,Rep (MM M0 F) H v x/\∀ Q:VK,Q v H->wpE X a σ H Q
section
variable {X:Cx}{mp:Ac}{c e:Expr}{p:Pos}
def zlm(n:NmK X mp s i x):WOk X mp (.Name x p) (.v s i):=λM0 F Γ ν σ H y rs hs e=>by
 dsimp only [wD]at e
 split at e
 next z q=>
  cases e
  let⟨v,e1,r⟩:=rs.at' i _ q
  generalize F i=A at r
  cases r with
  |d r=>exact⟨v,r,λQ hq=>(qB n.hN n.hv n.hd n.hcd).wp ⟨v,hs s i v n.hm e1,hq⟩⟩
 ·cases e
def zll:WOk X mp (.Constant (.int n) j p) (.c n):=λM0 F Γ ν σ H y rs hs e=>by
 cases e
 exact⟨.int n,.int n,λQ hq=>pe_int.wp hq⟩
end
@[reducible] noncomputable def sRaise(_:Str):SM:=λ_=>.bad
end L3
namespace Tab
open PySem PySem.Spec PyProof.Rows
noncomputable abbrev jY (led:Bool):Obj:={ cls:=.type "set",dict:=none,data:=.set #[] 0 (.fresh 0 0 led) }
section
variable {prog:Ar}{w:World}{K:Type}[DecidableEq K]{knd:KeyKind prog w K}{A:Around}{R:Result->Am->Prop}{I:Ap}{fp wr:List Ap}{G:Array GenState->Array GenState->Prop}{n:Nat}{P:Nat->Aj->Prop}{St:Nat->Am->Prop}
abbrev zah(knd:KeyKind prog w K)(h:Heap)(S:Ap)(ks:List K):Prop:=h.SetOf knd S (λz=>(dedup ks).any (·==z)) (dedup ks).length
def zb6(W:WalksS prog w A.in1 I fp wr G n P St)(S:Ap)(hSf:S∉fp){ks:List K}(hl:ks.length=n)(hval:∀ i v,P i v->∃ k,ks[i]?=some k/\knd.is k v=true/\v.scannable=true)(hb:n+1<scanBound) :
  ∀(m i:Nat)(s:Am),n-i=m->i<=n->St i s->zah knd s.heap S (ks.take i) ->
   (∀ s',Moved (S::wr) G s s'->zah knd s'.heap S ks->R (.ok (.ret .none)) s') ->
   codeAny (model prog w) A (.builtin "set.update.loop" ⟨[.ref S,.ref I],[]⟩) R s:=by
 let n0:S∉wr:=λh=>hSf (W.sub _ h)
 let n1:∀ b∈wr,b∈S::wr:=λb hb=>xl _ hb
 intro m
 induction m with
 |zero=>
  intro i s hk hi hst hS hR
  let hin:i=n:=by lia
  subst hin
  rw[<- hl,xW]at hS
  erw[codeAny_builtin F.entry_set_update_loop ?_]
  rw[Around.under_plainId F.plain_set_update_loop _]
  show wpAny _ A.in1 (pyNext (.ref I) >>= _) _ _ s
  erw[x3 (W.done s _ _ hst λs' hm=>?_)]
  show wpAny _ A.in1 (ret Value.none) _ _ s'
  let⟨o,es,ep,t,ho,rest⟩:=hS
  erw[x6 (hR s' (hm.mono n1) ⟨o,es,ep,t,hm.heap S _ n0 ho,rest⟩)]
 |succ m ih=>
  intro i s hk hi hst hS hR
  let hlt:i<n:=by lia
  erw[codeAny_builtin F.entry_set_update_loop ?_]
  rw[Around.under_plainId F.plain_set_update_loop _]
  show wpAny _ A.in1 (pyNext (.ref I) >>= _) _ _ s
  erw[x3 (W.item i s _ _ hlt hst λv s' hP hst' hm=>?_)]
  let⟨k,ek,ik,sk⟩:=hval i v hP
  let h2:zah knd s'.heap S (ks.take i):=by
   let⟨o,es,ep,tb,ho,rest⟩:=hS
   exact⟨o,es,ep,tb,hm.heap S _ n0 ho,rest⟩
  show wpAny _ A.in1 (holding [v] (setAdd S v) >>= _) _ _ s'
  erw[x3 (Xb ?_)]
  unfold setAdd
  erw[Xb ?_]
  erw[x3 (knd.pyHash ik ?_)]
  let hroom:(dedup (ks.take i)).length+1<scanBound:=by
   have:=dedup_len (ks.take i)
   rw[xI]at this;lia
  erw[wpAny_setAddHashed_of (s:={ s' with toks:=s'.toks+1 }) ik sk h2 hroom λh' hsb h3=>?_]
  let hSi:zah knd h' S (ks.take (i+1)):=SetOf_congr h3 (λz=>by rw[Wn ek,zcc]) (by rw[Wn ek,Jg])
  refine x6 ⟨plainId_quiet F.plain_set_update_loop _,ih (i+1) _ (by lia) hlt (W.frame _ s' _ _ hst' (uR _) λb hb o e=>?_) hSi λs'' hm'' hS''=>?_⟩
  ·rw[hsb.2 b (λh:b=S=>hSf (by rw[<- h];exact hb))];exact e
  ·refine hR s'' (Moved.trans W.gtrans ((hm.mono n1).then_heap (uR _) λb o hb e=>?_) hm'') hS''
   rw[hsb.2 b (λh:b=S=>hb (by rw[h];exact xr))];exact e
end
section
variable {prog:Ar}{w:World}{K:Type}[DecidableEq K]{knd:KeyKind prog w K}{A:Around}{E:Af}{s:Am}
def set_tupleT{a:Ap}{vs:Array Aj}{ks:List K}{Q:Af}(hd:A.handled=none)(ht:s.heap.IsTuple a vs)(hl:ks.length=vs.size)(hv:∀(i:Nat)(v:Aj),vs[i]?=some v->∃ k,ks[i]?=some k/\knd.is k v=true/\v.scannable=true)(hsz:vs.size+1<scanBound)
  (k:∀(h2:Heap)(tk:Nat),zah knd h2 ⇑s ks->(∀ b o,b<⇑s->s.heap.get? b=some o->h2.get? b=some o)->Q (.ref ⇑s) { s with heap:=h2,toks:=tk }) :
  wpAny (model prog w) A (call (.type "set") [.ref a]) Q E s:=by
 let⟨c0,t0,m0⟩:=F.called_set.mro
 let m1:=F.called_set.made
 let m2:=F.called_set.sub
 let m3:=F.called_set.notType
 let m4:=F.called_set.canCreate
 let m5:=F.typeCall_set_1 (.ref a)
 erw[wpAny_call (codeAny_of_tree ?_)]
 show wpAny _ _ (callAny (.type "set") ⟨[.ref a],[]⟩) _ _ s
 refine x6 ⟨Code.quiet_builtin _ (by decide +kernel),codeAny_builtin F.entry_type_call ?_⟩
 rw[Around.under_plain (weight_type_call_type "set" [.ref a] []) rfl]
 repeat (any_goals (first | assumption | wp_step))
 erw[Xj (code_set_new_1 (.ref a) (E:=E) (Q₁:=λz z1=>∃ led:Bool,z=.ref ⇑s/\z1={ s with heap:=s.heap.push (jY led) }) λled=>⟨led,rfl,rfl⟩) λr z1 hr=>?_]
 cases r with
 |error e=>erw[hr]
 |ok fl=>
  cases fl with
  |next=>erw[hr.elim]
  |brk=>erw[hr.elim]
  |cont=>erw[hr.elim]
  |ret z=>
   let⟨led,rfl,rfl⟩:=hr
   let g0:(s.heap.push (jY led)).get? ⇑s=some (jY led):=x8 _ rfl
   let g1:Shared.TypeIs { s with heap:=s.heap.push (jY led) } (.ref ⇑s) "set" :=⟨_,g0,rfl⟩
   let g2:=F.called_set.init.lookup
   let g3:=F.called_set.init.bind (.ref ⇑s)
   repeat (any_goals (first | assumption | wp_step))
   refine Xj (codeAny_call_builtin (R:=wants (λr z2=>r=.none/\∃ h2 tk,z2={ s with heap:=h2,toks:=tk }/\zah knd h2 ⇑s ks /\
     ∀ b o,b<⇑s->s.heap.get? b=some o->h2.get? b=some o) E) F.called_set.init.plain F.entry_set_init (check_set_init_1 g1 ?_)) λr2 z2 hr2=>?_
   ·let ht1:=ht.push (jY led)
    let⟨ot,e1,e2,nt,e3⟩:=ht
    let hlt:=x5 e1
    cases ot with
    |mk oc od odt osl=>
     dsimp only at e2 e3
     subst e2 e3
     let e1':(s.heap.push (jY led)).get? a=some { cls:=.type "tuple",dict:=od,data:=.seq vs nt,slots:=osl }:=x4 _ e1
     let f1:=F.sub_tuple_set
     let f2:=F.sub_tuple_frozenset
     let f3:(Value.type "tuple" ==Value.type "dict")=false:=by decide
     unfold Builtin.«set.__init__» noKeywords Builtin.Frozenset.updateFrom
     generalize hpi:pyIter=pI
     wp_walk
     subst hpi
     erw[wpAny_pyIter_tuple ht1 (x3 (wpAny_runValue ?_))]
     let sz1:(s.heap.push (jY led)).objs.size=⇑s+1:=Heap.size_push ..
     let n1:a≠(s.heap.push (jY led)).objs.size:=by rw[sz1];exact xj (Nat.lt_succ_of_lt hlt)
     let n2:⇑s∉ [(s.heap.push (jY led)).objs.size,a]:=λz=>by
      rcases xw.mp z with z | z
      ·rw[sz1]at z;exact absurd z (xj (uM _))
      ·have:⇑s=a:=by simpa using z
       erw[absurd this.symm (xj hlt)]
     let n3:A.in1.in1.in1.handled=none:=by simp[hd]
     refine zb6 ((Walks.tuple n3 _ a n1 vs).toS) ⇑s n2 hl hv hsz (vs.size-0) 0 _ rfl (ub _)
      ⟨⟨_,x8 _ rfl,rfl,rfl⟩,ht1.push _⟩ ?u ?v
     case u=>
      let g4:=x4 (h:=s.heap.push (jY led)) { cls:=.type "tuple_iterator",data:=.fields #[.ref a,.int 0 0] } g0
      exact SetOf_congr ((setObjOf_fresh (knd:=knd) led).setOf g4 (by unfold scanBound;lia)) (λ_=>rfl) rfl
     case v=>
      intro z2 hm hS
      let q1:=hm.gens
      let q2:=hm.drawn
      let q3:=hm.os
      let q4:=hm.heap
      cases z2 with
      |mk h2 gg gd gt go=>
       dsimp only at q1 q2 q3 q4 hS
       subst q1 q2 q3
       show wpAny _ _ _ _ _ _
       erw[x6 ?_]
       show wpAny _ _ (ret Value.none) _ _ _
       erw[x6 ⟨rfl,h2,gt,rfl,hS,λb o hb e=>q4 b o (λz=>?_) (x4 _ (x4 _ e))⟩]
       rcases xw.mp z with z | z
       ·erw[absurd z (xj hb)]
       ·have:b=(s.heap.push (jY led)).objs.size:=by simpa using z
        rw[sz1]at this;lia
   ·cases r2 with
    |error e=>erw[hr2]
    |ok fl2=>
     cases fl2 with
     |next=>erw[hr2.elim]
     |brk=>erw[hr2.elim]
     |cont=>erw[hr2.elim]
     |ret r=>
      let⟨rfl,h2,tk,rfl,hS,hk⟩:=hr2
      repeat (any_goals (first | assumption | wp_step))
      erw[k h2 tk hS hk]
end
end Tab
namespace L2
open PySem PySem.Spec PyProof.Rows
variable [Cs]
section
variable {X:Cx}
def w5:ji X (.type "range") (λxs H Q=>∃ n:Int,xs= [.int n]/\∀ p,H p=none->Q (.ref p) (upd H p (.rng 0 n))):=by
 intro pins s σ H xs us Q I r h
 let⟨n,rfl,q⟩:=h
 let⟨u,rfl,ru⟩:=j7 r
 let⟨t,rfl⟩:=ru
 erw[call_range_1 ⟨.ref ⇑s,upd H ⇑s (.rng 0 n),I.laid (o:=.rng 0 n) (λb o e=>x4 _ e) (xg _) (show ∃ t u v,_ from ⟨s.toks,t,s.toks+1,x8 _ rfl⟩),rfl,q _ (I.hok.fresh (xg _))⟩]
def vj:∀{n:Nat}{k:Nat}{its:An},its.length=n->(∀(i:Nat)(v:Aj),its[i]?=some v->∃ t,v=Value.int ((k:Int)+(i:Int)) t)->Vals ((List.range n).map λ(i:Nat)=>V.int ((k:Int)+(i:Int))) its
 |0,k,[],_,_=>.nil
 |n+1,k,v::its,hl,h=>by
  let⟨t,e⟩:=h 0 v rfl
  rw[List.range_succ_eq_map,xp,xu]
  erw[.cons ⟨t,e⟩ ?_]
  let ih:=vj (n:=n) (k:=k+1) (its:=its) (by simpa using hl) λi w hw=>by
   let⟨t,e⟩:=h (i+1) w (by simpa using hw)
   exact⟨t,by rw[e];congr 1;lia⟩
  let em:((λi:Nat=>V.int ((k:Int)+(i:Int)))∘Nat.succ)=λi:Nat=>V.int (((k+1:Nat):Int)+(i:Int)):=by
   funext i
   show V.int _=V.int _
   congr 1
   simp only[Nat.succ_eq_add_one]
   lia
  rw[em];exact ih
def vo (hc:X.calm=true):ji X (.type "list") (λxs H Q=>∃ p,∃ n:Nat,xs= [.ref p]/\H p=some (.rng 0 (n:Int))/\n<=1000000/\∀ l,H l=none->Q (.ref l) (upd H l (.lst ((List.range n).map λ(i:Nat)=>V.int (i:Int))))):=by
 intro pins s σ H xs us Q I r h
 let⟨p,n,rfl,hp,hn,q⟩:=h
 let⟨u,rfl,ru⟩:=j7 r
 cases ru
 let⟨t,u,v,e⟩:=I.hok p _ hp
 let hsm:=small_one (a:=0) (b:=(n:Int)) (by decide) (by decide) (by lia) (by lia)
 let hrs:Builtin.Range.rangeSize 0 (n:Int) 1=(n:Int):=by rw[rangeSize_one];split<;>lia
 refine call_list_range (I.ok.hd hc) (show IsRange s.heap p 0 (n:Int) 1 t u v from e) hsm hrs (by lia) λh' tk acc c' hk hS hacc=>?_
 let hv:Vals ((List.range n).map λ(i:Nat)=>V.int (i:Int)) acc.toList:=by
  have:=vj (n:=n) (k:=0) (its:=acc.toList) (by simpa using hacc.1) λi w hw=>by
   let⟨t,e⟩:=hacc.2 i w (by simpa using hw)
   let z:(0:Int)+(i:Int)*1=((0:Nat):Int)+(i:Int):=by lia
   exact⟨t,by rw[e,z]⟩
  simpa using this
 let hz:n<=sizeLine:=by have:=Xe;lia
 exact⟨.ref ⇑s,_,I.laid (t':=tk) (o:=.lst ((List.range n).map λ(i:Nat)=>V.int (i:Int))) hk (xg _) (show _/\∃ its m,_ from ⟨by simpa using hz,acc.toList,c',hv,by simpa using hS⟩),rfl,q _ (I.hok.fresh (xg _))⟩
def Vv {K:Type} [DecidableEq K] (knd:KeyKind X.prog X.w K) (f:K->V) (hf:∀ k u,RelV (f k) u->knd.is k u=true/\u.scannable=true){a:Expr}{p1 p2 q1 q2:Pos}(hc:X.calm=true) (hgl:Gl X "len") (hml:X.mg "len" =none) (hg:Gl X "set") (hm:X.mg "set" =none) (hst:a⁻¹) :
  PE X (.Call (.Name "len" p1) [.Call (.Name "set" p2) [a] [] q2] [] q1) (λσ H Q=>wpE X a σ H λv H1=>∃ l ns,v=.ref l/\SqT X.K H1 l (List.map f ns)/\ns.length<=60/\Q (.int (Tab.dedup ns).length) H1):=by
 cbv
 erw[Xi (QM I hgl hml PySem.boot_len ?_)]
 erw[PyProof.Rows.callWith_builtin1 (E:=X.xe) ?_ rfl rfl]
 show wpAny _ _ (spliced ((false,eval (.Call (.Name "set" p2) [a] [] q2) X.env)::backTo q1 (starEach [] X.env))) _ _ s
 erw[Calls.spliced_cons ?_]
 let h':zfg (wpE X a) zjR σ H (λvs H1=>∃ v,vs= [v]/\∃ l ns,v=.ref l/\SqT X.K H1 l (List.map f ns)/\ns.length<=60/\Q (.int (Tab.dedup ns).length) H1):=wpE.mono h λv H1 q=>⟨v,rfl,q⟩
 erw[Call_ (QM I hg hm Jr (PyProof.Rows.callWith_type1 (thn ((zT zC pa_nil hst) q2 pins s σ H _ I h') λus s1 ⟨vs,H1,I1,r1,z⟩=>?_) hst rfl))]
 let⟨v,rfl,l,ns,rfl,hq,hn,q⟩:=z
 let⟨u,rfl,ru⟩:=j7 r1
 cases ru
 let⟨its,rv,pl,hz⟩:=I1.tuple hq
 let hlen:=rv.length
 rw[xo]at hlen
 let hsz:its.toArray.size=ns.length:=by rw[xn];exact hlen.symm
 let hsb:scanBound=4096:=rfl
 refine Tab.set_tupleT (I1.ok.hd hc) (show s1.heap.IsTuple l its.toArray from pl) hsz.symm (knd:=knd) (λi v e=>?_) (by lia) λh2 tk hS hk=>?_
 ·let hi:=(Array.getElem?_eq_some_iff.mp e).1
  let⟨u,hu,ru⟩:=rv.get (i:=i) (x:=f (ns[i]'(by lia))) (by rw[xf,xb (by lia)];rfl)
  rw[<- Array.getElem?_toList,List.toList_toArray]at e
  cases hu.symm.trans e
  exact⟨_,xb (by lia),hf _ _ ru⟩
 erw[Calls.spliced_nil ?_]
 let⟨o3,es3,ep3,t3,hg3,hx3,hd3,_,_,hb3,hf3,hn3⟩:=hS
 let hdl:=Tab.dedup_len ns
 let I2:Inv X pins σ H1 { s1 with heap:=h2,toks:=tk }:=I1.kept (t':=tk) λb o e=>hk b o (x5 e) e
 refine call_len_set hg3 hx3 hd3 hf3 (by lia) ?_
 refine⟨.int (Tab.dedup ns).length,H1,I2.kept (t':=tk+1+1) λb o e=>e,⟨tk+1,?_⟩,q⟩
 rw[hn3]
end
end L2
namespace L3
open PySem PySem.Spec PyProof.Rows L2
variable [Cs]
section
variable {X:Cx}{mp:Ac}{a:Expr}{p1 p2 q1 q2:Pos}{fa:EM FV}
@[reducible] noncomputable def Wr(fa:EM FV):EM FV:=λΓ=>(fa Γ).bind λ(u,Γ1)=>match derS Γ1 u with
 |some (.tuple ds)=>R.get (QL ds) λns=>if ns.length<=60 then .ok (.dat (.int (Tab.dedup ns).length),Γ1) else .bad
 |_=>.bad
def ZD{M:Ae}{H:Hp}:∀{vs:List V}{ds:Aa}{ns:List Int},RepL M H vs ds->QL ds=some ns->vs=ns.map V.int
 |_,_,_,.nil,e=>by cases e;rfl
 |_,_,_,.cons (ds:=ds) (d:=d) r t,e=>by
  cases d with
  |int i=>
   unfold QL at e
   cases q:QL ds with
   |none=>rw[q]at e;cases e
   |some ms=>
    rw[q]at e
    cases e
    cases r
    rw[xp,ZD t q]
  |_=>cases e
def zg1 (hc:X.calm=true) (hgl:Gl X "len") (hml:X.mg "len" =none) (hgs:Gl X "set") (hms:X.mg "set" =none) (ha:SE X mp a fa) (hsa:a⁻¹) :
  SE X mp (.Call (.Name "len" p1) [.Call (.Name "set" p2) [a] [] q2] [] q1) (Wr fa):=by?
 erw[(Vv (intKind _ _) V.int (λk u ⟨t,e⟩=>e ▸ ⟨intKind_is ..,rfl⟩) hc hgl hml hgs hms hsa).wp (ha.run rs hs hp λF1 Γ1 H1 u v rs1 s1 o1 h1=>?_)]
 delta h1 ds ed
 let⟨ns,en,h1⟩:=R.got id h1
 let⟨hn,h1⟩:=R.gif id h1
 let⟨l,vs,rfl,el,r⟩:=(o1.strong rs1 ed).tup_inv
 let hv:=ZD r en
 subst hv
 exact⟨l,ns,rfl,SqT.of el,hn,h1 F1 H1 rs1 (.refl _ _) _ (Rep.int _)⟩
@[reducible] noncomputable def KM(fa:EM FV):EM (Aa):=λΓ=>(fa Γ).bind λ(u,Γ1)=>match derf Γ1 u with
 |some (.int n)=>if 0<=n/\n<=1000000 then .ok (zZ n.toNat,Γ1) else .bad
 |_=>.bad
def zb4{M:Ae}{H:Hp}(n:Nat):RepL M H ((List.range n).map λ(i:Nat)=>V.int (i:Int)) (zZ n):=by
 unfold zZ
 generalize List.range n=l
 induction l with
 |nil=>erw[.nil]
 |cons x l ih=>erw[.cons (.int _) ih]
def zhf {x y:Str}(hc:X.calm=true) (B:BiK X x (.type "list")) (B2:BiK X y (.type "range")) (ha:SE X mp a fa) (hst:a⁻¹):SN X mp (.Call (.Name x p1) [.Call (.Name y p2) [a] [] q2] [] q1) (KM fa):=by?
 erw[(js (vo hc) B.gl B.mg B.bt (zT (js w5 B2.gl B2.mg B2.bt (zT zC pa_nil hst) B2.n B2.d hst rfl) pa_nil rfl) B.n B.d rfl rfl).wp (ha.run rs hs hp λF1 Γ1 H1 u v rs1 s1 o1 h1=>?_)]
 delta h1 n en
 delta h1 hn
 cases o1.weak rs1 en
 refine⟨n,rfl,λp hp1=>?_⟩
 let sm:Same H1 (upd H1 p (.rng 0 n)):=qd hp1
 refine⟨p,n.toNat,rfl,by rw[zH];congr 2;lia,by lia,λl hl=>?_⟩
 erw[h1 F1 _ (rs1.same sm) (.same sm) _ l (zb4 n.toNat) hl]
end
end L3
namespace L2
open PySem PySem.Spec PyProof.Rows
variable [Cs]
section
end
end L2
namespace L3
open PySem PySem.Spec PyProof.Rows L2
variable [Cs]
section
variable {X:Cx}{mp io:Ac}{a e:Expr}{p pos px py ps:Pos}{fa:EM FV}
@[reducible] noncomputable def sStar(io:Ac)(i j:Nat)(fa:EM FV):SM:=λΓ=>(fa Γ).bind λ(u,Γ1)=>match derS Γ1 u with
 |some (.list (d::ds))=>if i<Γ1.length/\j<Γ1.length/\i∉io/\j∉io then .ok (.next,(Γ1.set i (@&d)).set j (@&(.list ds))) else .bad
 |some (.tuple (d::ds))=>if i<Γ1.length/\j<Γ1.length/\i∉io/\j∉io then .ok (.next,(Γ1.set i (@&d)).set j (@&(.list ds))) else .bad
 |_=>.bad
def zhr{s i t j:Nat}{x y:Str}{k:Nat}(hc:X.calm=true)(hN:X.N.Nodup)(hn:mp.Nodup)(hi:X.N[s]?=some x)(hx:Loc X.env.scope x)(hfx:X.fn x=true∨X.env.scope.names.lookup x=some .local)(hm:mp[s]?=some i)(hj:X.N[t]?=some y)(hy:Loc X.env.scope y)(hfy:X.fn y=true∨X.env.scope.names.lookup y=some .local)(hmt:mp[t]?=some j)
  (ha:SE X mp a fa) (hsw:swapsWithSole [.Tuple [.Name x px,.Starred (.Name y py) ps] k p] a pos.line X.env=pure false) (hw:swappedStores [.Tuple [.Name x px,.Starred (.Name y py) ps] k p] a X.env=pure none) :
  SS X mp io (.Assign [.Tuple [.Name x px,.Starred (.Name y py) ps] k p] a pos) (sStar io i j fa):=λM0 F Γ ν σ H D rs hs hl hp=>by
 let hsl:s<X.N.length:=(xa.mp hi).1
 let htl:t<X.N.length:=(xa.mp hj).1
 erw[(Kg zC (zgB hc hN hi hx hfx hj hy hfy) hsw hw).wp (ha M0 F Γ ν σ H _ rs hs ((SPost.seq hs hl hp).mono λF1 Γ1 H1 u rs1 s1 h1 v hv=>?_))]
 let go:∀(d:PyData)(ds:Aa)(l:Ap)(zs:List V),(SqL X.K H1 l zs∨SqT X.K H1 l zs)->v=.ref l->RepL (MM M0 F1) H1 zs (d::ds)->SPost M0 F1 ν H1 mp X.N.length io D (if i<Γ1.length/\j<Γ1.length/\i∉io/\j∉io then R.ok (FL.next,(Γ1.set i (@&d)).set j (@&(.list ds))) else .bad)->zhS X.K s t v σ H1 λσ' H'=>D.nx σ' H':=λd ds l zs hq hv r h1=>by
  subst hv
  delta h1 hh
  let⟨k1,k2,k3,k4⟩:=hh
  cases r with
  |cons r1 r2=>
   rename_i w ws
   refine⟨l,w,ws,rfl,hq,λq hq=>?_⟩
   let sm:Same H1 (upd H1 q (.lst ws)):=qd hq
   let⟨F2,rs2,s2⟩:=(rs1.same sm).setD (i:=i) (r1.grow sm.grow) k1
   let hnm:¬ MM M0 F1 q:=λz=>rs1.al q z hq
   let rl:Rep (MM M0 F1) (upd H1 q (.lst ws)) (.ref q) (.list ds):=Rep.list zH hnm (r2.grow sm.grow)
   let⟨F3,rs3,s3⟩:=rs2.setD (i:=j) (qe s2 (rs1.same sm).al0 rl) (by simpa using k2)
   refine h1 F3 _ _ _ rs3 (((Stp.same sm).trans s2).trans s3) ((hs.set hn hm (by rw[hl];exact hsl)).set hn hmt (by rw[xK,hl];exact htl)) (by simpa using hl) λz hz=>?_
   rw[xi (λe=>k4 (by rw[e];exact hz)),xi (λe=>k3 (by rw[e];exact hz))]
 dsimp only at h1
 split at h1
 next d ds ed=>
  let⟨l,zs,e,el,_,r⟩:=(hv.strong rs1 ed).lst_inv
  erw[go d ds l zs (.inl (SqL.of el)) e r h1]
 next d ds ed=>
  let⟨l,zs,e,el,r⟩:=(hv.strong rs1 ed).tup_inv
  erw[go d ds l zs (.inr (SqT.of el)) e r h1]
 ·erw[h1.elim]
end
end L3
namespace L2
open PySem PySem.Spec PyProof.Rows
variable [Cs]
section
variable {X:Cx}
def ziX:OpR X (compareOp .In) (λx y H Q=>∃ a b,x=.str a/\y=.str b/\Q (.bl (Txt.contains b a)) H):=by
 intro pins s σ H x y v u Q I rx ry h
 let⟨a,b,rfl,rfl,q⟩:=h
 let⟨t,rfl⟩:=rx
 let⟨t2,rfl⟩:=ry
 erw[SB.contains ⟨.bl _,H,I,rfl,q⟩]
def VP:ji X (.builtin "len") (λxs H Q=>∃ a,xs= [.str a]/\a.length<=sizeLine/\Q (.int a.length) H):=by
 intro pins s σ H xs us Q I r h
 let⟨a,rfl,hz,q⟩:=h
 let⟨u,rfl,t,rfl⟩:=j7 r
 have:=Xe
 exact PyProof.Rows.len_str (by lia) ⟨.int a.length,H,I.tok _,⟨_,rfl⟩,q⟩
def va:∀{xs:List V}{us:An}{ys:Ab},Vals xs us->xs=ys.map .str->StrsAre us ys
 |_,_,[],.nil,_=>.nil
 |_,_,_::_,.nil,e=>by cases e
 |_,_,[],.cons _ _,e=>by cases e
 |_,_,y::ys,.cons r t,e=>by
  rw[xp,List.cons.injEq]at e
  let⟨e1,e2⟩:=e
  subst e1
  let⟨tk,rfl⟩:=r
  erw[.cons y tk (va t e2)]
def zgl:MtR X "str.join" (λx xs H Q=>∃ (a:Str) (p:Ap) (ys:Ab),x=.str a/\xs= [.ref p]/\(SqL X.K H p (ys.map .str)∨SqT X.K H p (ys.map .str))/\a.length<=16/\(ys.map (·.length)).sum+ys.length<=1048576/\Q (.str (Txt.join a ys)) H):=by
 intro pins s σ H x xs v us Q I rx r h
 let⟨a,p,ys,rfl,rfl,hq,h16,hw,q⟩:=h
 let⟨t,rfl⟩:=rx
 let⟨u,rfl,ru⟩:=j7 r
 cases ru
 rcases hq with hq | hq
 ·let⟨its,r2,pl,hz⟩:=I.list hq
  exact join_listW pl.isList (by simpa using va r2 rfl) h16 hw λt' k=>⟨.str _,H,I.tok k,⟨t',rfl⟩,q⟩
 ·let⟨its,r2,pl,hz⟩:=I.tuple hq
  exact join_tupleW pl (by simpa using va r2 rfl) h16 hw λt' k=>⟨.str _,H,I.tok k,⟨t',rfl⟩,q⟩
end
end L2
namespace L3
open PySem PySem.Spec PyProof.Rows L2
variable [Cs]
section
variable {X:Cx}{mp:Ac}{a b c e:Expr}{es:Ag}{pos p2:Pos}{fa fb:EM FV}
def y9:PyData->PyData->Option Bool
 |.str x,.str y=>some (Txt.contains y x)
 |_,_=>none
def zeZ:wK X .In y9:=λx y z e=>by
 unfold y9 at e
 split at e
 ·cases e
  exact⟨_,ziX,λH v u Q r1 r2 k=>by
   cases r1;cases r2
   exact⟨_,_,rfl,rfl,k⟩⟩
 ·cases e
def JT:PyData->Option PyData
 |.str x=>if x.length<=1000000 then some (.int x.length) else none
 |_=>none
def zfS:JO X (.builtin "len") JT:=λx z e=>by
 unfold JT at e
 split at e
 ·split at e
  next h=>
   cases e
   exact⟨rfl,_,VP,λH v Q r k=>by cases r;exact⟨_,rfl,sz6 h,k _ (.int _)⟩⟩
  ·cases e
 ·cases e
@[reducible] noncomputable def zf4(fa fb:EM FV):EM FV:=λΓ=>(fa Γ).bind λ(u,Γ1)=>(fb Γ1).bind λ(w,Γ2)=>match derf Γ2 u,derf Γ2 w with
 |some (.str x),some (.int i)=>if x.length<=1000000 then match atI x.cps.toList i with
  |some c=>.ok (.dat (.str ⟨#[c]⟩),Γ2)
  |none=>.bad
  else .bad
 |_,_=>.bad
def zjs(ha:SE X mp a fa)(hb:SE X mp b fb)(hx:wz b):SE X mp (.Subscript a b pos) (zf4 fa fb):=λM0 F Γ ν σ H Q rs hs hp=>
 (zet ziB zC zC hx).wp (ha.run rs hs hp λF1 Γ1 H1 u v rs1 s1 o1 h1=>hb.run rs1 hs h1 λF2 Γ2 H2 w v2 rs2 s2 o2 h2=>by
  delta h2 x i e1 e2
  delta h2 hz
  delta h2 cc ec
  let r1:=(o1.stp s2 rs1.al0).weak rs2 e1
  let r2:=o2.weak rs2 e2
  cases r1;cases r2
  exact⟨_,_,cc,rfl,rfl,sz6 hz,ec,h2 F2 H2 rs2 (.refl _ _) _ (Rep.str _)⟩)
def ZU:Aa->Option (Ab)
 |[]=>some []
 |.str x::r=>(ZU r).map (x::·)
 |_=>none
def QS(xs:Ab):ZU (xs.map .str)=some xs:=by
 induction xs with
 |nil=>rfl
 |cons b r ih=>simp[ZU,ih]
def Qt:∀{ds:Aa}{xs:Ab},ZU ds=some xs->ds=xs.map .str
 |[],xs,e=>by cases e;rfl
 |.str b::r,xs,e=>by
  unfold ZU at e
  cases q:ZU r with
  |none=>rw[q]at e;cases e
  |some l=>rw[q]at e;cases e;rw[Qt q];rfl
 |.none::r,xs,e=>by cases e
 |.bool _::r,xs,e=>by cases e
 |.int _::r,xs,e=>by cases e
 |.list _::r,xs,e=>by cases e
 |.tuple _::r,xs,e=>by cases e
 |.dict _::r,xs,e=>by cases e
def Qs:∀{vs:List V}{xs:Ab},RepL M H vs (xs.map .str)->vs=xs.map .str
 |_,[],.nil=>rfl
 |_,x::xs,.cons r t=>by
  cases r
  rw[Qs t];rfl
def Wt(z:Str)(x:PyData):Option PyData:=match (match x with | .list ds=>ZU ds | .tuple ds=>ZU ds | _=>none) with
 |some ys=>if (ys.map (·.length)).sum+ys.length<=1000000/\z.length<=16 then some (.str (Txt.join z ys)) else none
 |none=>none
def zg0 {name:Str}{z:Str}{j:Nat}{p1:Pos}(en:name= "join") (ha:SE X mp a fa) (hst:a⁻¹) (hl:(p2.endLine==pos.line)=true) :
  SE X mp (.Call (.Attribute (.Constant (.str z) j p1) name p2) [a] [] pos) (f1 (Wt z) fa):=by?
 subst en
 let hfew:((backTo pos (starEach [a] X.env)).all (λx=> !x.1)&&(backToKw pos (keywordEach [] X.env)).all (λx=>x.1.isSome)&&decide ([a].length+([]:List Keyword).length+(if ([]:List Keyword).isEmpty then 0 else 1)<30))=true:=by rw[hst];rfl
 erw[(KZ PySem.F.plainAttrs_str PySem.F.slot_str_join PySem.F.type_str_join zgl pe_str (zT zC pa_nil hst) rfl hfew hl hst rfl).wp ⟨rfl,?_⟩]
 erw[ha.run rs hs hp λF1 Γ1 H1 u v rs1 s1 o1 h1=>?_]
 let⟨x,ex,h1⟩:=R.got id h1
 let⟨y,ey,h2⟩:=R.got id h1
 let ey:Wt z x=some y:=ey
 unfold Wt at ey
 split at ey
 next ys es=>
  split at ey
  next hh=>
   cases ey
   let r:=o1.weak rs1 ex
   cases x with
   |list ds=>
    let⟨l,vs,rfl,el,_,rl⟩:=r.lst_inv
    rw[Qt es]at rl
    have:=Qs rl
    subst this
    exact⟨z,l,ys,rfl,rfl,.inl (SqL.of el),hh.2,by lia,h2 F1 H1 rs1 (.refl _ _) _ (Rep.str _)⟩
   |tuple ds=>
    let⟨l,vs,rfl,el,rl⟩:=r.tup_inv
    rw[Qt es]at rl
    have:=Qs rl
    subst this
    exact⟨z,l,ys,rfl,rfl,.inr (SqT.of el),hh.2,by lia,h2 F1 H1 rs1 (.refl _ _) _ (Rep.str _)⟩
   |_=>cases es
  ·cases ey
 ·cases ey
end
end L3
namespace L2
open PySem PySem.Spec PyProof.Rows PySem.Builtin PySem.Builtin.Str
variable [Cs]
section
end
def Itc(x:Str):It:=⟨λi _=>i<x.length,λi H v H'=>H'=H/\∃ c,x.cps[i]?=some c/\v=.str ⟨#[c]⟩,λi _=>x.length<=i⟩
def Kr {K:Ah}(x:Str) (t:Tok) (it:Ap):wU P w K tg (Itc x) [it] it (λi h=>h.IsStrIter it "str_ascii_iterator" x t i) where
 mem:=by simp
 obj:=λi h st b hb=>by
  let e:b=it:=by simpa using hb
  subst e
  let⟨o,e,c,d⟩:=st
  exact⟨o,e,λv z=>by rw[d]at z;cases z⟩
 keep:=λi h h' st k=>by
  let⟨o,e,c,d⟩:=st
  exact⟨o,k it (by simp) o e,c,d⟩
 item:=by
  intro X hP hw hK hc i pins s σ H E I hf st hg
  subst hP hw hK
  let hg:=hg
  let⟨f0,f1,f2,f3,f4,f5⟩:=hf it (by simp)
  let hx:=Array.getElem?_eq_getElem hg
  erw[wpAny_pyNext_ascii_item st hx λh' st' sb=>?_]
  let I1:=I.turned (t':=s.toks+1) (λb o hb e=>(sb.2 b hb).trans e) f0 f1 f3 f4 f5
  let⟨o,e,c,d⟩:=id st'
  exact⟨_,rfl,Ya e c d (by decide) ⟨.str ⟨#[x.cps[i]]⟩,H,I1,⟨_,rfl⟩,⟨rfl,_,hx,rfl⟩,st',λb hb=>(hf b hb).1⟩⟩
 done:=by
  intro X hP hw hK hc i pins s σ H E I hf st hg
  subst hP hw hK
  let hg:=hg
  let⟨f0,f1,f2,f3,f4,f5⟩:=hf it (by simp)
  erw[wpAny_pyNext_ascii_end (I.ok.hd hc) st (Array.getElem?_eq_none hg) λh' eb=>⟨rfl,I.turned (t':=s.toks) (λb o hb e=>eb b o hb e) f0 f1 f3 f4 f5⟩]
 self:=λ_ _ _ _ _ st h=>wpAny_pyIter_striter_ascii st h
section
variable {X:Cx}
def ziw(tl:TE):TI:=λσ H R=>tl σ H λx H1=>∃ a:Str,x=.str a/\a.cps.all (·<128)=true/\R (Itc a) H1
def zeA{tg l:Expr}(hl:PE X l tl):PI X tg l (ziw tl):=by
 intro pins s σ H R I h
 erw[thn (hl pins s σ H _ I h) λv s1 ⟨x,H1,I1,r1,q1⟩=>?_]
 let⟨a,rfl,ha,q⟩:=q1
 let⟨t,rfl⟩:=r1
 erw[wpAny_pyIter_ascii ha ?_]
 let I2:Inv X pins σ H1 { s1 with heap:=s1.heap.push { cls:=.type "str_ascii_iterator",data:=.fields #[.str a t,.int 0 0] } }:=I1.kept (t':=s1.toks) λb ob q=>x4 _ q
 refine⟨⇑s1,[⇑s1],_,_,H1,rfl,I2,Kr a t _,⟨_,x8 _ rfl,rfl,rfl⟩,λb hb=>?_,q⟩
 let eb:b=⇑s1:=by simpa using hb
 subst eb
 erw[I1.fpOk (xg _) (I1.hok.fresh (xg _))]
end
open PySem PySem.Spec PyProof.Rows
section
end
section
end
def V5 (w:World) (l:List (Str×Nat×Addr)) (ep:Nat):Obj:={ cls:=.type "dict",data:=.dict (l.map λp=>(⟨PySem.PyData.keyHash w.params p.1,.str p.1 p.2.1,.ref p.2.2⟩:DictEntry)).toArray ep }
inductive GRows(mg:Aq):List (Str×Nat×Addr)->List (Str×Str)->Prop
 |nil:GRows mg [] []
 |cons {k f:Str} {t:Nat} {a:Ap} {l kf}:mg f=some (.ref a)->GRows mg l kf->GRows mg ((k,t,a)::l) ((k,f)::kf)
structure GD(w:World)(K:Ah)(mg:Aq)(x:Str)(kf:List (Str×Str)):Prop where
 ex:∃(D:Ap)(ep:Nat)(l:List (Str×Nat×Addr)),mg x=some (.ref D)/\(D==sysModules)=false/\K.lookup D=some (V5 w l ep)/\GRows mg l kf/\(kf.map (·.1)).Nodup
def GRows.keys(h:GRows mg l kf):l.map (·.1)=kf.map (·.1):=by
 induction h with
 |nil=>rfl
 |cons _ _ ih=>simp[ih]
def GRows.find(h:GRows mg l kf)(k:Str):match kf.lookup k with
  |some f=>∃ a,mg f=some (.ref a)/\valueAt (l.map λp=>(p.1,Value.ref p.2.2)) k=some (.ref a)
  |none=>valueAt (l.map λp=>(p.1,Value.ref p.2.2)) k=none:=by
 induction h with
 |nil=>rfl
 | @cons k' f t a l kf hm hr ih=>
  rw[xx]
  by_cases e:k=k'
  ·subst e
   simp only[beq_self_eq_true]
   exact⟨a,hm,by simp[valueAt]⟩
  ·let e1:(k==k')=false:=by simpa using e
   rw[e1]
   let e2:valueAt (((k',t,a)::l).map λp=>(p.1,Value.ref p.2.2)) k=valueAt (l.map λp=>(p.1,Value.ref p.2.2)) k:=by
    unfold valueAt
    rw[xp,List.find?_cons_of_neg (by simpa using Ne.symm e)]
   rw[e2];exact ih
def Yq:∀(l:List (Str×Nat×Addr)),Pairs (PySem.strKind P w) (l.map λp=>(⟨PySem.PyData.keyHash w.params p.1,.str p.1 p.2.1,.ref p.2.2⟩:DictEntry)) (l.map λp=>(p.1,Value.ref p.2.2))
 |[]=>.nil
 |p::r=>.cons (by simp[PySem.strKind,Value.isStrOf]) rfl (Yq r)
def zfV{h:Heap}{D:Ap}(hd:h.get? D=some (V5 w l ep))(nd:(l.map (·.1)).Nodup):h.DictOf (PySem.strKind P w) D (l.map λp=>(p.1,Value.ref p.2.2)):=by
 refine⟨_,_,ep,hd,⟨rfl,rfl,rfl⟩,rfl,?_,by simpa using Yq l,?_⟩
 ·intro e he
  simp only[List.mem_toArray,xv]at he
  let⟨p,hp,rfl⟩:=he
  exact⟨p.1,by simp[PySem.strKind,Value.isStrOf],rfl⟩
 ·rw[xu];exact nd
section
variable {X:Cx}
def zhu {p1 p2 q1 q2:Pos}(g:GD X.w X.K X.mg x kf) (hg:Gl X x) (hdb:(↥x)) (hs:∀ ov iv,subscripted e false ov iv=operate [ov,iv] (getItem ov iv)) (hN:X.N.Nodup) (hi:X.N[i]?=some r) (hx:Loc X.env.scope r)
  (hsw:swapsWith (.Subscript (.Name x p1) e q1) (some (.Name r p2)) q2.line X.env=pure false) (hf:X.fn r=true∨X.env.scope.names.lookup r=some .local) :
  PS X (.Assign [.Name r p2] (.Subscript (.Name x p1) e q1) q2) (λD σ H=>wpE X e σ H λv H1=>∃(a f:Str)(b:Ap),v=.str a/\kf.lookup a=some f/\(X.mg f=some (.ref b)->D.nx (σ.set i (some (.ref b))) H1)/\X.mg f=some (.ref b)):=by
 let hpe:PE X (.Subscript (.Name x p1) e q1) (λσ H Q=>wpE X e σ H λv H1=>∃(a f:Str)(b:Ap),v=.str a/\kf.lookup a=some f/\X.mg f=some (.ref b)/\Q (.ref b) H1):=by
  cbv
  let⟨D,ep,l,h1,h2,h3,h4,h5⟩:=g.ex
  erw[Subscript_ (Qp I hg h1 (thn (h pins s I) λiv s2 ⟨y,H2,I2,ry,a,f,b,ey,ef,eb,q⟩=>?_) hdb)]
  subst ey
  let⟨t,rfl⟩:=ry
  let hd:=zfV (P:=X.prog) (I2.kIn D _ h3) (by rw[h4.keys];exact h5)
  let hfd:=h4.find a
  rw[ef]at hfd
  let⟨b',eb',ev⟩:=hfd
  rw[eb]at eb';cases eb'
  erw[tail_any hd.typeIs PySem.F.slot_dict_getitem.lookup ?_ (hs _ _)]
  exact wpAny_getItem_of (by simp[PySem.strKind,Value.isStrOf]) hd.mapOf ev ⟨.ref b,H2,I2.tok _,rfl,q⟩
 intro pins s σ H D I h
 erw[WX hN hi hx hpe hsw hf pins s σ H D I (h.mono λv H1 ⟨a,f,b,e1,e2,q,e3⟩=>⟨a,f,b,e1,e2,e3,q e3⟩)]
end
def Vw(K:Ah):List (Str×Nat×Addr)->List (Str×Str)->Bool
 |[],[]=>true
 | (k,_,a)::l,(k',f)::kf=>decide (k=k')&&(match W.nsIn K mainGlobals f with
  |some (some (.ref b))=>decide (b=a)
  |_=>false)&&Vw K l kf
 |_,_=>false
def GRows.of{K:Ah}(X:K.In h)(G:h.Ns mainGlobals mg):∀{l:List (Str×Nat×Addr)}{kf:List (Str×Str)},Vw K l kf=true->GRows mg l kf
 |[],[],_=>.nil
 |[],_::_,h=>by simp[Vw]at h
 |_::_,[],h=>by simp[Vw]at h
 | (k,t,a)::l,(k',f)::kf,h=>by
  simp only[Vw,xh,x0]at h
  let⟨⟨h1,h2⟩,h3⟩:=h
  subst h1
  split at h2
  next b e=>
   have:b=a:=by simpa using h2
   subst this
   erw[.cons (W.mg_of X G e) (GRows.of X G h3)]
  ·cases h2
def GD.of{w:World}{K:Ah}{x:Str}{kf:List (Str×Str)}{ep:Nat}{l:List (Str×Nat×Addr)}(X:K.In h)(G:h.Ns mainGlobals mg)(hd:W.nsIn K mainGlobals x=some (some (.ref D)))(hs:(D==sysModules)=false)
  (ho:K.lookup D=some (V5 w l ep)) (hr:Vw K l kf=true) (hn:(kf.map (·.1)).Nodup):GD w K mg x kf:=⟨⟨D,ep,l,W.mg_of X G hd,hs,ho,GRows.of X G hr,hn⟩⟩
end L2
namespace L3
open PySem PySem.Spec PyProof.Rows L2
variable [Cs]
section
variable {X:Cx}{mp io:Ac}{a b c e:Expr}{es:Ag}{p2:Pos}{fa:EM FV}
def ZS(x:Str):Aa:=x.cps.toList.map λc=>.str ⟨#[c]⟩
def zd0(x:Str):JI M0 F (Itc x) (ZS x) H1:=λi F' H' s h0=>by
 refine⟨λd hd=>?_,λhi=>?_⟩
 ·unfold ZS at hd
  rw[xf]at hd
  cases q:x.cps.toList[i]? with
  |none=>rw[q]at hd;cases hd
  |some c=>
   rw[q]at hd
   cases hd
   let q':x.cps[i]?=some c:=by simpa using q
   refine⟨(Array.getElem?_eq_some_iff.mp q').1,λz H2 ⟨e2,c',ec,ez⟩=>?_⟩
   subst e2 ez
   rw[q']at ec;cases ec
   exact⟨.refl _,.str _⟩
 ·have:(ZS x).length=x.length:=by simp[ZS,Str.length]
  rw[this]at hi;exact hi
@[reducible] noncomputable def QI(fa:EM FV):EM (Aa):=λΓ=>(fa Γ).bind λ(u,Γ1)=>match derf Γ1 u with
 |some (.str x)=>if x.cps.all (·<128) then .ok (ZS x,Γ1) else .bad
 |_=>.bad
def zeX(ha:SE X mp a fa):SI X mp tg a (QI fa):=λM0 F Γ ν σ H R rs hs hp=>
 (zeA zC).wp (ha.run rs hs hp λF1 Γ1 H1 u v rs1 s1 o1 h1=>by
  delta h1 x ex
  delta h1 hz
  let r1:=o1.weak rs1 ex
  cases r1
  exact⟨_,rfl,hz,h1 F1 H1 rs1 (.refl _ _) _ (zd0 x)⟩)
def RS.unset(r:RS M0 F Γ ν H)(h:∀ o,Γ[i]?≠some (some o)):RS M0 F Γ (ν.set i none) H :=
 ⟨r.al0,r.dis0,r.nd,r.dis,λj o e=>by
  let⟨w,e1,z⟩:=r.at' j o e
  refine⟨w,?_,z⟩
  rw[xi (λq=>h o (by rw[q];exact e))]
  exact e1,r.emp,by rw[xK];exact r.len⟩
def Sees.unset(h:Sees mp ν σ)(hn:mp.Nodup)(hm:mp[s]?=some i):Sees mp (ν.set i none) (σ.set s (some v)):=λt j w e1 e2=>by
 by_cases hj:j=i
 ·subst hj
  let hs:=(List.getElem?_inj (xa.mp e1).1 hn).mp (e1.trans hm.symm)
  subst hs
  rw[List.getElem?_set_self']at e2
  cases q:ν[j]? with
  |none=>rw[q]at e2;cases e2
  |some z=>rw[q]at e2;cases e2
 ·rw[xi (Ne.symm hj)]at e2
  let hts:s≠t:=λz=>by subst z;rw[hm]at e1;cases e1;exact hj rfl
  rw[xi hts]
  erw[h t j w e1 e2]
@[reducible] noncomputable def sDisp(io:Ac)(kf:List (Str×Str))(run:Str->List OV->RF)(i:Nat)(fe:EM FV)(fl:EM (List AV)):SM:=λΓ=>(fe Γ).bind λ(u,Γ1)=>match derf Γ1 u with
 |some (.str k)=>match kf.lookup k with
  |some f=>if i∈io∨(Γ1[i]?.join).isSome=true then .bad else (fCall (run f) fl Γ1).bind λ(o,Γ2)=>.ok (.ret o,Γ2)
  |none=>.bad
 |_=>.bad
def zgO {s i k n:Nat}{r x:Str}{run:Str->List OV->RF}{fl:EM (List AV)}{p1 p3 q1 q2 q3 q4:Pos}(g:GD X.w X.K X.mg x kf) (hg:Gl X x) (hdb:(↥x))
  (kn:∀ key f,kf.lookup key=some f->Kn X.prog X.w X.K X.mg X.base CX0 f k (spX n (run f))/\Ran n (run f)) (hr:Room k X.A)
  (he:SE X mp e fa) (hps:PS X (.Assign [.Name r p2] (.Subscript (.Name x p1) e q1) q2) (λD σ H=>wpE X e σ H λv H1=>∃(a f:Str)(b:Ap),v=.str a/\kf.lookup a=some f/\(X.mg f=some (.ref b)->D.nx (σ.set s (some (.ref b))) H1)/\X.mg f=some (.ref b)))
  (hN:X.N[s]?=some r) (hv:Vis X.env.scope r) (hd:(↥r)) (hcd:(r==("__classdict__" :Str))=false) (hn:mp.Nodup) (hm:mp[s]?=some i)
  (hl:SA X mp (a::es) fl) (hst:starEach (a::es) X.env=(false,eval a X.env)::starEach es X.env) (hpl:(backTo q3 (starEach es X.env)).any (·.1)=false) :
  SB X mp io [.Assign [.Name r p2] (.Subscript (.Name x p1) e q1) q2,.Return (some (.Call (.Name r p3) (a::es) [] q3)) q4] (sDisp io kf run i fa fl):=λM0 F Γ ν σ H D rs hs hl0 hp=>by
 erw[(Qc hps (wH (Kh zC))).wp ?_]
 erw[he M0 F Γ ν σ H _ rs hs ((SPost.seq hs hl0 hp).mono λF1 Γ1 H1 u rs1 s1 h1 v hv1=>?_)]
 delta h1 key ek
 let r1:=hv1.weak rs1 ek
 cases r1
 delta h1 f ef
 split at h1
 ·erw[h1.elim]
 next hh=>
  let⟨kn1,hrun⟩:=kn key f ef
  let⟨b,fd,ps,_,hb,_⟩:=kn1.ex
  let hio:i∉io:=λz=>hh (.inl z)
  have hΓ:∀ o,Γ1[i]?≠some (some o):=λo z=>hh (.inr (by rw[z];rfl))
  let rs2:=rs1.unset hΓ
  let hs2:Sees mp (ν.set i none) (σ.set s (some (.ref b))):=hs.unset hn hm
  let hlen:(σ.set s (some (.ref b)):St).length=X.N.length:=by rw[xK];exact hl0
  refine⟨key,f,b,rfl,ef,λ_=>?_,hb⟩
  erw[zcp kn1 hb hr hN hv hd hcd ?_ (hl M0 F1 Γ1 (ν.set i none) (σ.set s (some (.ref b))) H1 _ rs2 hs2 (Qm rs2 hrun ?_)) hst hpl]
  ·have:s<σ.length:=by rw[hl0];exact (xa.mp hN).1
   rw[xk this]
  ·let h1':SPost M0 F1 (ν.set i none) H1 mp X.N.length io D ((fCall (run f) fl Γ1).bind λ(o,Γ2)=>.ok (.ret o,Γ2)):=h1.step (.refl _ _) λj hj=>by
    rw[xi (λz=>hio (by rw[z];exact hj))]
   erw[(SPost.seqO hs2 hlen h1').mono λF3 Γ3 H3 o v rs3 s3 h3=>h3 F3 _ v H3 rs3 (.refl _ _) λ_ _=>rfl]
end
section
end
section
end
end L3
namespace L2
open PySem PySem.Spec PyProof.Rows
section
variable {β:Type}
def zI(ds:List (Str×β))(x:Str):Option β:=(ds.find? λp=>decide (p.1=x)).map (·.2)
def zU(ds:List (Str×β))(x:Str)(y:β):List (Str×β):=if (ds.any λp=>decide (p.1=x))=true then ds.map (λp=>if p.1=x then (p.1,y) else p) else ds++ [(x,y)]
def qu(ds:List (Str×β))(x:Str):List (Str×β):=ds.filter λp=>decide (p.1≠x)
def zM(ds more:List (Str×β)):List (Str×β):=more.foldl (λacc p=>zU acc p.1 p.2) ds
def JW(ds:List (Str×β))(x:Str)(y:β):(zU ds x y).length<=ds.length+1:=by
 unfold zU
 split
 ·rw[xo];lia
 ·rw[xy,xq,uj];lia
end
def inr_eq:((Sum.inr x:Key)=Sum.inr y)↔x=y:=⟨λh=>by injection h,λh=>by rw[h]⟩
def ZV(x:Str):∀(ks:List (Str×V)),vh (ks.map kK) (.inr x)=zI ks x
 |[]=>rfl
 |p::r=>by
  let ih:=ZV x r
  unfold vh zI at *
  rw[xp,xV,xV]
  by_cases h:p.1=x
  ·rw[decide_eq_true (show (kK p).1=Sum.inr x from inr_eq.mpr h),decide_eq_true h];rfl
  ·rw[Xa (show ¬ (kK p).1=Sum.inr x from λz=>h (inr_eq.mp z)),Xa h];exact ih
def zcC(x:Str):∀(ks:List (Str×V)),((ks.map kK).any λp=>decide (p.1=(.inr x:Key)))=ks.any λp=>decide (p.1=x)
 |[]=>rfl
 |p::r=>by
  rw[xp,xQ,xQ,zcC x r]
  congr 1
  erw[decide_eq_decide.mpr inr_eq]
def yr(ks:List (Str×V))(x:Str)(v:V):Jc (ks.map kK) (.inr x) v=(zU ks x v).map kK:=by
 unfold Jc zU
 rw[zcC]
 split
 ·rw[xu,xu]
  erw[uo λp _=>?_]
  show (if (kK p).1=Sum.inr x then _ else _)=kK (if p.1=x then _ else _)
  by_cases h:p.1=x
  ·rw[if_pos (show (kK p).1=Sum.inr x from inr_eq.mpr h),if_pos h];rfl
  ·rw[if_neg (show ¬ (kK p).1=Sum.inr x from λz=>h (inr_eq.mp z)),if_neg h]
 ·rw[xC];rfl
def y6(x:Str):∀(ks:List (Str×V)),Wp (ks.map kK) (.inr x)=(qu ks x).map kK
 |[]=>rfl
 |p::r=>by
  let ih:=y6 x r
  unfold Wp qu at *
  rw[xp,ud,ud]
  by_cases h:p.1=x
  ·rw[if_neg (by simp[kK,h]),if_neg (by simp[h])];exact ih
  ·rw[if_pos (by simp[kK,inr_eq,h]),if_pos (by simp[h]),xp,ih]
def Vn:∀(more ks:List (Str×V)),QO (ks.map kK) (more.map kK)=(zM ks more).map kK
 |[],ks=>rfl
 |p::r,ks=>by
  show QO (Jc (ks.map kK) (.inr p.1) p.2) (r.map kK)=_
  rw[yr,Vn r];rfl
variable [Cs]
inductive KR(M:Ae)(H:Hp):List (Str×V)->Ad->Prop
 |nil:KR M H [] []
 |cons {x:Str} {v:V} {d:PyData} {ks:List (Str×V)} {ds:Ad}:Rep M H v d->KR M H ks ds->KR M H ((x,v)::ks) ((x,d)::ds)
section
variable {M M':Ae}{H H':Hp}
def KR.of:∀{ks:List (Str×V)}{ds:Ad},ks.map (·.1)=ds.map (·.1)->RepL M H (ks.map (·.2)) (ds.map (·.2))->KR M H ks ds
 |[],[],_,_=>.nil
 |[],_::_,h,_=>by simp at h
 |_::_,[],h,_=>by simp at h
 | (x,v)::ks,(y,d)::ds,h,r=>by
  simp only[xp,List.cons.injEq]at h
  let⟨rfl,h⟩:=h
  simp only[xp]at r
  cases r with
  |cons r t=>erw[.cons r (KR.of h t)]
def KR.keys:∀{ks:List (Str×V)}{ds:Ad},KR M H ks ds->ks.map (·.1)=ds.map (·.1)
 |_,_,.nil=>rfl
 |_,_,.cons _ t=>by rw[xp,xp,t.keys]
def KR.vals:∀{ks:List (Str×V)}{ds:Ad},KR M H ks ds->RepL M H (ks.map (·.2)) (ds.map (·.2))
 |_,_,.nil=>.nil
 |_,_,.cons r t=>.cons r t.vals
def KR.length(h:KR M H ks ds):ks.length=ds.length:=by have:=congrArg List.length h.keys;simpa using this
def KR.map(hr:∀ v d,Rep M H v d->Rep M' H' v d):∀{ks:List (Str×V)}{ds:Ad},KR M H ks ds->KR M' H' ks ds
 |_,_,.nil=>.nil
 |_,_,.cons r t=>.cons (hr _ _ r) (t.map hr)
def KR.any(x:Str):∀{ks:List (Str×V)}{ds:Ad},KR M H ks ds->(ks.any λp=>decide (p.1=x))=ds.any λp=>decide (p.1=x)
 |_,_,.nil=>rfl
 |_,_,.cons _ t=>by rw[xQ,xQ,t.any x]
def KR.repl(r:Rep M H v d):∀{ks:List (Str×V)}{ds:Ad},KR M H ks ds->KR M H (ks.map λp=>if p.1=x then (p.1,v) else p) (ds.map λp=>if p.1=x then (p.1,d) else p)
 |_,_,.nil=>.nil
 |_,_,.cons (x:=y) q t=>by
  rw[xp,xp]
  by_cases h:y=x
  ·rw[if_pos h,if_pos h];exact .cons r (t.repl r)
  ·rw[if_neg h,if_neg h];exact .cons q (t.repl r)
def KR.append:∀{ks ks':List (Str×V)}{ds ds':Ad},KR M H ks ds->KR M H ks' ds'->KR M H (ks++ks') (ds++ds')
 |_,_,_,_,.nil,s=>s
 |_,_,_,_,.cons r t,s=>.cons r (t.append s)
def KR.put(x:Str)(h:KR M H ks ds)(r:Rep M H v d):KR M H (zU ks x v) (zU ds x d):=by
 unfold zU
 rw[h.any x]
 split
 ·erw[h.repl r]
 ·erw[h.append (.cons r .nil)]
def KR.drop(x:Str):∀{ks:List (Str×V)}{ds:Ad},KR M H ks ds->KR M H (qu ks x) (qu ds x)
 |_,_,.nil=>.nil
 |_,_,.cons (x:=y) q t=>by
  unfold qu
  rw[ud,ud]
  by_cases h:y=x
  ·rw[if_neg (by simp[h]),if_neg (by simp[h])];exact t.drop x
  ·rw[if_pos (by simp[h]),if_pos (by simp[h])];exact .cons q (t.drop x)
def KR.merge:∀{more:List (Str×V)}{md:Ad}{ks:List (Str×V)}{ds:Ad},KR M H more md->KR M H ks ds->KR M H (zM ks more) (zM ds md)
 |_,_,_,_,.nil,h=>h
 |_,_,_,_,.cons (x:=x) r t,h=>by
  have:=KR.merge t (h.put x r)
  erw[this]
def KR.val(x:Str):∀{ks:List (Str×V)}{ds:Ad},KR M H ks ds->(zI ks x).isSome=(zI ds x).isSome/\∀ d,zI ds x=some d->∃ v,zI ks x=some v/\Rep M H v d
 |_,_,.nil=>⟨rfl,λd e=>by cases e⟩
 |_,_,.cons (x:=y) (v:=v) q t=>by
  let ih:=t.val x
  unfold zI at *
  rw[xV,xV]
  by_cases h:y=x
  ·rw[decide_eq_true (show (y,v).1=x from h)]
   exact⟨rfl,λd e=>by cases e;exact⟨v,rfl,q⟩⟩
  ·rw[Xa (show ¬ (y,v).1=x from h)];exact ih
def KR.get:∀{ks:List (Str×V)}{ds:Ad}{i:Nat}{p:Str×PyData},KR M H ks ds->ds[i]?=some p->∃ v,ks[i]?=some (p.1,v)/\Rep M H v p.2
 |_,_,_,_,.nil,e=>by simp at e
 |_,_,0,_,.cons r _,e=>by simp at e;subst e;exact⟨_,rfl,r⟩
 |_,_,i+1,p,.cons _ t,e=>by
  let⟨v,h1,h2⟩:=KR.get t (by simpa using e)
  exact⟨v,by simpa using h1,h2⟩
def Rep.dict_inv(r:Rep M H v (.dict kv)):∃ a,v=.ref a/\¬ M a/\((∃ ks ds,Rd H a (.dK (ks.map kK))/\kv=ds.map dK/\KR M H ks ds)∨(∃ dx c fs ds,H a=some (.ins (Cs.adr c) dx fs)/\kv=(.none,.str c)::ds.map dK/\KR M H fs ds)∨∃ dx c fs ds,H a=some (ExO (Cs.adr c) dx a)/\(dx=Option.none/\fs= []∨∃ d,dx=some d/\H d=some (.xd fs)/\¬ M d)/\kv=(.bool true,.str c)::ds.map dK/\KR M H fs ds):=by
 cases r with
 |dict e n k q=>exact⟨_,rfl,n,.inl ⟨_,_,e,rfl,.of k q⟩⟩
 |inst e n k q=>exact⟨_,rfl,n,.inr (.inl ⟨_,_,_,_,e,rfl,.of k q⟩)⟩
 |exo e n x k q=>exact⟨_,rfl,n,.inr (.inr ⟨_,_,_,_,e,x,rfl,.of k q⟩)⟩
end
def unD:Ao->Option (Ad)
 |[]=>some []
 | (.str x,d)::r=>(unD r).map ((x,d)::·)
 |_=>none
def zL(ds:Ad):unD (ds.map dK)=some ds:=by
 induction ds with
 |nil=>rfl
 |cons p r ih=>simp[unD,dK,ih]
section
variable {X:Cx}{pins:Ak}{σ:St}{H:Hp}{s:Am}{a b:Ap}{kvs more:List (Key×V)}{A:Around}{E:Af}
def zcU{Q:Af}(I:Inv X pins σ H s)(e:H a=some (.dK kvs))(e2:Rd H b (.dK more))(hab:a≠b)(hl:kvs.length+more.length<=sizeLine)
  (h:∀ s',Inv X pins σ (upd H a (.dK (QO kvs more))) s'->Q .none s'):wpAny (model X.prog X.w) A (call (.builtin "dict.update") [.ref a,.ref b]) Q E s:=by
 let⟨z,hd,vs,rel,dd⟩:=KH I.hok e
 let⟨z2,hd2,ws,rel2,dd2⟩:=ZW I.hok e2
 refine call_meetsIn PySem.F.slot_dict_update dd.typeIs PySem.F.entry_dict_update (PySem.F.args_dict_update_2 _ _) (meets_dict_update (qt X.prog X.w) a b hab hd2) ⟨vs,ws,dd,dd2,by rw[<- rel.length,<- rel2.length];exact hl,λh' dd' _ hs=>h _ ?_⟩
 let he:∃ q,h'.get? a=some q:=let ⟨q,_,_,hq,_⟩:=dd';⟨q,hq⟩
 exact V4 I (by rw[e];exact True.intro) hs he (Wo (xH (Qv more kvs) hl) hd (rel2.merge rel) dd')
end
def zk5(td te:TE):TE:=λσ H Q=>td σ H λx H1=>∃ a,x=.ref a/\IsD H1 a/\te σ H1 λy H2=>∃ b kvs more,y=.ref b/\H2 a=some (.dK kvs)/\Rd H2 b (.dK more)/\a≠b/\kvs.length+more.length<=sizeLine/\Q .non (upd H2 a (.dK (QO kvs more)))
section
variable {X:Cx}{o e:Expr}{apos cpos:Pos}{td te:TE}
def zgA (ho:PE X o td) (he:PE X e te) (m:M1 X o "update" apos e cpos):PE X (.Call (.Attribute o "update" apos) [e] [] cpos) (zk5 td te):=by
 cbv
 erw[wpAny_Call_method m.base m.few m.line PySem.F.plainAttrs_dict PySem.F.slot_dict_update PySem.F.type_dict_update (thn (ho pins s σ H _ I h) λu s1 ⟨x,H1,I1,rx,a,ex,d,q1⟩=>?_)]
 subst ex
 obtain rfl:u=Value.ref a:=rx
 let⟨t1,t2,_⟩:=ye I1 d
 refine⟨t1,t2,?_⟩
 rw[m.trees]
 erw[Calls.callWith_builtin rfl (Calls.evalArgs_plain (Calls.spliced_cons (thn (he pins s1 σ H1 _ I1 q1) λiv s2 ⟨y,H2,I2,ry,b,kvs,more,ey,e1,e2,hab,hl,q2⟩=>Calls.spliced_nil ?_)))]
 subst ey
 obtain rfl:iv=Value.ref b:=ry
 erw[zcU I2 e1 e2 hab hl λs3 I3=>⟨.non,_,I3,rfl,q2⟩]
def zay:ji X (.type "dict") (λxs H Q=>∃ a kvs,xs= [V.ref a]/\Rd H a (.dK kvs)/\∀ p,H p=none->Q (.ref p) (upd H p (.dK kvs))):=by
 intro pins s σ H xs us Q I r h
 let⟨a,kvs,rfl,e,q⟩:=h
 let⟨u,rfl,rx⟩:=j7 r
 cases rx
 erw[zcS I e λp s' hp I'=>⟨.ref p,_,I',rfl,q p hp⟩]
end
def j5(ss:Ab):Ab:=ss.mergeSort λa b=> !decide (b.cps.toList<a.cps.toList)
def ZT(ss:Ab):(j5 ss).Perm ss:=List.mergeSort_perm _ _
def zb9(ss:Ab):(j5 ss).length=ss.length:=(ZT ss).length_eq
def Str.ext'{a b:Str}(h:a.cps.toList=b.cps.toList):a=b:=by
 cases a with
 |mk x=>
  cases b with
  |mk y=>
   have:x=y:=by
    cases x;cases y
    erw[congrArg Array.mk h]
   rw[this]
def ze5(ss:Ab):(j5 ss).Pairwise (λa b=>¬ b.cps.toList<a.cps.toList):=by
 let h:=List.pairwise_mergeSort (le:=λa b:Str=> !decide (b.cps.toList<a.cps.toList)) (by
  intro a b c h1 h2
  simp only[uJ,decide_eq_false_iff_not]at *
  exact List.le_trans h1 h2) (by
  intro a b
  simp only[xL,uJ,decide_eq_false_iff_not]
  exact List.le_total _ _) ss
 exact h.imp λ{a b} h=>by simpa using h
def J2:∀(p:Str)(l:Ab),risingS p l=true->(p::l).Pairwise (λa b=>¬ b.cps.toList<a.cps.toList)
 |p,[],_=>by simp
 |p,x::r,h=>by
  unfold risingS at h
  rw[xh,uJ,ltCps_eq,decide_eq_false_iff_not]at h
  let ih:=J2 x r h.2
  erw[List.pairwise_cons.mpr ⟨λy hy=>?_,ih⟩]
  rcases xw.mp hy with rfl | hy
  ·erw[h.1]
  ·erw[List.le_trans h.1 (List.rel_of_pairwise_cons ih hy)]
def ze4{ss ms:Ab}(hp:ms.Perm ss)(hs:sortedS ms=true):ms=j5 ss:=by
 let h1:ms.Pairwise (λa b=>¬ b.cps.toList<a.cps.toList):=by
  cases ms with
  |nil=>erw[.nil]
  |cons x r=>erw[J2 x r hs]
 erw[List.Perm.eq_of_pairwise (λa b _ _ h1 h2=>Str.ext' (List.le_antisymm h1 h2)) h1 (ze5 ss) (hp.trans (ZT ss).symm)]
def StrsAre.of:∀{ss:Ab}{us:An},Vals (ss.map V.str) us->StrsAre us ss
 |[],_,.nil=>.nil
 |n::ns,_,.cons ⟨t,e⟩ r=>by subst e;exact .cons n t (StrsAre.of r)
def Vals.ofStrs:∀{us:An}{ss:Ab},StrsAre us ss->Vals (ss.map V.str) us
 |_,_,.nil=>.nil
 |_,_,.cons n t r=>.cons ⟨t,rfl⟩ (Vals.ofStrs r)
section
end
section
variable {prog:Ar}{w:World}{A:Around}{E:Af}{s:Am}
open PySem.W in
def VR{Q:An->Am->Prop}(hh:A.handled=none)(lo:(d==sysModules)=false)(hm:s.heap.DictAt (qt prog w) d kvs ep)(hsz:kvs.length<=sizeLine)
  (h:∀(vs:Array Aj)(h':Heap)(tk:Nat),ItemsOf (λi v=>∃ k x,kvs[i]?=some (k,x)/\(qt prog w).is k v=true) vs kvs.length->(∀ b o,s.heap.get? b=some o->h'.get? b=some o)->⇑s<h'.objs.size->Q vs.toList { s with heap:=h',toks:=tk }) :
  wpAny (model prog w) A (collect (.ref d)) Q E s:=by
 let hds:=hm.lt_size
 let key:∀ R:Result->Am->Prop,(∀ h' tk acc' c',(∀ b o,b≠⇑s->(s.heap.push (seqObj "list" #[] 0)).get? b=some o->h'.get? b=some o)->h'.get? ⇑s=some { cls:=.type "list",dict:=none,data:=.seq acc' c',slots:=#[] }->ItemsOf (λi v=>∃ k x,kvs[i]?=some (k,x)/\(qt prog w).is k v=true) acc' kvs.length->R (.ok (.ret (.ref ⇑s))) { s with heap:=h',toks:=tk }) ->
   codeAny (model prog w) A (.builtin "proto.collect" ⟨[.ref d],[]⟩) R s:=λR hR=>by
  erw[codeAny_builtin entry_proto_collect' ?_]
  show wpAny _ _ (do again (.builtin "list.__iadd__" ⟨[<- newList [],.ref d],[]⟩)) _ _ s
  refine x3 (wpAny_newList (x6 ⟨Code.quiet_builtin _ (by decide +kernel),codeAny_builtin entry_list_iadd' ?_⟩))
  show wpAny _ _ (Builtin.List.listExtendWith (.ref ⇑s) (.ref d) (.ref ⇑s)) _ _ { s with heap:=s.heap.push (seqObj "list" #[] 0) }
  rw[Around.under_plainId (show plainId "list.__iadd__" =true by decide +kernel)]
  erw[kdl_extend (s:={ s with heap:=s.heap.push (seqObj "list" #[] 0) }) (kdl_dict (knd:=qt prog w) (kvs:=kvs) (ep:=ep) lo) hh (hm.push _) ⇑s (uW hds) (uW hds) (.ref ⇑s) 0 (x8 _ rfl) (λh' tk acc' c' k1 k2 k3=>hR h' tk acc' c' k1 k2 k3) hsz]
 unfold collect
 erw[x3 (wpAny_runValue (key _ λh' tk acc' c' k1 k2 k3=>?_))]
 show wpAny (model prog w) A (do
   let o<-load ⇑s
   match o.data with
   |.seq xs _=>pure xs.toList
   |_=>unsupported "internal:collect") Q E { s with heap:=h',toks:=tk }
 erw[x3 (wpAny_load k2 ?_)]
 erw[x6 (h acc' h' tk k3 (λb o e=>k1 b o (xj (x5 e)) (x4 _ e)) (x5 k2))]
end
def yf(h:(qt P w).is k u=true):RelV (kV k) u:=by
 rcases qw h with ⟨i,t,rfl,rfl⟩ | ⟨x,t,rfl,rfl⟩
 ·exact⟨t,rfl⟩
 ·exact⟨t,rfl⟩
section
variable {X:Cx}
def VQ (hcalm:X.calm=true):ji X (.builtin "sorted") (λxs H Q=>∃ (p:Ap) (ks:List (Str×V)),xs= [.ref p]/\Rd H p (.dK (ks.map kK))/\ks.length<64/\∀ l,H l=none->Q (.ref l) (upd H l (.lst ((j5 (ks.map (·.1))).map V.str)))):=by
 intro pins s σ H xs us Q I r h
 let⟨p,ks,rfl,hq,h64,q⟩:=h
 let⟨u,rfl,rx⟩:=j7 r
 cases rx
 let⟨z,hd,vs0,rel,dd⟩:=ZW I.hok hq
 let⟨ep,hat⟩:=dd.dictAt
 let hlen:vs0.length=ks.length:=by rw[<- rel.length,xo]
 erw[Calls.call_function_entry kind_sorted plain_sorted entry_sorted (args_sorted1 _) ?_]
 unfold Builtin.«sorted»
 erw[x3 (m:=checkCount "sorted" 1 1 _) (x6 ?_)]
 refine x3 (VR (by exact I.ok.hd hcalm) hd hat (by rw[<- rel.length];exact z) λvs h' tk hi hk hlt=>?_)
 let hS:StrsAre vs.toList (ks.map (·.1)):=by
  erw[StrsAre.of ?_]
  let hsz:vs.size=ks.length:=by rw[hi.1,hlen]
  let key:∀(l:List (Str×V))(us:An),us.length=l.length->(∀(j:Nat)(v:Aj),us[j]?=some v->∃(x:Str)(y:V),l[j]?=some (x,y)/\RelV (.str x) v)->Vals ((l.map (·.1)).map V.str) us:=by
   intro l
   induction l with
   |nil=>
    intro us h1 _
    cases us with
    |nil=>erw[.nil]
    |cons _ _=>simp at h1
   |cons p l ih=>
    intro us h1 h2
    cases us with
    |nil=>simp at h1
    |cons u us=>
     let⟨x,y,e1,e2⟩:=h2 0 u rfl
     simp at e1
     subst e1
     exact .cons e2 (ih us (by simpa using h1) λj v hj=>by simpa using h2 (j+1) v (by simpa using hj))
  refine key ks vs.toList (by simpa using hsz) λj v hj=>?_
  let⟨k,x,e1,e2⟩:=hi.2 j v (by simpa using hj)
  let hkj:((ks.map kK).map (·.1))[j]?=some k:=by rw[rel.keys,xf,e1];rfl
  rw[xu,xf]at hkj
  cases eq:ks[j]? with
  |none=>rw[eq]at hkj;cases hkj
  |some p=>
   rw[eq]at hkj
   let ek:(Sum.inr p.1:Key)=k:=by simpa [kK] using hkj
   subst ek
   exact⟨p.1,p.2,rfl,yf e2⟩
 let hl64:vs.toList.length<64:=by
  have:vs.size=ks.length:=by rw[hi.1,hlen]
  simp[this];lia
 refine x3 (wpAny_newList ?_ (by have:=Xe;lia))
 let hoL:(h'.push (seqObj "list" vs.toList.toArray 0)).get? h'.objs.size=some (seqObj "list" vs.toList.toArray 0):=x8 _ rfl
 show wpAny _ _ _ _ _ { s with heap:=h'.push (seqObj "list" vs.toList.toArray 0),toks:=tk }
 refine x3 (Xb (wpAny_call_entry slot_list_sort ⟨_,hoL,rfl⟩ entry_list_sort (list_sort_treeK strKind_oneLt hoL hS.keysOf (λv₁ v₂ rest e=>keyKind_strs (by rw[<- e];exact hS)) hl64 λst' a1 a2=>⟨_,rfl,?_⟩) (args_list_sort _)))
 let⟨ss',b1,b2,b3⟩:=sorted_out_str hS a1 a2
 let e:=ze4 b2 b3
 subst e
 let hold:∀ b o,s.heap.get? b=some o->(sortedHeap (h'.push (seqObj "list" vs.toList.toArray 0)) h'.objs.size vs.toList ((arrOf st').map (·.2))).get? b=some o:=λb o e=>by
  let e2:=hk b o e
  let e3:=x4 (seqObj "list" vs.toList.toArray 0) e2
  rw[sortedHeap_old (xj (x5 e2)) (x5 e3)];exact e3
 let hle:=uk hlt
 let⟨c',ec⟩:=sortedHeap_at hoL
 erw[x6 ⟨_,rfl,⟨.ref h'.objs.size,_,I.laid hold hle (show ObjOk X.prog X.w _ _ _ (.lst ((j5 (ks.map (·.1))).map V.str)) from ⟨?_,((arrOf st').map (·.2)).toList,c',Vals.ofStrs b1,?_⟩),rfl,q _ (I.hok.fresh hle)⟩⟩]
 ·rw[xo,zb9,xo]
  have:=Xe
  lia
 ·rw[ec]
end
section
variable {X:Cx}{pins:Ak}{σ:St}{H:Hp}{s:Am}{a:Ap}{kvs:List (Key×V)}
def Inv.ghost(I:Inv X pins σ H s)(e:H a=some o)(hn:∀ xs,o≠ .tup xs)(hno:∀ b,o≠ .own b)(hnt:∀ ps,o≠ .tbl ps)(hf:∀ ob u,X.H₀ a≠some (.frz ob u))(new:ObjOk X.prog X.w (upd H a o') s.heap a o'):Inv X pins σ (upd H a o') s where
 ok:=I.ok
 os:=I.os
 bare:=I.bare
 base:={
  keep:=I.base.keep
  slot:=I.base.slot
  free:=λb ob e' n hx=>by
   have:=I.base.free b ob e' n hx
   rw[zG (λz=>by subst z;rw[e]at this;cases this)];exact this
  there:=I.base.there
  tups:=λb xs e'=>by
   have:=I.base.tups b xs e'
   rw[zG (λz=>by subst z;rw[e]at this;exact hn xs (Option.some.inj this))];exact this
  frzs:=λb ob u e'=>by
   rw[zG (λz=>by subst z;exact hf ob u e')];exact I.base.frzs b ob u e'
  tbls:=λb ps e'=>by
   let⟨mo,this⟩:=I.base.tbls b ps e'
   exact⟨mo,by rw[zG (λz=>by subst z;rw[e]at this;exact hnt _ (Option.some.inj this))];exact this⟩ }
 loc:=I.loc
 cell:=I.cell
 free:=by rw[zG (λz=>by have:=I.free;rw[z,e]at this;cases this)];exact I.free
 freeC:=λx c e'=>by
  have:=I.freeC x c e'
  rw[zG (λz=>by rw[z,e]at this;cases this)];exact this
 pin:=λp h=>by
  let⟨e1,n,r⟩:=I.pin p h
  exact⟨e1,by rw[zG (λz=>by rw[z,e]at n;cases n)];exact n,r⟩
 hok:=λb u q=>by
  by_cases hb:b=a
  ·subst hb;rw[zH]at q;cases q;exact new
  ·rw[zG hb]at q
   exact (I.hok b u q).stay (λc v _ r=>r) (λc r=>by rw[zG (λz=>by subst z;rw[e]at r;exact hno _ (Option.some.inj r))];exact r) λc xs r=>by rw[zG (λz=>by subst z;rw[e]at r;exact hn _ (Option.some.inj r))];exact r
 len:=I.len
def Fz(X:Cx)(H Hf:Hp)(a:Ap)(o:Obj)(kvs:List (Key×V)):Prop:=Hf a=some (.frz o (.dK kvs))/\(Hf=H∨(H a=some (.dK kvs)/\Hf=upd H a (.frz o (.dK kvs))/\∀ ob u,X.H₀ a≠some (.frz ob u)))
def Inv.freeze(I:Inv X pins σ H s)(e:Rd H a (.dK kvs)):∃ o Hf,s.heap.get? a=some o/\Fz X H Hf a o kvs/\Inv X pins σ Hf s:=by
 rcases e with e | ⟨o,e⟩
 ·let⟨z,hd,vs,rel,ob,es,ep,h1,h2⟩:=KH I.hok e
  let hf:∀ ob u,X.H₀ a≠some (.frz ob u):=λob u q=>by
   have:=I.base.frzs a ob u q
   rw[e]at this;cases this
  refine⟨ob,upd H a (.frz ob (.dK kvs)),h1,⟨zH,.inr ⟨e,rfl,hf⟩⟩,I.ghost e (λ_ z=>nomatch z) (λ_ z=>nomatch z) (λ_ z=>nomatch z) hf ⟨h1,z,hd,vs,rel,ob,es,ep,h1,h2⟩⟩
 ·let⟨h1,_⟩:=(show ObjOk X.prog X.w H s.heap a (.frz o (.dK kvs)) from I.hok a _ e)
  exact⟨o,H,h1,⟨e,.inl rfl⟩,I⟩
def Inv.thaw{H':Hp}(I:Inv X pins σ H s)(e:H a=some (.frz o (.dK kvs)))(hf:∀ ob u,X.H₀ a≠some (.frz ob u)):Inv X pins σ (upd H a (.dK kvs)) s:=by
 let⟨_,z,hd,vs,rel,dd⟩:=(show ObjOk X.prog X.w H s.heap a (.frz o (.dK kvs)) from I.hok a _ e)
 erw[I.ghost e (λ_ z=>nomatch z) (λ_ z=>nomatch z) (λ_ z=>nomatch z) hf ⟨z,hd,vs,rel,dd⟩]
def zfw(h:wpE X e σ H λv H'=>Q v H'∨∃ a kvs o,H' a=some (.frz o (.dK kvs))/\(∀ ob u,X.H₀ a≠some (.frz ob u))/\Q v (upd H' a (.dK kvs))):wpE X e σ H Q:=λpins s I=>
 thn (h pins s I) λu s' ⟨v,H',I',r,q⟩=>by
  rcases q with q | ⟨a,kvs,o,e,hf,q⟩
  ·exact⟨v,H',I',r,q⟩
  ·exact⟨v,_,I'.thaw (H':=H') e hf,r,q⟩
end
def zdK(o:Obj):Nat:=match o.data with
 |.dict _ ep=>ep
 |_=>0
def Itk(a:Ap)(o:Obj)(kvs:List (Key×V)):It :=
 ⟨λi H=>H a=some (.frz o (.dK kvs))/\i<kvs.length,λi H x H'=>H'=H/\∃ p,kvs[i]?=some p/\x=kV p.1,λi H=>H a=some (.frz o (.dK kvs))/\kvs.length<=i⟩
def JB(ok:HOk P w H h)(e:H a=some (.frz o (.dK kvs))):∃ vs,KV kvs vs/\h.DictAt (qt P w) a vs (zdK o):=by
 let⟨h1,z,hd,vs,rel,ob,es,ep,h2,h3,h4,h5⟩:=(show ObjOk P w H h a (.frz o (.dK kvs)) from ok a _ e)
 rw[h1]at h2;cases h2
 have:zdK o=ep:=by unfold zdK;rw[h4]
 exact⟨vs,rel,o,es,h1,h3,by rw[this];exact h4,h5⟩
def zcg{K:Ah}(a it:Ap)(o:Obj)(kvs:List (Key×V)):wU P w K tg (Itk a o kvs) [it] it (λi h=>h.IsKeyIter it a i kvs.length (zdK o)) where
 mem:=by simp
 obj:=λi h st b hb=>by
  let e:b=it:=by simpa using hb
  subst e
  let⟨o,e,c,d⟩:=st
  exact⟨o,e,λv z=>by rw[d]at z;cases z⟩
 keep:=λi h h' st k=>st.at λo e=>k it (by simp) o e
 item:=by
  intro X hP hw hK hc i pins s σ H E I hf st hg
  subst hP hw hK
  let⟨hq,hx⟩:=hg
  let⟨vs,rel,dat⟩:=JB I.hok hq
  let⟨f0,f1,f2,f3,f4,f5⟩:=hf it (by simp)
  let hl:=rel.length
  rw[hl]at st
  let hxi:vs[i]?=some (vs[i].1,vs[i].2):=by rw[xb (by lia)]
  erw[wpAny_pyNext_dict_item st dat hxi λkey h' hk st' sb=>?_]
  let I1:=I.turned (t':=s.toks) (λb o hb e=>(sb.2 b hb).trans e) f0 f1 f3 f4 f5
  let⟨ob,e,c,d⟩:=id st'
  let hke:(kvs[i]'hx).1=vs[i].1:=by
   let h1:(kvs.map (·.1))[i]?=(vs.map (·.1))[i]?:=by rw[rel.keys]
   rw[xf,xf,xb hx,xb (by lia)]at h1
   simpa using h1
  refine⟨key,rfl,Ya e c d (by decide) ⟨kV (kvs[i]'hx).1,H,I1,by rw[hke];exact yf hk,⟨rfl,kvs[i],by simp[hx],rfl⟩,by rw[hl];exact st',λb hb=>(hf b hb).1⟩⟩
 done:=by
  intro X hP hw hK hc i pins s σ H E I hf st hg
  subst hP hw hK
  let⟨hq,hx⟩:=hg
  let⟨vs,rel,dat⟩:=JB I.hok hq
  let⟨f0,f1,f2,f3,f4,f5⟩:=hf it (by simp)
  let hl:=rel.length
  rw[hl]at st
  exact wpAny_pyNext_dict_end (I.ok.hd hc) st dat (xD (by lia)) λh' eb=>⟨rfl,I.turned (t':=s.toks) (λb o hb e=>eb b o hb e) f0 f1 f3 f4 f5⟩
 self:=λ_ _ _ _ _ st h=>wpAny_pyIter_keyiter st h
section
variable {X:Cx}{tg:Expr}
def zkl(X:Cx)(tl:TE):TI:=λσ H R=>tl σ H λx H1=>∃ a kvs,x=.ref a/\Rd H1 a (.dK kvs)/\∀ o Hf,Fz X H1 Hf a o kvs->R (Itk a o kvs) Hf
def zgE(hl:PE X l tl):PI X tg l (zkl X tl):=by
 intro pins s σ H R I h
 erw[thn (hl pins s σ H _ I h) λv s1 ⟨x,H1,I1,r1,q1⟩=>?_]
 let⟨a,kvs,e,hr,q⟩:=q1
 subst e
 cases r1
 let⟨o,Hf,ho,fz,If⟩:=I1.freeze hr
 let⟨z,hd,_⟩:=ZW I1.hok hr
 let⟨vs,rel,dat⟩:=JB If.hok fz.1
 erw[wpAny_pyIter_dict hd dat ?_]
 refine⟨⇑s1,[⇑s1],_,_,Hf,rfl,If.kept λb o e=>x4 _ e,zcg a _ o kvs,?_,λb hb=>?_,q o Hf fz⟩
 ·rw[rel.length];exact⟨_,x8 _ rfl,rfl,rfl⟩
 ·let e:b=⇑s1:=by simpa using hb
  subst e
  erw[If.fpOk (xg _) (If.hok.fresh (xg _))]
end
def Iti(a:Ap)(o:Obj)(kvs:List (Key×V)):It :=
 ⟨λi H=>H a=some (.frz o (.dK kvs))/\i<kvs.length,λi H x H'=>∃ p t,kvs[i]?=some p/\x=.ref t/\H t=none/\H'=upd H t (.tup [kV p.1,p.2]),λi H=>H a=some (.frz o (.dK kvs))/\kvs.length<=i⟩
def Ks{K:Ah}(htg:∃ es n p,tg=.Tuple es n p)(a it:Ap)(o:Obj)(kvs:List (Key×V)):wU P w K tg (Iti a o kvs) [it] it (λi h=>∃ ok ov,IsItemIter h it a i kvs.length (zdK o) ok ov) where
 mem:=by simp
 obj:=λi h st b hb=>by
  let e:b=it:=by simpa using hb
  subst e
  let⟨ok,ov,st⟩:=st
  exact⟨_,st,λv z=>by
   let z':Data.fields _=Data.cell v:=z
   cases z'⟩
 keep:=λi h h' ⟨ok,ov,st⟩ k=>⟨ok,ov,k it (by simp) _ st⟩
 item:=by
  intro X hP hw hK hc i pins s σ H E I hf st hg
  subst hP hw hK
  let⟨es,n,p,rfl⟩:=htg
  let⟨ok,ov,st⟩:=st
  let⟨hq,hx⟩:=hg
  let⟨vs,rel,dat⟩:=JB I.hok hq
  let⟨f0,f1,f2,f3,f4,f5⟩:=hf it (by simp)
  let hl:=rel.length
  rw[hl]at st
  let hxi:vs[i]?=some (vs[i].1,vs[i].2):=by rw[xb (by lia)]
  erw[wpAny_pyNext_items_item st dat hxi λkey h1 hk st1 ht hz kp=>⟨_,rfl,wpAny_letOwnedTupleGo_items st1 λh2 st2 sb=>?_⟩]
  let hpair:∀{l:List (Key×V)}{m:List (Key×Value)},KV l m->∀(j:Nat)(hj:j<l.length)(hj2:j<m.length),l[j].1=m[j].1/\RelV l[j].2 m[j].2:=by
   intro l m r
   unfold KV at r
   induction r with
   |nil=>intro j hj;simp at hj
   |cons h t ih=>
    intro j hj hj2
    cases j with
    |zero=>erw[h]
    |succ j=>exact ih j (by simpa using hj) (by simpa using hj2)
  let⟨e1,e2⟩:=hpair rel i hx (by lia)
  let hitn:it≠⇑s:=xj (x5 st)
  let old:∀ b o,b≠it->s.heap.get? b=some o->h2.get? b=some o:=λb o hb e=>(sb.2 b hb).trans (kp b o hb e)
  let hnew:h2.get? ⇑s=some { cls:=.type "tuple",data:=.seq #[key,vs[i].2] }:=(sb.2 _ (Ne.symm hitn)).trans ht
  let fresh:H ⇑s=none:=I.hok.fresh (xg _)
  let I1:Inv X pins σ H { s with heap:=h2 }:=I.turned old f0 f1 f3 f4 f5
  let I2:Inv X pins σ (upd H ⇑s (.tup [kV (kvs[i]'hx).1,(kvs[i]'hx).2])) { s with heap:=h2 }:=I1.track I.sz fresh (Ne.symm (xj I.lt)) (λx c e=>by
   let⟨v,ob,hob,_⟩:=I.cell x c e
   exact xj (x5 hob)) (λp hp=>xj (x5 (I.pin p hp).1)) ⟨by rw[Xe];simp,[key,vs[i].2],.cons (by rw[e1];exact yf hk) (.cons e2 .nil),_,hnew,rfl,_,rfl⟩
  refine⟨.ref ⇑s,_,I2,rfl,⟨kvs[i],_,by simp[hx],rfl,fresh,rfl⟩,⟨key,vs[i].2,by rw[hl];exact st2⟩,λb hb=>?_⟩
  let e:b=it:=by simpa using hb
  subst e
  rw[zG hitn];exact f0
 done:=by
  intro X hP hw hK hc i pins s σ H E I hf st hg
  subst hP hw hK
  let⟨ok,ov,st⟩:=st
  let⟨hq,hx⟩:=hg
  let⟨vs,rel,dat⟩:=JB I.hok hq
  let⟨f0,f1,f2,f3,f4,f5⟩:=hf it (by simp)
  let hl:=rel.length
  rw[hl]at st
  exact wpAny_pyNext_items_end (I.ok.hd hc) st dat (xD (by lia)) λh' eb=>⟨rfl,I.turned (λb o hb e=>eb b o hb e) f0 f1 f3 f4 f5⟩
 self:=λ_ _ _ _ _ ⟨ok,ov,st⟩ h=>W.kcp_self st h
section
variable {X:Cx}{tg o:Expr}{apos cpos:Pos}
def zix(X:Cx)(tl:TE):TI:=λσ H R=>tl σ H λx H1=>∃ a kvs,x=.ref a/\Rd H1 a (.dK kvs)/\∀ o Hf,Fz X H1 Hf a o kvs->R (Iti a o kvs) Hf
def zeB (htg:∃ es n p,tg=.Tuple es n p) (hl:PE X o tl) (hb:attributeBase o "items" X.env (eval o X.env)=eval o X.env) (hline:(apos.endLine==cpos.line)=true):PI X tg (.Call (.Attribute o "items" apos) [] [] cpos) (zix X tl):=by
 intro pins s σ H R I h
 erw[wpAny_Call_method0_late hb hline (thn (hl pins s σ H _ I h) λu s1 ⟨x,H1,I1,rx,a,kvs,ex,hr,q⟩=>?_)]
 subst ex
 obtain rfl:u=Value.ref a:=rx
 let⟨t1,t2,hd⟩:=ye I1 ⟨kvs,hr⟩
 refine⟨_,_,PySem.F.plainAttrs_dict,PySem.F.slot_dict_items,PySem.F.type_dict_items,t1,t2,?_⟩
 let⟨z,_,vs0,rel0,dd0⟩:=ZW I1.hok hr
 erw[Calls.callWith_builtin rfl (PySem.evalArgs_none ?_)]
 erw[call_meetsIn PySem.F.slot_dict_items t1 PySem.F.entry_dict_items (PySem.F.args_dict_items_1 _) (meets_dict_items (qt X.prog X.w) a hd) ⟨⟨vs0,dd0⟩,?_⟩]
 let⟨o,Hf,ho,fz,If⟩:=I1.freeze hr
 let Ik:=If.kept (h':=s1.heap.push { cls:=.type "dict_items",data:=.fields #[.ref a] }) (t':=s1.toks) λb o e=>x4 _ e
 let⟨vs,rel,dat⟩:=JB Ik.hok fz.1
 erw[wpAny_pyIter_items ⟨_,x8 _ rfl,rfl,rfl⟩ dat ?_]
 refine⟨_,[_],_,_,Hf,rfl,Ik.kept λb o e=>x4 _ e,Ks htg a _ o kvs,?_,λb hb=>?_,q o Hf fz⟩
 ·rw[rel.length];exact⟨.none,.none,x8 _ rfl⟩
 ·let e:b=(s1.heap.push { cls:=.type "dict_items",data:=.fields #[.ref a] }).objs.size:=by simpa using hb
  subst e
  erw[Ik.fpOk (xg _) (Ik.hok.fresh (xg _))]
end
end L2
namespace L3
open PySem PySem.Spec PyProof.Rows L2
variable [Cs]
def Eqv(H H':Hp):Prop:=∀ b o,H b=some o->H' b=some o∨∃ kvs,(o=.dK kvs∨∃ ob,o=.frz ob (.dK kvs))/\Rd H' b (.dK kvs)
section
variable {M0 M:Ae}{F F':Fp}{Γ:Gv}{ν:Nu}{H H' Hf:Hp}{X:Cx}{a:Ap}{o:Obj}{kvs:List (Key×V)}
def Eqv.refl(H:Hp):Eqv H H:=λ_ _ e=>.inl e
def Eqv.rd(h:Eqv H H')(r:Rd H b (.dK kvs)):Rd H' b (.dK kvs):=by
 rcases r with e | ⟨ob,e⟩
 ·rcases h b _ e with z | ⟨k,z | ⟨ob,z⟩,r⟩
  ·erw[.inl z]
  ·cases z;exact r
  ·cases z
 ·rcases h b _ e with z | ⟨k,z | ⟨ob',z⟩,r⟩
  ·erw[.inr ⟨_,z⟩]
  ·cases z
  ·cases z;exact r
def Eqv.of(h:Eqv H H'){o:HO}(e:H b=some o)(h1:∀ kvs,o≠ .dK kvs)(h2:∀ ob kvs,o≠ .frz ob (.dK kvs)):H' b=some o:=by
 rcases h b _ e with z | ⟨k,z | ⟨ob,z⟩,r⟩
 ·erw[z]
 ·erw[absurd z (h1 k)]
 ·erw[absurd z (h2 ob k)]
def Eqv.stay(h:Eqv H H')(n:H b≠none):H' b≠none:=by
 cases q:H b with
 |none=>erw[absurd q n]
 |some o=>
  rcases h b _ q with z | ⟨k,_,z | ⟨ob,z⟩⟩<;>rw[z]<;>exact λw=>nomatch w
def Rep.eqv(h:Eqv H H'){v:V}{d:PyData}(r:Rep M H v d):Rep M H' v d:=r.go (λa o e n q1 q2=>⟨h.of e q1 q2,n⟩) (λa xs e=>h.of e (λ_ z=>nomatch z) (λ_ _ z=>nomatch z)) λa x e n=>⟨h.rd e,n⟩
def RS.eqv(r:RS M0 F Γ ν H)(h:Eqv H H')(hF:∀ i,∀ a∈F i,H' a=H a):RS M0 F Γ ν H' :=
 ⟨λa ha=>h.stay (r.al0 a ha),r.dis0,r.nd,r.dis,λi o e=>let ⟨v,e1,q⟩:=r.at' i o e;⟨v,e1,q.go (λ_ _ x=>Rep.eqv h x) (λb xs e=>h.of e (λ_ z=>nomatch z) (λ_ _ z=>nomatch z)) (hF i)⟩,r.emp,r.len⟩
def zdR(z:Fz X H Hf a o kvs):Eqv H Hf:=by
 obtain⟨e,rfl | ⟨e1,rfl,_⟩⟩:=z
 ·erw[.refl _]
 ·intro b u eb
  by_cases hb:b=a
  ·subst hb
   rw[e1]at eb;cases eb
   erw[.inr ⟨kvs,.inl rfl,.inr ⟨o,zH⟩⟩]
  ·exact .inl (by rw[zG hb];exact eb)
def YH(e:H a=some (.frz o (.dK kvs))):Eqv H (upd H a (.dK kvs)):=λb u eb=>by
 by_cases hb:b=a
 ·subst hb
  rw[e]at eb;cases eb
  erw[.inr ⟨kvs,.inr ⟨o,rfl⟩,.inl zH⟩]
 ·exact .inl (by rw[zG hb];exact eb)
def zfh{H'f:Hp}(e:H a=some (.dK kvs))(s:Stp F (upd H a (.frz o (.dK kvs))) F' H'f)(hn:∀ i,a∉F i):Stp F H F' (upd H'f a (.dK kvs)):=by
 let ka:=s.keep a _ zH hn
 refine⟨λb u eb nb=>?_,λb xs eb=>?_,λb hb=>?_⟩
 ·by_cases hb:b=a
  ·subst hb
   rw[e]at eb;cases eb
   exact⟨zH,ka.2⟩
  ·rw[zG hb]
   exact s.keep b u (by rw[zG hb];exact eb) nb
 ·let hb:b≠a:=λz=>by subst z;rw[e]at eb;cases eb
  rw[zG hb]
  exact s.tups b xs (by rw[zG hb];exact eb)
 ·by_cases z:b=a
  ·subst z;rw[zH];exact λw=>nomatch w
  ·rw[zG z]
   exact s.stay b (by rw[zG z];exact hb)
end
def Q5(M0:Ae)(F:Fp)(i:Nat):Ae:=λa=>M0 a∨a∈F i
section
variable {M0:Ae}{F F':Fp}{Γ Γ':Gv}{ν:Nu}{H H':Hp}{i:Nat}
def Q7(h:F3 i= []):MM (Q5 M0 F i) F3=MM M0 (fset F3 i (F i)):=by
 funext a
 apply propext
 constructor
 ·rintro ((h1 | h1) | ⟨j,h1⟩)
  ·erw[.inl h1]
  ·exact .inr ⟨i,by rw[zJ];exact h1⟩
  ·refine .inr ⟨j,?_⟩
   rw[zP (λz=>by subst z;rw[h]at h1;cases h1)];exact h1
 ·rintro (h1 | ⟨j,h1⟩)
  ·erw[.inl (.inl h1)]
  ·by_cases z:j=i
   ·subst z;rw[zJ]at h1;exact .inl (.inr h1)
   ·rw[zP z]at h1;exact .inr ⟨j,h1⟩
def ya:fset (fset F i []) i (F i)=F:=by
 funext j
 by_cases z:j=i
 ·subst z;rw[zJ]
 ·rw[zP z,zP z]
def RS.hide(r:RS M0 F Γ ν H):RS (Q5 M0 F i) (fset F i []) (Γ.set i none) ν H:=by
 let hm:MM (Q5 M0 F i) (fset F i [])=MM M0 F:=by rw[Q7 zJ,ya]
 let sub:∀ j a,a∈fset F i [] j->j≠i/\a∈F j:=λj a h=>by
  by_cases z:j=i
  ·subst z;rw[zJ]at h;cases h
  ·rw[zP z]at h;exact⟨z,h⟩
 refine⟨λa h=>?_,λj a h=>?_,λj=>?_,λj k a h1 h2=>r.dis _ _ a (sub _ _ h1).2 (sub _ _ h2).2,λj o e=>?_,λj h=>?_,by rw[xK];exact r.len⟩
 ·rcases h with h | h
  ·erw[r.al0 a h]
  ·erw[r.al a (.inr ⟨i,h⟩)]
 ·let⟨h1,h2⟩:=sub j a h
  rintro (z | z)
  ·erw[r.dis0 j a h2 z]
  ·erw[h1 (r.dis _ _ a h2 z)]
 ·by_cases z:j=i
  ·subst z;rw[zJ];exact .nil
  ·rw[zP z];exact r.nd j
 ·by_cases z:j=i
  ·subst z
   by_cases hl:j<Γ.length
   ·rw[xk hl]at e;cases e
   ·rw[xD (by simpa using hl)]at e;cases e
  ·rw[xi (Ne.symm z)]at e
   rw[hm,zP z]
   erw[r.at' j o e]
 ·by_cases z:j=i
  ·subst z;exact zJ
  ·rw[zP z]
   erw[r.emp j λo e=>h o ?_]
   rw[xi (Ne.symm z)];exact e
def RS.unhide(r:RS M0 F Γ ν H)(e:Γ[i]?=some (some o))(r':RS (Q5 M0 F i) F' Γ' ν H')(e':Γ'[i]?=some none)(s:Stp (fset F i []) H F' H'):RS M0 (fset F' i (F i)) (Γ'.set i (some o)) ν H'/\Stp F H (fset F' i (F i)) H':=by
 let hi':i<Γ'.length:=(xa.mp e').1
 let hFi:=r'.emp i λo z=>by rw[e']at z;cases z
 let hm:MM (Q5 M0 F i) F'=MM M0 (fset F' i (F i)):=Q7 hFi
 let kp:∀ a∈F i,H' a=H a/\∀ j,a∉F' j:=λa ha=>by
  let⟨u,eu⟩:=r.laidF ha
  let⟨k1,k2⟩:=s.keep a u eu λj hj=>by
   by_cases z:j=i
   ·subst z;rw[zJ]at hj;cases hj
   ·rw[zP z]at hj;exact z (r.dis _ _ a hj ha)
  exact⟨by rw[k1,eu],k2⟩
 let cls:∀ j a,a∈fset F' i (F i) j->(j=i/\a∈F i)∨(j≠i/\a∈F' j):=λj a h=>by
  by_cases z:j=i
  ·subst z;rw[zJ]at h;exact .inl ⟨rfl,h⟩
  ·rw[zP z]at h;exact .inr ⟨z,h⟩
 let s0:MM (Q5 M0 F i) (fset F i [])=MM M0 F:=by rw[Q7 zJ,ya]
 refine⟨⟨λa h=>r'.al0 a (.inl h),λj a h=>?_,λj=>?_,λj k a h1 h2=>?_,λj p ep=>?_,λj h=>?_,by rw[xK];exact r'.len⟩,⟨λb u eb nb=>?_,s.tups,s.stay⟩⟩
 ·rcases cls j a h with ⟨_,h⟩ | ⟨_,h⟩
  ·erw[r.dis0 i a h]
  ·erw[λz=>r'.dis0 j a h (.inl z)]
 ·by_cases z:j=i
  ·subst z;rw[zJ];exact r.nd _
  ·rw[zP z];exact r'.nd j
 ·rcases cls j a h1 with ⟨z1,h1⟩ | ⟨z1,h1⟩<;>rcases cls k a h2 with ⟨z2,h2⟩ | ⟨z2,h2⟩
  ·rw[z1,z2]
  ·erw[absurd h2 ((kp a h1).2 k)]
  ·erw[absurd h1 ((kp a h2).2 j)]
  ·erw[r'.dis _ _ a h1 h2]
 ·by_cases z:j=i
  ·subst z
   rw[xk hi']at ep
   cases ep
   let⟨v,ev,q⟩:=r.at' j _ e
   refine⟨v,ev,?_⟩
   rw[zJ,<- hm]
   exact q.go (λw d x=>qe s (λa h=>(r.hide).al0 a h) (by rw[s0];exact x)) s.tups λa ha=>(kp a ha).1
  ·rw[xi (Ne.symm z)]at ep
   rw[<- hm,zP z]
   erw[r'.at' j p ep]
 ·by_cases z:j=i
  ·subst z
   rw[xk hi']at h
   erw[absurd rfl (h o)]
  ·rw[zP z]
   erw[r'.emp j λp ep=>h p ?_]
   rw[xi (Ne.symm z)];exact ep
 ·let⟨k1,k2⟩:=s.keep b u eb λj hj=>by
   by_cases z:j=i
   ·subst z;rw[zJ]at hj;cases hj
   ·rw[zP z]at hj;exact nb j hj
  refine⟨k1,λj hj=>?_⟩
  rcases cls j b hj with ⟨_,h⟩ | ⟨_,h⟩
  ·erw[nb i h]
  ·erw[k2 j h]
end
def hid{γ:Type}(z:Option (Option Nat))(f:EM γ):EM γ:=λΓ=>match z with
 |none=>f Γ
 |some none=>f Γ
 |some (some i)=>match Γ[i]? with
  |some (some o)=>match f (Γ.set i none) with
   |.ok (y,Γ2)=>match Γ2[i]? with
    |some none=>.ok (y,Γ2.set i (some o))
    |_=>.bad
   |.bad=>.bad
  |_=>.bad
def Wk(X:Cx)(F:Fp)(H Hf:Hp):Prop:=Hf=H∨∃ a o kvs,Fz X H Hf a o kvs/\∀ i,a∉F i
def JIw(X:Cx)(M0:Ae)(F:Fp)(J:It)(z:Aa×Option (Option Nat))(H Hf:Hp):Prop:=match z.2 with
 |none=>Hf=H/\JI M0 F J z.1 H
 |some none=>Wk X F H Hf/\JI M0 F J z.1 Hf
 |some (some i)=>Hf=H/\JI (Q5 M0 F i) (fset F i []) J z.1 H
def SIw(X:Cx)(mp:Ac)(tg iter:Expr)(f:EM (Aa×Option (Option Nat))):Prop:=∀(M0:Ae)(F:Fp)(Γ:Gv)(ν:Nu)(σ:St)(H:Hp)(R:It->Hp->Prop),RS M0 F Γ ν H->Sees mp ν σ ->
 EPost M0 F ν σ H (λF' Γ' H' z=>∀ J Hf,JIw X M0 F' J z H' Hf->R J Hf) (f Γ)->wpI X tg iter σ H R
section
variable {X:Cx}{mp:Ac}{a b c e tg iter elt:Expr}{ifs:Ag}{pos p:Pos}{na:EM (Aa)}
@[reducible] noncomputable def fStd(f:EM (Aa)):EM (Aa×Option (Option Nat)):=λΓ=>(f Γ).bind λ(ds,Γ1)=>.ok ((ds,none),Γ1)
def zha(h:SI X mp tg iter na):SIw X mp tg iter (fStd na):=λM0 F Γ ν σ H R rs hs hp=>
 h M0 F Γ ν σ H R rs hs (hp.seq.mono λF1 Γ1 H1 ds rs1 s1 h1 J hJ=>h1 F1 H1 rs1 (.refl _ _) J H1 ⟨rfl,hJ⟩)
def loopG{β γ:Type}(k:Nat)(t:IT)(cond:EM Bool)(it:EM β)(add:γ->β->γ):Aa->γ->Gv->R (γ×Gv)
 |[],ys,Γ=>.ok (ys,Γ)
 |d::ds,ys,Γ=>match tgF t d (Γ++List.replicate k none) with
  |none=>.bad
  |some Γ2=>match cond Γ2 with
   |.ok (true,Γ3)=>match it Γ3 with
    |.ok (y,Γ4)=>loopG k t cond it add ds (add ys y) (Γ4.take Γ.length)
    |.bad=>.bad
   |.ok (false,Γ3)=>loopG k t cond it add ds ys (Γ3.take Γ.length)
   |.bad=>.bad
structure zcs{α β γ δ:Type}(ac:Acc α β)(ad:γ->δ->γ)(RA:(Ae)->Fp->Hp->α->γ->Prop)(RB:(Ae)->Fp->Hp->β->δ->Prop)(ln:γ->Nat):Prop where
 stp:∀{M0:Ae}{F F':Fp}{H H':Hp}{x:α}{y:γ},RA M0 F H x y->Stp F H F' H'->(∀ a,M0 a->H a≠none)->RA M0 F' H' x y
 add:∀{M0:Ae}{F:Fp}{H:Hp}{x:α}{y:γ}{u:β}{d:δ},RA M0 F H x y->RB M0 F H u d->RA M0 F H (ac.add x u) (ad y d)
 bst:∀{M0:Ae}{F F':Fp}{H H':Hp}{u:β}{d:δ},RB M0 F H u d->Stp F H F' H'->(∀ a,M0 a->H a≠none)->RB M0 F' H' u d
 len:∀{M0:Ae}{F:Fp}{H:Hp}{x:α}{y:γ},RA M0 F H x y->ac.len x=ln y
 lin:∀(y:γ)(d:δ),ln (ad y d)<=ln y+1
 eqv:∀{M0:Ae}{F:Fp}{H H':Hp}{x:α}{y:γ},RA M0 F H x y->Eqv H H'->RA M0 F H' x y
 mm:∀{M0 M0':Ae}{F F':Fp}{H:Hp}{x:α}{y:γ},MM M0 F=MM M0' F'->RA M0 F H x y->RA M0' F' H x y
def jc{α β γ δ:Type}{ac:Acc α β}{add:γ->δ->γ}{RA:(Ae)->Fp->Hp->α->γ->Prop}{RB:(Ae)->Fp->Hp->β->δ->Prop}{len:γ->Nat}(AR:zcs ac add RA RB len){N':Ab}{scope:Scope}{n k:Nat}{ix:Ac}{t:IT}{cond:EM Bool}{it:EM δ}{te:St->Hp->(β->Hp->Prop)->Prop}{M0:Ae}{F1:Fp}{ν:Nu}{σ:St}{H1:Hp}{J:It}{ds:Aa}{P:Fp->Gv->Hp->γ->Prop}{Γ1:Gv}{Q:α->Hp->Prop}{c0:γ}
  (hm:∀ j i:Nat,ix[j]?=some i->∃ m,mp[i]?=some m/\m<n) (hN':N'.length=k+ix.length) (h0:RA M0 F1 H1 ac.a0 c0) (hl0:len c0=0)
  (hg:∀ cl C s2 H2 fp,SG ⋯ (mpC mp n k ix) (·<n) tg t) (hc:∀ cl C s2 H2 fp,SF ⋯ (mpC mp n k ix) ifs cond)
  (he:∀(M0:Ae)(F:Fp)(Γ:Gv)(ν:Nu)(σ1:St)(H:Hp)(Q:β->Hp->Prop),RS M0 F Γ ν H->Sees (mpC mp n k ix) ν σ1->EPost M0 F ν σ1 H (λF' Γ' H' d=>∀ y,RB M0 F' H' y d->Q y H') (it Γ)->te σ1 H Q)
  (rs1:RS M0 F1 Γ1 ν H1) (hs:Sees mp ν σ) (hJ:JI M0 F1 J ds H1) (hd:ds.length<=1000000) (hn:Γ1.length=n) (hp:EPost M0 F1 ν σ H1 P (loopG k t cond it add ds c0 Γ1))
  (fin:∀ F' Γ' H' ys vs,RS M0 F' Γ' ν H'->RA M0 F' H' vs ys->P F' Γ' H' ys->Stp F1 H1 F' H'->Q vs H') :
  VO ac k ix (gU X N' scope tg σ) (fU X N' scope ifs σ) te σ J H1 Q:=by
 have hνn:ν.length=n:=by rw[rs1.len,hn]
 refine⟨λi m vs H=>m=ds.length-i/\i<=ds.length/\∃ F' Γ' ys,RS M0 F' Γ' ν H/\Stp F1 H1 F' H/\RA M0 F' H vs ys/\Γ'.length=n/\len ys<=i/\EPost M0 F' ν σ H P (loopG k t cond it add (ds.drop i) ys Γ'),⟨ds.length,by simp,ub _,F1,Γ1,c0,rs1,.refl _ _,h0,hn,by rw[hl0];exact xg _,hp⟩,?_⟩
 rintro i m vs H ⟨rfl,hil,F',Γ',ys,rs,st,rv,hln,hyl,hp⟩
 let hsz:=Xe
 refine⟨by rw[AR.len rv];lia,?_⟩
 by_cases hlt:i<ds.length
 ·rw[List.drop_eq_getElem_cons hlt,loopG]at hp
  let⟨jgo,jst⟩:=hJ i F' H st rs1.al0
  let⟨go,yl⟩:=jgo ds[i] (by simp[hlt])
  refine .inr ⟨go,λvs' H'=>∃ F'' Γ'' ys',RS M0 F'' Γ'' ν H'/\Stp F1 H1 F'' H'/\RA M0 F'' H' vs' ys'/\Γ''.length=n/\len ys'<=i+1/\EPost M0 F'' ν σ H' P (loopG k t cond it add (ds.drop (i+1)) ys' Γ''),λvs' H' h=>⟨ds.length-(i+1),by lia,rfl,hlt,h⟩,λx H2 hy=>?_⟩
  let⟨s2,rx⟩:=yl x H2 hy
  let rs2:=(rs.same s2).ext k
  let hcl:(cS k ix σ).length=N'.length:=by unfold cS;simp[hN']
  let hsee:Sees (mpC mp n k ix) (ν++List.replicate k none) (cS k ix σ):=λs j v e1 e2=>by
   by_cases hsk:s<k
   ·rw[ziK hsk]at e1
    cases e1
    rw[xm (by lia),xN]at e2
    split at e2<;>cases e2
   ·obtain⟨j',rfl⟩:∃ j',s=k+j':=⟨s-k,by lia⟩
    rw[zec]at e1
    cases q:ix[j']? with
    |none=>rw[q]at e1;cases e1
    |some i0=>
     rw[q]at e1
     let⟨m,hm1,hm2⟩:=hm j' i0 q
     have:mp.getD i0 0=m:=by rw[xE,hm1];rfl
     let ej:m=j:=by
      let e3:some (mp.getD i0 0)=some j:=e1
      rw[this]at e3;exact Option.some.inj e3
     subst ej
     rw[xc (by lia)]at e2
     erw[zia q (hs i0 m v hm1 e2)]
  cases et:tgF t ds[i] (Γ'++List.replicate k none) with
  |none=>rw[et]at hp;exact hp.elim
  |some Γ2=>
   rw[et]at hp
   intro cl C s2' H2' fp
   erw[hg cl C s2' H2' fp M0 F' _ Γ2 _ (cS k ix σ) H2 x ds[i] _ rs2 hsee hcl rx et λF3 ν3 σ3 rs3 s3 hs3 hl3 n3 m3=>⟨?_,λcl C s2' H2' fp=>?_⟩]
   ·apply xR
    intro j
    rw[List.getElem?_drop,List.getElem?_drop]
    by_cases hj:j<ix.length
    ·let⟨m,hm1,hm2⟩:=hm j ix[j] (by simp[hj])
     erw[m3 (k+j) m ?_ hm2]
     rw[zec,xb hj]
     show some (mp.getD ix[j] 0)=some m
     rw[xE,hm1];rfl
    ·let hl3':σ3.length=N'.length:=hl3
     rw[xD (by lia),xD (by lia)]
   ·let stA:=(st.trans (.same s2)).trans s3
    let back:∀{F4:Fp}{Γ4:Gv}{H4:Hp},RS M0 F4 Γ4 ν3 H4->RS M0 (Ws F4 n) (Γ4.take n) ν H4/\Stp F4 H4 (Ws F4 n) H4:=λ{F4 Γ4 H4} r4=>by
     let⟨r5,s5⟩:=r4.cut n
     have:ν3.take n=ν:=by
      apply xR
      intro j
      by_cases hj:j<n
      ·rw[xT hj,n3 j hj,xc (by lia)]
      ·rw[xD (by rw[xI];lia),xD (by lia)]
     rw[this]at r5
     exact⟨r5,s5⟩
    let lenOf:∀{F4:Fp}{Γ4:Gv}{H4:Hp},RS M0 F4 Γ4 ν3 H4->(Γ4.take n).length=n:=λ{F4 Γ4 H4} r4=>by
     let h1:=r4.len
     let h2:=rs3.len
     let h3:Γ2.length=n+k:=by rw[Kq _ _ _ _ et,xy,ut,hln]
     rw[xI];lia
    erw[hc cl C s2' H2' fp M0 F3 Γ2 ν3 σ3 H2 _ rs3 hs3 ?_]
    dsimp only at hp
    cases ec:cond Γ2 with
    |bad=>rw[ec]at hp;exact hp.elim
    |ok z=>
     let⟨bb,Γ3⟩:=z
     rw[ec]at hp
     intro F4 H4 rs4 s4
     let rvA:=AR.stp (AR.stp (AR.stp rv (.same s2) rs.al0) s3 (rs.same s2).al0) s4 rs3.al0
     cases bb with
     |false=>
      erw[Yf ?_]
      let⟨r5,s5⟩:=back rs4
      let stB:=(stA.trans s4).trans s5
      rw[hln]at hp
      exact⟨_,_,ys,r5,stB,AR.stp rvA s5 rs4.al0,lenOf rs4,by lia,hp.step ((((Stp.same s2).trans s3).trans s4).trans s5)⟩
     |true=>
      erw[Yg (he M0 F4 Γ3 ν3 σ3 H4 _ rs4 hs3 ?_)]
      dsimp only at hp
      cases ee:it Γ3 with
      |bad=>rw[ee]at hp;exact hp.elim
      |ok z=>
       let⟨u,Γ4⟩:=z
       rw[ee]at hp
       intro F5 H5 rs5 s5 v hv
       dsimp only at hp
       let⟨r6,s6⟩:=back rs5
       let stB:=((stA.trans s4).trans s5).trans s6
       rw[hln]at hp
       exact⟨_,_,add ys u,r6,stB,AR.add (AR.stp (AR.stp rvA s5 rs4.al0) s6 rs5.al0) (AR.bst hv s6 rs5.al0),lenOf rs5,by have:=AR.lin ys u;lia,hp.step (((((Stp.same s2).trans s3).trans s4).trans s5).trans s6)⟩
 ·let e:i=ds.length:=by lia
  subst e
  rw[uN,loopG]at hp
  let⟨jgo,jst⟩:=hJ _ F' H st rs1.al0
  erw[.inl ⟨jst (xg _),fin F' Γ' H ys vs rs rv (hp F' H rs (.refl _ _)) st⟩]
def zfl{H:Hp}{a b:Ap}{o u:HO}(h:a≠b):upd (upd H a o) b u=upd (upd H b u) a o:=by
 funext c
 unfold upd
 by_cases h1:c=b
 ·rw[if_pos h1,if_neg (λz=>h (z.symm.trans h1)),if_pos h1]
 ·rw[if_neg h1]
  by_cases h2:c=a
  ·rw[if_pos h2,if_pos h2]
  ·rw[if_neg h2,if_neg h2,if_neg h1]
def zka{α β γ δ:Type}{ac:Acc α β}{ad:γ->δ->γ}{RA:(Ae)->Fp->Hp->α->γ->Prop}{RB:(Ae)->Fp->Hp->β->δ->Prop}{ln:γ->Nat}(AR:zcs ac ad RA RB ln){N':Ab}{scope:Scope}{n k:Nat}{ix:Ac}{t:IT}{cond:EM Bool}{it:EM δ}{te:St->Hp->(β->Hp->Prop)->Prop}{M0:Ae}{F1:Fp}{ν:Nu}{σ:St}{H1 Hf:Hp}{J:It}{ds:Aa}{Γ1:Gv}{Q:VK}{c0:γ}
  (hm:∀ j i:Nat,ix[j]?=some i->∃ m,mp[i]?=some m/\m<n) (hN':N'.length=k+ix.length) (h0:∀ M0 F H,RA M0 F H ac.a0 c0) (hl0:ln c0=0)
  (hg:∀ cl C s2 H2 fp,SG ⋯ (mpC mp n k ix) (·<n) tg t) (hc:∀ cl C s2 H2 fp,SF ⋯ (mpC mp n k ix) ifs cond)
  (he:∀(M0:Ae)(F:Fp)(Γ:Gv)(ν:Nu)(σ1:St)(H:Hp)(Q:β->Hp->Prop),RS M0 F Γ ν H->Sees (mpC mp n k ix) ν σ1->EPost M0 F ν σ1 H (λF' Γ' H' d=>∀ y,RB M0 F' H' y d->Q y H') (it Γ)->te σ1 H Q)
  (rs1:RS M0 F1 Γ1 ν H1) (hs:Sees mp ν σ) (wk:Wk X F1 H1 Hf) (hJ:JI M0 F1 J ds Hf) (hd:ds.length<=1000000) (hn:Γ1.length=n)
  (hp:EPost M0 F1 ν σ H1 (λF' Γ' H' ys=>∀ vs p,RA M0 F' H' vs ys->H' p=none->Q (.ref p) (upd H' p (ac.ho vs))) ((loopG k t cond it ad ds c0 Γ1))) :
  VO ac k ix (gU X N' scope tg σ) (fU X N' scope ifs σ) te σ J Hf λys H2=>∀ p,H2 p=none->(Q (.ref p) (upd H2 p (ac.ho ys))∨∃ a kvs o,upd H2 p (ac.ho ys) a=some (.frz o (.dK kvs))/\(∀ ob u,X.H₀ a≠some (.frz ob u))/\Q (.ref p) (upd (upd H2 p (ac.ho ys)) a (.dK kvs))):=by
 let plain:Hf=H1->VO ac k ix (gU X N' scope tg σ) (fU X N' scope ifs σ) te σ J Hf λys H2=>∀ p,H2 p=none->(Q (.ref p) (upd H2 p (ac.ho ys))∨∃ a kvs o,upd H2 p (ac.ho ys) a=some (.frz o (.dK kvs))/\(∀ ob u,X.H₀ a≠some (.frz ob u))/\Q (.ref p) (upd (upd H2 p (ac.ho ys)) a (.dK kvs))):=λe=>by
  subst e
  erw[jc AR hm hN' (h0 _ _ _) hl0 hg hc he rs1 hs hJ hd hn hp λF' Γ' H' ys vs rs' rv hP st p hp'=>.inl (hP vs p rv hp')]
 rcases wk with e | ⟨a,o,kvs,⟨ef,e | ⟨ea,e,hH⟩⟩,hna⟩
 ·erw[plain e]
 ·erw[plain e]
 ·subst e
  let hp2:EPost M0 F1 ν σ (upd H1 a (.frz o (.dK kvs))) (λF' Γ' H' ys=>∀ vs p,RA M0 F' (upd H' a (.dK kvs)) vs ys->upd H' a (.dK kvs) p=none->Q (.ref p) (upd (upd H' a (.dK kvs)) p (ac.ho vs))) (loopG k t cond it ad ds c0 Γ1):=by
   cases er:loopG k t cond it ad ds c0 Γ1 with
   |bad=>rw[er]at hp;exact hp
   |ok z=>
    rw[er]at hp
    intro F' H' rs' s'
    let ka:=(s'.keep a _ zH hna).1
    exact hp F' _ (rs'.eqv (YH ka) λi b hb=>zG λz=>(s'.keep a _ zH hna).2 i (by rw[<- z];exact hb)) (zfh ea s' hna)
  refine jc AR hm hN' (h0 _ _ _) hl0 hg hc he (rs1.eqv (zdR ⟨zH,.inr ⟨ea,rfl,hH⟩⟩) λi b hb=>zG λz=>hna i (by rw[<- z];exact hb)) hs hJ hd hn hp2 λF' Γ' H' ys vs rs' rv hP st p hp'=>.inr ⟨a,kvs,o,?_,hH,?_⟩
  ·let ka:=(st.keep a _ zH hna).1
   rw[zG (λz=>by subst z;rw[ka]at hp';cases hp')];exact ka
  ·let ka:=(st.keep a _ zH hna).1
   let hpa:p≠a:=λz=>by subst z;rw[ka]at hp';cases hp'
   rw[zfl hpa]
   exact hP vs p (AR.eqv rv (YH ka)) (by rw[zG hpa];exact hp')
def zkb{α β γ δ:Type}{ac:Acc α β}{ad:γ->δ->γ}{RA:(Ae)->Fp->Hp->α->γ->Prop}{RB:(Ae)->Fp->Hp->β->δ->Prop}{ln:γ->Nat}(AR:zcs ac ad RA RB ln){N':Ab}{scope:Scope}{n k:Nat}{ix:Ac}{t:IT}{cond:EM Bool}{it:EM δ}{te:St->Hp->(β->Hp->Prop)->Prop}{M0:Ae}{F1:Fp}{ν:Nu}{σ:St}{H1 Hf:Hp}{J:It}{z:Aa×Option (Option Nat)}{Γ1:Gv}{Q:VK}{c0:γ}
  (hm:∀ j i:Nat,ix[j]?=some i->∃ m,mp[i]?=some m/\m<n) (hN':N'.length=k+ix.length) (h0:∀ M0 F H,RA M0 F H ac.a0 c0) (hl0:ln c0=0)
  (hg:∀ cl C s2 H2 fp,SG ⋯ (mpC mp n k ix) (·<n) tg t) (hc:∀ cl C s2 H2 fp,SF ⋯ (mpC mp n k ix) ifs cond)
  (he:∀(M0:Ae)(F:Fp)(Γ:Gv)(ν:Nu)(σ1:St)(H:Hp)(Q:β->Hp->Prop),RS M0 F Γ ν H->Sees (mpC mp n k ix) ν σ1->EPost M0 F ν σ1 H (λF' Γ' H' d=>∀ y,RB M0 F' H' y d->Q y H') (it Γ)->te σ1 H Q)
  (rs1:RS M0 F1 Γ1 ν H1) (hs:Sees mp ν σ) (hJ:JIw X M0 F1 J z H1 Hf) (hd:z.1.length<=1000000) (hn:Γ1.length=n)
  (hp:EPost M0 F1 ν σ H1 (λF' Γ' H' ys=>∀ vs p,RA M0 F' H' vs ys->H' p=none->Q (.ref p) (upd H' p (ac.ho vs))) (hid z.2 (loopG k t cond it ad z.1 c0) Γ1)) :
  VO ac k ix (gU X N' scope tg σ) (fU X N' scope ifs σ) te σ J Hf λys H2=>∀ p,H2 p=none->(Q (.ref p) (upd H2 p (ac.ho ys))∨∃ a kvs o,upd H2 p (ac.ho ys) a=some (.frz o (.dK kvs))/\(∀ ob u,X.H₀ a≠some (.frz ob u))/\Q (.ref p) (upd (upd H2 p (ac.ho ys)) a (.dK kvs))):=by
 let⟨ds,z⟩:=z
 cases z with
 |none=>
  let⟨rfl,hJ⟩:=hJ
  erw[jc AR hm hN' (h0 _ _ _) hl0 hg hc he rs1 hs hJ hd hn hp λF' Γ' H' ys vs rs' rv hP st p hp'=>.inl (hP vs p rv hp')]
 |some z=>cases z with
  |none=>erw[zka AR hm hN' h0 hl0 hg hc he rs1 hs hJ.1 hJ.2 hd hn hp]
  |some i=>
   let⟨rfl,hJ⟩:=hJ
   dsimp only [hid]at hp
   delta hp o eo
   refine jc AR hm hN' (h0 _ _ _) hl0 hg hc he (rs1.hide) hs hJ hd (by rw[xK];exact hn) (P:=λF' Γ' H' ys=>∀ vs p,RA (Q5 M0 F1 i) F' H' vs ys->H' p=none->Q (.ref p) (upd H' p (ac.ho vs))) ?_ λF' Γ' H' ys vs rs' rv hP st p hp'=>.inl (hP vs p rv hp')
   generalize loopG k t cond it ad ds c0 (Γ1.set i none)=r at hp
   cases r with
   |bad=>erw[hp]
   |ok w=>
    let⟨ys,Γ2⟩:=w
    delta hp e2
    intro F' H' rs' s' vs p ra hp'
    let⟨rs3,s3⟩:=rs1.unhide eo rs' e2 s'
    exact hp _ H' rs3 s3 vs p (AR.mm (Q7 (rs'.emp i λo z=>by rw[e2]at z;cases z)) ra) hp'
def itL(elt:EM FV):EM PyData:=λΓ=>(elt Γ).bind λ(u,Γ1)=>match derS Γ1 u with
 |some y=>.ok (y,Γ1)
 |none=>.bad
def zak:zcs zfG (λ(ys:Aa) y=>ys++ [y]) (λM0 F H vs ys=>RepL (MM M0 F) H vs ys) (λM0 F H v y=>Rep (MM M0 F) H v y) List.length where
 stp r s h0:=W0 s h0 r
 add r q:=RepL.append r (.cons q .nil)
 bst r s h0:=qe s h0 r
 len r:=r.length
 lin y d:=by simp
 eqv r h:=j4 (λ_ _=>Rep.eqv h) r
 mm e r:=by rw[<- e];exact r
def qD(k:Nat)(t:IT)(cond:EM Bool)(elt:EM FV):Aa->Aa->Gv->R (Aa×Gv):=loopG k t cond (itL elt) λys y=>ys++ [y]
@[reducible] noncomputable def fComp(n k:Nat)(t:IT)(src:EM (Aa))(cond:EM Bool)(elt:EM FV):EM (Aa):=λΓ=>(src Γ).bind λ(ds,Γ1)=>if ds.length<=1000000/\Γ1.length=n then qD k t cond elt ds [] Γ1 else .bad
def ziA(he:SE Y mp' elt el)(rs:RS M0 F Γ ν H)(hs:Sees mp' ν σ)(hp:EPost M0 F ν σ H (λF' Γ' H' d=>∀ y,Rep (MM M0 F') H' y d->Q y H') (itL el Γ)):wpE Y elt σ H Q :=
 he.run rs hs hp λF1 Γ1 H1 u v rs1 s1 o1 h1=>by
  delta h1 y ey
  erw[h1 F1 H1 rs1 (.refl _ _) v (o1.strong rs1 ey)]
def Yz{N':Ab}{scope:Scope}{n k:Nat}{ix:Ac}{t:IT}{src:EM (Aa)}{cond:EM Bool}{el:EM FV}(S:CSc X.env.scope X.N scope N' k ix)(hm:∀ j i:Nat,ix[j]?=some i->∃ m,mp[i]?=some m/\m<n)
  (hi:SI X mp tg iter src) (hg:∀ cl C s2 H2 fp,SG ⋯ (mpC mp n k ix) (·<n) tg t) (hc:∀ cl C s2 H2 fp,SF ⋯ (mpC mp n k ix) ifs cond) (he:∀ cl C s2 H2 fp,SE ⋯ (mpC mp n k ix) elt el) :
  SNt mp (YF k ix (wpI X tg iter) (gU X N' scope tg) (fU X N' scope ifs) (eU X N' scope elt)) (fComp n k t src cond el):=by?
 erw[hi M0 F Γ ν σ H _ rs hs (hp.seq.mono λF1 Γ1 H1 ds rs1 s1 h1 J hJ=>?_)]
 delta h1 hh
 erw[jc zak hm S.len .nil rfl hg hc (λM0 F Γ ν σ1 H Q rs hs hp cl C s2 H2 fp=>ziA (he cl C s2 H2 fp) rs hs hp) rs1 hs hJ hh.1 hh.2 h1 λF' Γ' H' ys vs rs' rv hP _ p hp'=>hP vs p rv hp']
def zhd{t:IT}{src:EM (Aa)}{cond:EM Bool}{el:EM FV}(hcalm:X.calm=true)(S:CSc X.env.scope X.N scope N' k ix)(hm:∀ j i:Nat,ix[j]?=some i->∃ m,mp[i]?=some m/\m<n)
  (hi:SI X mp tg iter src) (hg:∀ cl C s2 H2 fp,SG ⋯ (mpC mp n k ix) (·<n) tg t) (hc:∀ cl C s2 H2 fp,SF ⋯ (mpC mp n k ix) ifs cond) (he:∀ cl C s2 H2 fp,SE ⋯ (mpC mp n k ix) elt el)
  (hf:∀ x,foldedSetIterable iter X.env x=pure x):SN X mp (.ListComp elt [⟨tg,iter,ifs,0⟩] scope pos) (fComp n k t src cond el):=λM0 F Γ ν σ H Q rs hs hp=>
 (zen hcalm S hf).wp (Yz S hm hi hg hc he M0 F Γ ν σ H Q rs hs hp)
def SD(X:Cx)(mp:Ac)(e:Expr)(f:EM (Ad)):Prop:=∀(M0:Ae)(F:Fp)(Γ:Gv)(ν:Nu)(σ:St)(H:Hp)(Q:VK),RS M0 F Γ ν H->Sees mp ν σ ->
 EPost M0 F ν σ H (λF' Γ' H' ds=>∀ ks p,KR (MM M0 F') H' ks ds->H' p=none->Q (.ref p) (upd H' p (.dK (ks.map kK)))) (f Γ)->wpE X e σ H Q
def SDt(mp:Ac)(t:TE)(f:EM (Ad)):Prop:=∀(M0:Ae)(F:Fp)(Γ:Gv)(ν:Nu)(σ:St)(H:Hp)(Q:VK),RS M0 F Γ ν H->Sees mp ν σ ->
 EPost M0 F ν σ H (λF' Γ' H' ds=>∀ ks p,KR (MM M0 F') H' ks ds->H' p=none->Q (.ref p) (upd H' p (.dK (ks.map kK)))) (f Γ)->t σ H Q
def KR.stp(h:KR (MM M0 F) H ks ds)(s:Stp F H F' H')(h0:∀ a,M0 a->H a≠none):KR (MM M0 F') H' ks ds:=h.map λ_ _ x=>qe s h0 x
def itD(ek ev:EM FV):EM (Str×PyData):=λΓ=>(ek Γ).bind λ(u,Γ1)=>match derf Γ1 u with
 |some (.str x)=>(ev Γ1).bind λ(w,Γ2)=>match derS Γ2 w with
  |some y=>.ok ((x,y),Γ2)
  |none=>.bad
 |_=>.bad
def vM:zcs zfF (λ(ys:Ad)(y:Str×PyData)=>zU ys y.1 y.2) (λM0 F H kvs ys=>∃ ks,kvs=ks.map kK/\KR (MM M0 F) H ks ys) (λM0 F H (u:Key×V) (y:Str×PyData)=>u.1=.inr y.1/\Rep (MM M0 F) H u.2 y.2) List.length where
 stp:=λ⟨ks,e,r⟩ s h0=>⟨ks,e,KR.stp r s h0⟩
 add:=λ{M0 F H x y u d} ⟨ks,e,r⟩ ⟨q1,q2⟩=>⟨zU ks d.1 u.2,by rw[e,<- yr,<- q1],r.put d.1 q2⟩
 bst:=λ⟨q1,q2⟩ s h0=>⟨q1,qe s h0 q2⟩
 len:=λ⟨ks,e,r⟩=>by rw[e];show (ks.map kK).length=_;rw[xo,r.length]
 lin y d:=JW y d.1 d.2
 eqv:=λ⟨ks,e,r⟩ h=>⟨ks,e,r.map λ_ _ x=>Rep.eqv h x⟩
 mm:=λe ⟨ks,e',r⟩=>⟨ks,e',by rw[<- e];exact r⟩
def eD(X:Cx)(N':Ab)(scope:Scope)(kx vx:Expr)(σ0:St):St->Hp->(Key×V->Hp->Prop)->Prop:=YG (eU X N' scope kx σ0) (eU X N' scope vx σ0)
@[reducible] noncomputable def fCompD(n k:Nat)(t:IT)(src:EM (Aa×Option (Option Nat)))(cond:EM Bool)(ek ev:EM FV):EM (Ad):=λΓ=>(src Γ).bind λ(z,Γ1)=>if z.1.length<=1000000/\Γ1.length=n then hid z.2 (loopG k t cond (itD ek ev) (λys y=>zU ys y.1 y.2) z.1 []) Γ1 else .bad
def zbS{kx vx:Expr}(hcalm:X.calm=true)(S:CSc X.env.scope X.N scope N' k ix)(hf:∀ x,foldedSetIterable iter X.env x=pure x) :
  PE X (.DictComp kx vx [⟨tg,iter,ifs,0⟩] scope pos) (vd k ix (wpI X tg iter) (gU X N' scope tg) (fU X N' scope ifs) (eD X N' scope kx vx)) :=
 zem hcalm S Jb (λ_ cl C s2 H2 fp pins s σ H v u Q I r h=>h cl C s2 H2 fp pins s u I r) (λ_ cl C s2 H2 fp pins s σ H Q I h=>h cl C s2 H2 fp pins s I)
  (λ_ cl C s2 H2 fp pins s σ H Q I h=>h cl C s2 H2 fp pins s I) (λ_ cl C s2 H2 fp pins s σ H Q I h=>h cl C s2 H2 fp pins s I) hf
def zhQ(hk:∀ cl C s2 H2 fp,SE ⋯ mp' kx ek)(hv:∀ cl C s2 H2 fp,SE ⋯ mp' vx ev){Q:Key×V->Hp->Prop}(rs:RS M0 F Γ ν H)(hs:Sees mp' ν σ)
  (hp:EPost M0 F ν σ H (λF' Γ' H' d=>∀ y:Key×V,(y.1=.inr d.1/\Rep (MM M0 F') H' y.2 d.2)->Q y H') (itD ek ev Γ)):eD X N' scope kx vx σ0 σ H Q:=λcl C s2 H2 fp=>
 (hk cl C s2 H2 fp).run rs hs hp λF1 Γ1 H1 u v rs1 s1 o1 h1=>by
  delta h1 x ex
  cases o1.weak rs1 ex
  intro cl C s2 H2 fp
  erw[(hv cl C s2 H2 fp).run rs1 hs h1 λF2 Γ2 H2 w v2 rs2 s2 o2 h2=>?_]
  delta h2 y ey
  exact⟨.inr x,rfl,h2 F2 H2 rs2 (.refl _ _) (.inr x,v2) ⟨rfl,o2.strong rs2 ey⟩⟩
def zgP{kx vx:Expr}{N':Ab}{scope:Scope}{n k:Nat}{ix:Ac}{t:IT}{src:EM (Aa×Option (Option Nat))}{cond:EM Bool}{ek ev:EM FV}(hcalm:X.calm=true)(S:CSc X.env.scope X.N scope N' k ix)(hm:∀ j i:Nat,ix[j]?=some i->∃ m,mp[i]?=some m/\m<n)
  (hi:SIw X mp tg iter src) (hg:∀ cl C s2 H2 fp,SG ⋯ (mpC mp n k ix) (·<n) tg t) (hc:∀ cl C s2 H2 fp,SF ⋯ (mpC mp n k ix) ifs cond) (hk:∀ cl C s2 H2 fp,SE ⋯ (mpC mp n k ix) kx ek) (hv:∀ cl C s2 H2 fp,SE ⋯ (mpC mp n k ix) vx ev)
  (hf:∀ x,foldedSetIterable iter X.env x=pure x):SD X mp (.DictComp kx vx [⟨tg,iter,ifs,0⟩] scope pos) (fCompD n k t src cond ek ev):=λM0 F Γ ν σ H Q rs hs hp=>
 zfw ((zbS hcalm S hf).wp (hi M0 F Γ ν σ H _ rs hs (hp.seq.mono λF1 Γ1 H1 z rs1 s1 h1 J Hf hJ=>by
  delta h1 hh
  exact zkb vM hm S.len (λ_ _ _=>⟨[],rfl,.nil⟩) rfl hg hc (λM0 F Γ ν σ1 H Q rs hs hp=>zhQ hk hv rs hs hp) rs1 hs hJ hh.1 hh.2 (h1.mono λF' Γ' H' ys rs' s' hP vs p ⟨ks,e,r⟩ hp'=>by rw[e];exact hP ks p r hp'))))
def zeN{kx vx:Expr}{N':Ab}{scope:Scope}{n k:Nat}{ix:Ac}{t:IT}{src:EM (Aa)}{cond:EM Bool}{ek ev:EM FV}(S:CSc X.env.scope X.N scope N' k ix)(hm:∀ j i:Nat,ix[j]?=some i->∃ m,mp[i]?=some m/\m<n)
  (hi:SI X mp tg iter src) (hg:∀ cl C s2 H2 fp,SG ⋯ (mpC mp n k ix) (·<n) tg t) (hc:∀ cl C s2 H2 fp,SF ⋯ (mpC mp n k ix) ifs cond) (hk:∀ cl C s2 H2 fp,SE ⋯ (mpC mp n k ix) kx ek) (hv:∀ cl C s2 H2 fp,SE ⋯ (mpC mp n k ix) vx ev) :
  SDt mp (vd k ix (wpI X tg iter) (gU X N' scope tg) (fU X N' scope ifs) (eD X N' scope kx vx)) (fCompD n k t (fStd src) cond ek ev):=by?
 unfold fCompD fStd at hp
 rw[R.bind_assoc]at hp
 erw[hi M0 F Γ ν σ H _ rs hs (hp.seq.mono λF1 Γ1 H1 ds rs1 s1 h1 J hJ=>?_)]
 simp only[R.bind,hid]at h1
 delta h1 hh
 exact jc vM hm S.len ⟨[],rfl,.nil⟩ rfl hg hc (λM0 F Γ ν σ1 H Q rs hs hp=>zhQ hk hv rs hs hp) rs1 hs hJ hh.1 hh.2 h1 λF' Γ' H' ys vs rs' ⟨ks,e,r⟩ hP _ p hp'=>by
  rw[e];exact hP ks p r hp'
def zeI{kx vx:Expr}{pos' spos:Pos}(hN:X.N.Nodup)(hi':X.N[i]?=some x)(hx:Loc X.env.scope x)(hcalm:X.calm=true)(S:CSc X.env.scope X.N scope N' k ix)
  (hsw:swapsWith (.DictComp kx vx [⟨tg,iter,ifs,0⟩] scope pos) (some (.Name x pos')) spos.line X.env=pure true) (hs:∀ x,foldedSetIterable iter X.env x=pure x) (hf:X.fn x=true∨X.env.scope.names.lookup x=some .local) :
  PS X (.Assign [.Name x pos'] (.DictComp kx vx [⟨tg,iter,ifs,0⟩] scope pos) spos) (yB (vd k ix (wpI X tg iter) (gU X N' scope tg) (fU X N' scope ifs) (eD X N' scope kx vx)) (Wu i)) :=
 zeH hN hi' hx hcalm S Jb (λ_ cl C s2 H2 fp pins s σ H v u Q I r h=>h cl C s2 H2 fp pins s u I r) (λ_ cl C s2 H2 fp pins s σ H Q I h=>h cl C s2 H2 fp pins s I)
  (λ_ cl C s2 H2 fp pins s σ H Q I h=>h cl C s2 H2 fp pins s I) (λ_ cl C s2 H2 fp pins s σ H Q I h=>h cl C s2 H2 fp pins s I) hsw hs hf
end
end L3
namespace L2
open PySem PySem.Spec PyProof.Rows
variable [Cs]
def zjQ(tk tv:TE):TE:=λσ H Q=>tk σ H λx H1=>tv σ H1 λy H2=>∃ k:Key,x=kV k/\∀ p,H2 p=none->Q (.ref p) (upd H2 p (.dK [(k,y)]))
def zep(hk:PE X k tk)(hv:PE X v tv):PE X (.Dict [some k] [v] pos) (zjQ tk tv):=by
 intro pins s σ H Q I q
 let hn:=I.hok.fresh (xg ⇑s)
 let e0:(s.heap.push { cls:=.type "dict",data:=.dict #[] }).get? ⇑s=some { cls:=.type "dict",data:=.dict #[] }:=x8 _ rfl
 let I0:Inv X pins σ H { s with heap:=s.heap.push { cls:=.type "dict",data:=.dict #[] } }:=I.kept (t':=s.toks) λb o e=>x4 _ e
 let I1:=I0.pinned (fp:= [⇑s]) (λb hb=>by
  let e:b=⇑s:=by simpa using hb
  subst e
  exact I.fpOk (xg _) hn) (λb hb=>by
  let e:b=⇑s:=by simpa using hb
  subst e
  exact⟨_,e0,λv z=>by cases z⟩)
 refine wpAny_Dict_walk (knd:=qt X.prog X.w) rfl rfl (by simp) (by simp) (pairTrees_cons_walk (thn (hk _ _ σ _ _ I1 q) λkv s2 ⟨x,H1,I2,rx,q1⟩=>thn (hv _ _ σ _ _ I2 q1) λvv s3 ⟨y,H2,I3,ry,kk,ek,q2⟩=>pairTrees_nil_walk ?_))
 let hm:=jW (fp:= [⇑s]) (by simp) e0
 let⟨p1,p2,_⟩:=I3.pin _ (xA _ (xA _ hm))
 let I4:Inv X pins σ H2 s3:=I3.unpinned
 subst ek
 refine⟨[(kk,vv)],⟨JU rx,rfl,True.intro⟩,⟨_,#[],0,p1,⟨rfl,rfl,rfl⟩,rfl,λ_ he=>by simp at he,Pairs.nil,List.nodup_nil⟩,λh' dd hs=>⟨.ref ⇑s,_,?_,rfl,q2 _ p2⟩⟩
 let em:merged [] [(kk,vv)]= [(kk,vv)]:=rfl
 rw[em]at dd
 let I5:Inv X pins σ H2 { s3 with heap:=h',toks:=s3.toks+ [(kv,vv)].length }:=I4.turned (it:=⇑s) (λb o hb e=>(hs.2 b hb).trans e) p2 (Ne.symm (xj I.lt)) (.inr I.sz)
  (λx c e=>by
   let⟨v,ob,hob,_⟩:=I.cell x c e
   exact xj (x5 hob)) (λp hp=>xj (x5 (I.pin p hp).1))
 exact I5.track I.sz p2 (Ne.symm (xj I.lt)) (λx c e=>by
   let⟨v,ob,hob,_⟩:=I.cell x c e
   exact xj (x5 hob)) (λp hp=>xj (x5 (I.pin p hp).1)) (Wo (by show 1<=sizeLine;decide) (x9.mpr (Ne.symm (xj I.big))) (.cons ⟨rfl,ry⟩ .nil) dd)
def zgs:OpR X (binaryOp .Mult) (λx y H Q=>∃ l xs k,x=.ref l/\y=.int k/\H l=some (.lst xs)/\0<=k/\k<=1000000/\xs.length=1/\∀ p,H p=none->Q (.ref p) (upd H p (.lst (List.replicate k.toNat xs).flatten))):=by
 intro pins s σ H x y v u Q I rx ry h
 let⟨l,xs,k,rfl,rfl,hH,h0,h1,hx,q⟩:=h
 cases rx
 let⟨t,rfl⟩:=ry
 let⟨z,its,n,r,e⟩:=(show ObjOk X.prog X.w H s.heap l (.lst xs) from I.hok l _ hH)
 let hl:its.length=1:=by rw[<- r.length,hx]
 let hsz:its.toArray.size=1:=by simpa using hl
 let hne:its.toArray.isEmpty=false:=by simp[<- List.length_eq_zero_iff,hl]
 refine wpAny_binaryOp_repeat_ref (T:= "list") (U:= "int") (by decide) ⟨_,e,rfl⟩ (λs'=>typeIs_int s' k t) noFill_list_mul F.fills_int_mul F.slot_int_rmul repeat_list F.slot_int_index.lookup
  (call_meets F.slot_int_rmul (typeIs_int s k t) F.entry_int_rmul (F.args_int_rmul_2 _ _) (int___rmul___int_list k t l its.toArray n)
   ⟨e,rfl,⟨_,e,rfl⟩,call_meets F.slot_list_mul ⟨_,e,rfl⟩ F.entry_list_mul (F.args_list_mul_2 _ _)
    (AutoListH.list___mul___list_int_3 l its.toArray n k t (by simp[Builtin.List.listFitsIndex];lia) (by rw[hsz];lia) (by rw[hsz];simp[Builtin.List.listTooLong,sizeLine];lia)) ⟨e,?_⟩⟩)
 let hnew:List.foldl (λx1 x2=>x1++x2) #[] (List.replicate (if its.toArray.isEmpty=true then 0 else k.toNat) its.toArray)=(List.replicate k.toNat its).flatten.toArray:=by
  rw[hne,if_neg (by decide)]
  have:=JA its k.toNat []
  rw[uT]at this
  erw[this]
 rw[hnew]
 refine⟨.ref ⇑s,_,I.laid (λb u e=>x4 _ e) (xg _) ?_,rfl,q _ (I.hok.fresh (xg _))⟩
 exact⟨by rw[yh,hx,Xe];lia,_,0,r.rep k.toNat,x8 _ rfl⟩
end L2
namespace L3
open PySem PySem.Spec PyProof.Rows L2
def ixF:Ab->Str->Option Nat
 |[],_=>none
 |n::ns,f=>if n=f then some 0 else (ixF ns f).map (·+1)
def V7:∀{fs:List (Str×V)}{j:Nat},ixF (fs.map (·.1)) f=some j->(∃ v,fs[j]?=some (f,v)/\fs.lookup f=some v)/\∀ y,jt f y fs=fs.set j (f,y)
 |[],j,h=>by cases h
 | (n,v)::fs,j,h=>by
  rw[xp,ixF]at h
  split at h
  next hn=>
   cases h
   let hn':=hn
   subst hn'
   exact⟨⟨v,rfl,by simp⟩,λy=>by simp[jt]⟩
  next hn=>
   let hn':=hn
   cases e:ixF (fs.map (·.1)) f with
   |none=>rw[e]at h;cases h
   |some k=>
    rw[e]at h
    cases h
    let⟨⟨w,h1,h2⟩,h3⟩:=V7 e
    refine⟨⟨w,by simpa using h1,?_⟩,λy=>?_⟩
    ·rw[xx,x9.mpr (λz=>hn' z.symm)];exact h2
    ·rw[jt,if_neg hn',h3 y];rfl
def V8:∀{fs:List (Str×V)},ixF (fs.map (·.1)) f=none->fs.lookup f=none/\∀ y,jt f y fs=fs++ [(f,y)]
 |[],h=>⟨rfl,λy=>rfl⟩
 | (n,v)::fs,h=>by
  rw[xp,ixF]at h
  split at h
  ·cases h
  next hn=>
   let hn':=hn
   cases e:ixF (fs.map (·.1)) f with
   |some k=>rw[e]at h;cases h
   |none=>
    let⟨h1,h2⟩:=V8 e
    refine⟨by rw[xx,x9.mpr (λz=>hn' z.symm)];exact h1,λy=>?_⟩
    rw[jt,if_neg hn',h2 y];rfl
variable [Cs]
def ORL.at':∀{vs:List V}{xs:List OV}{A:List Ap}{j:Nat}{x:OV},ORL M H vs xs A->xs[j]?=some x->∃ v A1 B A2,vs[j]?=some v/\OR M H v x B/\A=A1++(B++A2) /\
  ∀(M':Ae)(H':Hp)(v':V)(x':OV)(B':List Ap),(∀ w d,Rep M H w d->Rep M' H' w d)->(∀ c xs,H c=some (.tup xs)->H' c=some (.tup xs))->(∀ b∈A1++A2,H' b=H b)->OR M' H' v' x' B'->ORL M' H' (vs.set j v') (xs.set j x') (A1++(B'++A2))
 |_,_,_,_,_,.nil,e=>by simp at e
 |_,_,_,0,x,.cons (A:=A) (B:=B) r t,e=>by
  simp at e
  subst e
  exact⟨_,[],A,B,rfl,r,rfl,λM' H' v' x' B' hr ht hk q=>ORL.cons (B:=B) q (t.go hr ht λb hb=>hk b (by simpa using hb))⟩
 |_,_,_,j+1,x,.cons (A:=A) r t,e=>by
  let⟨v,A1,C,A2,h1,h2,h3,h4⟩:=ORL.at' (j:=j) t (by simpa using e)
  refine⟨v,A++A1,C,A2,by simpa using h1,h2,by rw[h3];simp,λM' H' v' x' B' hr ht hk q=>?_⟩
  have:=ORL.cons (r.go hr ht λb hb=>hk b (by simp[hb])) (h4 M' H' v' x' B' hr ht (λb hb=>hk b (by simp at hb |-;rcases hb with h | h<;>simp[h])) q)
  simpa using this
section
variable {M0:Ae}{F F':Fp}{Γ:Gv}{ν:Nu}{H:Hp}{c:Str}{ns:Ab}{xs:List OV}
def WN(rs:RS M0 F Γ ν H)(e:Γ[i]?=some (some (.o c ns xs))):∃ a dx fs A,ν[i]?=some (some (.ref a))/\H a=some (.ins (Cs.adr c) dx fs)/\fs.map (·.1)=ns/\ORL (MM M0 F) H (fs.map (·.2)) xs A/\F i=a::A:=by
 let⟨v,ev,q⟩:=rs.at' i _ e
 generalize hA:F i=A at q
 cases q with
 |o ea k qa=>exact⟨_,_,_,_,ev,ea,k,qa,rfl⟩
def zef(h:ν[i]?=some (some v)):ν.set i (some v)=ν:=by
 apply xR
 intro k
 by_cases hk:i=k
 ·subst hk;rw[xk (xa.mp h).1,h]
 ·rw[xi hk]
def RS.wrO{u:HO}{o:OV}(r:RS M0 F Γ ν H)(hi:i<Γ.length)(hv:ν[i]?=some (some v))(hb:b∈F i)(hu:∀ xs,H b≠some (.tup xs))(hsub:∀ a∈A,a∈F i)(hnd:A.Nodup)
  (q:(∀ w d,Rep (MM M0 F) H w d->Rep (MM M0 (fset F i A)) (upd H b u) w d)->(∀ c xs,H c=some (.tup xs)->upd H b u c=some (.tup xs))->OR (MM M0 (fset F i A)) (upd H b u) v o A) :
  ∃ F',RS M0 F' (Γ.set i (some o)) ν (upd H b u)/\Stp F H F' (upd H b u):=by
 let ht:∀ c xs,H c=some (.tup xs)->upd H b u c=some (.tup xs):=λc xs e=>by
  rw[zG (λz=>by subst z;exact hu xs e)];exact e
 let s:Stp F H (fset F i A) (upd H b u):=⟨λc o ec nc=>⟨by
   rw[zG (λz=>by subst z;exact nc i hb)];exact ec,λk h=>by
   by_cases hk:k=i
   ·subst hk;rw[zJ]at h;exact nc _ (hsub _ h)
   ·rw[zP hk]at h;exact nc _ h⟩,ht,λc h=>by
   by_cases z:c=b
   ·subst z;rw[zH];exact λz=>nomatch z
   ·rw[zG z];exact h⟩
 let r1:=r.put s (λk hk c hc=>zG λz=>by subst z;exact hk (r.dis _ _ _ hc hb))
  (λc h=>s.stay c (r.al0 c h)) (λa ha=>r.dis0 i a (hsub a ha)) hnd (λk hk c hc h=>hk (r.dis _ _ c h (hsub c hc))) hi (q (λw d x=>qe s r.al0 x) ht)
 rw[zef hv]at r1
 exact⟨_,r1,s⟩
def RS.lessO{o:OV}(r:RS M0 F Γ ν H)(hi:i<Γ.length)(hv:ν[i]?=some (some v))(hsub:∀ a∈A,a∈F i)(hnd:A.Nodup)
  (q:(∀ w d,Rep (MM M0 F) H w d->Rep (MM M0 (fset F i A)) H w d)->OR (MM M0 (fset F i A)) H v o A):RS M0 (fset F i A) (Γ.set i (some o)) ν H/\Stp F H (fset F i A) H:=by
 let s:Stp F H (fset F i A) H:=Ji λk a h=>by
  by_cases hk:k=i
  ·subst hk;rw[zJ]at h;exact⟨_,hsub _ h⟩
  ·rw[zP hk]at h;exact⟨_,h⟩
 let r1:=r.put s (λ_ _ _ _=>rfl) r.al0 (λa ha=>r.dis0 i a (hsub a ha)) hnd (λk hk c hc h=>hk (r.dis _ _ c h (hsub c hc))) hi (q (λw d x=>qe s r.al0 x))
 rw[zef hv]at r1
 exact⟨r1,s⟩
end
structure wL(X:Cx)(c f:Str):Prop where
 cl:Cls X.K (Cs.adr c)
 no:NoAttr X.K (Cs.adr c) f
def objF(Γ:Gv)(i:Nat)(c f:Str):Option OV:=match Γ[i]? with
 |some (some (.o c' ns xs))=>if c'=c then (ixF ns f).bind λj=>xs[j]? else none
 |_=>none
section
variable {X:Cx}{mp io:Ac}{a b e:Expr}{pos p p2 p3:Pos}{fo:EM OV}{c f x:Str}{s i:Nat}{M0:Ae}{F:Fp}{Γ:Gv}{ν:Nu}{σ:St}{H:Hp}
def Yp(h:objF Γ i c f=some o):∃ ns xs j,Γ[i]?=some (some (.o c ns xs))/\ixF ns f=some j/\xs[j]?=some o:=by
 unfold objF at h
 split at h
 next c' ns xs e=>
  split at h
  next hc=>
   subst hc
   cases q:ixF ns f with
   |none=>rw[q]at h;cases h
   |some j=>rw[q]at h;exact⟨ns,xs,j,e,q,h⟩
  ·cases h
 ·cases h
structure FldAt(M0:Ae)(F:Fp)(Γ:Gv)(ν:Nu)(H:Hp)(i:Nat)(c f:Str)(o:OV)(v:V):Prop where
 ex:∃ a dx fs ns xs j A1 B A2,Γ[i]?=some (some (.o c ns xs))/\ν[i]?=some (some (.ref a))/\H a=some (.ins (Cs.adr c) dx fs)/\fs.map (·.1)=ns/\ixF ns f=some j/\xs[j]?=some o/\fs[j]?=some (f,v)/\OR (MM M0 F) H v o B/\F i=a::(A1++(B++A2)) /\
  ∀(M':Ae)(H':Hp)(v':V)(x':OV)(B':List Ap),(∀ w d,Rep (MM M0 F) H w d->Rep M' H' w d)->(∀ c xs,H c=some (.tup xs)->H' c=some (.tup xs))->(∀ b∈A1++A2,H' b=H b)->OR M' H' v' x' B'->ORL M' H' ((fs.set j (f,v')).map (·.2)) (xs.set j x') (A1++(B'++A2))
def JN(n:NmK X mp s i x)(K:wL X c f)(rs:RS M0 F Γ ν H)(hs:Sees mp ν σ)(h:objF Γ i c f=some o)(q:∀ v,FldAt M0 F Γ ν H i c f o v->Q v H):wpE X (.Attribute (.Name x p) f p2) σ H Q:=by
 let⟨ns,xs,j,e,hj,hx⟩:=Yp h
 let⟨a,dx,fs,A,ev,ea,hk,qa,hF⟩:=WN rs e
 subst hk
 let⟨⟨v,h1,h2⟩,h3⟩:=V7 hj
 let⟨v',A1,B,A2,g1,g2,g3,g4⟩:=qa.at' hx
 rw[xf,h1]at g1
 cases g1
 refine (zer (qB n.hN n.hv n.hd n.hcd) rfl).wp ⟨.ref a,hs s i _ n.hm ev,a,_,dx,fs,v,rfl,ea,K.cl,K.no,h2,q v ⟨a,dx,fs,_,xs,j,A1,B,A2,e,ev,ea,rfl,hj,hx,h1,g2,by rw[hF,g3],λM' H' v' x' B' hr ht hk q=>?_⟩⟩
 rw[xZ]
 erw[g4 M' H' v' x' B' hr ht hk q]
@[reducible] noncomputable def fFdat(i:Nat)(c f:Str):EM FV:=λΓ=>match objF Γ i c f with
 |some (.d x)=>.ok (.dat x,Γ)
 |_=>.bad
def zgV(n:NmK X mp s i x)(K:wL X c f):SE X mp (.Attribute (.Name x p) f p2) (fFdat i c f):=by?
 unfold fFdat at hp
 delta hp y e
 erw[JN n K rs hs e λv hv=>?_]
 let⟨a,dx,fs,ns,xs,j,A1,B,A2,_,_,_,_,_,_,_,q,_,_⟩:=hv.ex
 cases q with
 |d q=>erw[hp F H rs (.refl _ _) v q]
@[reducible] noncomputable def fFlen(i:Nat)(c f:Str):EM FV:=λΓ=>match objF Γ i c f with
 |some (.l xs)=>.ok (.dat (.int xs.length),Γ)
 |_=>.bad
def zgX (B:BiK X y (.builtin "len")) (n:NmK X mp s i x) (K:wL X c f):SE X mp (.Call (.Name y p3) [.Attribute (.Name x p) f p2] [] pos) (fFlen i c f):=by?
 unfold fFlen at hp
 delta hp ys e
 erw[(ZC ZK B.gl B.mg B.bt (zT zC pa_nil rfl) B.n B.d rfl rfl).wp (JN n K rs hs e λv hv=>?_)]
 let⟨a,dx,fs,ns,xs,j,A1,B,A2,_,_,_,_,_,_,_,q,_,_⟩:=hv.ex
 cases q with
 |l eb qb=>exact⟨_,_,rfl,.inl (SqL.of eb),by rw[qb.length];exact hp F H rs (.refl _ _) _ (Rep.int _)⟩
@[reducible] noncomputable def fFtru(i:Nat)(c f:Str):EM Bool:=λΓ=>match objF Γ i c f with
 |some (.l xs)=>.ok (!xs.isEmpty,Γ)
 |_=>.bad
def zhs(n:NmK X mp s i x)(K:wL X c f):ST X mp (.Attribute (.Name x p) f p2) (fFtru i c f):=by?
 unfold fFtru at hp
 delta hp ys e
 erw[(Ys zC (λ_=>rfl)).wp (JN n K rs hs e λv hv=>?_)]
 let⟨a,dx,fs,ns,xs,j,A1,B,A2,_,_,_,_,_,_,_,q,_,_⟩:=hv.ex
 cases q with
 | @l b us _ A' eb qb=>
  let he:(!ys.isEmpty)= !us.isEmpty:=by cases qb<;>rfl
  exact⟨_,.inl ⟨_,SqL.of eb,he⟩,hp F H rs (.refl _ _)⟩
@[reducible] noncomputable def fFlast(i:Nat)(c f:Str):EM FV:=λΓ=>match objF Γ i c f with
 |some (.l xs)=>match xs.getLast? with
  |some (.d x)=>.ok (.dat x,Γ)
  |_=>.bad
 |_=>.bad
def zeQ(n:NmK X mp s i x)(K:wL X c f):SE X mp (.Subscript (.Attribute (.Name x p) f p2) (.UnaryOp .USub (.Constant (.int 1) cj p4) p5) pos) (fFlast i c f):=by?
 unfold fFlast at hp
 delta hp ys e
 delta hp y ey
 erw[(zet ix_list zC (zew zfk pe_int) (λ_ _=>rfl)).wp (JN n K rs hs e λv hv=>?_)]
 let⟨a,dx,fs,ns,xs,j,A1,B,A2,_,_,_,_,_,_,_,q,_,_⟩:=hv.ex
 cases q with
 | @l b us _ A' eb qb=>
  let hl:=qb.length
  rw[List.getLast?_eq_getElem?,<- hl]at ey
  let⟨w,hw,rw'⟩:=qb.get ey
  let hat:atI us (-1)=some w:=by
   let hpos:0<us.length:=by have:=(xa.mp hw).1;lia
   let e1:us.dropLast++ [w]=us:=by
    let h2:us.getLast?=some w:=by rw[List.getLast?_eq_getElem?];exact hw
    let hne:us≠ []:=λz=>by rw[z]at hpos;simp at hpos
    let h3:us.getLast hne=w:=by rw[List.getLast?_eq_some_getLast hne]at h2;exact Option.some.inj h2
    rw[<- h3];exact List.dropLast_concat_getLast hne
   rw[<- e1];exact zcG _ _
  exact⟨1,rfl,b,us,-1,w,rfl,rfl,SqL.of eb,hat,hp F H rs (.refl _ _) w rw'⟩
def RS.absorb{o o':OV}{H':Hp}(r:RS M0 F (Γ++ [some o]) (ν++ [some v]) H)(hi:i<Γ.length)(hw:ν[i]?=some (some w))(hsub:∀ b∈A',b∈F i∨b∈F Γ.length)(hnd:A'.Nodup)
  (hH:∀ b u,H b=some u->b∉F i->H' b=some u) (hst:∀ b,H b≠none->H' b≠none) (ht:∀ b xs,H b=some (.tup xs)->H' b=some (.tup xs))
  (q:∀ F',Stp F H F' H'->OR (MM M0 F') H' w o' A'):∃ F',RS M0 F' (Γ.set i (some o')) ν H'/\Stp F H F' H':=by
 let hl:ν.length=Γ.length:=by simpa using r.len
 let sub:∀ j b,b∈(if j=i then A' else F j)->∃ k,b∈F k/\(k=j∨j=i/\k=Γ.length):=λj b h=>by
  split at h
  ·subst j
   rcases hsub b h with h | h
   ·exact⟨_,h,.inl rfl⟩
   ·exact⟨_,h,.inr ⟨rfl,rfl⟩⟩
  ·exact⟨_,h,.inl rfl⟩
 refine r.of (λj=>if j=i then A' else F j) (λF' h=>⟨λb u e n=>⟨hH b u e (n i),λj hj=>?_⟩,ht,hst⟩) (λj a h=>?_) (λj=>?_) (λj k o p a e1 e2 h1 h2=>?_) (λF' _ s j p e=>?_) (by simp[hl])
 ·let⟨k,z,_⟩:=sub j b (h j b hj)
  erw[n k z]
 ·let⟨k,z,_⟩:=sub j a h
  erw[r.dis0 k a z]
 ·split
  ·erw[hnd]
  ·erw[r.nd _]
 ·let⟨x,z1,c1⟩:=sub j a h1
  let⟨y,z2,c2⟩:=sub k a h2
  have:=r.dis _ _ a z1 z2
  have:=(xa.mp e1).1
  have:=(xa.mp e2).1
  simp at *
  lia
 ·split
  ·subst j
   rw[xk hi]at e
   cases e
   exact⟨w,hw,q F' s⟩
  next hj=>
   rw[xi (Ne.symm hj)]at e
   let hjl:=(xa.mp e).1
   let⟨u,e1,z⟩:=r.at' j p (by rw[xc hjl];exact e)
   rw[xc (by lia)]at e1
   refine⟨u,e1,z.go (λ_ _ x=>qe s r.al0 x) s.tups λb hb=>?_⟩
   let⟨y,ey⟩:=z.laid b hb
   rw[ey]
   erw[hH b y ey λz=>hj (r.dis _ _ b hb z)]
def setO(c:Str)(ns:Ab)(xs:List OV)(f:Str)(o:OV):OV:=match ixF ns f with
 |some j=>.o c ns (xs.set j o)
 |none=>.o c (ns++ [f]) (xs++ [o])
@[reducible] noncomputable def sFset(i:Nat)(c f:Str)(fo:EM OV):SM:=λΓ=>(fo Γ).bind λ(o,Γ1)=>match Γ1[i]? with
 |some (some (.o c' ns xs))=>if c'=c/\ns.length<100 then .ok (.next,Γ1.set i (some (setO c ns xs f o))) else .bad
 |_=>.bad
def zhq(n:NmK X mp s i x)(K:wL X c f)(h:SO X mp e fo)(hsw:swapsWith e (some (.Attribute (.Name x p) f p2)) pos.line X.env=pure false):SS X mp io (.Assign [.Attribute (.Name x p) f p2] e pos) (sFset i c f fo):=λM0 F Γ ν σ H D rs hs hl hp=>by
 erw[(zi8 (qB n.hN n.hv n.hd n.hcd) zC hsw).wp (h M0 F Γ ν σ H _ rs hs ((SPost.seqO hs hl hp).mono λF1 Γ1 H1 o v rs1 s1 h1=>?_))]
 delta h1 c' ns xs e
 delta h1 hh
 let⟨rfl,hns⟩:=hh
 let hi:=(xa.mp e).1
 have hlν:ν.length=Γ1.length:=by have:=rs1.len;simp at this;exact this
 let⟨a,dx,fs,A,ev,ea,hk,qa,hF⟩:=WN rs1 (by rw[xc hi];exact e)
 rw[xc (by lia)]at ev
 subst hk
 let⟨w,ew,qo⟩:=rs1.at' Γ1.length o (by rw[xm (xg _)];simp)
 let ewv:w=v:=by
  rw[xm (by lia),hlν]at ew
  simpa using ew.symm
 subst ewv
 let hne:∀ b,b∈F1 Γ1.length->b∉F1 i:=λb h1 h2=>by have:=rs1.dis _ _ b h1 h2;lia
 let hnd:=rs1.nd i
 rw[hF]at hnd
 let⟨hnA,hndA⟩:=xB.mp hnd
 refine⟨.ref a,hs s i _ n.hm ev,a,_,dx,fs,rfl,ea,K.cl,K.no,by rw[xo]at hns;lia,?_⟩
 let hH:∀ b u,H1 b=some u->b∉F1 i->upd H1 a (.ins (Cs.adr c') dx (jt f w fs)) b=some u:=λb u eb nb=>by
  rw[zG (λz=>nb (by rw[hF,z];exact xr))];exact eb
 let hst:∀ b,H1 b≠none->upd H1 a (.ins (Cs.adr c') dx (jt f w fs)) b≠none:=λb hb=>by
  by_cases z:b=a
  ·subst z;rw[zH];exact λz=>nomatch z
  ·rw[zG z];exact hb
 let ht:∀ b xs,H1 b=some (.tup xs)->upd H1 a (.ins (Cs.adr c') dx (jt f w fs)) b=some (.tup xs):=λb xs eb=>by
  rw[zG (λz=>by subst z;rw[ea]at eb;cases eb)];exact eb
 have fin:∀(A':List Ap)(ns':Ab)(xs':List OV),(∀ b∈A',b∈A∨b∈F1 Γ1.length)->A'.Nodup->setO c' (fs.map (·.1)) xs f o=.o c' ns' xs'->(jt f w fs).map (·.1)=ns' ->
   (∀ M' H',(∀ w d,Rep (MM M0 F1) H1 w d->Rep M' H' w d)->(∀ c xs,H1 c=some (.tup xs)->H' c=some (.tup xs))->(∀ b,b≠a->H' b=H1 b)->ORL M' H' ((jt f w fs).map (·.2)) xs' A')->D.nx σ (upd H1 a (.ins (Cs.adr c') dx (jt f w fs))):=λA' ns' xs' hsub hnd' hset hns' hor=>by
  let⟨F2,rs2,s2⟩:=rs1.absorb hi ev (λb hb=>by
   rcases xw.mp hb with rfl | hb
   ·exact .inl (by rw[hF];exact xr)
   ·rcases hsub b hb with h | h
    ·exact .inl (by rw[hF];exact xl _ h)
    ·exact .inr h) (xB.mpr ⟨λh=>by
   rcases hsub a h with h | h
   ·erw[hnA h]
   ·exact hne a h (by rw[hF];exact xr),hnd'⟩) hH hst ht λF' s'=>.o zH hns' (hor _ _ (λ_ _ x=>qe s' rs1.al0 x) ht λb hb=>zG hb)
  rw[hset]at h1
  erw[h1 F2 ν σ _ rs2 s2 hs hl λ_ _=>rfl]
 cases hj:ixF (fs.map (·.1)) f with
 |some j=>
  let⟨⟨v0,h2,h3⟩,h4⟩:=V7 hj
  let hjx:j<xs.length:=by
   rw[<- qa.length,xo];exact (xa.mp h2).1
  let⟨v',A1,B,A2,g1,g2,g3,g4⟩:=qa.at' (xb hjx)
  let hA2:∀ b,b∈A1++A2->b∈A:=λb hb=>by rw[g3];simp at hb |-;rcases hb with h | h<;>simp[h]
  refine fin (A1++(F1 Γ1.length++A2)) (fs.map (·.1)) (xs.set j o) (λb hb=>?_) ?_ (by unfold setO;rw[hj]) ?_ λM' H' hr ht' hk=>?_
  ·simp at hb
   rcases hb with h | h | h
   ·exact .inl (hA2 b (by simp[h]))
   ·erw[.inr h]
   ·exact .inl (hA2 b (by simp[h]))
  ·rw[g3]at hndA
   let n1:=xJ.mp hndA
   let n2:=xJ.mp n1.2.1
   erw[xJ.mpr ⟨n1.1,xJ.mpr ⟨rs1.nd _,n2.2.1,λx hx y hy z=>?_⟩,λx hx y hy z=>?_⟩]
   ·subst z;exact hne x hx (by rw[hF];exact xl _ (hA2 x (by simp[hy])))
   ·subst z
    rcases xF.mp hy with h | h
    ·exact hne x h (by rw[hF];exact xl _ (hA2 x (by simp[hx])))
    ·erw[n1.2.2 x hx x (xA _ h) rfl]
  ·rw[h4 w,xZ]
   let e1:(fs.map (·.1))[j]?=some f:=by rw[xf,h2];rfl
   apply xR
   intro k
   by_cases hkj:j=k
   ·subst hkj;rw[xk (xa.mp e1).1,e1]
   ·rw[xi hkj]
  ·rw[h4 w,xZ]
   erw[g4 M' H' w o _ hr ht' (λb hb=>hk b λz=>?_) (qo.go hr ht' λb hb=>hk b λz=>?_)]
   ·subst z;exact hnA (hA2 b hb)
   ·subst z;exact hne b hb (by rw[hF];exact xr)
 |none=>
  let⟨_,h4⟩:=V8 hj
  refine fin (A++F1 Γ1.length) (fs.map (·.1)++ [f]) (xs++ [o]) (λb hb=>xF.mp hb) ?_ (by unfold setO;rw[hj]) (by rw[h4 w];simp) λM' H' hr ht' hk=>?_
  ·exact xJ.mpr ⟨hndA,rs1.nd _,λx hx y hy z=>by subst z;exact hne x hy (by rw[hF];exact xl _ hx)⟩
  ·rw[h4 w,xC]
   exact ORL.snocO (qo.go hr ht' λb hb=>hk b λz=>by subst z;exact hne b hb (by rw[hF];exact xr)) (qa.go hr ht' λb hb=>hk b λz=>by subst z;exact hnA hb)
end
def updF(Γ:Gv)(i:Nat)(f:Str)(o:OV):Gv:=match Γ[i]? with
 |some (some (.o c ns xs))=>Γ.set i (some (setO c ns xs f o))
 |_=>Γ
section
variable {X:Cx}{mp io:Ac}{a b e:Expr}{pos p p2 pos' p3:Pos}{kx:Nat}{c f x:Str}{s i:Nat}{M0:Ae}{F:Fp}{Γ:Gv}{ν:Nu}{σ:St}{H H':Hp}
def zf5(rs:RS M0 F Γ ν H)(h:objF Γ i c f=some o):∃ v,FldAt M0 F Γ ν H i c f o v:=by
 let⟨ns,xs,j,e,hj,hx⟩:=Yp h
 let⟨a,dx,fs,A,ev,ea,hk,qa,hF⟩:=WN rs e
 subst hk
 let⟨⟨v,h1,h2⟩,h3⟩:=V7 hj
 let⟨v',A1,B,A2,g1,g2,g3,g4⟩:=qa.at' hx
 rw[xf,h1]at g1
 cases g1
 refine⟨v,⟨a,dx,fs,_,xs,j,A1,B,A2,e,ev,ea,rfl,hj,hx,h1,g2,by rw[hF,g3],λM' H' v' x' B' hr ht hk q=>?_⟩⟩
 rw[xZ]
 erw[g4 M' H' v' x' B' hr ht hk q]
def FldAt.same(h:FldAt M0 F Γ ν H i c f o v)(h':FldAt M0 F Γ ν H' i c f o' v')(s:Same H H'):v=v':=by
 let⟨a,dx,fs,ns,xs,j,_,_,_,e1,e2,e3,_,e5,_,e7,_⟩:=h.ex
 let⟨a',dx',fs',ns',xs',j',_,_,_,e1',e2',e3',_,e5',_,e7',_⟩:=h'.ex
 rw[e1]at e1';cases e1'
 rw[e2]at e2';cases e2'
 rw[s _ _ e3]at e3';cases e3'
 rw[e5]at e5';cases e5'
 rw[e7]at e7';cases e7'
 rfl
def FldAt.mut{o o':OV}{b:Ap}{u:HO}(h:FldAt M0 F Γ ν H i c f o (.ref b))(rs:RS M0 F Γ ν H)(hB:∀ B,OR (MM M0 F) H (.ref b) o B->B=b::Bs)(hu:∀ xs,H b≠some (.tup xs))(hui:∀ C dx fs,H b≠some (.ins C dx fs))
  (q:∀(M':Ae)(H':Hp),H' b=some u->(∀ w d,Rep (MM M0 F) H w d->Rep M' H' w d)->(∀ b'∈Bs,b'≠b->H' b'=H b')->(∀ c xs,H c=some (.tup xs)->H' c=some (.tup xs))->OR M' H' (.ref b) o' (b::Bs)) :
  ∃ F',RS M0 F' (updF Γ i f o') ν (upd H b u)/\Stp F H F' (upd H b u):=by
 let⟨a,dx,fs,ns,xs,j,A1,B,A2,e1,e2,e3,e4,e5,e6,e7,e8,e9,e10⟩:=h.ex
 let eB:=hB B e8
 subst eB
 let hi:=(xa.mp e1).1
 let hba:b≠a:=λz=>by subst z;exact hui _ _ _ e3
 let hbF:b∈F i:=by rw[e9];simp
 let hnd:=rs.nd i
 let hset:updF Γ i f o'=Γ.set i (some (.o c ns (xs.set j o'))):=by
  unfold updF
  rw[e1]
  show Γ.set i (some (setO c ns xs f o'))=_
  unfold setO
  rw[e5]
 rw[hset]
 let hfs:fs.set j (f,.ref b)=fs:=by
  apply xR
  intro k
  by_cases hk:j=k
  ·subst hk;rw[xk (xa.mp e7).1,e7]
  ·rw[xi hk]
 erw[rs.wrO hi e2 hbF hu (λ_ h=>h) hnd λhr ht=>?_]
 rw[e9]at hnd
 let hndc:=xB.mp hnd
 let n1:=xJ.mp hndc.2
 let n2:=xJ.mp n1.2.1
 let hnot:∀ b',b'∈A1++A2->b'≠b:=λb' hb' z=>by
  subst z
  rcases xF.mp hb' with h | h
  ·exact n1.2.2 _ h _ (by simp) rfl
  ·erw[n2.2.2 _ xr _ h rfl]
 have:=e10 (MM M0 (fset F i (F i))) (upd H b u) (.ref b) o' (b::Bs) hr ht (λb' hb'=>zG (hnot b' hb')) (q _ _ zH hr (λb' _ hne=>zG hne) ht)
 rw[hfs]at this
 let e9':=e9
 generalize MM M0 (fset F i (F i))=MX at this |-
 rw[e9]
 exact .o (by rw[zG (Ne.symm hba)];exact e3) e4 this
def FldAt.lst(h:FldAt M0 F Γ ν H i c f (.l ys) v)(rs:RS M0 F Γ ν H)(hl:leaves ys=some ds):∃ b us,v=.ref b/\H b=some (.lst us)/\RepL (MM M0 F) H us ds /\
  ∀ us' ds',RepL (MM M0 F) H us' ds'->∃ F',RS M0 F' (updF Γ i f (.l (ds'.map .d))) ν (upd H b (.lst us'))/\Stp F H F' (upd H b (.lst us')):=by
 let⟨a,dx,fs,ns,xs,j,A1,B,A2,e1,e2,e3,e4,e5,e6,e7,e8,e9,e10⟩:=id h.ex
 cases e8 with
 | @l b us _ A' eb qb=>
  let⟨q1,q2⟩:=qb.leaf hl
  subst q2
  refine⟨b,us,rfl,eb,q1,λus' ds' r'=>h.mut rs (λB q=>?_) (λxs z=>by rw[eb]at z;cases z) (λC dx fs z=>by rw[eb]at z;cases z) λM' H' hb hr _ _=>.l hb (ORL.data (j4 hr r'))⟩
  cases q with
  | @l _ us2 _ A2 eb2 qb2=>
   rw[(qb2.leaf hl).2]
inductive IZ where
 |w (w:IW)
 |p (a b:IW)
def zD(Γ:Gv):IZ->Option PyData
 |.w w=>wD Γ w
 |.p a b=>match wD Γ a,wD Γ b with
  |some x,some y=>some (.tuple [x,y])
  |_,_=>none
def ZOk(X:Cx)(mp:Ac)(a:Expr)(z:IZ):Prop:=∀(M0:Ae)(F:Fp)(Γ:Gv)(ν:Nu)(σ:St)(H:Hp)(x:PyData),RS M0 F Γ ν H->Sees mp ν σ->zD Γ z=some x->∀ Q:VK,(∀ v H',Same H H'->Rep (MM M0 F) H' v x->Q v H')->wpE X a σ H Q
def zlo(h:WOk X mp a w):ZOk X mp a (.w w):=λM0 F Γ ν σ H x rs hs e Q k=>by
 let⟨v,r,q⟩:=h M0 F Γ ν σ H x rs hs e
 erw[q Q (k v H (Same.refl _) r)]
def zln(h1:WOk X mp a w1)(h2:WOk X mp b w2)(hst:starEach [a,b] X.env=(false,eval a X.env)::starEach [b] X.env)(hst2:b⁻¹):ZOk X mp (.Tuple [a,b] kx pos) (.p w1 w2):=λM0 F Γ ν σ H x rs hs e Q k=>by
 dsimp only [zD]at e
 split at e
 next x1 x2 e1 e2=>
  cases e
  let⟨v1,r1,q1⟩:=h1 M0 F Γ ν σ H x1 rs hs e1
  let⟨v2,r2,q2⟩:=h2 M0 F Γ ν σ H x2 rs hs e2
  refine (zev (zT zC (zT zC pa_nil hst2) hst)).wp (q1 _ (q2 _ ⟨by show 2<=sizeLine;decide,λp hn=>?_⟩))
  let sm:Same H (upd H p (.tup [v1,v2])):=qd hn
  erw[k _ _ sm (.tuple zH (.cons (r1.grow sm.grow) (.cons (r2.grow sm.grow) .nil)))]
 ·cases e
@[reducible] noncomputable def sFapp(i:Nat)(c f:Str)(z:IZ):SM:=λΓ=>match objF Γ i c f,zD Γ z with
 |some (.l ys),some x=>R.get (leaves ys) λds=>if ds.length<1000000 then .ok (.next,updF Γ i f (.l ((ds++ [x]).map .d))) else .bad
 |_,_=>.bad
def zhp(n:NmK X mp s i x)(K:wL X c f)(hz:ZOk X mp a z)(hst:a⁻¹)(hline:(p3.endLine==pos.line)=true) :
  SS X mp io (.Expr (.Call (.Attribute (.Attribute (.Name x p) f p2) "append" p3) [a] [] pos) pos') (sFapp i c f z):=λM0 F Γ ν σ H D rs hs hl hp=>by
 unfold sFapp at hp
 delta hp ys y e ez
 let⟨ds,ed,hp⟩:=R.got id hp
 let⟨hlt,hp⟩:=R.gif id hp
 refine (Qr (KZ PySem.F.plainAttrs_list PySem.F.slot_list_append PySem.F.type_list_append Vs zC (zT zC pa_nil hst) rfl (by rw[hst];rfl) hline hst rfl) rfl).wp (JN n K rs hs e λv hv=>?_)
 let⟨b,us,rfl,eb,ru,_⟩:=hv.lst rs ed
 refine⟨.inl ⟨rfl,_,SqL.of eb⟩,hz M0 F Γ ν σ H y rs hs ez _ λv2 H2 sm r2=>?_⟩
 let⟨v',hv'⟩:=zf5 (rs.same sm) e
 let ev:=hv.same hv' sm
 subst ev
 let⟨b',us',eq,eb',ru',mu⟩:=hv'.lst (rs.same sm) ed
 cases eq
 refine⟨b,us',v2,rfl,rfl,eb',by have:=Xe;rw[ru'.length];lia,?_⟩
 let⟨F2,rs2,s2⟩:=mu (us'++ [v2]) (ds++ [y]) (ru'.append (.cons r2 .nil))
 erw[hp F2 ν σ _ rs2 ((Stp.same sm).trans s2) hs hl λ_ _=>rfl]
end
@[reducible] noncomputable def derD(Γ:Gv):FV->Option (Ad)
 |.dat (.dict kv)=>unD kv
 |.own i=>match Γ[i]? with
  |some (some (.m ds))=>some ds
  |some (@&(.dict kv))=>unD kv
  |_=>none
 |_=>none
def zdP(c f:Str):PyData->Option PyData
 |.dict ((.none,.str c')::kv)=>if c'=c then (unD kv).bind λfs=>zI fs f else none
 |_=>none
def J3{β:Type}(f:Str):∀(fs:List (Str×β)),fs.lookup f=zI fs f
 |[]=>rfl
 | (x,y)::r=>by
  rw[xx]
  unfold zI
  rw[xV]
  by_cases h:x=f
  ·subst h;simp
  ·let h':(f==x)=false:=by simpa using λz=>h z.symm
   rw[h']
   simp only[h,decide_false]
   erw[J3 f r]
def Rep.tab(r:Rep M H v (.dict kv))(e:unD kv=some ds):∃ a ks,v=.ref a/\¬ M a/\Rd H a (.dK (ks.map kK))/\KR M H ks ds:=by
 obtain⟨a,rfl,n,h | h | h⟩:=r.dict_inv
 ·let⟨ks,ds',h1,rfl,h2⟩:=h
  rw[zL]at e;cases e
  exact⟨a,ks,rfl,n,h1,h2⟩
 ·let⟨_,_,_,_,_,rfl,_⟩:=h
  cases e
 ·let⟨_,_,_,_,_,_,rfl,_⟩:=h
  cases e
def RepL.strs:∀(ss:Ab),RepL M H (ss.map V.str) (ss.map .str)
 |[]=>.nil
 |x::r=>.cons (.str x) (RepL.strs r)
section
variable {X:Cx}{mp:Ac}{a b c e:Expr}{pos p:Pos}{fa fb fc:EM FV}{ma:EM (Ad)}{cl f x:Str}{s i:Nat}{M0:Ae}{F:Fp}{Γ:Gv}{ν:Nu}{σ:St}{H H':Hp}{u:FV}{v:V}
def FOk.dict(h:FOk M0 F ν H v u)(rs:RS M0 F Γ ν H)(e:derD Γ u=some ds):∃ a ks,v=.ref a/\Rd H a (.dK (ks.map kK))/\KR (MM M0 F) H ks ds:=by
 cases u with
 |dat y=>
  cases y<;>try (cases e;done)
  rename_i kv
  let⟨a,ks,h1,_,h2,h3⟩:=Rep.tab (show Rep (MM M0 F) H v _ from h) e
  exact⟨a,ks,h1,h2,h3⟩
 |own i=>
  let hv:=h
  dsimp only [derD]at e
  split at e
  next ds' q=>
   cases e
   let⟨w,e1,r⟩:=rs.at' i _ q
   rw[hv]at e1;cases e1
   generalize F i=A at r
   cases r with
   |m ea k r=>exact⟨_,_,rfl,.inl ea,.of k r⟩
  next kv q=>
   let⟨w,e1,r⟩:=rs.at' i _ q
   rw[hv]at e1;cases e1
   generalize F i=A at r
   cases r with
   |d r=>
    let⟨a,ks,h1,_,h2,h3⟩:=Rep.tab r e
    exact⟨a,ks,h1,h2,h3⟩
  ·cases e
@[reducible] noncomputable def fDget(fa fb:EM FV):EM FV:=λΓ=>(fa Γ).bind λ(u,Γ1)=>(fb Γ1).bind λ(w,Γ2)=>R.get (derD Γ2 u) λds=>match derf Γ2 w with
 |some (.str z)=>R.get (zI ds z) λx=>.ok (.dat x,Γ2)
 |_=>.bad
def zgU(hu:X.A.units+1<cLine)(ha:SE X mp a fa)(hb:SE X mp b fb)(hx:zfB b):SE X mp (.Subscript a b pos) (fDget fa fb):=λM0 F Γ ν σ H Q rs hs hp=>
 (zgz hu zC zC hx).wp (ha.run rs hs hp λF1 Γ1 H1 u v rs1 s1 o1 h1=>hb.run rs1 hs h1 λF2 Γ2 H2 w v2 rs2 s2 o2 h2=>by
  let⟨ds,e1,h2⟩:=R.got id h2
  delta h2 z e2
  let⟨y,ey,h2⟩:=R.got id h2
  let⟨l,ks,rfl,er,kr⟩:=(o1.stp s2 rs1.al0).dict rs2 e1
  cases o2.weak rs2 e2
  let⟨w',hw,rw'⟩:=(kr.val z).2 y ey
  exact⟨l,w',rfl,⟨_,.inr z,er,rfl,by rw[ZV,hw]⟩,h2 F2 H2 rs2 (.refl _ _) w' rw'⟩)
@[reducible] noncomputable def fDgd(fa fb fc:EM FV):EM FV:=λΓ=>(fa Γ).bind λ(u,Γ1)=>R.get (derD Γ1 u) λ_=>(fb Γ1).bind λ(w,Γ2)=>(fc Γ2).bind λ(z,Γ3)=>R.get (derD Γ3 u) λds=>match derf Γ3 w,derS Γ3 z with
 |some (.str k),some y=>.ok (.dat ((zI ds k).getD y),Γ3)
 |_,_=>.bad
def zjm {c:Expr}{fc:EM FV}{ap:Pos}(hu:X.A.units+1<cLine) (ha:SE X mp a fa) (hb:SE X mp b fb) (hc:SE X mp c fc) (m:M2 X a "get" ap b c pos):SE X mp (.Call (.Attribute a "get" ap) [b,c] [] pos) (fDgd fa fb fc):=λM0 F Γ ν σ H Q rs hs hp=>
 (zeo hu zC zC zC m).wp (ha.run rs hs hp λF1 Γ1 H1 u v rs1 s1 o1 h1=>by
  let⟨_,e0,h1⟩:=R.got id h1
  let⟨l,ks0,rfl,er0,_⟩:=o1.dict rs1 e0
  refine⟨l,rfl,⟨_,er0⟩,hb.run rs1 hs h1 λF2 Γ2 H2 w v2 rs2 s2 o2 h2=>hc.run rs2 hs h2 λF3 Γ3 H3 z v3 rs3 s3 o3 h3=>?_⟩
  let⟨ds,e1,h3⟩:=R.got id h3
  delta h3 k y e2 e3
  let⟨l',ks,el,er,kr⟩:=((o1.stp s2 rs1.al0).stp s3 rs2.al0).dict rs3 e1
  cases el
  cases (o2.stp s3 rs2.al0).weak rs3 e2
  cases ey:zI ds k with
  |some y'=>
   rw[ey]at h3
   let⟨w',hw,rw'⟩:=(kr.val k).2 y' ey
   exact⟨some w',⟨_,.inr k,er,rfl,by rw[ZV,hw]⟩,h3 F3 H3 rs3 (.refl _ _) w' rw'⟩
  |none=>
   rw[ey]at h3
   let hn:zI ks k=none:=by
    have:=(kr.val k).1
    rw[ey]at this
    cases q:zI ks k with
    |none=>rfl
    |some _=>rw[q]at this;cases this
   exact⟨none,⟨_,.inr k,er,rfl,by rw[ZV,hn]⟩,h3 F3 H3 rs3 (.refl _ _) v3 (o3.strong rs3 e3)⟩)
def gDin(x y:PyData):Option Bool:=match x,y with
 |.str z,.dict kv=>(unD kv).map λds=>(zI ds z).isSome
 |_,_=>none
def gDnin(x y:PyData):Option Bool:=match x,y with
 |.str z,.dict kv=>(unD kv).map λds=> !(zI ds z).isSome
 |_,_=>none
def ziS(hu:X.A.units+1<cLine):OpR X (compareOp .In) (λx y H Q=>∃ l o,y=.ref l/\VC H l x o/\Q (.bl o.isSome) H):=by
 rintro pins s σ H x y v u Q I rx ry ⟨l,o,rfl,g,k⟩
 obtain rfl:u=Value.ref l:=ry
 erw[d_in hu I g rx λs' I'=>⟨.bl o.isSome,H,I',rfl,k⟩]
def zgq(hu:X.A.units+1<cLine):OpR X (compareOp .NotIn) (λx y H Q=>∃ l o,y=.ref l/\VC H l x o/\Q (.bl (!o.isSome)) H):=by
 rintro pins s σ H x y v u Q I rx ry ⟨l,o,rfl,g,k⟩
 obtain rfl:u=Value.ref l:=ry
 erw[zfT hu I g rx λs' I'=>⟨.bl (!o.isSome),H,I',rfl,k⟩]
def zcX(hu:X.A.units+1<cLine):wK X .In gDin:=λx y z e=>by
 unfold gDin at e
 split at e
 next k kv=>
  cases q:unD kv with
  |none=>rw[q]at e;cases e
  |some ds=>
   rw[q]at e;cases e
   exact⟨_,ziS hu,λH v u Q r1 r2 kk=>by
    cases r1
    let⟨l,ks,rfl,_,er,kr⟩:=Rep.tab r2 q
    let h1:=(kr.val k).1
    exact⟨l,zI ks k,rfl,⟨_,.inr k,er,rfl,by rw[ZV]⟩,by rw[h1];exact kk⟩⟩
 ·cases e
def KI(hu:X.A.units+1<cLine):wK X .NotIn gDnin:=λx y z e=>by
 unfold gDnin at e
 split at e
 next k kv=>
  cases q:unD kv with
  |none=>rw[q]at e;cases e
  |some ds=>
   rw[q]at e;cases e
   exact⟨_,zgq hu,λH v u Q r1 r2 kk=>by
    cases r1
    let⟨l,ks,rfl,_,er,kr⟩:=Rep.tab r2 q
    let h1:=(kr.val k).1
    exact⟨l,zI ks k,rfl,⟨_,.inr k,er,rfl,by rw[ZV]⟩,by rw[h1];exact kk⟩⟩
 ·cases e
@[reducible] noncomputable def fAttr(cl f:Str)(fa:EM FV):EM FV:=λΓ=>(fa Γ).bind λ(u,Γ1)=>R.get (derS Γ1 u) λd=>R.get (zdP cl f d) λx=>.ok (.dat x,Γ1)
def zgR(K:wL X cl f)(ha:SE X mp a fa)(hb:attributeBase a f X.env (eval a X.env)=eval a X.env):SE X mp (.Attribute a f pos) (fAttr cl f fa):=λM0 F Γ ν σ H Q rs hs hp=>
 (zer zC hb).wp (ha.run rs hs hp λF1 Γ1 H1 u v rs1 s1 o1 h1=>by
  let⟨d,ed,h1⟩:=R.got id h1
  let⟨y,ey',h2⟩:=R.got id h1
  unfold zdP at ey'
  split at ey'
  next c' kv=>
   split at ey'
   next hc=>
    subst hc
    obtain⟨l,rfl,n,h | h | h⟩:=(o1.strong rs1 ed).dict_inv
    ·let⟨ks,ds,_,e,_⟩:=h
     cases ds<;>cases e
    ·let⟨dx,c2,fs,ds,el,e,kr⟩:=h
     cases e
     rw[zL]at ey'
     let⟨w,hw,rw'⟩:=(kr.val f).2 y ey'
     exact⟨l,_,dx,fs,w,rfl,el,K.cl,K.no,by rw[J3];exact hw,h2 F1 H1 rs1 (.refl _ _) w rw'⟩
    ·let⟨_,_,_,_,_,_,e,_⟩:=h
     cases e
   ·cases ey'
  ·cases ey')
def RS.newM{p:Ap}(r:RS M0 F Γ ν H)(n:H p=none)(q:KR (MM M0 F) H ks ds) :
  RS M0 (fset F Γ.length [p]) (Γ++ [some (.m ds)]) (ν++ [some (.ref p)]) (upd H p (.dK (ks.map kK)))/\Stp F H (fset F Γ.length [p]) (upd H p (.dK (ks.map kK))):=r.new1 n (qd n) λs=>let q':=KR.stp q s r.al0;.m zH q'.keys q'.vals
@[reducible] noncomputable def fOwnD(n:EM (Ad)):EM OV:=λΓ=>(n Γ).bind λ(ds,Γ1)=>.ok (.m ds,Γ1)
def SD.so(h:SD X mp a ma):SO X mp a (fOwnD ma):=λM0 F Γ ν σ H Q rs hs hp=>
 h M0 F Γ ν σ H Q rs hs (hp.seq.mono λF1 Γ1 H1 ds rs1 s1 h1 ks p r n=>by
  let⟨r2,s2⟩:=rs1.newM n r
  exact h1 _ _ _ r2 s2)
@[reducible] noncomputable def fNewD(n:EM (Ad)):EM FV:=fOD (fOwnD n)
def SD.se(h:SD X mp a ma):SE X mp a (fNewD ma):=h.so.se
def SDt.so(h:SDt mp t ma):SOt mp t (fOwnD ma):=λM0 F Γ ν σ H Q rs hs hp=>
 h M0 F Γ ν σ H Q rs hs (hp.seq.mono λF1 Γ1 H1 ds rs1 s1 h1 ks p r n=>by
  let⟨r2,s2⟩:=rs1.newM n r
  exact h1 _ _ _ r2 s2)
def SDt.sd(h:SDt mp t ma):SOt mp t (fD (fNewD ma)):=λM0 F Γ ν σ H Q rs hs hp=>
 h M0 F Γ ν σ H Q rs hs (by
  let hp':OPost M0 F ν σ H (λF' Γ' H' o v=>Q v H') ((ma Γ).bind λ(ds,Γ1)=>.ok (.d (.dict (ds.map dK)),Γ1)):=by
   let e:fD (fNewD ma) Γ=(ma Γ).bind λ(ds,Γ1)=>.ok (.d (.dict (ds.map dK)),Γ1):=by
    unfold fD fNewD fOD fOwnD
    cases ma Γ<;>rfl
   rw[<- e];exact hp
  exact hp'.seq.mono λF1 Γ1 H1 ds rs1 s1 h1 ks p r n=>by
   let⟨r2,s2⟩:=rs1.newM n r
   let⟨F3,r3,s3,q3⟩:=r2.dropD
   exact h1 F3 _ _ (r3.newD q3) (s2.trans s3))
@[reducible] noncomputable def fDnil:EM (Ad):=λΓ=>.ok ([],Γ)
def zjj:SD X mp (.Dict [] [] pos) fDnil:=λM0 F Γ ν σ H Q rs hs hp=>pe_dnewK.wp λp n=>hp F H rs (.refl _ _) [] p .nil n
@[reducible] noncomputable def fDone(fa fb:EM FV):EM (Ad):=λΓ=>(fa Γ).bind λ(u,Γ1)=>match derf Γ1 u with
 |some (.str z)=>(fb Γ1).bind λ(w,Γ2)=>match derS Γ2 w with
  |some y=>.ok ([(z,y)],Γ2)
  |none=>.bad
 |_=>.bad
def zjk(ha:SE X mp a fa)(hb:SE X mp b fb):SD X mp (.Dict [some a] [b] pos) (fDone fa fb):=λM0 F Γ ν σ H Q rs hs hp=>
 (zep zC zC).wp (ha.run rs hs hp λF1 Γ1 H1 u v rs1 s1 o1 h1=>by
  delta h1 z ez
  cases o1.weak rs1 ez
  erw[hb.run rs1 hs h1 λF2 Γ2 H2 w v2 rs2 s2 o2 h2=>?_]
  delta h2 y ey
  exact⟨.inr z,rfl,λp n=>h2 F2 H2 rs2 (.refl _ _) [(z,v2)] p (.cons (o2.strong rs2 ey) .nil) n⟩)
@[reducible] noncomputable def fDcopy(fa:EM FV):EM (Ad):=λΓ=>(fa Γ).bind λ(u,Γ1)=>R.get (derD Γ1 u) λds=>.ok (ds,Γ1)
def zgQ (B:BiK X x (.type "dict")) (ha:SE X mp a fa) (hst:a⁻¹):SD X mp (.Call (.Name x p) [a] [] pos) (fDcopy fa):=λM0 F Γ ν σ H Q rs hs hp=>
 (js zay B.gl B.mg B.bt (zT zC pa_nil hst) B.n B.d hst rfl).wp (ha.run rs hs hp λF1 Γ1 H1 u v rs1 s1 o1 h1=>by
  let⟨ds,e,h1⟩:=R.got id h1
  let⟨l,ks,rfl,er,kr⟩:=o1.dict rs1 e
  exact⟨l,_,rfl,er,λp n=>h1 F1 H1 rs1 (.refl _ _) ks p kr n⟩)
@[reducible] noncomputable def fSortD(fa:EM FV):EM (Aa):=λΓ=>(fa Γ).bind λ(u,Γ1)=>R.get (derD Γ1 u) λds=>if ds.length<64 then .ok ((j5 (ds.map (·.1))).map .str,Γ1) else .bad
def ze1 (hcalm:X.calm=true) (B:BiK X x (.builtin "sorted")) (ha:SE X mp a fa) (hst:a⁻¹):SN X mp (.Call (.Name x p) [a] [] pos) (fSortD fa):=λM0 F Γ ν σ H Q rs hs hp=>
 (ZC (VQ hcalm) B.gl B.mg B.bt (zT zC pa_nil hst) B.n B.d hst rfl).wp (ha.run rs hs hp λF1 Γ1 H1 u v rs1 s1 o1 h1=>by
  let⟨ds,e,h1⟩:=R.got id h1
  let⟨h64,h1⟩:=R.gif id h1
  let⟨l,ks,rfl,er,kr⟩:=o1.dict rs1 e
  refine⟨l,ks,rfl,er,by rw[kr.length];exact h64,λp n=>?_⟩
  rw[kr.keys]
  exact h1 F1 H1 rs1 (.refl _ _) _ p (RepL.strs _) n)
@[reducible] noncomputable def fMul(fa fb:EM FV):EM (Aa):=λΓ=>(fa Γ).bind λ(u,Γ1)=>(fb Γ1).bind λ(w,Γ2)=>match derL Γ2 u,derf Γ2 w with
 |some [d],some (.int k)=>if 0<=k/\k<=1000000 then .ok (List.replicate k.toNat d,Γ2) else .bad
 |_,_=>.bad
def RepL.rep1(r:Rep M H v d):∀(n:Nat),RepL M H (List.replicate n [v]).flatten (List.replicate n d)
 |0=>.nil
 |n+1=>by
  rw[xP,xP,uh]
  erw[.cons r (RepL.rep1 r n)]
def zjG(ha:SE X mp a fa)(hb:SE X mp b fb):SN X mp (.BinOp a .Mult b pos) (fMul fa fb):=λM0 F Γ ν σ H Q rs hs hp=>
 (WR zgs zC zC).wp (ha.run rs hs hp λF1 Γ1 H1 u v rs1 s1 o1 h1=>hb.run rs1 hs h1 λF2 Γ2 H2 w v2 rs2 s2 o2 h2=>by
  delta h2 d k e1 e2
  delta h2 hk
  let⟨l,vs,rfl,el,r⟩:=(o1.stp s2 rs1.al0).list rs2 e1
  cases o2.weak rs2 e2
  cases r with
  |cons r t=>
   cases t
   exact⟨l,_,k,rfl,rfl,el,hk.1,hk.2,rfl,λp n=>h2 F2 H2 rs2 (.refl _ _) _ p (RepL.rep1 r _) n⟩)
end
section
variable {X:Cx}{mp:Ac}{a b e tg:Expr}{es:Ag}{p p2 apos cpos:Pos}{fa:EM FV}{c f x:Str}{s i:Nat}{M0:Ae}{F:Fp}{Γ:Gv}{ν:Nu}{σ:St}{H H':Hp}{u:FV}{v:V}
@[reducible] noncomputable def fFfrz(i:Nat)(c f:Str):EM FV:=λΓ=>match objF Γ i c f with
 |some o=>.ok (.dat o.view,updF Γ i f (.d o.view))
 |none=>.bad
def zgW(n:NmK X mp s i x)(K:wL X c f):SE X mp (.Attribute (.Name x p) f p2) (fFfrz i c f):=by?
 unfold fFfrz at hp
 delta hp o e
 erw[JN n K rs hs e λv hv=>?_]
 let⟨a,dx,fs,ns,xs,j,A1,B,A2,e1,e2,e3,e4,e5,e6,e7,e8,e9,e10⟩:=hv.ex
 let hi:i<Γ.length:=(xa.mp e1).1
 let hset:updF Γ i f (.d o.view)=Γ.set i (some (.o c ns (xs.set j (.d o.view)))):=by
  unfold updF
  rw[e1]
  show Γ.set i (some (setO c ns xs f _))=_
  unfold setO
  rw[e5]
 let hnd:=rs.nd i
 rw[e9]at hnd
 let hndc:=xB.mp hnd
 let n1:=xJ.mp hndc.2
 let n2:=xJ.mp n1.2.1
 let hsub:∀ b∈a::(A1++([]++A2)),b∈F i:=λb hb=>by
  rw[e9]
  simp at hb |-
  rcases hb with h | h | h
  ·erw[.inl h]
  ·erw[.inr (.inl h)]
  ·erw[.inr (.inr (.inr h))]
 let hfs:fs.set j (f,v)=fs:=by
  apply xR
  intro k
  by_cases hk:j=k
  ·subst hk;rw[xk (xa.mp e7).1,e7]
  ·rw[xi hk]
 let hq:Rep (MM M0 (fset F i (a::(A1++([]++A2))))) H v o.view:=e8.rep (λb hb=>by
  rcases hb with hb | ⟨k,hb⟩
  ·erw[.inl hb]
  ·by_cases hk:k=i
   ·subst hk;rw[zJ]at hb;exact .inr ⟨k,hsub b hb⟩
   ·rw[zP hk]at hb;exact .inr ⟨k,hb⟩) λb hb hm=>by
  let hbF:b∈F i:=by rw[e9];simp[hb]
  rcases hm with hm | ⟨k,hm⟩
  ·erw[rs.dis0 i b hbF hm]
  ·by_cases hk:k=i
   ·subst hk
    rw[zJ]at hm
    simp at hm
    rcases hm with h | h | h
    ·subst h;exact hndc.1 (by simp[hb])
    ·exact n1.2.2 b h b (by simp[hb]) rfl
    ·erw[n2.2.2 b hb b h rfl]
   ·rw[zP hk]at hm;exact hk (rs.dis _ _ b hm hbF)
 let nd':(a::(A1++([]++A2))).Nodup:=xB.mpr ⟨λh=>hndc.1 (by
  simp at h |-
  rcases h with h | h
  ·erw[.inl h]
  ·exact .inr (.inr h)),xJ.mpr ⟨n1.1,n2.2.1,λb h1 c h2=>n1.2.2 b h1 c (xA _ h2)⟩⟩
 let⟨rs2,s2⟩:=rs.lessO hi e2 hsub nd' λhr=>by
  have:=e10 _ H v (.d o.view) [] hr (λ_ _ z=>z) (λ_ _=>rfl) (.d hq)
  rw[hfs]at this
  erw[.o e3 e4 this]
 rw[<- hset]at rs2
 erw[hp _ H rs2 s2 v hq]
@[reducible] noncomputable def fItems(fa:EM FV):EM (Aa×Option (Option Nat)):=λΓ=>(fa Γ).bind λ(u,Γ1)=>match derS Γ1 u with
 |some (.dict kv)=>R.get (unD kv) λds=>.ok ((ds.map λp=>.tuple [.str p.1,p.2],some none),Γ1)
 |_=>.bad
@[reducible] noncomputable def fKeys(fa:EM FV):EM (Aa×Option (Option Nat)):=λΓ=>(fa Γ).bind λ(u,Γ1)=>match derS Γ1 u with
 |some (.dict kv)=>R.get (unD kv) λds=>.ok ((ds.map λp=>.str p.1,some none),Γ1)
 |_=>.bad
def zb8 (htg:∃ es n p,tg=.Tuple es n p) (ha:SE X mp a fa) (hb:attributeBase a "items" X.env (eval a X.env)=eval a X.env) (hline:(apos.endLine==cpos.line)=true):SIw X mp tg (.Call (.Attribute a "items" apos) [] [] cpos) (fItems fa):=λM0 F Γ ν σ H R rs hs hp=>
 (zeB htg zC hb hline).wp (ha.run rs hs hp λF1 Γ1 H1 u v rs1 s1 o1 h1=>by
  delta h1 kv eu
  let⟨ds,ed,h1⟩:=L3.R.got id h1
  let⟨l,ks,rfl,nl,er,kr⟩:=Rep.tab (o1.strong rs1 eu) ed
  refine⟨l,_,rfl,er,λo Hf fz=>h1 F1 H1 rs1 (.refl _ _) _ Hf ⟨.inr ⟨l,o,_,fz,λi hi=>nl (.inr ⟨i,hi⟩)⟩,λi F' H' st h0=>?_⟩⟩
  let el:=(st.keep l _ fz.1 λj hj=>nl (.inr ⟨j,hj⟩)).1
  refine⟨λd hd=>?_,λhle=>⟨el,by rw[xo,kr.length];simpa using hle⟩⟩
  rw[xf]at hd
  cases q:ds[i]? with
  |none=>rw[q]at hd;cases hd
  |some pr=>
   rw[q]at hd
   cases hd
   let⟨w,hw,rw'⟩:=kr.get q
   refine⟨⟨el,by rw[xo,kr.length];exact (xa.mp q).1⟩,λz H2 ⟨p',t,e1,ez,ht,e2⟩=>?_⟩
   rw[xf,hw]at e1
   cases e1
   subst ez e2
   let sm:Same H' (upd H' t (.tup [kV (kK (pr.1,w)).1,(kK (pr.1,w)).2])):=qd ht
   refine⟨sm,.tuple zH (.cons (.str pr.1) (.cons ((qe st h0 (Rep.eqv (zdR fz) rw')).grow sm.grow) .nil))⟩)
def ze0(ha:SE X mp a fa):SIw X mp tg a (fKeys fa):=λM0 F Γ ν σ H R rs hs hp=>
 (zgE zC).wp (ha.run rs hs hp λF1 Γ1 H1 u v rs1 s1 o1 h1=>by
  delta h1 kv eu
  let⟨ds,ed,h1⟩:=L3.R.got id h1
  let⟨l,ks,rfl,nl,er,kr⟩:=Rep.tab (o1.strong rs1 eu) ed
  refine⟨l,_,rfl,er,λo Hf fz=>h1 F1 H1 rs1 (.refl _ _) _ Hf ⟨.inr ⟨l,o,_,fz,λi hi=>nl (.inr ⟨i,hi⟩)⟩,λi F' H' st h0=>?_⟩⟩
  let el:=(st.keep l _ fz.1 λj hj=>nl (.inr ⟨j,hj⟩)).1
  refine⟨λd hd=>?_,λhle=>⟨el,by rw[xo,kr.length];simpa using hle⟩⟩
  rw[xf]at hd
  cases q:ds[i]? with
  |none=>rw[q]at hd;cases hd
  |some pr=>
   rw[q]at hd
   cases hd
   let⟨w,hw,rw'⟩:=kr.get q
   refine⟨⟨el,by rw[xo,kr.length];exact (xa.mp q).1⟩,λz H2 ⟨e2,p',e1,ez⟩=>?_⟩
   rw[xf,hw]at e1
   cases e1
   subst ez e2
   exact⟨.refl _,.str pr.1⟩)
end
end L3
namespace L2
open PySem PySem.Spec PyProof.Rows
variable [Cs]
section
variable {X:Cx}{σ:St}{H:Hp}{sp:Sp}{Q:VK}{C f:Ap}{fd:FuncData}{ps:Ab}{k:Nat}{m x:Str}{o e:Expr}{es:Ag}{p pos apos:Pos}
def Vq{A:Around}{Q:Af}{E:Af}{s:Am}(hbase:attributeBase o m env (eval o env)=eval o env)(hform:methodCallForm (args.length+0) (backTo pos (starEach args env)) (backToKw pos (keywordEach [] env))=true)(hline:(apos.endLine==pos.line)=true)
  (h:wpAny (model X.prog X.w) A (eval o env) (λov s₁=>wpAny (model X.prog X.w) A (getMethod ov m (do return (<- importBound o env).getD true)) (λfx s₂=>wpAny (model X.prog X.w) A (callWith pos fx.1 fx.2 (backTo pos (starEach args env)) (backToKw pos (keywordEach [] env))) Q E s₂) E s₁) E s) :
  wpAny (model X.prog X.w) A (eval (.Call (.Attribute o m apos) args [] pos) env) Q E s:=by
 rw[arm_eval_Call,hbase]
 erw[x3 (Xc h (λov s₁ h₁=>?_) λ_ _ e=>e)]
 erw[x3 (wpAny_standAt ?_)]
 let hform':methodCallForm (args.length+([]:List Keyword).length) (backTo pos (starEach args env)) (backToKw pos (keywordEach [] env))=true:=hform
 let hpos:methodCallPos true o env apos pos=pure pos:=by unfold methodCallPos;simp[hline]
 unfold methodCall
 rw[hform']
 erw[x3 (Xb (Xc h₁ (λfx s₂ h₂=>x3 (wpAny_of_eq hpos h₂)) λ_ _ x=>x))]
def zfz(c:Cls X.K C)(hm:YV X.K C m f)(F:FnOk X.prog X.w X.K X.mg X.base CX0 k f fd ps sp)(hr:Room k X.A)(hb:Binds X.K fd ps [])
  (h:wpE X o σ H λx H1=>∃ a dx fs,x=.ref a/\H1 a=some (.ins C dx fs)/\fs.lookup m=none/\wpA X (e::es) σ H1 λvs H2=>sp (x::vs) H2 Q E0)
  (hst:starEach (e::es) X.env=(false,eval e X.env)::starEach es X.env) (hpl:(backTo pos (starEach es X.env)).any (·.1)=false) (hbase:attributeBase o m X.env (eval o X.env)=eval o X.env) (hform:methodCallForm ((e::es).length+0) (backTo pos (starEach (e::es) X.env)) (backToKw pos (keywordEach [] X.env))=true) (hline:(apos.endLine==pos.line)=true):wpE X (.Call (.Attribute o m apos) (e::es) [] pos) σ H Q:=λpins s I=>by
 erw[Vq hbase hform hline (thn (h pins s I) λu s1 ⟨x,H1,I1,rx,a,dx,fs,ex,ea,l,q⟩=>?_)]
 subst ex
 obtain rfl:u=Value.ref a:=rx
 erw[Wv I1 ea c hm l ?_]
 erw[W.callWith_K I.ok.mod.kin hm.kp (thn (q pos pins s1 I1) λus s2 ⟨vs,H2,I2,r,q2⟩=>⟨I2.kIn,?_⟩) hst hpl]
 erw[Je (vs:=.ref a::vs) F hr hb I2 (.cons rfl r) q2]
def zcr(c:Cls X.K C)(hm:YV X.K C m f)(F:FnOk X.prog X.w X.K X.mg X.base CX0 k f fd ps sp)(hr:Room k X.A)(hb:Binds X.K fd ps [])
  (h:wpE X o σ H λx H1=>∃ a dx fs,x=.ref a/\H1 a=some (.ins C dx fs)/\fs.lookup m=none/\sp [x] H1 Q E0) (hbase:attributeBase o m X.env (eval o X.env)=eval o X.env) (hline:(apos.endLine==pos.line)=true):wpE X (.Call (.Attribute o m apos) [] [] pos) σ H Q:=λpins s I=>by
 erw[Vq hbase rfl hline (thn (h pins s I) λu s1 ⟨x,H1,I1,rx,a,dx,fs,ex,ea,l,q⟩=>?_)]
 subst ex
 obtain rfl:u=Value.ref a:=rx
 erw[Wv I1 ea c hm l ?_]
 erw[W.callWith_K0 I1.kIn hm.kp (Je (vs:= [.ref a]) F hr hb I1 (.cons rfl .nil) q)]
def zfy(M:Mk X.K C f)(F:FnOk X.prog X.w X.K X.mg X.base CX0 k f fd ps sp)(hr:Room (k+1) X.A)(hg:Gl X x)(hm:X.mg x=some (.ref C))(hb:Binds X.K fd ps [])
  (h:wpA X (e::es) σ H λvs H1=>∀ x dx,H1 x=none->H1 dx=none->dx≠x->sp (.ref x::vs) (upd (upd H1 dx (.own x)) x (.ins C dx [])) (λv H2=>v=.non/\Q (.ref x) H2) E0)
  (hdb:(↥x)) (he:starEach (e::es) X.env=(false,eval e X.env)::starEach es X.env) (hpl:(backTo pos (starEach es X.env)).any (·.1)=false):wpE X (.Call (.Name x p) (e::es) [] pos) σ H Q:=λpins s I=>by
 erw[Xi (Qp I hg hm ?_ hdb)]
 erw[W.callWith_K I.ok.mod.kin M.kp (thn (h pos pins s I) λus s1 ⟨vs,H1,I1,r,q⟩=>⟨I1.kIn,?_⟩) he hpl]
 let hq:=q (⇑s1+1) ⇑s1 (I1.hok.fresh (uR _)) (I1.hok.fresh (xg _)) (xj (uM _))
 let I2:=Inv.made (C:=C) I1
 let r2:Vals (V.ref (⇑s1+1)::vs) (Value.ref (⇑s1+1)::us):=.cons rfl r
 let hl:(Value.ref (⇑s1+1)::us).length=ps.length:=by
  let e:=r2.length
  rw[F.len _ _ _ _ hq]at e
  erw[e.symm]
 let hb':=hb _ (Value.ref (⇑s1+1)::us) I2.kIn (by simpa using hl)
 rw[xU]at hb'
 refine wpAny_call (zea (f:=f) I1.kIn M.makes M.init (beq_iff_eq.mp M.fn) (Xj (F.run _ X.stack _ _ ⟨Value.ref (⇑s1+1)::us,[]⟩ (Value.ref (⇑s1+1)::us) _ _ E0 (hr.make C us [])
  (I2.env0.make C us []) hb' r2 hq) λr s' hq'=>?_))
 cases r with
 |error e=>erw[False.elim hq']
 |ok fl=>
  cases fl with
  |ret u=>
   let⟨v,H',I3,rv,ev,q3⟩:=I2.after hq'
   subst ev
   exact⟨rv,⟨V.ref (⇑s1+1),H',I3,rfl,q3⟩⟩
  |next=>erw[False.elim hq']
  |brk=>erw[False.elim hq']
  |cont=>erw[False.elim hq']
end
structure KnM(P:Ar)(w:World)(K:Ah)(mg:Aq)(base:Heap)(C:Ap)(m:Str)(k:Nat)(sp:Sp):Prop where
 ex:∃(f:Ap)(fd:FuncData)(ps:Ab),FnOk P w K mg base CX0 k f fd ps sp/\Cls K C/\YV K C m f/\Binds K fd ps []
structure KnI(P:Ar)(w:World)(K:Ah)(mg:Aq)(base:Heap)(C:Ap)(k:Nat)(sp:Sp):Prop where
 ex:∃(f:Ap)(fd:FuncData)(ps:Ab),FnOk P w K mg base CX0 k f fd ps sp/\Mk K C f/\Binds K fd ps []
end L2
namespace L3
open PySem PySem.Spec PyProof.Rows L2
variable [Cs]
section
variable {X:Cx}{mp io:Ac}{a b e:Expr}{es:Ag}{pos p p2 pos' apos:Pos}{fa fb:EM FV}{fl:EM (List AV)}{c m x:Str}{s i k n:Nat}{M0:Ae}{F F':Fp}{Γ:Gv}{ν:Nu}{σ:St}{H H':Hp}{u:FV}{v:V}{run:List OV->RF}
@[reducible] noncomputable def fMeth(i:Nat)(c m:Str)(run:List OV->RF)(fl:EM (List AV)):EM OV:=λΓ=>match Γ[i]? with
 |some (some (.o c' ns _))=>if c'=c/\ixF ns m=none then fCall run (aIo i fl) Γ else .bad
 |_=>.bad
def Vr{Q:VK}(rs:RS M0 F Γ ν H)(hrun:Ran n run)(e:Γ[i]?=some (some o))(ev:ν[i]?=some (some ae))
  (hp:OPost M0 F ν σ H (λF' Γ' H' o v=>Q v H') (fCall run (aIo i fl) Γ)):APost M0 F ν σ H (λF1 Γ1 ν1 H1 as=>∀ vs,AOks M0 F1 ν1 H1 vs as->spX n run (ae::vs) H1 Q E0) (fl Γ):=by
 let h:=Qm rs hrun hp
 unfold aIo at h
 rw[e]at h
 erw[h.tail.mono λF1 Γ1 ν1 H1 as rs1 hn s1 q vs oks=>q (ae::vs) (.io ?_ oks)]
 let⟨t,rfl⟩:=hn
 rw[xc (xa.mp ev).1];exact ev
def zhi(kn:KnM X.prog X.w X.K X.mg X.base (Cs.adr c) m k (spX n run))(hr:Room k X.A)(hrun:Ran n run)(nm:NmK X mp s i x)(hl:SA X mp (a::es) fl)
  (he:starEach (a::es) X.env=(false,eval a X.env)::starEach es X.env) (hpl:(backTo pos (starEach es X.env)).any (·.1)=false) (hform:methodCallForm ((a::es).length+0) (backTo pos (starEach (a::es) X.env)) (backToKw pos (keywordEach [] X.env))=true) (hline:(apos.endLine==pos.line)=true):SO X mp (.Call (.Attribute (.Name x p) m apos) (a::es) [] pos) (fMeth i c m run fl):=by?
 unfold fMeth at hp
 delta hp c' ns xs e
 delta hp hh
 let⟨rfl,hns⟩:=hh
 let⟨g,fd,ps,Fn,cl,hm,hb⟩:=kn.ex
 let⟨ad,dx,fs,A,ev,ea,hk,qa,hF⟩:=WN rs e
 subst hk
 erw[zfz cl hm Fn hr hb ((qB nm.hN nm.hv nm.hd nm.hcd).wp ⟨.ref ad,hs s i _ nm.hm ev,ad,dx,fs,rfl,ea,(V8 hns).1,hl M0 F Γ ν σ H _ rs hs (Vr rs hrun e ev hp)⟩) he hpl rfl hform hline]
def ze3(kn:KnM X.prog X.w X.K X.mg X.base (Cs.adr c) m k (spX n run))(hr:Room k X.A)(hrun:Ran n run)(nm:NmK X mp s i x)(hline:(apos.endLine==pos.line)=true):SO X mp (.Call (.Attribute (.Name x p) m apos) [] [] pos) (fMeth i c m run aNil):=by?
 unfold fMeth at hp
 delta hp c' ns xs e
 delta hp hh
 let⟨rfl,hns⟩:=hh
 let⟨g,fd,ps,Fn,cl,hm,hb⟩:=kn.ex
 let⟨ad,dx,fs,A,ev,ea,hk,qa,hF⟩:=WN rs e
 subst hk
 erw[zcr cl hm Fn hr hb ((qB nm.hN nm.hv nm.hd nm.hcd).wp ⟨.ref ad,hs s i _ nm.hm ev,ad,dx,fs,rfl,ea,(V8 hns).1,Vr rs hrun e ev hp F ν H rs (uO _) (.refl _ _) [] .nil⟩) rfl hline]
def RS.newI{p dx:Ap}(r:RS M0 F Γ ν H)(n:H p=none)(nd:H dx=none)(hne:dx≠p) :
  RS M0 (fset F Γ.length [p]) (Γ++ [some (.o c [] [])]) (ν++ [some (.ref p)]) (upd (upd H dx (.own p)) p (.ins (Cs.adr c) dx []))/\Stp F H (fset F Γ.length [p]) (upd (upd H dx (.own p)) p (.ins (Cs.adr c) dx [])):=r.new1 n (λb o e=>by
  rw[zG (λz=>by subst z;rw[n]at e;cases e),zG (λz=>by subst z;rw[nd]at e;cases e)];exact e) λs=>.o (fs:= []) (A:= []) zH rfl .nil
def AOks.stp(s1:Stp F H F1 H1)(h0:∀ a,M0 a->H a≠none)(hn:ν <+: ν1):∀{vs:List V}{as:List AV},AOks M0 F ν H vs as->AOks M0 F1 ν1 H1 vs as
 |_,_,.nil=>.nil
 |_,_,.v h t=>.v ((h.stp s1 h0).ext hn) (AOks.stp s1 h0 hn t)
 |_,_,.io h t=>.io (by
   let⟨t',rfl⟩:=hn
   rw[xc (xa.mp h).1];exact h) (AOks.stp s1 h0 hn t)
def vg:∀{as:List AV}{args:List OV},toArgs Γ as=some args->toArgs (Γ++ [o]) as=some args/\∀ i∈ios as,i<Γ.length
 |[],_,e=>⟨e,λ_ h=>nomatch h⟩
 |a::as,_,e=>by
  unfold toArgs at e
  split at e
  next o' os e1 e2=>
   cases e
   let⟨i1,i2⟩:=vg e2
   let key:toArg (Γ++ [o]) a=some o'/\∀ i∈ios [a],i<Γ.length:=by
    cases a with
    |v u=>
     refine⟨?_,λ_ h=>nomatch h⟩
     cases u with
     |dat y=>erw[e1]
     |own j=>
      simp only[toArg,derS,uI]at e1 |-
      let⟨y,ey,hy⟩:=e1
      refine⟨y,?_,hy⟩
      split at ey
      next q=>
       rw[xc (xa.mp q).1,q];exact ey
      ·cases ey
    |io j=>
     simp only[toArg]at e1 |-
     split at e1
     next q=>
      let hj:=(xa.mp q).1
      refine⟨by rw[xc hj,q];exact e1,λi h=>?_⟩
      have:i=j:=by simpa [ios] using h
      lia
     ·cases e1
   refine⟨by unfold toArgs;rw[key.1,i1],λi h=>?_⟩
   cases a with
   |v u=>erw[i2 i h]
   |io j=>
    rw[ios,xw]at h
    rcases h with rfl | h
    ·exact key.2 _ (by simp[ios])
    ·erw[i2 i h]
  ·cases e
def Qd:∀{as:List AV}{outs:List (Option OV)}{Γ Γ2:Gv},putBack as outs Γ=some Γ2->putBack as outs (Γ++ [o])=some (Γ2++ [o])
 |[],_,Γ,_,e=>by
  have:some Γ=some _:=e
  cases this;rfl
 |.v u::as,[],Γ,_,e=>by cases e
 |.v u::as,x::os,Γ,Γ2,e=>Qd (as:=as) e
 |.io k::as,[],Γ,_,e=>by cases e
 |.io k::as,none::os,Γ,_,e=>by cases e
 |.io k::as,some q::os,Γ,Γ2,e=>by
  rw[putBack]at e |-
  split at e
  next hk=>
   rw[if_pos (by simp;lia),List.set_append_left _ _ hk]
   erw[Qd e]
  ·cases e
@[reducible] noncomputable def fMake(c:Str)(run:List OV->RF)(fl:EM (List AV)):EM OV:=λΓ=>(fl Γ).bind λ(as,Γ1)=>if Γ1.length=Γ.length/\(ios as).Nodup then match toArgs Γ1 as with
 |some args=>match run (.o c [] []::args) with
  |.ok (.d .none) (some o::outs)=>match putBack as outs Γ1 with
   |some Γ2=>.ok (o,Γ2)
   |none=>.bad
  |_=>.bad
 |none=>.bad
 else .bad
def zhh(kn:KnI X.prog X.w X.K X.mg X.base (Cs.adr c) k (spX n run))(hr:Room (k+1) X.A)(hg:Gl X c)(hm:X.mg c=some (.ref (Cs.adr c)))(hrun:Ran n run)(hl:SA X mp (a::es) fl)
  (hdb:(↥c)) (he:starEach (a::es) X.env=(false,eval a X.env)::starEach es X.env) (hpl:(backTo pos (starEach es X.env)).any (·.1)=false):SO X mp (.Call (.Name c p) (a::es) [] pos) (fMake c run fl):=by?
 let⟨g,fd,ps,Fn,mk,hb⟩:=kn.ex
 erw[zfy mk Fn hr hg hm hb (hl M0 F Γ ν σ H _ rs hs ?_) hdb he hpl]
 unfold fMake at hp
 generalize fl Γ=ra at hp
 cases ra with
 |bad=>erw[hp]
 |ok z=>
  let⟨as,Γ1⟩:=z
  intro F1 ν1 H1 rs1 hn s1 vs oks x dx hx hdx hne
  simp only[R.bind]at hp
  delta hp hh
  let⟨hlen,nd⟩:=hh
  have eν:ν1=ν:=by
   let⟨t,rfl⟩:=hn
   let h1:=rs1.len
   let h2:=rs.len
   have:t= []:=by
    apply List.eq_nil_of_length_eq_zero
    rw[xy]at h1;lia
   rw[this,xU]
  subst eν
  delta hp args ea
  let⟨rs2,s2⟩:=rs1.newI (c:=c) hx hdx hne
  let⟨ea2,hlt⟩:=vg (o:=some (.o c [] [])) ea
  let hlen1:ν1.length=Γ1.length:=rs1.len
  let oks2:AOks M0 _ (ν1++ [some (.ref x)]) _ (V.ref x::vs) (.io Γ1.length::as):=.io (by rw[<- hlen1];simp) (oks.stp s2 rs1.al0 (List.prefix_append _ _))
  let nd2:(ios (.io Γ1.length::as)).Nodup:=by
   rw[ios];exact xB.mpr ⟨λh=>ue _ (hlt _ h),nd⟩
  let ea3:toArgs (Γ1++ [some (.o c [] [])]) (.io Γ1.length::as)=some (.o c [] []::args):=by
   unfold toArgs
   rw[ea2]
   have:toArg (Γ1++ [some (.o c [] [])]) (.io Γ1.length)=some (.o c [] []):=by
    show (match (Γ1++ [some (OV.o c [] [])])[Γ1.length]? with
     |some (some o)=>some o
     |_=>none)=_
    rw[xm (xg _)]
    simp
   rw[this]
  let hvl:(V.ref x::vs).length=n:=by
   rw[oks2.len,<- jv ea3]
   erw[hrun _ λz=>?_]
   rw[z]at hp;exact hp.elim
  refine⟨hvl,_,_,_,w4 rs2 oks2 ea3 nd2,?_⟩
  let pbk:∀{outs:List (Option OV)}{Γ2:Gv}{o:OV},putBack as outs Γ1=some Γ2->putBack (.io Γ1.length::as) (some o::outs) (Γ1++ [some (.o c [] [])])=some (Γ2++ [some o]):=λ{outs Γ2 o} h=>by
   rw[putBack,if_pos (by simp),uu _ _ (xg _)]
   simp only[Nat.sub_self,List.set_cons_zero]
   erw[Qd h]
  delta hp o outs er
  delta hp Γ2 eb
  rw[er]
  intro F' v H' rc sc
  let hl2:=(Zg eb nd).1
  let⟨F2,rs3,s3⟩:=Va (n:=Γ1.length+1) rs2 oks2 ea3 nd2 rc sc (pbk eb) (uO _) (by simp[hlen1])
  let⟨F3,rs4,s4,rv⟩:=rs3.dropD
  rw[uq (by simp[hl2])]at rs4
  refine⟨?_,hp F3 H' (.ref x) rs4 (((s1.trans s2).trans s3).trans s4)⟩
  cases rv;rfl
def RS.mutM(r:RS M0 F Γ ν H)(e:Γ[i]?=some (some (.m ds))):∃ l ks,ν[i]?=some (some (.ref l))/\H l=some (.dK (ks.map kK))/\KR (MM M0 F) H ks ds/\l∈F i /\
  ∀ ks' ds',KR (MM M0 F) H ks' ds'->∃ F',RS M0 F' (Γ.set i (some (.m ds'))) ν (upd H l (.dK (ks'.map kK)))/\Stp F H F' (upd H l (.dK (ks'.map kK))):=by
 let⟨v,ev,q⟩:=r.at' i _ e
 generalize hA:F i=A at q
 cases q with
 | @m l ks _ el k q=>
  refine⟨l,ks,ev,el,.of k q,by simp,λks' ds' kr=>r.wrO (A:= [l]) (xa.mp e).1 ev (by rw[hA];simp) (λxs z=>by rw[el]at z;cases z) (λa h=>by rw[hA];exact h) (xB.mpr ⟨(λz=>nomatch z),.nil⟩) λhr _=>.m zH kr.keys (j4 hr kr.vals)⟩
@[reducible] noncomputable def sDupd(i:Nat)(fb:EM FV):SM:=λΓ=>match Γ[i]? with
 |some (some (.m _))=>(fb Γ).bind λ(w,Γ1)=>match Γ1[i]?,derS Γ1 w with
  |some (some (.m ds)),some (.dict kv)=>match unD kv with
   |some es=>if ds.length+es.length<=1000000 then .ok (.next,Γ1.set i (some (.m (zM ds es)))) else .bad
   |none=>.bad
  |_,_=>.bad
 |_=>.bad
def zhn (n:NmK X mp s i x) (hb:SE X mp b fb) (m1:M1 X (.Name x p) "update" p2 b pos):SS X mp io (.Expr (.Call (.Attribute (.Name x p) "update" p2) [b] [] pos) pos') (sDupd i fb):=λM0 F Γ ν σ H D rs hs hl hp=>by
 unfold sDupd at hp
 delta hp d0 e0
 let⟨l,ks0,ev,el,_⟩:=rs.mutM e0
 erw[(Qr (zgA (qB n.hN n.hv n.hd n.hcd) zC m1) rfl).wp ⟨.ref l,hs s i _ n.hm ev,l,rfl,⟨_,.inl el⟩,hb M0 F Γ ν σ H _ rs hs ((SPost.seq hs hl hp).mono λF1 Γ1 H1 w rs1 s1 h1 v hv=>?_)⟩]
 delta h1 ds kv e1 e2
 delta h1 es ek
 delta h1 hsz
 let⟨l',ks,ev',el',kr,hlF,mu⟩:=rs1.mutM e1
 rw[ev]at ev';cases ev'
 let⟨b',kb,rfl,nb,eb,krb⟩:=Rep.tab (hv.strong rs1 e2) ek
 let⟨F2,rs2,s2⟩:=mu _ _ (krb.merge kr)
 refine⟨b',_,_,rfl,el',eb,λz=>nb (.inr ⟨i,by rw[<- z];exact hlF⟩),by have:=Xe;rw[xo,xo,kr.length,krb.length];lia,?_⟩
 rw[Vn]
 erw[h1 F2 ν σ _ rs2 s2 hs hl λ_ _=>rfl]
@[reducible] noncomputable def Jf(i:Nat)(fb fa:EM FV):SM:=λΓ=>(fa Γ).bind λ(u,Γ1)=>match Γ1[i]? with
 |some (some _)=>(fb Γ1).bind λ(w,Γ2)=>match Γ2[i]?,derS Γ2 u,derf Γ2 w with
  |some (some (.m ds)),some d,some (.str z)=>if ds.length<1000000 then .ok (.next,Γ2.set i (some (.m (zU ds z d)))) else .bad
  |_,_,_=>.bad
 |_=>.bad
def zhm(hu:X.A.units+1<cLine)(n:NmK X mp s i x)(ha:SE X mp a fa)(hb:SE X mp b fb)(hsw:swapsWith a (some (.Subscript (.Name x p) b pos')) pos.line X.env=pure false):SS X mp io (.Assign [.Subscript (.Name x p) b pos'] a pos) (Jf i fb fa):=λM0 F Γ ν σ H D rs hs hl hp=>by
 erw[(zgG hu (qB n.hN n.hv n.hd n.hcd) zC zC hsw).wp (ha M0 F Γ ν σ H _ rs hs ((SPost.seq hs hl hp).mono λF1 Γ1 H1 u rs1 s1 h1 v hv=>?_))]
 delta h1 o0 e0
 let⟨v0,ev,_⟩:=rs1.at' i _ e0
 refine⟨v0,hs s i _ n.hm ev,hb M0 F1 Γ1 ν σ H1 _ rs1 hs ((SPost.seq hs hl h1).mono λF2 Γ2 H2 w rs2 s2 h2 v2 hv2=>?_)⟩
 delta h2 ds d z e1 e2 e3
 delta h2 hsz
 let⟨l',ks,ev',el',kr,hlF,mu⟩:=rs2.mutM e1
 rw[ev]at ev';cases ev'
 cases hv2.weak rs2 e3
 let⟨F3,rs3,s3⟩:=mu _ _ (kr.put z ((hv.stp s2 rs1.al0).strong rs2 e2))
 refine⟨l',_,rfl,⟨_,.inr z,el',rfl,by have:=Xe;rw[xo,kr.length];lia,rfl⟩,?_⟩
 rw[yr]
 erw[h2 F3 ν σ _ rs3 s3 hs hl λ_ _=>rfl]
@[reducible] noncomputable def Yx(i:Nat)(fb:EM FV):SM:=λΓ=>match Γ[i]? with
 |some (some (.m _))=>(fb Γ).bind λ(w,Γ1)=>match Γ1[i]?,derf Γ1 w with
  |some (some (.m ds)),some (.str z)=>if (zI ds z).isSome then .ok (.next,Γ1.set i (some (.m (qu ds z)))) else .bad
  |_,_=>.bad
 |_=>.bad
def zhl (n:NmK X mp s i x) (hb:SE X mp b fb) (m1:M1 X (.Name x p) "pop" p2 b pos):SS X mp io (.Expr (.Call (.Attribute (.Name x p) "pop" p2) [b] [] pos) pos') (Yx i fb):=λM0 F Γ ν σ H D rs hs hl hp=>by
 unfold Yx at hp
 delta hp d0 e0
 let⟨l,ks0,ev,el,_⟩:=rs.mutM e0
 erw[(Qr (zeq (qB n.hN n.hv n.hd n.hcd) zC m1) rfl).wp ⟨.ref l,hs s i _ n.hm ev,l,rfl,⟨_,.inl el⟩,hb M0 F Γ ν σ H _ rs hs ((SPost.seq hs hl hp).mono λF1 Γ1 H1 w rs1 s1 h1 v hv=>?_)⟩]
 delta h1 ds z e1 e2
 delta h1 hv2
 let⟨l',ks,ev',el',kr,hlF,mu⟩:=rs1.mutM e1
 rw[ev]at ev';cases ev'
 cases hv.weak rs1 e2
 let⟨w',hw⟩:=xS.mp (((kr.val z).1).trans hv2)
 let⟨F2,rs2,s2⟩:=mu _ _ (kr.drop z)
 refine⟨_,.inr z,w',el',rfl,by rw[ZV,hw],?_⟩
 rw[y6]
 erw[h1 F2 ν σ _ rs2 s2 hs hl λ_ _=>rfl]
end
section
variable {X:Cx}{mp:Ac}{a:Expr}{p1 p2 q1 q2:Pos}{fa:EM FV}
@[reducible] noncomputable def Jz(fa:EM FV):EM FV:=λΓ=>(fa Γ).bind λ(u,Γ1)=>match derS Γ1 u with
 |some (.tuple ds)=>R.get (ZU ds) λns=>if ns.length<=60 then .ok (.dat (.int (Tab.dedup ns).length),Γ1) else .bad
 |_=>.bad
def zeR (hc:X.calm=true) (hgl:Gl X "len") (hml:X.mg "len" =none) (hgs:Gl X "set") (hms:X.mg "set" =none) (ha:SE X mp a fa) (hsa:a⁻¹) :
  SE X mp (.Call (.Name "len" p1) [.Call (.Name "set" p2) [a] [] q2] [] q1) (Jz fa):=by?
 erw[(Vv (strKind _ _) V.str (λk u ⟨t,e⟩=>e ▸ ⟨strKind_is ..,rfl⟩) hc hgl hml hgs hms hsa).wp (ha.run rs hs hp λF1 Γ1 H1 u v rs1 s1 o1 h1=>?_)]
 delta h1 ds ed
 let⟨ns,en,h1⟩:=R.got id h1
 let⟨hn,h1⟩:=R.gif id h1
 let⟨l,vs,rfl,el,r⟩:=(o1.strong rs1 ed).tup_inv
 let hv:=Qs (Qt en ▸ r)
 subst hv
 exact⟨l,ns,rfl,SqT.of el,hn,h1 F1 H1 rs1 (.refl _ _) _ (Rep.int _)⟩
end
section
end
section
end
noncomputable abbrev CF:=Str->List OV->RF
@[reducible] noncomputable def fNo:EM Bool:=λ_=>.bad
@[reducible] noncomputable def fNoV:EM FV:=λ_=>.bad
structure Wd where
 bi:Ab
 gi:List (Str×Int)
 gs:List (Str×Str)
 fl:List (Str×Nat)
 gd:List (Str×List (Str×Str))
 fk:List (Str×Str):= []
 mc:List (Str×Str×Nat):= []
 ml:List (Str×Str×Str×Nat):= []
def zO(e:Expr):Bool:=e.ctorIdx !=22
def jN(e:Expr):Bool:=e.ctorIdx !=26
def Zl(e:Expr):Bool:=e.ctorIdx !=7
def zfp(sc:Scope)(x:Str):Bool:=decide (sc.names.lookup x=some .local)||decide (sc.names.lookup x=some .cell)||decide (sc.names.lookup x=some .free)
def zbw(sc:Scope)(x:Str):Bool:=decide (sc.names.lookup x=some .globalImplicit)
def nmB (sc:Scope) (N:Ab) (mp:Ac) (s i:Nat) (x:Str):Bool:=decide (N[s]?=some x)&&zfp sc x&&decide (mp[s]?=some i)&& !(x==("__debug__" :Str))&& !(x==("__classdict__" :Str))
def okO{α:Type}(o:Option α)(f:α->Bool):Bool:=match o with
 |some a=>f a
 |none=>false
def KW{α:Type}{o:Option α}{f:α->Bool}(h:okO o f=true):∃ a,o=some a/\f a=true:=by
 cases o with
 |none=>cases h
 |some a=>exact⟨a,rfl,h⟩
mutual
noncomputable def yP(sc:Scope)(N:Ab)(mp:Ac)(lo:Nat):IT->Expr->Bool
 |.nm s i,.Name x _=>decide (N[s]?=some x)&&decide (mp[s]?=some i)&&decide (lo<=i)&&(decide (sc.names.lookup x=some .local)||decide (sc.names.lookup x=some .cell))
 |.tp ts,.Tuple es _ _=>Vd sc N mp lo ts es
 |_,_=>false
noncomputable def Vd(sc:Scope)(N:Ab)(mp:Ac)(lo:Nat):ITs->Ag->Bool
 |.nil,[]=>true
 |.cons t ts,e::es=>zO e&&yP sc N mp lo t e&&Vd sc N mp lo ts es
 |_,_=>false
end
structure XSc(X:Cx)(sc:Scope)(N:Ab):Prop where
 hN:X.N=N
 vis:∀ x,zfp sc x=true->Vis X.env.scope x
 loc:∀ x,sc.names.lookup x=some .local->X.env.scope.names.lookup x=some .local
 cel:∀ x,sc.names.lookup x=some .cell->X.env.scope.names.lookup x=some .cell/\X.fn x=true
 fre:∀ x,sc.names.lookup x=some .free->X.env.scope.names.lookup x=some .cell∨X.env.scope.names.lookup x=some .free
 glo:∀ x,zbw sc x=true->Gl X x
structure XW(X:Cx)(cf:CF)(W:Wd)(k:Nat):Prop where
 bi:∀ x,W.bi.contains x=true->X.mg x=none
 gi:∀ x i,W.gi.contains (x,i)=true->∃ t,X.mg x=some (.int i t)
 gs:∀ x i,W.gs.contains (x,i)=true->∃ t,X.mg x=some (.str i t)
 fn:∀ x n,W.fl.contains (x,n)=true->Kn X.prog X.w X.K X.mg X.base CX0 x k (spX n (cf x))/\Ran n (cf x)
 rm:Room k X.A
 hk:1<=k
 calm:X.calm=true
 gd:∀ x kf,W.gd.contains (x,kf)=true->GD X.w X.K X.mg x kf
 fk:∀ c f,W.fk.contains (c,f)=true->wL X c f
 mc:∀ c q n,W.mc.contains (c,q,n)=true->X.mg c=some (.ref (Cs.adr c))/\(∃ j,j+1<=k/\KnI X.prog X.w X.K X.mg X.base (Cs.adr c) j (spX n (cf q)))/\Ran n (cf q)
 ml:∀ c m q n,W.ml.contains (c,m,q,n)=true->KnM X.prog X.w X.K X.mg X.base (Cs.adr c) m k (spX n (cf q))/\Ran n (cf q)
def zR(h:zO e=true):starEach (e::es) env=(false,eval e env)::starEach es env:=by
 cases e<;>first | rfl | (cases h)
def Qe:es.all zO=true->(starEach es env).any (·.1)=false:=by
 induction es with
 |nil=>intro;rfl
 |cons e es ih=>
  intro h
  rw[xX,xh]at h
  rw[zR h.1,xQ,ih h.2];rfl
def jn:∀{l:List (Bool×Sem Aj)},l.any (·.1)=false->(backTo pos l).any (·.1)=false
 |[],_=>rfl
 | (b,t)::r,h=>by
  rw[xQ,Bool.or_eq_false_iff]at h
  show ((b,_)::backTo pos r).any (·.1)=false
  rw[xQ,jn h.2]
  let hb:=h.1
  rw[hb];rfl
def WV(h:jN e=true):wz e:=λo i=>by
 cases e<;>first | rfl | (cases h)
def Vi(h:Zl e=true)(x:Aj):foldedSetIterable e env x=pure x:=by
 cases e<;>first | rfl | (cases h)
def jg(op:CmpOp)(h:Zl e=true):behindInMarks op e=false:=by
 cases e<;>first | rfl | (cases h)
def Vm(op op':CmpOp)(h:Zl e=true):lastMarks [op,op'] [b,e]=false:=jg op' h
def zac{x y:Str}(h:(!(x==y))=true):(x==y)=false:=by simpa using h
section
variable {X:Cx}{cf:CF}{W:Wd}{k:Nat}{sc:Scope}{N:Ab}{mp:Ac}{m:Nat}
def zhU(S:XSc X sc N)(h:nmB sc N mp s i x=true):NmK X mp s i x:=by
 unfold nmB at h
 simp only[xh,x0]at h
 let⟨⟨⟨⟨h1,h2⟩,h3⟩,h4⟩,h5⟩:=h
 exact⟨by rw[S.hN];exact h1,S.vis x h2,h3,zac h4,zac h5⟩
def JY{f:Str->NameKind->NameKind}:∀{names:List (Str×NameKind)}{x:Str},(names.map λ(n,k)=>(n,f n k)).lookup x=(names.lookup x).map (f x)
 |[],_=>rfl
 | (n,k)::r,x=>by
  rw[xp]
  cases hx:x==n with
  |true=>rw[xx,xx,hx];rw[eq_of_beq hx];rfl
  |false=>rw[xx,xx,hx];exact JY
def jh:(relabel scope env).names.lookup x=(scope.names.lookup x).map λk=>if (k==.free&&env.scope.kind==ScopeKind.function&&env.kindOf x==some NameKind.cell) then .cell else k:=by
 unfold relabel
 have e:(scope.names.map λ(n,k)=>if (k==NameKind.free&&env.scope.kind==ScopeKind.function&&env.kindOf n==some NameKind.cell) then (n,NameKind.cell) else (n,k)) =
   scope.names.map λ(n,k)=>(n,(λn k=>if (k==NameKind.free&&env.scope.kind==ScopeKind.function&&env.kindOf n==some NameKind.cell) then NameKind.cell else k) n k):=by
  apply uo
  rintro⟨n,k⟩ _
  dsimp only
  split<;>rfl
 rw[e]
 erw[JY (f:=λn k=>if (k==NameKind.free&&env.scope.kind==ScopeKind.function&&env.kindOf n==some NameKind.cell) then NameKind.cell else k)]
def XSc.comp(S:CSc psc N scope N' k ix)(cl:List (Str×Addr))(C:Ap)(s2:Am)(H2:Hp)(fp:List Ap):XSc ⋯ scope N' where
 hN:=rfl
 vis x h:=by
  unfold zfp at h
  simp only[xL,x0]at h
  show Vis (relabel scope X.env) x
  unfold Vis
  rw[jh]
  rcases h with (h | h) | h
  ·rw[h];exact .inl rfl
  ·rw[h];exact .inr (.inl rfl)
  ·rw[h]
   simp only[uz]
   split
   ·erw[.inr (.inl rfl)]
   ·erw[.inr (.inr rfl)]
 loc x h:=by
  show (relabel scope X.env).names.lookup x=_
  rw[jh,h];rfl
 cel x h:=by
  refine⟨?_,decide_eq_true h⟩
  show (relabel scope X.env).names.lookup x=_
  rw[jh,h];rfl
 fre x h:=by
  show (relabel scope X.env).names.lookup x=_∨(relabel scope X.env).names.lookup x=_
  rw[jh,h]
  simp only[uz]
  split
  ·erw[.inl rfl]
  ·erw[.inr rfl]
 glo x h:=by
  unfold zbw at h
  simp only[x0]at h
  show (relabel scope X.env).names.lookup x=_
  rw[jh,h];rfl
def XW.comp(T:XW X cf W k):XW ⋯ cf W k:=⟨T.bi,T.gi,T.gs,T.fn,T.rm,T.hk,T.calm,T.gd,λc f h=>⟨(T.fk c f h).cl,(T.fk c f h).no⟩,T.mc,T.ml⟩
def zig(S:XSc X sc N)(h:CSc sc N scope N' k ix):CSc X.env.scope X.N scope N' k ix :=
 ⟨h.kind,h.cel,h.loc,λy hy e=>by
  rcases h.fre y hy e with z | z
  ·erw[.inl (S.cel _ z).1]
  ·exact S.fre _ z,h.len,h.nd,λj i e=>by
  rw[S.hN];exact h.cap j i e⟩
def Room.at1(T:XW X cf W k):Room 1 X.A:=T.rm.mono T.hk
def Room.atk(T:XW X cf W k):Room k X.A:=T.rm
def Y5:(assignEach es env).length=es.length:=by
 induction es with
 |nil=>rfl
 |cons e es ih=>cases e<;>simp[assignEach,ih]
def JP(h:zO e=true):assignEach (e::es) env=(false,assign e env)::assignEach es env:=by
 cases e<;>first | rfl | (cases h)
mutual
theorem yx{lo:Nat}(S:XSc X sc N)(hN:N.Nodup)(hn:mp.Nodup)(hc:X.calm=true)(hk:∀ i,lo<=i->¬ kp i):∀(t:IT)(e:Expr),yP sc N mp lo t e=true->SG X mp kp e t
  |.nm s i,e,h=>by
   cases e with
   |Name x p=>
    simp only[yP,xh,xL,x0]at h
    let⟨⟨⟨h1,h2⟩,h3⟩,h4⟩:=h
    refine zg6 (by rw[S.hN];exact hN) hn (by rw[S.hN];exact h1) h2 (hk i h3) ?_ ?_
    · rcases h4 with h4 | h4
      · exact .inl (S.loc x h4)
      · exact .inr (S.cel x h4).1
    · rcases h4 with h4 | h4
      · exact .inr (S.loc x h4)
      · exact .inl (S.cel x h4).2
   |_=>simp[yP]at h
  |.tp ts,e,h=>by
   cases e with
   |Tuple es n p=>
    simp only[yP]at h
    let⟨h1,h2,h3⟩:=YA S hN hn hc hk ts es h
    exact zjy hc h1 (by rw[Y5];exact h2) h3
   |_=>simp[yP]at h
theorem YA{lo:Nat}(S:XSc X sc N)(hN:N.Nodup)(hn:mp.Nodup)(hc:X.calm=true)(hk:∀ i,lo<=i->¬ kp i):∀(ts:ITs)(es:Ag),Vd sc N mp lo ts es=true->SGs X mp kp es ts/\ts.len=es.length/\(assignEach es X.env).findIdx? (·.1)=none
  |.nil,[],h=>⟨zg7,rfl,rfl⟩
  |.cons t ts,e::es,h=>by
    simp only[Vd,xh]at h
    let⟨⟨h1,h2⟩,h3⟩:=h
    let ih1:=yx S hN hn hc hk t e h2
    let⟨i1,i2,i3⟩:=YA S hN hn hc hk ts es h3
    refine⟨zeW ih1 i1 (by rw[JP h1];rfl),by rw[ITs.len,i2];rfl,?_⟩
    rw[JP h1,List.findIdx?_cons]
    simp[i3]
  |.nil,_::_,h=>by simp[Vd]at h
  |.cons ..,[],h=>by simp[Vd]at h
end
def zlc:Expr->Bool
 |.UnaryOp .Not _ _=>true
 |_=>false
def yo(e:Expr):Bool:=e.ctorIdx !=0&&e.ctorIdx !=5&&e.ctorIdx !=15&& !(zlc e)
def zbY(h:yo e=true)(whole:Sem Aj):isTrue e env whole=(do let v<-whole;standAt e.pos;holding [v] (truthy v)):=by
 cases e<;>first | rfl | (cases h;done) | skip
 rename_i op x p
 cases op<;>first | rfl | (cases h)
def qQ(h:SE X mp e fa)(hp:yo e=true):SE X mp e fa/\ST X mp e (fTru fa):=⟨h,zfb h (zbY hp)⟩
def YD(h:ST X mp (.BoolOp op vs p) t):SW X mp (.BoolOp op vs p) t:=λM0 F Γ ν σ H Q rs hs hp whole pins s I=>h M0 F Γ ν σ H Q rs hs hp pins s I
def VN:bootBuiltins "sorted" =some (.builtin "sorted"):=by decide +kernel
def JQ:bootBuiltins "range" =some (.type "range"):=by decide +kernel
def Zz:bootBuiltins "len" =some (.builtin "len"):=by decide +kernel
def zau:bootBuiltins "min" =some (.builtin "min"):=by decide +kernel
def zat:bootBuiltins "max" =some (.builtin "max"):=by decide +kernel
def zav:bootBuiltins "str" =some (.type "str"):=by decide +kernel
def zas:bootBuiltins "isinstance" =some (.builtin "isinstance"):=by decide +kernel
def Y9:bootBuiltins "dict" =some (.type "dict"):=by decide +kernel
def Ww(T:XW X cf W k):X.A.units+1<cLine:=by have:=T.rm.units;lia
def zgn(h:jN e=true):zfB e:=λo i=>by
 cases e<;>first | rfl | (cases h)
def zf7(h:es.all zO=true)(hl:es.length<20):methodCallForm (es.length+0) (backTo pos (starEach es env)) (backToKw pos (keywordEach [] env))=true:=by
 let h1:=jn (pos:=pos) (Qe (env:=env) h)
 let h2:(backTo pos (starEach es env)).all (!·.1)=true:=by
  rw[uF]at h1
  rw[xG]
  intro x hx
  have:=h1 x hx
  simpa using this
 unfold methodCallForm
 rw[h2]
 show (true&&true&&decide _)=true
 simp only[Bool.and_self,Bool.true_and,x0]
 show es.length+0+0<30
 lia
def zhT{x m:Str}(h:zO b=true)(hl:(p2.endLine==q.line)=true):M1 X (.Name x p) m p2 b q:=⟨rfl,by rw[zR h];rfl,hl,by rw[zR h];rfl⟩
def zkT:SE X mp e fNoV:=λM0 F Γ ν σ H Q rs hs hp=>hp.elim
def zfa:ST X mp e fNo:=λM0 F Γ ν σ H Q rs hs hp=>hp.elim
def attF:Expr->Bool
 |.Call (.Attribute ..) .. =>true
 |_=>false
def yn(e:Expr):Bool:=e.ctorIdx==23||e.ctorIdx==21||e.ctorIdx==20||attF e
def Ql{o:Expr}{nm:Str}{env:Env}(h:yn o=true):attributeBase o nm env (eval o env)=eval o env:=by
 cases o<;>first | rfl | (cases h;done) | skip
 rename_i f xs ks q
 cases f<;>first | rfl | (cases h)
def wG(e:Expr):Bool:=e.ctorIdx !=8&&e.ctorIdx !=9&&e.ctorIdx !=10
def jp(e:Expr):Bool:=e.ctorIdx !=25&&e.ctorIdx !=8&&e.ctorIdx !=9&&e.ctorIdx !=10
def ziI(sc:Scope)(x:Str):Bool:=decide (sc.names.lookup x=some .local)||decide (sc.names.lookup x=some .cell)
def vc(h:jp e=true):swapsWith e t l env=pure false:=by
 cases e<;>first | rfl | (cases h)
def QT(h:jp e=true):swapsWithSole [t] e l env=pure false:=vc h
def Qf(h:jp e=true):swappedStores [t] e env=pure none:=by
 let hm:(match (generalizing:=false) [t],e with
  |[.Tuple ts _ _],.Tuple vs _ _=>some (ts,vs)
  |[.List ts _],.Tuple vs _ _=>some (ts,vs)
  |_,_=>none)=(none:Option (Ag×Ag)):=by
  split
  ·cases h
  ·cases h
  ·rfl
 unfold swappedStores
 split
 next q=>
  erw[absurd (q.symm.trans hm) (λz=>nomatch z)]
 ·rfl
def Vx(h:wG e=true):swapsWithSole [.Subscript x y p] e l env=pure false:=by
 cases e<;>first | rfl | (cases h)
def W9:swappedStores [.Subscript x y p] e env=pure none:=by
 cases e<;>rfl
def zce:swapsWith e (some (.Attribute o f p)) l env=pure false:=by cases e<;>rfl
def zff:swapsWith e (some (.Subscript o b p)) l env=pure false:=by cases e<;>rfl
def zcd(h:wG e=true):swapsWith e (some (.Name x p)) l env=pure false:=by
 cases e<;>first | rfl | (cases h)
def Ko:∃ b:Bool,swapsWith (.ListComp elt gens scope q) (some (.Name x p)) l env=pure b:=⟨_,rfl⟩
def YE:∃ b:Bool,swapsWith (.DictComp ek ev gens scope q) (some (.Name x p)) l env=pure b:=⟨_,rfl⟩
def Y6(h:jN b=true)(v:Aj):assign (.Subscript o b p) env v=(do
  let ov<-holding [v] (eval o env)
  let iv<-holding [v,ov] (eval b env)
  standAt p
  holding [v,ov,iv] (setItem ov iv v)
  release [v,ov,iv] []):=by
 cases b<;>first | rfl | (cases h)
def ziJ(S:XSc X sc N)(h:ziI sc x=true):Loc X.env.scope x/\(X.fn x=true∨X.env.scope.names.lookup x=some .local):=by
 unfold ziI at h
 simp only[xL,x0]at h
 rcases h with h | h
 ·exact⟨.inl (S.loc x h),.inr (S.loc x h)⟩
 ·exact⟨.inr (S.cel x h).1,.inl (S.cel x h).2⟩
def zji{X:Cx}{st:Stmt}(h:SS X mp io st f):SB X mp io [st] f:=λM0 F Γ ν σ H D rs hs hl hp=>(wH K7).wp (h M0 F Γ ν σ H D rs hs hl hp)
def qO{kf:List (Str×Str)}{y g:Str}(h:kf.lookup y=some g):(y,g)∈kf:=by
 induction kf with
 |nil=>cases h
 |cons p r ih=>
  let⟨a,b⟩:=p
  rw[xx]at h
  cases q:(y==a) with
  |true=>
   rw[q]at h
   cases h
   have:=eq_of_beq q
   subst this
   erw[xr]
  |false=>rw[q]at h;exact xl _ (ih h)
noncomputable abbrev Ck(E P:Cx->Prop):Type:=Option (PLift (∀ X,E X->P X))
section
variable {E P A B D F:Cx->Prop}
def ck0(h:∀ X,E X->P X):Ck E P:=some ⟨h⟩
def ckB(b:Bool)(h:b=true->∀ X,E X->P X):Ck E P:=if q:b=true then some ⟨h q⟩ else none
def ck1(a:Ck E A)(h:∀ X,E X->A X->P X):Ck E P:=Option.map (λu=>⟨λX e=>h X e (u.1 X e)⟩) a
def ck2(a:Ck E A)(b:Ck E B)(h:∀ X,E X->A X->B X->P X):Ck E P:=Option.bind a λu=>ck1 b λX e=>h X e (u.1 X e)
def ck3(a:Ck E A)(b:Ck E B)(d:Ck E D)(h:∀ X,E X->A X->B X->D X->P X):Ck E P:=Option.bind a λu=>ck2 b d λX e=>h X e (u.1 X e)
def ck4(a:Ck E A)(b:Ck E B)(d:Ck E D)(f:Ck E F)(h:∀ X,E X->A X->B X->D X->F X->P X):Ck E P:=Option.bind a λu=>ck3 b d f λX e=>h X e (u.1 X e)
def tt(b:Bool):Ck E λ_=>b=true:=ckB b λh _ _=>h
def cx(a:Ck E A):Ck B λ_=>∀ X,E X->A X:=Option.map (λu=>⟨λ_ _=>u.1⟩) a
end
section
variable {α:Type}{T:α->Type}{Q:List α->Type}{O:Option α->Type}
def vw{T:Type}[Inhabited T]{i j:Nat}(f:i=j->T):T:=if h:i=j then f h else default
@[elab_as_elim] noncomputable def dq [DecidableEq α][∀ a,Inhabited (T a)](a b:α)(k:T a):T b:=if q:a=b then q ▸ k else default
@[elab_as_elim] noncomputable def vB(l:List α)(k:Q [])(h:∀ x r,Q (x::r)):Q l:=match l with
 |[]=>k
 |x::r=>h x r
@[elab_as_elim] noncomputable def vN [∀ l,Inhabited (Q l)](l:List α)(k:Q []):Q l:=vB l k λ_ _=>default
@[elab_as_elim] noncomputable def vC [∀ l,Inhabited (Q l)](l:List α)(k:∀ x r,Q (x::r)):Q l:=vB l default k
@[elab_as_elim] noncomputable def v1 [∀ l,Inhabited (Q l)](l:List α)(k:∀ x,Q [x]):Q l:=vC l λx r=>vN r (k x)
@[elab_as_elim] noncomputable def v2 [∀ l,Inhabited (Q l)](l:List α)(k:∀ x y,Q [x,y]):Q l:=vC l λx r=>v1 r (k x)
@[elab_as_elim] noncomputable def vO [∀ l,Inhabited (O l)](o:Option α)(k:O none):O o:=match o with
 |none=>k
 |some _=>default
@[elab_as_elim] noncomputable def vS [∀ l,Inhabited (O l)](o:Option α)(k:∀ x,O (some x)):O o:=match o with
 |none=>default
 |some x=>k x
end
section
variable {C:Const->Type}[∀ z,Inhabited (C z)]
@[elab_as_elim] noncomputable def zjV(z:Const)(k:∀ i,C (.int i)):C z:=vw (Const.int.elim z · k)
@[elab_as_elim] noncomputable def zlg(z:Const)(k:∀ i,C (.str i)):C z:=vw (Const.str.elim z · k)
@[elab_as_elim] noncomputable def vBoo(z:Const)(k:∀ i,C (.bool i)):C z:=vw (Const.bool.elim z · k)
end
section
variable {P:Expr->Type}[∀ e,Inhabited (P e)](e:Expr)
@[elab_as_elim] noncomputable def vBl(k:∀ o vs p,P (.BoolOp o vs p)):P e:=vw (Expr.BoolOp.elim e · k)
@[elab_as_elim] noncomputable def zjU(k:∀ x o y p,P (.BinOp x o y p)):P e:=vw (Expr.BinOp.elim e · k)
@[elab_as_elim] noncomputable def vUn(k:∀ o x p,P (.UnaryOp o x p)):P e:=vw (Expr.UnaryOp.elim e · k)
@[elab_as_elim] noncomputable def vIf(k:∀ z x y p,P (.IfExp z x y p)):P e:=vw (Expr.IfExp.elim e · k)
@[elab_as_elim] noncomputable def vDi(k:∀ ks vs p,P (.Dict ks vs p)):P e:=vw (Expr.Dict.elim e · k)
@[elab_as_elim] noncomputable def vLco(k:∀ x g s p,P (.ListComp x g s p)):P e:=vw (Expr.ListComp.elim e · k)
@[elab_as_elim] noncomputable def vDco(k:∀ x y g s p,P (.DictComp x y g s p)):P e:=vw (Expr.DictComp.elim e · k)
@[elab_as_elim] noncomputable def zlf(k:∀ x os ys p,P (.Compare x os ys p)):P e:=vw (Expr.Compare.elim e · k)
@[elab_as_elim] noncomputable def zle(k:∀ f xs ks q,P (.Call f xs ks q)):P e:=vw (Expr.Call.elim e · k)
@[elab_as_elim] noncomputable def zci(k:∀ z j p,P (.Constant z j p)):P e:=vw (Expr.Constant.elim e · k)
@[elab_as_elim] noncomputable def zjT(k:∀ o f p,P (.Attribute o f p)):P e:=vw (Expr.Attribute.elim e · k)
@[elab_as_elim] noncomputable def yC(k:∀ x y p,P (.Subscript x y p)):P e:=vw (Expr.Subscript.elim e · k)
@[elab_as_elim] noncomputable def vStr(k:∀ x p,P (.Starred x p)):P e:=vw (Expr.Starred.elim e · k)
@[elab_as_elim] noncomputable def qS(k:∀ x p,P (.Name x p)):P e:=vw (Expr.Name.elim e · k)
@[elab_as_elim] noncomputable def vLst(k:∀ es p,P (.List es p)):P e:=vw (Expr.List.elim e · k)
@[elab_as_elim] noncomputable def zcj(k:∀ es n p,P (.Tuple es n p)):P e:=vw (Expr.Tuple.elim e · k)
@[elab_as_elim] noncomputable def zlj(k:∀ l u s p,P (.Slice l u s p)):P e:=vw (Expr.Slice.elim e · k)
@[elab_as_elim] noncomputable def vFn(k:∀ f p xs q,P (.Call (.Name f p) xs [] q)):P e:=zle e λg xs ks q=>vN ks (qS g λf p=>k f p xs q)
@[elab_as_elim] noncomputable def vF1(k:∀ f p x q,P (.Call (.Name f p) [x] [] q)):P e:=vFn e λf p xs q=>v1 xs λx=>k f p x q
@[elab_as_elim] noncomputable def vF2(k:∀ f p x y q,P (.Call (.Name f p) [x,y] [] q)):P e:=vFn e λf p xs q=>v2 xs λx y=>k f p x y q
@[elab_as_elim] noncomputable def vMo(k:∀ o m p2 xs q,P (.Call (.Attribute o m p2) xs [] q)):P e:=zle e λg xs ks q=>vN ks (zjT g λo m p2=>k o m p2 xs q)
@[elab_as_elim] noncomputable def zlh(k:∀ x l u p q,P (.Subscript x (.Slice l u none p) q)):P e:=yC e λx y q=>zlj y λl u s p=>vO s (k x l u p q)
@[elab_as_elim] noncomputable def vFd(f:Str)(k:∀ x p p2,P (.Attribute (.Name x p) f p2)):P e:=zjT e λo g p2=>dq f g (qS o λx p=>k x p p2)
@[elab_as_elim] noncomputable def zhE(op:CmpOp)(k:∀ x y p,P (.Compare x [op] [y] p)):P e:=zlf e λx os ys p=>v1 os λo=>v1 ys λy=>dq op o (k x y p)
@[elab_as_elim] noncomputable def zld(op:BoolOp)(k2:∀ x y p,P (.BoolOp op [x,y] p))(k3:∀ x y w r p,P (.BoolOp op (x::y::w::r) p)):P e:=vBl e λo vs p=>dq op o (vC vs λx r=>vC r λy r=>vB r (k2 x y p) λw r=>k3 x y w r p)
@[elab_as_elim] noncomputable def vLC(k:∀ x tg it ifs s p,P (.ListComp x [⟨tg,it,ifs,0⟩] s p)):P e:=vLco e λx gs s p=>v1 gs λ⟨tg,it,ifs,a⟩=>dq 0 a (k x tg it ifs s p)
@[elab_as_elim] noncomputable def vDC(k:∀ x y tg it ifs s p,P (.DictComp x y [⟨tg,it,ifs,0⟩] s p)):P e:=vDco e λx y gs s p=>v1 gs λ⟨tg,it,ifs,a⟩=>dq 0 a (k x y tg it ifs s p)
end
structure Ct where
 cf:CF
 W:Wd
 k:Nat
 sc:Scope
 N:Ab
 mp:Ac
structure En(c:Ct)(X:Cx):Prop where
 S:XSc X c.sc c.N
 T:XW X c.cf c.W c.k
section
variable {c:Ct}
def nmk(s i:Nat)(x:Str):Ck (En c) λX=>NmK X c.mp s i x:=ckB (nmB c.sc c.N c.mp s i x) λh X E=>zhU E.S h
def bik (x y:Str){v:Aj}(hb:bootBuiltins y=some v):Ck (En c) λX=>BiK X x v/\x=y:=ckB (decide (x=y)&&zbw c.sc x&&c.W.bi.contains x&&decide (y≠ "__name__")&& !(y==("__debug__" :Str))) λh X E=>by
 simp only[xh,x0]at h
 let⟨⟨⟨⟨rfl,h2⟩,h3⟩,h4⟩,h5⟩:=h
 exact⟨⟨E.S.glo x h2,E.T.bi x h3,hb,h4,zac h5⟩,rfl⟩
def flk(s i:Nat)(x cl f:Str):Ck (En c) λX=>NmK X c.mp s i x/\wL X cl f:=ckB (nmB c.sc c.N c.mp s i x&&c.W.fk.contains (cl,f)) λh X E=>by
 simp only[xh]at h
 exact⟨zhU E.S h.1,E.T.fk _ _ h.2⟩
def glk (x:Str):Ck (En c) λX=>Gl X x/\(↥x):=ckB (zbw c.sc x&& !(x==("__debug__" :Str))) λh X E=>by
 simp only[xh]at h
 exact⟨E.S.glo x h.1,zac h.2⟩
def isT(T:String):Option (PLift (bootBuiltins (Str.ofString T)=some (.type T))) :=
 if h:T= "int" then some ⟨h ▸ v8⟩ else if h:T= "bool" then some ⟨h ▸ Y8⟩ else if h:T= "list" then some ⟨h ▸ ZJ⟩ else if h:T= "tuple" then some ⟨h ▸ JR⟩ else if h:T= "str" then some ⟨h ▸ zav⟩ else none
def Ct.inn(c:Ct)(n k:Nat)(ix:Ac)(N':Ab)(sc:Scope):Ct:={ c with sc:=sc,N:=N',mp:=mpC c.mp n k ix }
structure CF1(X:Cx)(c:Ct)(n k:Nat)(ix:Ac)(N':Ab)(sc:Scope)(t:IT)(tg it:Expr):Prop where
 ca:X.calm=true
 cs:CSc X.env.scope X.N sc N' k ix
 hm:∀ j i:Nat,ix[j]?=some i->∃ m,c.mp[i]?=some m/\m<n
 hg:∀ cl C s2 H2 fp,SG (X.comp N' sc cl C s2 H2 fp) (mpC c.mp n k ix) (·<n) tg t
 hf:∀ x,foldedSetIterable it X.env x=pure x
 en:∀ cl C s2 H2 fp,En (c.inn n k ix N' sc) (X.comp N' sc cl C s2 H2 fp)
def cfk(n k:Nat)(ix:Ac)(N':Ab)(sc:Scope)(t:IT)(tg it:Expr):Ck (En c) λX=>CF1 X c n k ix N' sc t tg it:=ckB (zcQ c.sc c.N sc N' k ix&&decide (mpC c.mp n k ix).Nodup&&ix.all (λi=>okO c.mp[i]? λj=>decide (j<n))&&Zl it&&yP sc N' (mpC c.mp n k ix) n t tg) λh X E=>by
 simp only[xh,x0]at h
 let⟨⟨⟨⟨h3,h4⟩,h5⟩,h6⟩,h8⟩:=h
 let C0:=CSc.of h3
 refine⟨E.T.calm,zig E.S C0,λj i e=>?_,λcl C s2 H2 fp=>yx (XSc.comp C0 cl C s2 H2 fp) C0.nd h4 E.T.calm (λi h=>by lia) t tg h8,Vi h6,λcl C s2 H2 fp=>⟨XSc.comp C0 cl C s2 H2 fp,E.T.comp⟩⟩
 let⟨m,e,h⟩:=KW (xG.mp h5 i (ug e))
 exact⟨m,e,Xf h⟩
end
structure Es(c:Ct)(io:Ac)(np:Nat)(X:Cx):Prop extends En c X where
 po:PassesOwn (model X.prog X.w) X.A X.env X.xe
 nd:X.N.Nodup
 mn:c.mp.Nodup
 io:∀ i∈io,i<np
structure Lk1(X:Cx)(mp:Ac)(s i:Nat)(x:Str):Prop where
 hi:X.N[s]?=some x
 hm:mp[s]?=some i
 hx:Loc X.env.scope x
 hf:X.fn x=true∨X.env.scope.names.lookup x=some .local
section
variable {c:Ct}{io:Ac}{np:Nat}{A:Cx->Prop}
def up(a:Ck (En c) A):Ck (Es c io np) A:=Option.map (λu=>⟨λX e=>u.1 X e.toEn⟩) a
def lok(s i:Nat)(x:Str):Ck (Es c io np) λX=>Lk1 X c.mp s i x:=ckB (decide (c.N[s]?=some x)&&decide (c.mp[s]?=some i)&&ziI c.sc x) λh X E=>by
 simp only[xh,x0]at h
 let⟨l1,l2⟩:=ziJ E.S h.2
 exact⟨by rw[E.S.hN];exact h.1.1,h.1.2,l1,l2⟩
def tgk(t:IT)(e:Expr):Ck (Es c io np) λX=>SG X c.mp (·∈io) e t:=ckB (yP c.sc c.N c.mp np t e) λh X E=>yx E.S (by rw[<- E.S.hN];exact E.nd) E.mn E.T.calm (λi hi hm=>absurd (E.io i hm) (by lia)) t _ h
end
noncomputable abbrev RE(c:Ct)(e:Expr)(p:EM FV×EM Bool):Type:=Ck (En c) λX=>SE X c.mp e p.1/\ST X c.mp e p.2
def AsC(c:Ct)(X:Cx)(e:Expr)(f:EM OV):Prop:=∀{io np s i x p q},Es c io np X->Lk1 X c.mp s i x->SS X c.mp io (.Assign [.Name x p] e q) (sAsg io i f)
end
@[reducible] noncomputable def vT(f:EM FV):EM FV×EM Bool:=(f,fTru f)
@[simp] theorem vT_1:(vT f).1=f:=rfl
@[simp] theorem vT_2:(vT f).2=fTru f:=rfl
structure IE where
 ev:CF->EM FV×EM Bool
 rd:∀[Cs](c:Ct)(e:Expr),RE c e (ev c.cf)
 rc:∀[Cs](c:Ct)(e:Expr),Ck (En c) λX=>AsC c X e (fD (ev c.cf).1):=λ_ _=>none
structure IL where
 ev:CF->EM (List FV)
 rd:∀[Cs](c:Ct)(es:Ag),Ck (En c) λX=>SL X c.mp es (ev c.cf)
structure IA where
 ev:CF->EM (List AV)
 rd:∀[Cs](c:Ct)(es:Ag),Ck (En c) λX=>SA X c.mp es (ev c.cf)
 z:Option (PLift (∀ cf,ev cf=aNil)):=none
structure IN where
 ev:CF->EM (Aa)
 rd:∀[Cs](c:Ct)(e:Expr),Ck (En c) λX=>SN X c.mp e (ev c.cf)
 rc:∀[Cs](c:Ct)(e:Expr),Ck (En c) λX=>∀ f,SO X c.mp e f->(∀ t,SNt c.mp t (ev c.cf)->SOt c.mp t f)->AsC c X e f:=λ_ _=>none
structure IP where
 ev:CF->EM (Option Int)
 rd:∀[Cs](c:Ct)(o:Option Expr),Ck (En c) λX=>SOp X c.mp o (ev c.cf)
structure II where
 ev:CF->EM (Aa)
 rd:∀[Cs](c:Ct)(tg e:Expr),Ck (En c) λX=>SI X c.mp tg e (ev c.cf)
structure IC where
 ev:CF->EM Bool
 rd:∀[Cs](c:Ct)(es:Ag),Ck (En c) λX=>SF X c.mp es (ev c.cf)
structure IO where
 ev:CF->EM OV
 rd:∀[Cs](c:Ct)(e:Expr),Ck (En c) λX=>SO X c.mp e (ev c.cf)
 rc:∀[Cs](c:Ct)(e:Expr),Ck (En c) λX=>AsC c X e (ev c.cf):=λ_ _=>none
structure IM where
 ev:CF->EM (Ad)
 rd:∀[Cs](c:Ct)(e:Expr),Ck (En c) λX=>SD X c.mp e (ev c.cf)
 rc:∀[Cs](c:Ct)(e:Expr),Ck (En c) λX=>∀ f,SO X c.mp e f->(∀ t,SDt c.mp t (ev c.cf)->SOt c.mp t f)->AsC c X e f:=λ_ _=>none
structure IG where
 ev:CF->EM (Aa×Option (Option Nat))
 rd:∀[Cs](c:Ct)(tg e:Expr),Ck (En c) λX=>SIw X c.mp tg e (ev c.cf)
 st:Option {b:II // ∀ cf,ev cf=fStd (b.ev cf)}:=none
def IE.x(s i:Nat):IE where
 ev _:=vT (fVar i)
 rd _ e:=qS e λx p=>ck1 (nmk s i x) λX _ n=>qQ (zjv n.hN n.hv n.hm n.hd n.hcd) rfl
@[simp] theorem zdp:(IE.x s i).ev cf=vT (fVar i):=rfl
def IE.frz(s i:Nat):IE where
 ev _:=vT (fFrz i)
 rd _ e:=qS e λx p=>ck1 (nmk s i x) λX _ n=>qQ (zjn n.hN n.hv n.hm n.hd n.hcd) rfl
@[simp] theorem zdc:(IE.frz s i).ev cf=vT (fFrz i):=rfl
def IE.k(i:Int):IE where
 ev _:=vT (fC (.int i))
 rd _ e:=zci e λz j p=>zjV z λi'=>dq i i' (ck0 λX _=>qQ zjo rfl)
@[simp] theorem zaR:(IE.k i).ev cf=vT (fC (.int i)):=rfl
def IE.q(i:Str):IE where
 ev _:=vT (fC (.str i))
 rd _ e:=zci e λz j p=>zlg z λi'=>dq i i' (ck0 λX _=>qQ zjt rfl)
@[simp] theorem zaS:(IE.q i).ev cf=vT (fC (.str i)):=rfl
def IE.b(i:Bool):IE where
 ev _:=vT (fC (.bool i))
 rd _ e:=zci e λz j p=>vBoo z λi'=>dq i i' (ck0 λX _=>qQ zgS rfl)
@[simp] theorem kE:(IE.b i).ev cf=vT (fC (.bool i)):=rfl
def IE.j(x:Str)(i:Int):IE where
 ev _:=vT (fC (.int i))
 rd c e:=qS e λy p=>dq x y (ck2 (glk x) (tt (c.W.gi.contains (x,i))) λX E g h=>qQ (zgY g.1 (E.T.gi x i h) g.2) rfl)
@[simp] theorem za0:(IE.j x i).ev cf=vT (fC (.int i)):=rfl
def IE.gstr(x i:Str):IE where
 ev _:=vT (fC (.str i))
 rd c e:=qS e λy p=>dq x y (ck2 (glk x) (tt (c.W.gs.contains (x,i))) λX E g h=>qQ (zgZ g.1 (E.T.gs x i h) g.2) rfl)
@[simp] theorem za1:(IE.gstr x i).ev cf=vT (fC (.str i)):=rfl
def IE.tup(a:IL):IE where
 ev cf:=vT (fTup (a.ev cf))
 rd c e:=zcj e λes j p=>ck1 (a.rd c es) λX _ h=>qQ (zju h) rfl
@[simp] theorem zdo:(IE.tup a).ev cf=vT (fTup (a.ev cf)):=rfl
def IE.new(n:IN):IE where
 ev cf:=vT (fNew (n.ev cf))
 rd c e:=ck2 (tt (yo e)) (n.rd c e) λX _ hp h=>qQ (SN.se h) hp
 rc:=λc e=>ck2 (n.rd c e) (n.rc c e) λX _ u r=>r _ (SN.se u).so λ_ h=>h.sd
@[simp] theorem zdk:(IE.new n).ev cf=vT (fNew (n.ev cf)):=rfl
def IE.n(op:Operator)(a b:IE):IE where
 ev cf:=vT (fBin (binD op) (a.ev cf).1 (b.ev cf).1)
 rd c e:=zjU e λx o y p=>dq op o (ck2 (a.rd c x) (b.rd c y) λX _ u v=>qQ (zjl (zh8 op) u.1 v.1) rfl)
@[simp] theorem zc8:(IE.n op a b).ev cf=vT (fBin (binD op) (a.ev cf).1 (b.ev cf).1):=rfl
def IE.p(op:CmpOp)(a b:IE):IE where
 ev cf:=(fB (fCmp (cmpD op) (a.ev cf).1 (b.ev cf).1),fCmp (cmpD op) (a.ev cf).1 (b.ev cf).1)
 rd c e:=zhE e op λx y p=>ck3 (tt (Zl y)) (a.rd c x) (b.rd c y) λX E h u v=>⟨yu (Jt (Room.at1 E.T) op) u.1 v.1 (jg op h),yz (Jt (Room.at1 E.T) op) u.1 v.1 (jg op h)⟩
@[simp] theorem zc9:(IE.p op a b).ev cf=(fB (fCmp (cmpD op) (a.ev cf).1 (b.ev cf).1),fCmp (cmpD op) (a.ev cf).1 (b.ev cf).1):=rfl
def IE.h(op op':CmpOp)(a b d:IE):IE where
 ev cf:=(fB (fChain (cmpD op) (cmpD op') (a.ev cf).1 (b.ev cf).1 (d.ev cf).1),fChain (cmpD op) (cmpD op') (a.ev cf).1 (b.ev cf).1 (d.ev cf).1)
 rd c e:=zlf e λx os ys p=>v2 os λo o'=>v2 ys λy z=>dq op o (dq op' o' (ck4 (tt (Zl z)) (a.rd c x) (b.rd c y) (d.rd c z) λX E h u v w=>⟨zeP (Jt (Room.at1 E.T) op) (Jt (Room.at1 E.T) op') u.1 v.1 w.1 (Vm op op' h),ze9 (Jt (Room.at1 E.T) op) (Jt (Room.at1 E.T) op') u.1 v.1 w.1 (Vm op op' h)⟩))
@[simp] theorem kF:(IE.h op op' a b d).ev cf=(fB (fChain (cmpD op) (cmpD op') (a.ev cf).1 (b.ev cf).1 (d.ev cf).1),fChain (cmpD op) (cmpD op') (a.ev cf).1 (b.ev cf).1 (d.ev cf).1):=rfl
def IE.not(a:IE):IE where
 ev cf:=(fB (fNotT (fTru (a.ev cf).1)),fNotT (a.ev cf).2)
 rd c e:=vUn e λo x p=>dq .Not o (ck1 (a.rd c x) λX _ u=>⟨zjr u.1,zjM u.2⟩)
@[simp] theorem zdl:(IE.not a).ev cf=(fB (fNotT (fTru (a.ev cf).1)),fNotT (a.ev cf).2):=rfl
def IE.neg(a:IE):IE where
 ev cf:=vT (f1 gNeg (a.ev cf).1)
 rd c e:=vUn e λo x p=>dq .USub o (ck1 (a.rd c x) λX _ u=>qQ (zjq u.1) rfl)
@[simp] theorem zdj:(IE.neg a).ev cf=vT (f1 gNeg (a.ev cf).1):=rfl
def IE.and(a b:IE):IE where
 ev cf:=(fAndV (a.ev cf).1 (b.ev cf).1,fAndT (a.ev cf).2 (b.ev cf).2)
 rd c e:=zld e .And (λx y p=>ck2 (a.rd c x) (b.rd c y) λX _ u v=>⟨zeO u.1 (zeS v.1),(zfe u.2 (zhv v.2)).st⟩) λx y w r p=>ck2 (a.rd c x) (b.rd c (.BoolOp .And (y::w::r) p)) λX _ u v=>⟨zeO u.1 v.1,(zfe u.2 (YD v.2)).st⟩
@[simp] theorem zc6:(IE.and a b).ev cf=(fAndV (a.ev cf).1 (b.ev cf).1,fAndT (a.ev cf).2 (b.ev cf).2):=rfl
def IE.or(a b:IE):IE where
 ev cf:=(fOrV (a.ev cf).1 (b.ev cf).1,fOrT (a.ev cf).2 (b.ev cf).2)
 rd c e:=zld e .Or (λx y p=>ck2 (a.rd c x) (b.rd c y) λX _ u v=>⟨zhV u.1 (zeS v.1),(zhW u.2 (zhw v.2)).st⟩) λx y w r p=>ck2 (a.rd c x) (b.rd c (.BoolOp .Or (y::w::r) p)) λX _ u v=>⟨zhV u.1 v.1,(zhW u.2 (YD v.2)).st⟩
@[simp] theorem zf1:(IE.or a b).ev cf=(fOrV (a.ev cf).1 (b.ev cf).1,fOrT (a.ev cf).2 (b.ev cf).2):=rfl
def IE.f(d a b:IE):IE where
 ev cf:=(fIf (d.ev cf).2 (a.ev cf).1 (b.ev cf).1,fNo)
 rd c e:=vIf e λz x y p=>ck3 (d.rd c z) (a.rd c x) (b.rd c y) λX _ w u v=>⟨zkR w.2 u.1 v.1,zfa⟩
@[simp] theorem zdf:(IE.f d a b).ev cf=(fIf (d.ev cf).2 (a.ev cf).1 (b.ev cf).1,fNo):=rfl
def IE.ix(a b:IE):IE where
 ev cf:=vT (fIx (a.ev cf).1 (b.ev cf).1)
 rd c e:=yC e λx y p=>ck3 (tt (jN y)) (a.rd c x) (b.rd c y) λX _ h u v=>qQ (zkS u.1 v.1 (WV h)) rfl
@[simp] theorem zf0:(IE.ix a b).ev cf=vT (fIx (a.ev cf).1 (b.ev cf).1):=rfl
def IE.len(a:IE):IE where
 ev cf:=vT (f1 gLen (a.ev cf).1)
 rd c e:=vF1 e λf p x q=>ck3 (bik f "len" Zz) (tt (zO x)) (a.rd c x) λX _ B h u=>qQ (K9 zif B.1 u.1 (zR h)) rfl
@[simp] theorem zdg:(IE.len a).ev cf=vT (f1 gLen (a.ev cf).1):=rfl
def IE.int(a:IE):IE where
 ev cf:=vT (f1 gInt (a.ev cf).1)
 rd c e:=vF1 e λf p x q=>ck3 (bik f "int" v8) (tt (zO x)) (a.rd c x) λX _ B h u=>qQ (zkU zie B.1 u.1 (zR h)) rfl
@[simp] theorem zdd:(IE.int a).ev cf=vT (f1 gInt (a.ev cf).1):=rfl
def IE.all(a:IE):IE where
 ev cf:=vT (f1 gAll (a.ev cf).1)
 rd c e:=vF1 e λf p x q=>ck3 (bik f "all" zaq) (tt (zO x)) (a.rd c x) λX E B h u=>qQ (K9 (zic E.T.calm) B.1 u.1 (zR h)) rfl
@[simp] theorem zc5:(IE.all a).ev cf=vT (f1 gAll (a.ev cf).1):=rfl
def IE.any(a:IE):IE where
 ev cf:=vT (f1 gAny (a.ev cf).1)
 rd c e:=vF1 e λf p x q=>ck3 (bik f "any" zar) (tt (zO x)) (a.rd c x) λX E B h u=>qQ (K9 (zid E.T.calm) B.1 u.1 (zR h)) rfl
@[simp] theorem zc7:(IE.any a).ev cf=vT (f1 gAny (a.ev cf).1):=rfl
def IE.tuple(a:IE):IE where
 ev cf:=vT (fTupC (a.ev cf).1)
 rd c e:=vF1 e λf p x q=>ck3 (bik f "tuple" JR) (tt (zO x)) (a.rd c x) λX E B h u=>qQ (zeT B.1 u.1 (zR h)) rfl
@[simp] theorem kI:(IE.tuple a).ev cf=vT (fTupC (a.ev cf).1):=rfl
def IE.i(T:String)(a:IE):IE where
 ev cf:=vT (fIsi T (a.ev cf).1)
 rd c e:=vF2 e λf p x y q=>qS y λz p2=>Option.bind (isT T) λhT=>ck4 (bik f "isinstance" zas) (bik z (Str.ofString T) hT.1) (tt (zO x)) (a.rd c x) λX E B D h u=>qQ (zjp B.1 D.1 u.1 (zR h)) rfl
@[simp] theorem zde:(IE.i T a).ev cf=vT (fIsi T (a.ev cf).1):=rfl
def IE.min(a b:IE):IE where
 ev cf:=vT (f2 gMin (a.ev cf).1 (b.ev cf).1)
 rd c e:=vF2 e λf p x y q=>ck4 (bik f "min" zau) (tt (zO x&&zO y)) (a.rd c x) (b.rd c y) λX E B h u v=>qQ (zg3 E.T.calm B.1 u.1 v.1 (zR (xM.mp h).1) (zR (xM.mp h).2)) rfl
@[simp] theorem zdi:(IE.min a b).ev cf=vT (f2 gMin (a.ev cf).1 (b.ev cf).1):=rfl
def IE.max(a b:IE):IE where
 ev cf:=vT (f2 gMax (a.ev cf).1 (b.ev cf).1)
 rd c e:=vF2 e λf p x y q=>ck4 (bik f "max" zat) (tt (zO x&&zO y)) (a.rd c x) (b.rd c y) λX E B h u v=>qQ (zg2 E.T.calm B.1 u.1 v.1 (zR (xM.mp h).1) (zR (xM.mp h).2)) rfl
@[simp] theorem zdh:(IE.max a b).ev cf=vT (f2 gMax (a.ev cf).1 (b.ev cf).1):=rfl
def IE.cutT(a:IE)(l1 h1:IP):IE where
 ev cf:=vT (KK (a.ev cf).1 (l1.ev cf) (h1.ev cf))
 rd c e:=zlh e λx l u p q=>ck3 (a.rd c x) (l1.rd c l) (h1.rd c u) λX _ u v w=>qQ (zgT u.1 v w) rfl
@[simp] theorem zaT:(IE.cutT a l1 h1).ev cf=vT (KK (a.ev cf).1 (l1.ev cf) (h1.ev cf)):=rfl
def IE.call(o:IO):IE where
 ev cf:=vT (fOD (o.ev cf))
 rd c e:=ck2 (tt (yo e)) (o.rd c e) λX _ hp h=>qQ h.se hp
@[simp] theorem zaQ:(IE.call o).ev cf=vT (fOD (o.ev cf)):=rfl
def IE.lset(a:IE):IE where
 ev cf:=vT (Wr (a.ev cf).1)
 rd c e:=vF1 e λf p1 z q1=>vF1 z λg p2 y q2=>ck4 (bik f "len" Zz) (bik g "set" Jr) (tt (zO y)) (a.rd c y) λX E B D h u=>by
  let⟨B,rfl⟩:=B
  let⟨D,rfl⟩:=D
  erw[qQ (zg1 E.T.calm B.gl B.mg D.gl D.mg u.1 (zR h)) rfl]
@[simp] theorem za3:(IE.lset a).ev cf=vT (Wr (a.ev cf).1):=rfl
def IE.lsetS(a:IE):IE where
 ev cf:=vT (Jz (a.ev cf).1)
 rd c e:=vF1 e λf p1 z q1=>vF1 z λg p2 y q2=>ck4 (bik f "len" Zz) (bik g "set" Jr) (tt (zO y)) (a.rd c y) λX E B D h u=>by
  let⟨B,rfl⟩:=B
  let⟨D,rfl⟩:=D
  erw[qQ (zeR E.T.calm B.gl B.mg D.gl D.mg u.1 (zR h)) rfl]
@[simp] theorem kH:(IE.lsetS a).ev cf=vT (Jz (a.ev cf).1):=rfl
def IE.sin(a b:IE):IE where
 ev cf:=(fB (fCmp y9 (a.ev cf).1 (b.ev cf).1),fCmp y9 (a.ev cf).1 (b.ev cf).1)
 rd c e:=zhE e .In λx y p=>ck3 (tt (Zl y)) (a.rd c x) (b.rd c y) λX E h u v=>⟨yu zeZ u.1 v.1 (jg .In h),yz zeZ u.1 v.1 (jg .In h)⟩
@[simp] theorem zdm:(IE.sin a b).ev cf=(fB (fCmp y9 (a.ev cf).1 (b.ev cf).1),fCmp y9 (a.ev cf).1 (b.ev cf).1):=rfl
def IE.slen(a:IE):IE where
 ev cf:=vT (f1 JT (a.ev cf).1)
 rd c e:=vF1 e λf p x q=>ck3 (bik f "len" Zz) (tt (zO x)) (a.rd c x) λX _ B h u=>qQ (K9 zfS B.1 u.1 (zR h)) rfl
@[simp] theorem za5:(IE.slen a).ev cf=vT (f1 JT (a.ev cf).1):=rfl
def IE.join(z:Str)(a:IE):IE where
 ev cf:=vT (f1 (Wt z) (a.ev cf).1)
 rd c e:=vMo e λo m p2 xs q=>v1 xs λx=>zci o λd j p1=>zlg d λz'=>dq z z' (ck4 (tt (decide (m= "join"))) (tt (zO x)) (tt (p2.endLine==q.line)) (a.rd c x) λX E hm h l u=>qQ (zg0 (Xf hm) u.1 (zR h) l) rfl)
@[simp] theorem za2:(IE.join z a).ev cf=vT (f1 (Wt z) (a.ev cf).1):=rfl
def IE.six(a b:IE):IE where
 ev cf:=vT (zf4 (a.ev cf).1 (b.ev cf).1)
 rd c e:=yC e λx y p=>ck3 (tt (jN y)) (a.rd c x) (b.rd c y) λX _ h u v=>qQ (zjs u.1 v.1 (WV h)) rfl
@[simp] theorem zdn:(IE.six a b).ev cf=vT (zf4 (a.ev cf).1 (b.ev cf).1):=rfl
def IE.g(a b:IE):IE where
 ev cf:=vT (fDget (a.ev cf).1 (b.ev cf).1)
 rd c e:=yC e λx y p=>ck3 (tt (jN y)) (a.rd c x) (b.rd c y) λX E h u v=>qQ (zgU (Ww E.T) u.1 v.1 (zgn h)) rfl
@[simp] theorem zaU:(IE.g a b).ev cf=vT (fDget (a.ev cf).1 (b.ev cf).1):=rfl
def IE.dgd(a b d:IE):IE where
 ev cf:=vT (fDgd (a.ev cf).1 (b.ev cf).1 (d.ev cf).1)
 rd c e:=vMo e λo m p2 xs q=>v2 xs λx y=>dq ("get" :Str) m (ck4 (tt (yn o&&zO x&&zO y&&p2.endLine==q.line)) (a.rd c o) (b.rd c x) (d.rd c y) λX E h u v w=>by
  simp only[xh]at h
  exact qQ (zjm (Ww E.T) u.1 v.1 w.1 ⟨Ql h.1.1.1,by rw[zR h.1.1.2,zR h.1.2];rfl,h.2,by rw[zR h.1.1.2,zR h.1.2];rfl⟩) rfl)
@[simp] theorem zda:(IE.dgd a b d).ev cf=vT (fDgd (a.ev cf).1 (b.ev cf).1 (d.ev cf).1):=rfl
def IE.d(a b:IE):IE where
 ev cf:=(fB (fCmp gDin (a.ev cf).1 (b.ev cf).1),fCmp gDin (a.ev cf).1 (b.ev cf).1)
 rd c e:=zhE e .In λx y p=>ck3 (tt (Zl y)) (a.rd c x) (b.rd c y) λX E h u v=>⟨yu (zcX (Ww E.T)) u.1 v.1 (jg .In h),yz (zcX (Ww E.T)) u.1 v.1 (jg .In h)⟩
@[simp] theorem zdb:(IE.d a b).ev cf=(fB (fCmp gDin (a.ev cf).1 (b.ev cf).1),fCmp gDin (a.ev cf).1 (b.ev cf).1):=rfl
def IE.dnin(a b:IE):IE where
 ev cf:=(fB (fCmp gDnin (a.ev cf).1 (b.ev cf).1),fCmp gDnin (a.ev cf).1 (b.ev cf).1)
 rd c e:=zhE e .NotIn λx y p=>ck3 (tt (Zl y)) (a.rd c x) (b.rd c y) λX E h u v=>⟨yu (KI (Ww E.T)) u.1 v.1 (jg .NotIn h),yz (KI (Ww E.T)) u.1 v.1 (jg .NotIn h)⟩
@[simp] theorem zaV:(IE.dnin a b).ev cf=(fB (fCmp gDnin (a.ev cf).1 (b.ev cf).1),fCmp gDnin (a.ev cf).1 (b.ev cf).1):=rfl
def IE.t(cl f:Str)(a:IE):IE where
 ev cf:=vT (fAttr cl f (a.ev cf).1)
 rd c e:=zjT e λx g p=>dq f g (ck3 (tt (c.W.fk.contains (cl,f))) (tt (yn x)) (a.rd c x) λX E h hb u=>qQ (zgR (E.T.fk _ _ h) u.1 (Ql hb)) rfl)
@[simp] theorem zaP:(IE.t cl f a).ev cf=vT (fAttr cl f (a.ev cf).1):=rfl
def IE.newD(md:IM):IE where
 ev cf:=(fNewD (md.ev cf),fNo)
 rd c e:=ck1 (md.rd c e) λX _ h=>⟨h.se,zfa⟩
 rc:=λc e=>ck2 (md.rd c e) (md.rc c e) λX _ u r=>r _ u.se.so λ_ h=>h.sd
@[simp] theorem za4:(IE.newD md).ev cf=(fNewD (md.ev cf),fNo):=rfl
def IE.fdat(s i:Nat)(cl f:Str):IE where
 ev _:=vT (fFdat i cl f)
 rd _ e:=vFd e f λx p p2=>ck1 (flk s i x cl f) λX _ n=>qQ (zgV n.1 n.2) rfl
@[simp] theorem zaW:(IE.fdat s i cl f).ev cf=vT (fFdat i cl f):=rfl
def IE.flen(s i:Nat)(cl f:Str):IE where
 ev _:=vT (fFlen i cl f)
 rd _ e:=vF1 e λg p3 z q=>vFd z f λx p p2=>ck2 (bik g "len" Zz) (flk s i x cl f) λX _ B n=>qQ (zgX B.1 n.1 n.2) rfl
@[simp] theorem zaY:(IE.flen s i cl f).ev cf=vT (fFlen i cl f):=rfl
def IE.ftru(s i:Nat)(cl f:Str):IE where
 ev _:=(fNoV,fFtru i cl f)
 rd _ e:=vFd e f λx p p2=>ck1 (flk s i x cl f) λX _ n=>⟨zkT,zhs n.1 n.2⟩
@[simp] theorem zaZ:(IE.ftru s i cl f).ev cf=(fNoV,fFtru i cl f):=rfl
def IE.flast(s i:Nat)(cl f:Str):IE where
 ev _:=vT (fFlast i cl f)
 rd _ e:=yC e λz y p=>vFd z f λx p p2=>vUn y λo w p5=>dq .USub o (zci w λd cj p4=>zjV d λj=>dq 1 j (ck1 (flk s i x cl f) λX _ n=>qQ (zeQ n.1 n.2) rfl))
@[simp] theorem kG:(IE.flast s i cl f).ev cf=vT (fFlast i cl f):=rfl
def IE.ffrz(s i:Nat)(cl f:Str):IE where
 ev _:=(fFfrz i cl f,fNo)
 rd _ e:=vFd e f λx p p2=>ck1 (flk s i x cl f) λX _ n=>⟨zgW n.1 n.2,zfa⟩
@[simp] theorem zaX:(IE.ffrz s i cl f).ev cf=(fFfrz i cl f,fNo):=rfl
def IL.nil:IL where
 ev _:=fNil
 rd _ es:=vN es (ck0 λX _=>zjB)
@[simp] theorem zds:(IL.nil).ev cf=fNil:=rfl
def IL.cons(e:IE)(a:IL):IL where
 ev cf:=fCons (e.ev cf).1 (a.ev cf)
 rd c es:=vC es λx xs=>ck3 (tt (zO x)) (e.rd c x) (a.rd c xs) λX _ h u v=>zhb u.1 v (zR h)
@[simp] theorem za9:(IL.cons e a).ev cf=fCons (e.ev cf).1 (a.ev cf):=rfl
def IA.nil:IA where
 ev _:=aNil
 rd _ es:=vN es (ck0 λX _=>zjg)
 z:=some ⟨λ_=>rfl⟩
@[simp] theorem zc0:(IA.nil).ev cf=aNil:=rfl
def IA.cons(e:IE)(a:IA):IA where
 ev cf:=aCons (e.ev cf).1 (a.ev cf)
 rd c es:=vC es λx xs=>ck3 (tt (zO x)) (e.rd c x) (a.rd c xs) λX _ h u v=>zgM u.1 v (zR h)
@[simp] theorem zaL:(IA.cons e a).ev cf=aCons (e.ev cf).1 (a.ev cf):=rfl
def IA.io(s i:Nat)(a:IA):IA where
 ev cf:=aIo i (a.ev cf)
 rd c es:=vC es λx xs=>qS x λy p=>ck2 (nmk s i y) (a.rd c xs) λX _ n v=>zkQ n.hN n.hv n.hm n.hd n.hcd v rfl
@[simp] theorem zfZ:(IA.io s i a).ev cf=aIo i (a.ev cf):=rfl
def IN.lst(a:IL):IN where
 ev cf:=fLst (a.ev cf)
 rd c e:=vLst e λes p=>ck1 (a.rd c es) λX _ h=>zjF h
@[simp] theorem zdx:(IN.lst a).ev cf=fLst (a.ev cf):=rfl
def IN.cut(a:IE)(l1 h1:IP):IN where
 ev cf:=zf3 (a.ev cf).1 (l1.ev cf) (h1.ev cf)
 rd c e:=zlh e λx l u p q=>ck3 (a.rd c x) (l1.rd c l) (h1.rd c u) λX _ u v w=>zjE u.1 v w
@[simp] theorem zdw:(IN.cut a l1 h1).ev cf=zf3 (a.ev cf).1 (l1.ev cf) (h1.ev cf):=rfl
def IN.back(a b:IE):IN where
 ev cf:=KJ (a.ev cf).1 (y7 (b.ev cf).1)
 rd c e:=yC e λx y q=>zlj y λl u s p=>vO l (vO u (vS s λk=>ck2 (a.rd c x) (b.rd c k) λX _ u v=>zhc u.1 (zaa v.1)))
@[simp] theorem zbc:(IN.back a b).ev cf=KJ (a.ev cf).1 (y7 (b.ev cf).1):=rfl
def IN.cat(a b:IE):IN where
 ev cf:=zf2 (a.ev cf).1 (b.ev cf).1
 rd c e:=zjU e λx o y p=>dq .Add o (ck2 (a.rd c x) (b.rd c y) λX _ u v=>zjD u.1 v.1)
@[simp] theorem zdv:(IN.cat a b).ev cf=zf2 (a.ev cf).1 (b.ev cf).1:=rfl
def IN.list(a:IE):IN where
 ev cf:=fListC (a.ev cf).1
 rd c e:=vF1 e λf p x q=>ck3 (bik f "list" ZJ) (tt (zO x)) (a.rd c x) λX _ B h u=>zhe B.1 u.1 (zR h)
@[simp] theorem zbe:(IN.list a).ev cf=fListC (a.ev cf).1:=rfl
def IN.comp(n k:Nat)(ix:Ac)(N':Ab)(t:IT)(src:II)(cd:IC)(el:IE):IN where
 ev cf:=fComp n k t (src.ev cf) (cd.ev cf) (el.ev cf).1
 rd c e:=vLC e λelt tg it ifs sc p=>ck4 (cfk n k ix N' sc t tg it) (src.rd c tg it) (cx (cd.rd (c.inn n k ix N' sc) ifs)) (cx (el.rd (c.inn n k ix N' sc) elt)) λX E F hi hc he=>zhd F.ca F.cs F.hm hi F.hg (λ_ _ _ _ _=>hc _ (F.en ..)) (λ_ _ _ _ _=>(he _ (F.en ..)).1) F.hf
 rc:=λc e=>vLC e λelt tg it ifs sc p=>ck4 (cfk n k ix N' sc t tg it) (src.rd c tg it) (cx (cd.rd (c.inn n k ix N' sc) ifs)) (cx (el.rd (c.inn n k ix N' sc) elt)) λX _ F hi hc he f hs ht io np s i x p q E l=>by
  let⟨bb,hb⟩:=Ko
  cases bb with
  |false=>erw[Kl E.nd l.hi l.hx l.hf E.mn l.hm hs hb]
  |true=>erw[yy (zgI E.nd l.hi l.hx E.T.calm F.cs hb F.hf l.hf) E.mn l.hm (xa.mp l.hi).1 (ht _ (Yz F.cs F.hm hi F.hg (λ_ _ _ _ _=>hc _ (F.en ..)) λ_ _ _ _ _=>(he _ (F.en ..)).1))]
@[simp] theorem zbd:(IN.comp n k ix N' t src cd el).ev cf=fComp n k t (src.ev cf) (cd.ev cf) (el.ev cf).1:=rfl
def IN.lrng(a:IE):IN where
 ev cf:=KM (a.ev cf).1
 rd c e:=vF1 e λf p1 z q1=>vF1 z λg p2 y q2=>ck4 (bik f "list" ZJ) (bik g "range" JQ) (tt (zO y)) (a.rd c y) λX E B D h u=>zhf E.T.calm B.1 D.1 u.1 (zR h)
@[simp] theorem zbf:(IN.lrng a).ev cf=KM (a.ev cf).1:=rfl
def IN.mul(a b:IE):IN where
 ev cf:=fMul (a.ev cf).1 (b.ev cf).1
 rd c e:=zjU e λx o y p=>dq .Mult o (ck2 (a.rd c x) (b.rd c y) λX _ u v=>zjG u.1 v.1)
@[simp] theorem zdy:(IN.mul a b).ev cf=fMul (a.ev cf).1 (b.ev cf).1:=rfl
def IN.sortD(a:IE):IN where
 ev cf:=fSortD (a.ev cf).1
 rd c e:=vF1 e λf p x q=>ck3 (bik f "sorted" VN) (tt (zO x)) (a.rd c x) λX E B h u=>ze1 E.T.calm B.1 u.1 (zR h)
@[simp] theorem kO:(IN.sortD a).ev cf=fSortD (a.ev cf).1:=rfl
def IP.non:IP where
 ev _:=zdN
 rd _ o:=vO o (ck0 λX _=>zhk)
@[simp] theorem zdB:(IP.non).ev cf=zdN:=rfl
def IP.one(a:IE):IP where
 ev cf:=y7 (a.ev cf).1
 rd c o:=vS o λx=>ck1 (a.rd c x) λX _ u=>zaa u.1
@[simp] theorem zdC:(IP.one a).ev cf=y7 (a.ev cf).1:=rfl
def II.list(a:IE):II where
 ev cf:=fSeqL (a.ev cf).1
 rd c tg e:=ck1 (a.rd c e) λX _ u=>zg9 u.1
@[simp] theorem za8:(II.list a).ev cf=fSeqL (a.ev cf).1:=rfl
def II.tup(a:IE):II where
 ev cf:=fSeqT (a.ev cf).1
 rd c tg e:=ck1 (a.rd c e) λX _ u=>zjz u.1
@[simp] theorem zdr:(II.tup a).ev cf=fSeqT (a.ev cf).1:=rfl
def II.range(a:IE):II where
 ev cf:=fRange (a.ev cf).1
 rd c tg e:=vF1 e λf p x q=>ck3 (bik f "range" JQ) (tt (zO x)) (a.rd c x) λX _ B h u=>zeY B.1 B.2 u.1 (zR h)
@[simp] theorem kM:(II.range a).ev cf=fRange (a.ev cf).1:=rfl
def II.enum(a:IE):II where
 ev cf:=fEnum (a.ev cf).1
 rd c tg e:=vF1 e λf p x q=>zcj tg λes x1 pt=>ck3 (bik f "enumerate" L2.boot_enumW) (tt (zO x)) (a.rd c x) λX _ B h u=>zg8 B.1 B.2 u.1 (zR h)
@[simp] theorem za7:(II.enum a).ev cf=fEnum (a.ev cf).1:=rfl
def II.chars(a:IE):II where
 ev cf:=QI (a.ev cf).1
 rd c tg e:=ck1 (a.rd c e) λX _ u=>zeX u.1
@[simp] theorem kL:(II.chars a).ev cf=QI (a.ev cf).1:=rfl
def IC.yes:IC where
 ev _:=fYes
 rd _ es:=vN es (ck0 λX _=>zjw)
@[simp] theorem zc4:(IC.yes).ev cf=fYes:=rfl
def IC.one(a:IE):IC where
 ev cf:=(a.ev cf).2
 rd c es:=v1 es λx=>ck1 (a.rd c x) λX _ u=>zjx u.2
@[simp] theorem zc3:(IC.one a).ev cf=(a.ev cf).2:=rfl
def IO.dat(a:IE):IO where
 ev cf:=fD (a.ev cf).1
 rd c e:=ck1 (a.rd c e) λX _ u=>u.1.so
 rc:=a.rc
@[simp] theorem zdz:(IO.dat a).ev cf=fD (a.ev cf).1:=rfl
def IO.own(n:IN):IO where
 ev cf:=fOwn (n.ev cf)
 rd c e:=ck1 (n.rd c e) λX _ u=>u.so
 rc:=λc e=>ck2 (n.rd c e) (n.rc c e) λX _ u r=>r _ u.so λ_ h=>h.so
@[simp] theorem zdA:(IO.own n).ev cf=fOwn (n.ev cf):=rfl
def IO.call(g:Str)(n:Nat)(a:IA):IO where
 ev cf:=fCall (cf g) (a.ev cf)
 rd c e:=vFn e λf p xs q=>dq g f (vB xs (Option.bind a.z λz=>ck2 (glk g) (tt (c.W.fl.contains (g,n))) λX E G h=>by
  show SO X _ _ (fCall _ (a.ev _))
  rw[z.1]
  exact ze2 (E.T.fn _ _ h).1 (Room.atk E.T) G.1 (E.T.fn _ _ h).2 G.2) λx xs=>ck4 (glk g) (tt (c.W.fl.contains (g,n))) (tt ((x::xs).all zO)) (a.rd c (x::xs)) λX E G h st u=>by
  rw[xX,xh]at st
  exact zhg (E.T.fn _ _ h).1 (Room.atk E.T) G.1 (E.T.fn _ _ h).2 u G.2 (zR st.1) (jn (Qe st.2)))
@[simp] theorem zbg:(IO.call g n a).ev cf=fCall (cf g) (a.ev cf):=rfl
def IO.move(s i:Nat):IO where
 ev _:=fMove i
 rd _ e:=qS e λx p=>ck1 (nmk s i x) λX _ n=>zhj n.hN n.hv n.hm n.hd n.hcd
@[simp] theorem zbj:(IO.move s i).ev cf=fMove i:=rfl
def IO.ownD(md:IM):IO where
 ev cf:=fOwnD (md.ev cf)
 rd c e:=ck1 (md.rd c e) λX _ u=>u.so
 rc:=λc e=>ck2 (md.rd c e) (md.rc c e) λX _ u r=>r _ u.so λ_ h=>h.so
@[simp] theorem zbk:(IO.ownD md).ev cf=fOwnD (md.ev cf):=rfl
def IO.make(cl q:Str)(n:Nat)(a:IA):IO where
 ev cf:=fMake cl (cf q) (a.ev cf)
 rd c e:=vFn e λf p xs q'=>dq cl f (vC xs λx xs=>ck4 (glk cl) (tt (c.W.mc.contains (cl,q,n))) (tt ((x::xs).all zO)) (a.rd c (x::xs)) λX E G h st u=>by
  let⟨hm,⟨j,hj,kn⟩,hrun⟩:=E.T.mc _ _ _ h
  rw[xX,xh]at st
  exact zhh kn (E.T.rm.mono hj) G.1 hm hrun u G.2 (zR st.1) (jn (Qe st.2)))
@[simp] theorem zbh:(IO.make cl q n a).ev cf=fMake cl (cf q) (a.ev cf):=rfl
def IO.m(s i:Nat)(cl me q:Str)(n:Nat)(a:IA):IO where
 ev cf:=fMeth i cl me (cf q) (a.ev cf)
 rd c e:=vMo e λo g p2 xs p=>qS o λx px=>dq me g (vB xs (Option.bind a.z λz=>ck3 (nmk s i x) (tt (c.W.ml.contains (cl,me,q,n))) (tt (p2.endLine==p.line)) λX E nm h l=>by
  show SO X _ _ (fMeth i cl me _ (a.ev _))
  rw[z.1]
  exact ze3 (E.T.ml _ _ _ _ h).1 E.T.rm (E.T.ml _ _ _ _ h).2 nm l) λy ys=>ck4 (nmk s i x) (tt (c.W.ml.contains (cl,me,q,n))) (tt ((p2.endLine==p.line)&&((y::ys).all zO&&decide ((y::ys).length<20)))) (a.rd c (y::ys)) λX E nm h l u=>by
  simp only[xh,x0]at l
  let st:=l.2.1
  rw[xX,xh]at st
  exact zhi (E.T.ml _ _ _ _ h).1 E.T.rm (E.T.ml _ _ _ _ h).2 nm u (zR st.1) (jn (Qe st.2)) (zf7 l.2.1 l.2.2) l.1)
@[simp] theorem zbi:(IO.m s i cl me q n a).ev cf=fMeth i cl me (cf q) (a.ev cf):=rfl
def IM.nil:IM where
 ev _:=fDnil
 rd _ e:=vDi e λks vs p=>vN ks (vN vs (ck0 λX _=>zjj))
@[simp] theorem zdt:(IM.nil).ev cf=fDnil:=rfl
def IM.one(a b:IE):IM where
 ev cf:=fDone (a.ev cf).1 (b.ev cf).1
 rd c e:=vDi e λks vs p=>v1 ks λk=>vS k λx=>v1 vs λy=>ck2 (a.rd c x) (b.rd c y) λX _ u v=>zjk u.1 v.1
@[simp] theorem zdu:(IM.one a b).ev cf=fDone (a.ev cf).1 (b.ev cf).1:=rfl
def IM.copy(a:IE):IM where
 ev cf:=fDcopy (a.ev cf).1
 rd c e:=vF1 e λf p x q=>ck3 (bik f "dict" Y9) (tt (zO x)) (a.rd c x) λX _ B h u=>zgQ B.1 u.1 (zR h)
@[simp] theorem zbb:(IM.copy a).ev cf=fDcopy (a.ev cf).1:=rfl
def IM.comp(n k:Nat)(ix:Ac)(N':Ab)(t:IT)(src:IG)(cd:IC)(ek vv:IE):IM where
 ev cf:=fCompD n k t (src.ev cf) (cd.ev cf) (ek.ev cf).1 (vv.ev cf).1
 rd c e:=vDC e λkx vx tg it ifs sc p=>ck4 (cfk n k ix N' sc t tg it) (src.rd c tg it) (cx (cd.rd (c.inn n k ix N' sc) ifs)) (ck2 (cx (ek.rd (c.inn n k ix N' sc) kx)) (cx (vv.rd (c.inn n k ix N' sc) vx)) λX _ u v=>And.intro u v) λX E F hi hc he=>zgP F.ca F.cs F.hm hi F.hg (λ_ _ _ _ _=>hc _ (F.en ..)) (λ_ _ _ _ _=>(he.1 _ (F.en ..)).1) (λ_ _ _ _ _=>(he.2 _ (F.en ..)).1) F.hf
 rc:=λc e=>vDC e λkx vx tg it ifs sc p=>Option.bind src.st λz=>ck4 (cfk n k ix N' sc t tg it) (z.1.rd c tg it) (cx (cd.rd (c.inn n k ix N' sc) ifs)) (ck2 (cx (ek.rd (c.inn n k ix N' sc) kx)) (cx (vv.rd (c.inn n k ix N' sc) vx)) λX _ u v=>And.intro u v) λX _ F hi hc he f hs ht io np s i x p q E l=>by
  let⟨bb,hb⟩:=YE
  cases bb with
  |false=>erw[Kl E.nd l.hi l.hx l.hf E.mn l.hm hs hb]
  |true=>
   erw[yy (zeI E.nd l.hi l.hx E.T.calm F.cs hb F.hf l.hf) E.mn l.hm (xa.mp l.hi).1 (ht _ ?_)]
   rw[z.2]
   erw[zeN F.cs F.hm hi F.hg (λ_ _ _ _ _=>hc _ (F.en ..)) (λ_ _ _ _ _=>(he.1 _ (F.en ..)).1) λ_ _ _ _ _=>(he.2 _ (F.en ..)).1]
@[simp] theorem zba:(IM.comp n k ix N' t src cd ek vv).ev cf=fCompD n k t (src.ev cf) (cd.ev cf) (ek.ev cf).1 (vv.ev cf).1:=rfl
def IG.std(b:II):IG where
 ev cf:=fStd (b.ev cf)
 rd c tg e:=ck1 (b.rd c tg e) λX _ u=>zha u
 st:=some ⟨b,λ_=>rfl⟩
@[simp] theorem zdq:(IG.std b).ev cf=fStd (b.ev cf):=rfl
def IG.items(a:IE):IG where
 ev cf:=fItems (a.ev cf).1
 rd c tg e:=vMo e λo g p2 xs p=>vN xs (dq ("items" :Str) g (zcj tg λes x1 pt=>ck3 (tt (yn o)) (tt (p2.endLine==p.line)) (a.rd c o) λX _ h l u=>zb8 ⟨_,_,_,rfl⟩ u.1 (Ql h) l))
@[simp] theorem kJ:(IG.items a).ev cf=fItems (a.ev cf).1:=rfl
def IG.keys(a:IE):IG where
 ev cf:=fKeys (a.ev cf).1
 rd c tg e:=ck1 (a.rd c e) λX _ u=>ze0 u.1
@[simp] theorem za6:(IG.keys a).ev cf=fKeys (a.ev cf).1:=rfl
section
variable {Q:Stmt->Type}[∀ e,Inhabited (Q e)](e:Stmt)
@[elab_as_elim] noncomputable def zli(k:∀ x p,Q (.Return x p)):Q e:=vw (Stmt.Return.elim e · k)
@[elab_as_elim] noncomputable def vAsg(k:∀ ts x p,Q (.Assign ts x p)):Q e:=vw (Stmt.Assign.elim e · k)
@[elab_as_elim] noncomputable def vFor(k:∀ t x b o p,Q (.For t x b o p)):Q e:=vw (Stmt.For.elim e · k)
@[elab_as_elim] noncomputable def vIfS(k:∀ x a b p,Q (.If x a b p)):Q e:=vw (Stmt.If.elim e · k)
@[elab_as_elim] noncomputable def vEx(k:∀ x p,Q (.Expr x p)):Q e:=vw (Stmt.Expr.elim e · k)
@[elab_as_elim] noncomputable def vAs(k:∀ t x p,Q (.Assign [t] x p)):Q e:=vAsg e λts x p=>v1 ts λt=>k t x p
@[elab_as_elim] noncomputable def vMs(k:∀ o m p2 xs q p,Q (.Expr (.Call (.Attribute o m p2) xs [] q) p)):Q e:=vEx e λy p=>vMo y λo m p2 xs q=>k o m p2 xs q p
@[elab_as_elim] noncomputable def vM1(m:Str)(k:∀ o p2 a q p,Q (.Expr (.Call (.Attribute o m p2) [a] [] q) p)):Q e:=vMs e λo g p2 xs q p=>dq m g (v1 xs λa=>k o p2 a q p)
end
section
variable {c:Ct}{io:Ac}{np:Nat}
def wk(w:IW)(e:Expr):Ck (Es c io np) λX=>WOk X c.mp e w:=match w with
 |.v s i=>qS e λx p=>ck1 (up (nmk s i x)) λX _ n=>zlm n
 |.c n=>zci e λz j p=>zjV z λi=>dq n i (ck0 λX _=>zll)
def zk(w:IZ)(e:Expr):Ck (Es c io np) λX=>ZOk X c.mp e w:=match w with
 |.w w=>ck1 (wk w e) λX _ h=>zlo h
 |.p a b=>zcj e λes n p=>v2 es λx y=>ck3 (tt (zO x&&zO y)) (wk a x) (wk b y) λX _ h u v=>zln u v (zR (xM.mp h).1) (zR (xM.mp h).2)
end
noncomputable abbrev RS1(c:Ct)(io:Ac)(np:Nat)(st:Stmt)(f:SM):Type:=Ck (Es c io np) λX=>SS X c.mp io st f
def asgk(s i:Nat)(o:IO)(c:Ct)(io:Ac)(np:Nat)(x:Str)(p:Pos)(e:Expr)(q:Pos):RS1 c io np (.Assign [.Name x p] e q) (sAsg io i (o.ev c.cf)) :=
 Option.or (ck3 (tt (wG e)) (lok s i x) (up (o.rd c e)) λX E h l u=>Kl E.nd l.hi l.hx l.hf E.mn l.hm u (zcd h)) (ck2 (lok s i x) (up (o.rc c e)) λX E l r=>r E l)
structure IS where
 ex:CF->Ac->SM
 rd:∀[Cs](c:Ct)(io:Ac)(np:Nat)(st:Stmt),RS1 c io np st (ex c.cf io)
structure IB where
 ex:CF->Ac->SM
 rd:∀[Cs](c:Ct)(io:Ac)(np:Nat)(l:List Stmt),Ck (Es c io np) λX=>SB X c.mp io l (ex c.cf io)
 nl:Bool:=false
def IS.bad:IS where
 ex _ _:=zje
 rd _ _ _ st:=ck0 λX _=>ze8
@[simp] theorem zdF:(IS.bad).ex cf io=zje:=rfl
def IS.a(s i:Nat)(o:IO):IS where
 ex cf io:=sAsg io i (o.ev cf)
 rd c io np st:=vAs st λt e q=>qS t λx p=>asgk s i o c io np x p e q
@[simp] theorem zdE:(IS.a s i o).ex cf io=sAsg io i (o.ev cf):=rfl
def IS.t(t:IT)(e:IE):IS where
 ex cf _:=sAsgT t (e.ev cf).1
 rd c io np st:=vAs st λtx x q=>zcj tx λts n p=>ck3 (tt (jp x)) (tgk t (.Tuple ts n p)) (up (e.rd c x)) λX E h g u=>ze7 u.1 g (QT h) (Qf h) (Kg zC ym (QT h) (Qf h))
@[simp] theorem zbl:(IS.t t e).ex cf io=sAsgT t (e.ev cf).1:=rfl
def IS.e(a:IE):IS where
 ex cf _:=sExpr (a.ev cf).1
 rd c io np st:=vEx st λx p=>ck2 (tt (jp x)) (up (a.rd c x)) λX E h u=>zho u.1 (vc h)
@[simp] theorem zbp:(IS.e a).ex cf io=sExpr (a.ev cf).1:=rfl
def IS.f(d:IE)(a b:IB):IS where
 ex cf io:=sIf (d.ev cf).2 (a.ex cf io) (b.ex cf io)
 rd c io np st:=vIfS st λx xs ys p=>ck3 (up (d.rd c x)) (a.rd c io np xs) (b.rd c io np ys) λX E u v w=>zkW u.2 v w
@[simp] theorem zdH:(IS.f d a b).ex cf io=sIf (d.ev cf).2 (a.ex cf io) (b.ex cf io):=rfl
def IS.loop(t:IT)(src:II)(b:IB):IS where
 ex cf io:=sFor t (src.ev cf) (b.ex cf io)
 rd c io np st:=vFor st λtg it body els p=>vN els (ck4 (tt (Zl it)) (tgk t tg) (up (src.rd c tg it)) (b.rd c io np body) λX E h g u v=>zjI E.po E.T.calm u g v (Vi h))
@[simp] theorem zbs:(IS.loop t src b).ex cf io=sFor t (src.ev cf) (b.ex cf io):=rfl
def IS.ret(o:IO):IS where
 ex cf _:=sRet (o.ev cf)
 rd c io np st:=zli st λx p=>vS x λy=>ck1 (up (o.rd c y)) λX E u=>zjK u
@[simp] theorem zdI:(IS.ret o).ex cf io=sRet (o.ev cf):=rfl
def IS.app(s i:Nat)(e:IE):IS where
 ex cf _:=sApp i (e.ev cf).1
 rd c io np st:=vM1 st "append" λo p2 a q p=>qS o λx p=>ck4 (up (nmk s i x)) (tt (zO a)) (tt (p2.endLine==q.line)) (up (e.rd c a)) λX E n h l u=>zjH n u.1 (zR h) l
@[simp] theorem zdD:(IS.app s i e).ex cf io=sApp i (e.ev cf).1:=rfl
def IS.set(s i:Nat)(ie ve:IE):IS where
 ex cf _:=sSet i (ie.ev cf).1 (ve.ev cf).1
 rd c io np st:=vAs st λt a q=>yC t λy b p2=>qS y λx p=>ck4 (up (nmk s i x)) (tt (jN b&&wG a)) (up (ie.rd c b)) (up (ve.rd c a)) λX E n h u v=>by
  rw[xh]at h
  erw[zjL n u.1 v.1 (Vx h.2) W9 (λhe hg=>Kg he hg (Vx h.2) W9) (λho hi hs=>zi3 ho hi hs (Y6 h.1))]
@[simp] theorem zdJ:(IS.set s i ie ve).ex cf io=sSet i (ie.ev cf).1 (ve.ev cf).1:=rfl
def IS.ins(s i:Nat)(ie ve:IE):IS where
 ex cf _:=Ki i (ie.ev cf).1 (ve.ev cf).1
 rd c io np st:=vMs st λo f p2 xs q q2=>dq ("insert" :Str) f (qS o λx p=>v2 xs λb a=>ck4 (up (nmk s i x)) (tt (zO a&&zO b&&p2.endLine==q.line)) (up (ie.rd c b)) (up (ve.rd c a)) λX E n h u v=>by
  simp only[xh]at h
  exact zjJ n u.1 v.1 (zR h.1.2) (zR h.1.1) h.2)
@[simp] theorem zdG:(IS.ins s i ie ve).ex cf io=Ki i (ie.ev cf).1 (ve.ev cf).1:=rfl
def IS.raise(x:Str):IS where
 ex _ _:=sRaise x
 rd _ _ _ st:=ck0 λX _=>ze8
@[simp] theorem kP:(IS.raise x).ex cf io=sRaise x:=rfl
def IS.star(s i t j:Nat)(e:IE):IS where
 ex cf io:=sStar io i j (e.ev cf).1
 rd c io np st:=vAs st λtg v q=>zcj tg λes k p2=>v2 es λa b=>qS a λx px=>vStr b λd pc=>qS d λy py=>ck4 (tt (jp v)) (lok s i x) (lok t j y) (up (e.rd c v)) λX E h l m u=>zhr E.T.calm E.nd E.mn l.hi l.hx l.hf l.hm m.hi m.hx m.hf m.hm u.1 (QT h) (Qf h)
@[simp] theorem zbt:(IS.star s i t j e).ex cf io=sStar io i j (e.ev cf).1:=rfl
def IS.fset(s i:Nat)(cl f:Str)(o:IO):IS where
 ex cf _:=sFset i cl f (o.ev cf)
 rd c io np st:=vAs st λt e q=>vFd t f λx p p2=>ck2 (up (flk s i x cl f)) (up (o.rd c e)) λX E n u=>zhq n.1 n.2 u zce
@[simp] theorem zbr:(IS.fset s i cl f o).ex cf io=sFset i cl f (o.ev cf):=rfl
def IS.fapp(s i:Nat)(cl f:Str)(z:IZ):IS where
 ex _ _:=sFapp i cl f z
 rd c io np st:=vM1 st "append" λo p2 a q q2=>vFd o f λx p p3=>ck4 (up (flk s i x cl f)) (tt (zO a)) (tt (p2.endLine==q.line)) (zk z a) λX E n h l u=>zhp n.1 n.2 u (zR h) l
@[simp] theorem zbq:(IS.fapp s i cl f z).ex cf io=sFapp i cl f z:=rfl
def IS.dupd(s i:Nat)(e:IE):IS where
 ex cf _:=sDupd i (e.ev cf).1
 rd c io np st:=vM1 st "update" λo p2 a q p=>qS o λx p=>ck4 (up (nmk s i x)) (tt (zO a)) (tt (p2.endLine==q.line)) (up (e.rd c a)) λX E n h l u=>zhn n u.1 (zhT h l)
@[simp] theorem zbo:(IS.dupd s i e).ex cf io=sDupd i (e.ev cf).1:=rfl
def IS.u(s i:Nat)(ie ve:IE):IS where
 ex cf _:=Jf i (ie.ev cf).1 (ve.ev cf).1
 rd c io np st:=vAs st λt a q=>yC t λy b p2=>qS y λx p=>ck3 (up (nmk s i x)) (up (ie.rd c b)) (up (ve.rd c a)) λX E n u v=>zhm (Ww E.T) n v.1 u.1 zff
@[simp] theorem zbn:(IS.u s i ie ve).ex cf io=Jf i (ie.ev cf).1 (ve.ev cf).1:=rfl
def IS.dpop(s i:Nat)(e:IE):IS where
 ex cf _:=Yx i (e.ev cf).1
 rd c io np st:=vM1 st "pop" λo p2 a q p=>qS o λx p=>ck4 (up (nmk s i x)) (tt (zO a)) (tt (p2.endLine==q.line)) (up (e.rd c a)) λX E n h l u=>zhl n u.1 (zhT h l)
@[simp] theorem zbm:(IS.dpop s i e).ex cf io=Yx i (e.ev cf).1:=rfl
def IB.nil:IB where
 ex _ _:=sNext
 rd _ _ _ l:=vN l (ck0 λX _=>zjh)
 nl:=true
def cB1{b:Bool}{α:Type}{f g:α}(h:b=true):(bif b then f else g)=f:=by rw[h];rfl
def cB2{b:Bool}{α:Type}{f g:α}(h:b=false):(bif b then f else g)=g:=by rw[h];rfl
def IB.cons(s:IS)(b:IB):IB where
 ex cf io:=bif b.nl then s.ex cf io else sSeq (s.ex cf io) (b.ex cf io)
 rd c io np l:=if h:b.nl=true then v1 l λx=>ck1 (s.rd c io np x) λX _ u=>by rw[cB1 h];exact zji u
  else vC l λx r=>ck2 (s.rd c io np x) (b.rd c io np r) λX _ u v=>by rw[cB2 (Bool.eq_false_iff.mpr h)];exact zgN u v
def IB.disp(s i:Nat)(x:Str)(kf:List (Str×Str))(n:Nat)(e:IE)(a:IA):IB where
 ex cf io:=sDisp io kf cf i (e.ev cf).1 (a.ev cf)
 rd c io np l:=v2 l λst1 st2=>vAs st1 λt v q2=>qS t λr pr=>yC v λd w q1=>qS d λy py=>dq x y (zli st2 λo q4=>vS o λz=>vFn z λg pg as q3=>dq r g (vC as λa1 as=>ck4 (ck3 (lok s i r) (up (nmk s i r)) (up (glk x)) λX _ l m g=>And.intro l (And.intro m g)) (tt (c.W.gd.contains (x,kf)&&(jN w&&(kf.all (λp=>c.W.fl.contains (p.2,n))&&(a1::as).all zO)))) (up (e.rd c w)) (up (a.rd c (a1::as))) λX E l h u v=>by
  simp only[xh]at h
  let⟨h8,h10,h12,h14⟩:=h
  rw[xX,xh]at h14
  let⟨l,m,g⟩:=l
  refine zgO (E.T.gd x kf h8) g.1 g.2 (λkey f hf=>E.T.fn f n (xG.mp h12 _ (qO hf))) E.T.rm u.1
   (zhu (E.T.gd x kf h8) g.1 g.2 ?_ E.nd l.hi l.hx rfl l.hf) l.hi m.hv m.hd m.hcd E.mn l.hm v (zR h14.1) (jn (Qe h14.2))
  intro ov iv
  cases w<;>first | rfl | (cases h10)))
@[simp] theorem zc1:IB.nil.ex cf io=sNext:=rfl
@[simp] theorem zc2:(IB.cons s .nil).ex cf io=s.ex cf io:=rfl
@[simp] theorem zaN:(IB.cons s (.cons t b)).ex cf io=sSeq (s.ex cf io) ((IB.cons t b).ex cf io):=rfl
@[simp] theorem zaO:(IB.disp s i x kf n e a).ex cf io=sDisp io kf cf i (e.ev cf).1 (a.ev cf):=rfl
@[simp] theorem zaM:(IB.cons t (.disp s i x kf n e a)).ex cf io=sSeq (t.ex cf io) ((IB.disp s i x kf n e a).ex cf io):=rfl
inductive Kd where
 |fn
 |me (c m:Str)
 |ini (c:Str)
 deriving DecidableEq
structure DefI where
 name:Str
 st:Stmt
 ps:Ab
 N:Ab
 mask:List Bool
 io:Ac
 body:IB
 kd:Kd:=.fn
def outs:List Bool->Gv->List (Option OV)
 |[],_=> []
 |_::bs,[]=>none::outs bs []
 |b::bs,x::Γ=>(if b then x else none)::outs bs Γ
def WP:∀(bs:List Bool)(Γ:Gv),(outs bs Γ).length=bs.length
 |[],_=>rfl
 |_::bs,[]=>by rw[outs,xq,WP,xq]
 |b::bs,x::Γ=>by rw[outs,xq,WP,xq]
def WO:∀{bs:List Bool}{Γ:Gv}{j:Nat}{o:OV},(outs bs Γ)[j]?=some (some o)->bs[j]?=some true/\Γ[j]?=some (some o)
 |[],_,_,_,h=>by simp[outs]at h
 |b::bs,[],0,_,h=>by simp[outs]at h
 |b::bs,[],j+1,o,h=>by
  have:=WO (Γ:= []) (by simpa [outs] using h)
  simp at this
 |b::bs,x::Γ,0,o,h=>by
  simp only[outs,List.getElem?_cons_zero,Option.some.injEq]at h
  split at h
  ·rename_i hb;subst h;exact⟨by simp[hb],rfl⟩
  ·cases h
 |b::bs,x::Γ,j+1,o,h=>by
  have:=WO (Γ:=Γ) (by simpa [outs] using h)
  simpa using this
def fin(mask:List Bool):R (FL×Gv)->RF
 |.ok (.ret o,Γ)=>.ok o (outs mask Γ)
 |.ok (.next,Γ)=>.ok (.d .none) (outs mask Γ)
 |_=>.bad
def DefI.run(d:DefI)(cf:CF)(args:List OV):RF:=if args.length=d.mask.length then fin d.mask (d.body.ex cf d.io (args.map some++List.replicate (d.N.length-d.mask.length) none)) else .bad
def DefI.run_lenX{d:DefI}(h:d.run cf args≠ .bad):args.length=d.mask.length:=by
 unfold DefI.run at h
 split at h
 ·assumption
 ·erw[absurd rfl h]
def DefI.ran(d:DefI)(cf:CF):Ran d.mask.length (d.run cf):=λ_=>DefI.run_lenX
def v9(defs:List DefI):Nat->CF
 |0,_,_=>.bad
 |n+1,x,args=>match defs.find? λd=>decide (d.name=x) with
  |some d=>d.run (v9 defs n) args
  |none=>.bad
section
variable {M0:Ae}{F:Fp}{Γ:Gv}{ν:Nu}{H:Hp}
def RS.outs{mask:List Bool}{us:List V}(r:RS M0 F (Γ++ [some o]) (ν++ [some v]) H)(hu:us.length=mask.length)(hν:∀ j:Nat,mask[j]?=some true->ν[j]?=(us[j]?).map some) :
  ∃ F',RS M0 F' (L3.outs mask Γ++ [some o]) (us.map some++ [some v]) H/\Stp F H F' H:=by
 let hl:ν.length=Γ.length:=by simpa using r.len
 let ho:=WP mask Γ
 let lt:∀{j p},(L3.outs mask Γ++ [some o])[j]?=some (some p)->j≠mask.length->mask[j]?=some true/\j<Γ.length/\Γ[j]?=some (some p)/\j<mask.length:=λ{j p} ej hj=>by
  let h1:=(xa.mp ej).1
  simp[ho]at h1
  rw[xc (by lia)]at ej
  let h2:=WO ej
  exact⟨h2.1,(xa.mp h2.2).1,h2.2,by lia⟩
 refine r.map (λj=>if j=mask.length then Γ.length else j) (λj p ej=>?_) (λj k o p e1 e2=>?_) (by simp[ho,hu])
 ·split
  ·subst j
   rw[xm (by lia),ho]at ej
   simp at ej
   subst ej
   simp[hl,hu]
  next hj=>
   let⟨h0,h1,h2,h3⟩:=lt ej hj
   rw[xc h1,xc (by simp;lia),xc (by lia),xf,hν j h0]
   exact⟨h2,rfl⟩
 ·let h1:=@lt _ _ e1
  let h2:=@lt _ _ e2
  split<;>split<;>lia
end
def W4(N ps:Ab)(sc:Scope):Bool:=decide (sc.kind=.function)&& !sc.isCoroutine&& !sc.isGenerator&&decide N.Nodup&&decide (N.take ps.length=ps)&&ps.all (λx=>decide (sc.names.lookup x=some .local)||decide (sc.names.lookup x=some .cell))&&sc.names.all (λy=>decide (y.2≠ .free))
def W5(h:W4 N ps sc=true):j9 N ps sc:=by
 unfold W4 at h
 simp only[xh,x0,xG,xL,uJ]at h
 let⟨⟨⟨⟨⟨⟨h1,h2⟩,h3⟩,h4⟩,h5⟩,h6⟩,h7⟩:=h
 exact⟨h1,h2,h3,h4,h5,h6,h7⟩
def Ck.get{E P:Cx->Prop}{o:Ck E P}(h:o.isSome=true):∀ X,E X->P X:=by
 cases o with
 |none=>cases h
 |some u=>erw[u.1]
def IB.chk(cf:CF)(k:Nat)(W:Wd)(sc:Scope)(N:Ab)(io:Ac)(np:Nat)(b:IB)(l:List Stmt):Bool:=(b.rd ⟨cf,W,k,sc,N,List.range N.length⟩ io np l).isSome
def DefI.ok(W:Wd)(cf:CF)(k:Nat)(d:DefI):Bool:=W4 d.N d.ps (defScope d.st)&&decide (d.ps.length=d.mask.length)&&d.io.all (λi=>decide (d.mask[i]?=some true))&&(List.range d.mask.length).all (λj=>decide (d.mask[j]?≠some true)||d.io.contains j)
 && d.body.chk cf k W (defScope d.st) d.N d.io d.mask.length (defBody d.st)
abbrev DefI.Ok(W:Wd)(d:DefI):Prop:=∀ cf k,d.ok W cf k=true
structure WK(P:Ar)(w:World)(K:Ah)(mg:Aq)(base:Heap)(cf:CF)(W:Wd)(k:Nat):Prop where
 bi:∀ x,W.bi.contains x=true->mg x=none
 gi:∀ x i,W.gi.contains (x,i)=true->∃ t,mg x=some (.int i t)
 gs:∀ x i,W.gs.contains (x,i)=true->∃ t,mg x=some (.str i t)
 fn:∀ x n,W.fl.contains (x,n)=true->Kn P w K mg base CX0 x k (spX n (cf x))/\Ran n (cf x)
 gd:∀ x kf,W.gd.contains (x,kf)=true->GD w K mg x kf
 fk:∀ c f,W.fk.contains (c,f)=true->Cls K (Cs.adr c)/\NoAttr K (Cs.adr c) f
 mc:∀ c q n,W.mc.contains (c,q,n)=true->mg c=some (.ref (Cs.adr c))/\(∃ j,j+1<=k/\KnI P w K mg base (Cs.adr c) j (spX n (cf q)))/\Ran n (cf q)
 ml:∀ c m q n,W.ml.contains (c,m,q,n)=true->KnM P w K mg base (Cs.adr c) m k (spX n (cf q))/\Ran n (cf q)
def Lk(K:Ah)(mg:Aq)(f:Ap)(nm:Str):Kd->Prop
 |.fn=>mg nm=some (.ref f)
 |.me c m=>Cls K (Cs.adr c)/\YV K (Cs.adr c) m f
 |.ini c=>Mk K (Cs.adr c) f/\mg c=some (.ref (Cs.adr c))
structure Dx(K:Ah)(mg:Aq)(d:DefI):Prop where
 ex:∃(x:Str)(f:Ap)(fd:FuncData),Fun K x d.name d.st f fd/\Binds K fd d.ps []/\Lk K mg f d.name d.kd
section
variable {P:Ar}{w:World}{K:Ah}{mg:Aq}{base:Heap}{cf:CF}{W:Wd}{k:Nat}
def zjZ:XSc (Q4 CX0 P w K mg base N x sc f cdv A outer s H E).nox sc N where
 hN:=rfl
 vis x h:=by
  unfold zfp at h
  simp only[xL,x0]at h
  rcases h with (h | h) | h
  ·erw[.inl h]
  ·erw[.inr (.inl h)]
  ·erw[.inr (.inr h)]
 loc x h:=h
 cel x h:=⟨h,rfl⟩
 fre x h:=.inr h
 glo x h:=by
  unfold zbw at h
  simp only[x0]at h
  erw[h]
def zhL:XSc (Q4 CX0 P w K mg base N x sc f cdv A outer s H E) sc N where
 hN:=rfl
 vis x h:=by
  unfold zfp at h
  simp only[xL,x0]at h
  rcases h with (h | h) | h
  ·erw[.inl h]
  ·erw[.inr (.inl h)]
  ·erw[.inr (.inr h)]
 loc x h:=h
 cel x h:=⟨h,rfl⟩
 fre x h:=.inr h
 glo x h:=by
  unfold zbw at h
  simp only[x0]at h
  erw[h]
def zg4:Sees (List.range n) ν ν:=λs i v e1 e2=>by
 let hs:s<n:=by
  have:=(xa.mp e1).1
  simpa using this
 rw[um hs]at e1
 cases e1
 erw[e2]
def KQ{st:Stmt}{f:Ap}{sp:Sp}(F:Fun K x qual st f fd)(S:j9 N ps (defScope st))(len:∀ vs H Q E,sp vs H Q E->vs.length=ps.length)
  (hbody:∀(cdv:Aj)(A:Around)(outer:List Env)(s:Am)(H:Hp)(vs:List V)(Q:VK)(E:XK),Room k (A.deeper (envOfC qual (defScope st) ⇑s f cdv))->sp vs H Q E ->
   wpB (Q4 CX0 P w K mg base N qual (defScope st) f cdv A outer s H E) (defBody st) { nx:=λ_ H'=>Q .non H',rt:=Q } (start N vs) H):FnOk P w K mg base CX0 (k+1) f fd ps sp:=by
 let⟨oc,od,kV,doc,pm,an,cdv,ct,osl,rfl,lk,hcd⟩:=F.ex
 erw[zhR lk hcd S len λA outer s H vs Q E hr hsp=>⟨_,jP,hbody cdv A outer s H vs Q E hr hsp⟩]
def zkf{d:DefI}{f:Ap}(D:Fun K x d.name d.st f fd)(hok:d.Ok W)(T:WK P w K mg base cf W k)(hk:1<=k):FnOk P w K mg base CX0 (k+1) f fd d.ps (spX d.mask.length (d.run cf)):=by
 replace hok:=hok cf k
 unfold DefI.ok at hok
 simp only[xh,x0,xG,xL]at hok
 let⟨⟨⟨⟨h1,h2⟩,h3⟩,h4⟩,h5⟩:=hok
 let S:=W5 h1
 let hNl:d.mask.length<=d.N.length:=by
  have:=congrArg List.length S.pre
  rw[xI]at this;lia
 refine KQ D S (λvs H Q E h=>by rw[h.1,h2]) λcdv A outer s H vs Q E hr hsp=>?_
 let⟨hv,M0,F,args,rs,hm⟩:=hsp
 let hal:args.length=d.mask.length:=by have:=rs.len;simpa [hv] using this.symm
 let rs1:=rs.ext (d.N.length-d.mask.length)
 let hst:L2.start d.N vs=vs.map some++List.replicate (d.N.length-d.mask.length) none:=by unfold L2.start;rw[hv]
 rw[hst]
 let hsl:(vs.map some++List.replicate (d.N.length-d.mask.length) none:L2.St).length=d.N.length:=by simp[hv];lia
 erw[Ck.get h5 (Q4 CX0 P w K mg base d.N d.name (defScope d.st) f cdv A outer s H E) ⟨⟨zhL,⟨T.bi,T.gi,T.gs,T.fn,hr,hk,rfl,T.gd,λc f h=>⟨(T.fk c f h).1,(T.fk c f h).2⟩,T.mc,T.ml⟩⟩,PassesOwn.leaving,S.nd,List.nodup_range,λi hi=>?_⟩ M0 F _ _ _ H _ rs1 zg4 hsl ?_]
 ·erw[(xa.mp (h3 i hi)).1]
 ·have back:∀{F':Fp}{Γ':Gv}{ν':Nu}{o:OV}{v:V}{H':Hp}{G:Prop},RS M0 F' (Γ'++ [some o]) (ν'++ [some v]) H'->(∀ i∈d.io,ν'[i]?=(vs.map some++List.replicate (d.N.length-d.mask.length) none:Nu)[i]?)->Stp F H F' H' ->
    (∀ F',RS M0 F' (outs d.mask Γ'++ [some o]) (vs.map some++ [some v]) H'->Stp F H F' H'->G)->G:=λ{F' Γ' ν' o v H' G} r' hn s' hq=>by
   let⟨F2,r2,s2⟩:=r'.outs hv λj hj=>by
    let hjl:=(xa.mp hj).1
    let hjm:j∈d.io:=by
     rcases h4 j (uE.mpr hjl)with z | z
     ·erw[absurd hj z]
     ·simpa using z
    rw[hn j hjm,xc (by simp[hv];exact hjl),xf]
   erw[hq F2 r2 (s'.trans s2)]
  unfold DefI.run at hm
  rw[if_pos hal]at hm
  generalize d.body.ex cf d.io (args.map some++List.replicate (d.N.length-d.mask.length) none)=rr at hm
  cases rr with
  |bad=>erw[hm.elim]
  |ok z=>
   let⟨fl,Γ'⟩:=z
   cases fl with
   |brk=>erw[hm.elim]
   |cnt=>erw[hm.elim]
   |next=>
    intro F' ν' σ' H' r' s' hs' hl' hn
    erw[back (r'.newD .none) hn s' λF2 r2 s2=>hm F2 _ H' r2 s2]
   |ret o=>
    intro F' ν' v H' r' s' hn
    erw[back r' hn s' λF2 r2 s2=>hm F2 v H' r2 s2]
def zit{d:DefI}(D:Fun K x d.name d.st f fd)(hok:d.Ok W):FnOk P w K mg base CX0 1 f fd d.ps (spX d.mask.length λ_=>.bad):=by
 replace hok:=hok (λ_ _=>.bad) 0
 unfold DefI.ok at hok
 simp only[xh,x0]at hok
 refine KQ D (W5 hok.1.1.1.1) (λvs H Q E h=>by rw[h.1,hok.1.1.1.2]) λcdv A outer s H vs Q E hr hsp=>?_
 let⟨hv,M0,F,args,rs,hm⟩:=hsp
 erw[hm.elim]
def wOk(defs:List DefI)(W:Wd):Bool:=W.fl.all (λp=>okO (defs.find? λd=>decide (d.name=p.1)) λd=>decide (d.mask.length=p.2)&&decide (d.kd=.fn))
 && W.mc.all (λp=>okO (defs.find? λd=>decide (d.name=p.2.1)) λd=>decide (d.mask.length=p.2.2)&&decide (d.kd=.ini p.1))
 && W.ml.all (λp=>okO (defs.find? λd=>decide (d.name=p.2.2.1)) λd=>decide (d.mask.length=p.2.2.2)&&decide (d.kd=.me p.1 p.2.1))
def zag{j:Nat}(hd:∀ d∈defs,Dx K mg d/\d.Ok W)(hw:wOk defs W=true)(hbi:∀ x,W.bi.contains x=true->mg x=none)
  (hgi:∀ x i,W.gi.contains (x,i)=true->∃ t,mg x=some (.int i t)) (hgs:∀ x i,W.gs.contains (x,i)=true->∃ t,mg x=some (.str i t))
  (hgd:∀ x kf,W.gd.contains (x,kf)=true->GD w K mg x kf)
  (hfk:∀ c f,W.fk.contains (c,f)=true->Cls K (Cs.adr c)/\NoAttr K (Cs.adr c) f)
  (hF:∀(d:DefI)(x:Str)(f:Ap)(fd:FuncData),defs.find? (λe=>decide (e.name=d.name))=some d->Fun K x d.name d.st f fd->d.Ok W->FnOk P w K mg base CX0 j f fd d.ps (spX d.mask.length (cf d.name))/\Ran d.mask.length (cf d.name)) (hj:j+1<=k) (hk2:2<=k):WK P w K mg base cf W k:=by
 unfold wOk at hw
 simp only[xh,xG]at hw
 let⟨⟨w1,w2⟩,w3⟩:=hw
 let get:∀(x:Str)(n:Nat)(kd:Kd),okO (defs.find? λd=>decide (d.name=x)) (λd=>decide (d.mask.length=n)&&decide (d.kd=kd))=true->∃(d:DefI)(y:Str)(f:Ap)(fd:FuncData),d.name=x/\Fun K y d.name d.st f fd/\Binds K fd d.ps []/\Lk K mg f x kd/\FnOk P w K mg base CX0 j f fd d.ps (spX n (cf x))/\Ran n (cf x):=λx n kd h=>by
  let⟨d,e,h⟩:=KW h
  simp only[xh,x0]at h
  let⟨rfl,rfl⟩:=h
  let hmem:=List.mem_of_find?_eq_some e
  let hnm:d.name=x:=by simpa using List.find?_some e
  subst hnm
  let⟨D,ok⟩:=hd d hmem
  let⟨y,f,fd,F,hb,lk⟩:=D.ex
  let⟨q1,q2⟩:=hF d y f fd e F ok
  exact⟨d,y,f,fd,rfl,F,hb,lk,q1,q2⟩
 refine⟨hbi,hgi,hgs,λx n h=>?_,hgd,hfk,λc q n h=>?_,λc m q n h=>?_⟩
 ·let⟨d,y,f,fd,e,F,hb,lk,q1,q2⟩:=get x n .fn (w1 (x,n) (ul.mp h))
  exact⟨⟨f,fd,d.ps,q1.mono (by lia),lk,F.kp,hb⟩,q2⟩
 ·let⟨d,y,f,fd,e,F,hb,lk,q1,q2⟩:=get q n (.ini c) (w2 (c,q,n) (ul.mp h))
  exact⟨lk.2,⟨j,hj,f,fd,d.ps,q1,lk.1,hb⟩,q2⟩
 ·let⟨d,y,f,fd,e,F,hb,lk,q1,q2⟩:=get q n (.me c m) (w3 (c,m,q,n) (ul.mp h))
  exact⟨⟨f,fd,d.ps,q1.mono (by lia),lk.1,lk.2,hb⟩,q2⟩
def wk_all{defs:List DefI}(hd:∀ d∈defs,Dx K mg d/\d.Ok W)(hw:wOk defs W=true)(hbi:∀ x,W.bi.contains x=true->mg x=none)
  (hgi:∀ x i,W.gi.contains (x,i)=true->∃ t,mg x=some (.int i t)) (hgs:∀ x i,W.gs.contains (x,i)=true->∃ t,mg x=some (.str i t))
  (hgd:∀ x kf,W.gd.contains (x,kf)=true->GD w K mg x kf)
  (hfk:∀ c f,W.fk.contains (c,f)=true->Cls K (Cs.adr c)/\NoAttr K (Cs.adr c) f):∀ n,WK P w K mg base (v9 defs n) W (2*n+2)
 |0=>zag hd hw hbi hgi hgs hgd hfk (λd x f fd _ F ok=>⟨zit F ok,λargs e=>absurd rfl e⟩) (by lia) (by lia)
 |n+1=>zag hd hw hbi hgi hgs hgd hfk (λd x f fd e F ok=>by
   let ec:v9 defs (n+1) d.name=d.run (v9 defs n):=by
    funext args
    rw[v9,e]
   rw[ec]
   exact⟨zkf F ok (wk_all hd hw hbi hgi hgs hgd hfk n) (by lia),d.ran _⟩) (by lia) (by lia)
def Qu(cells:List Int)(i l t s:Int):OV:=.l [.d (.list (cells.map .int)),.d (.int i),.d (.int l),.d (.int t),.d (.int s)]
def law_ok {st:Stmt}{x:Str}{kb:Nat}{body:IB}{pos' p3 p2 p pos:Pos}(Fn:Fun K "law" "law" st fa fd) (hS:W4 N ["_law_script"] (defScope st)=true) (hkb:Kn P w K mg base CX0 "_law_box" kb (ze6 K)) (hkb2:kb<=k) (T:WK P w K mg base cf W k) (hk:1<=k)
  (hb:defBody st=.Assign [.Name x pos'] (.Call (.Name "_law_box" p3) [.Name "_law_script" p2] [] p) pos::(defBody st).tail) (hN0:N[0]?=some ("_law_script" :Str)) (hN1:N[1]?=some x) (hv0:(defScope st).names.lookup ("_law_script" :Str)=some .local) (hx:Loc (defScope st) x) (hg:(defScope st).names.lookup ("_law_box" :Str)=some .globalImplicit)
  (hchk:∀ cf k,body.chk cf k W (defScope st) N [] 0 (defBody st).tail=true)
  (hrun:∀ (cells:List Int) (i l t s:Int),0<=i->∃ Γ',body.ex cf [] (none::some (Qu cells i l t s)::List.replicate (N.length-2) none)=.ok (.ret (.d (.bool true)),Γ')):FnOk P w K mg base CX0 (k+1) fa fd ["_law_script"] (zab K):=by
 let S:=W5 hS
 erw[Fn.law S λcdv A outer s H Q E a ns hr hSq hlen kk=>?_]
 let hl2:2<=N.length:=by have:=(xa.mp hN1).1;lia
 rw[hb]
 erw[zjX (X:=(Q4 CX0 P w K mg base N "law" (defScope st) fa cdv A outer s H E).nox) (N:=N) S.nd hkb (hr.mono hkb2) hSq hlen (λb σ1 H1 s1 nb hB rs1 l1=>?_) rfl hN0 hN1 (.inl hv0) hx (.inl rfl) hg rfl rfl]
 let⟨c,cells,i,l,t,sd,B⟩:=hB
 have hσ:σ1[1]?=some (some (.ref b)):=rs1.av 1 (.ref b) (by
  rw[xk]
  simp
  exact hl2)
 let hF:∀ j a,a∈fset (λ_=> []) 1 [b] j->j=1/\a=b:=λj a h=>by
  by_cases hj:j=1
  ·subst hj;rw[zJ]at h;exact⟨rfl,by simpa using h⟩
  ·rw[zP hj]at h;cases h
 let hM:∀ a,MM qk (fset (λ_=> []) 1 [b]) a->a=b:=λa h=>by
  rcases h with h | ⟨j,h⟩
  ·erw[h.elim]
  ·erw[(hF j a h).2]
 let rs:RS qk (fset (λ_=> []) 1 [b]) (none::some (Qu cells i l t sd)::List.replicate (N.length-2) none) (none::some (.ref b)::List.replicate (N.length-2) none) H1:=by
  refine⟨λa h=>h.elim,λj a h z=>z,λj=>?_,λj k a h1 h2=>by rw[(hF j a h1).1,(hF k a h2).1],λj o e=>?_,λj h=>?_,by simp⟩
  ·by_cases hj:j=1
   ·subst hj;rw[zJ];exact xB.mpr ⟨(λz=>nomatch z),.nil⟩
   ·rw[zP hj];exact .nil
  ·match j,e with
   |0,e=>simp at e
   |1,e=>
    let e':Qu cells i l t sd=o:=by simpa using e
    subst e'
    refine⟨.ref b,rfl,?_⟩
    rw[zJ]
    erw[.l B.hb (.cons (.d (B.hc.less λa ha _=>hM a ha)) (.cons (.d (.int _)) (.cons (.d (.int _)) (.cons (.d (.int _)) (.cons (.d (.int _)) .nil)))))]
   |j+2,e=>
    rw[ui,ui,xN]at e
    split at e<;>cases e
  ·by_cases hj:j=1
   ·subst hj;exact absurd rfl (h (Qu cells i l t sd))
   ·rw[zP hj]
 let sees:Sees (List.range N.length) (none::some (.ref b)::List.replicate (N.length-2) none) σ1:=λs' j v e1 e2=>by
  let hs:s'<N.length:=by
   have:=(xa.mp e1).1
   simpa using this
  rw[um hs]at e1
  cases e1
  match s',e2 with
  |0,e2=>simp at e2
  |1,e2=>
   have:V.ref b=v:=by simpa using e2
   subst this;exact hσ
  |j+2,e2=>
   rw[ui,ui,xN]at e2
   split at e2<;>cases e2
 let⟨Γ',er⟩:=hrun cells i l t sd B.hi
 erw[Ck.get (hchk cf k) (Q4 CX0 P w K mg base N "law" (defScope st) fa cdv A outer s H E).nox ⟨⟨zjZ,⟨T.bi,T.gi,T.gs,T.fn,hr,hk,rfl,T.gd,λc f h=>⟨(T.fk c f h).1,(T.fk c f h).2⟩,T.mc,T.ml⟩⟩,PassesOwn.never,S.nd,List.nodup_range,λi hi=>nomatch hi⟩ qk _ _ _ σ1 H1 _ rs sees l1 ?_]
 rw[er]
 intro F' ν' v H' r' s' hn
 let⟨w',ew,q⟩:=r'.at' Γ'.length (.d (.bool true)) (by rw[xm (xg _)];simp)
 let hlen:=r'.len
 have hνl:ν'.length=Γ'.length:=by simpa using hlen
 rw[xm (by lia),hνl]at ew
 have:v=w':=by simpa using ew
 subst this
 generalize F' Γ'.length=Az at q
 cases q with
 |d q=>cases q;exact kk H'
end
def csOf(mg:Aq):Cs:=⟨λx=>match mg x with
 |some (.ref C)=>C
 |_=>0⟩
def VS(h:mg c=some (.ref C)):(csOf mg).adr c=C:=by
 show (match mg c with
  |some (.ref C)=>C
  |_=>0)=C
 rw[h]
section
variable {K:Ah}{mg:Aq}{h:Heap}{d:DefI}
def dx_fn(hk:d.kd=.fn)(D:Df K mg d.name d.st d.ps): @Dx (csOf mg) K mg d:=by
 let⟨f,fd,F,hm,hb⟩:=D.ex
 exact @Dx.mk (csOf mg) _ _ _ ⟨d.name,f,fd,F,hb,by rw[hk];exact hm⟩
structure ClsOf(K:Ah)(c:Str)(C:Ap):Prop where
 n:PySem.W.nsIn K mainGlobals c=some (some (.ref C))
 cl:Cls K C
structure Dm(K:Ah)(q c m:Str)(st:Stmt)(ps:Ab):Prop where
 ex:∃(C f:Ap)(fd:FuncData),ClsOf K c C/\Fun K m q st f fd/\Binds K fd ps []/\YV K C m f
structure Di(K:Ah)(q c:Str)(st:Stmt)(ps:Ab):Prop where
 ex:∃ (C f:Ap) (fd:FuncData),ClsOf K c C/\Fun K "__init__" q st f fd/\Binds K fd ps []/\Mk K C f
def Dm.of{q c m:Str}{st:Stmt}{ps:Ab}{oc:Aj}{od an:Option Ap}{sl:Array (Option Aj)}{kV dc pm cd ct:Aj}(o:ClsOf K c C)(a:PySem.W.findIn K (.ref C) m=some (some (.ref f)))(fn:PySem.W.isFn K (.ref f)=true)
  (l:K.lookup f=some ⟨oc,od,.func (PySem.W.fnOf m q (qZ st) (defBody st) (defScope st) .none kV dc pm an cd ct),sl⟩) (e:PySem.W.codeIn K cd q=true) (k:PySem.W.keepIn K (.ref f)=true)
  (hb:∀(kV doc pm:Aj)(an:Option Ap)(cdv ct:Aj)(us:An),us.length=ps.length->bindArgs (PySem.W.fnOf m q (qZ st) (defBody st) (defScope st) .none kV doc pm an cdv ct) ⟨us,[]⟩=pure (ps.zip us)):Dm K q c m st ps :=
 ⟨C,f,_,o,QJ l e k,(QJ l e k).binds hb,a,fn,k⟩
def Di.of {q c:Str}{st:Stmt}{ps:Ab}{oc:Aj}{od an:Option Ap}{sl:Array (Option Aj)}{kV dc pm cd ct:Aj}(o:ClsOf K c C) (mk:PySem.W.makesIn K C=true) (a:PySem.W.findIn K (.ref C) "__init__" =some (some (.ref f))) (fn:PySem.W.isFn K (.ref f)=true) (kc:PySem.W.keepIn K (.ref C)=true)
  (l:K.lookup f=some ⟨oc,od,.func (PySem.W.fnOf "__init__" q (qZ st) (defBody st) (defScope st) .none kV dc pm an cd ct),sl⟩) (e:PySem.W.codeIn K cd q=true) (k:PySem.W.keepIn K (.ref f)=true)
  (hb:∀ (kV doc pm:Aj) (an:Option Ap) (cdv ct:Aj) (us:An),us.length=ps.length->bindArgs (PySem.W.fnOf "__init__" q (qZ st) (defBody st) (defScope st) .none kV doc pm an cdv ct) ⟨us,[]⟩=pure (ps.zip us)):Di K q c st ps :=
 ⟨C,f,_,o,QJ l e k,(QJ l e k).binds hb,mk,a,fn,kc⟩
def dx_me(X:K.In h)(G:h.Ns mainGlobals mg)(hk:d.kd=.me c m)(D:Dm K d.name c m d.st d.ps): @Dx (csOf mg) K mg d:=by
 let⟨C,f,fd,o,F,hb,hm⟩:=D.ex
 erw[@Dx.mk (csOf mg) _ _ _ ⟨m,f,fd,F,hb,?_⟩]
 rw[hk]
 show Cls K ((csOf mg).adr c)/\YV K ((csOf mg).adr c) m f
 rw[VS (PySem.W.mg_of X G o.n)]
 exact⟨o.cl,hm⟩
def dx_ini(X:K.In h)(G:h.Ns mainGlobals mg)(hk:d.kd=.ini c)(D:Di K d.name c d.st d.ps): @Dx (csOf mg) K mg d:=by
 let⟨C,f,fd,o,F,hb,hm⟩:=D.ex
 erw[@Dx.mk (csOf mg) _ _ _ ⟨"__init__",f,fd,F,hb,?_⟩]
 rw[hk]
 show Mk K ((csOf mg).adr c) f/\mg c=some (.ref ((csOf mg).adr c))
 rw[VS (PySem.W.mg_of X G o.n)]
 exact⟨hm,PySem.W.mg_of X G o.n⟩
def zke(X:K.In h)(G:h.Ns mainGlobals mg)(o:ClsOf K c C)(n:NoAttr K C f):Cls K ((csOf mg).adr c)/\NoAttr K ((csOf mg).adr c) f:=by
 rw[VS (PySem.W.mg_of X G o.n)]
 exact⟨o.cl,n⟩
end
end L3
namespace Wx
open PySem L2 L3
scoped instance noCs:L2.Cs:=⟨λ_=>0⟩
section
local macro_rules|`(#[$a])=>`(.cons $a .nil)|`(#[$a,$b,*])=>`(.cons $a #[$b,*])|`(.($n:num))=>`(.x $n $n)|`(($n:num :))=>`(.k $n)
def Z5:IB:=#[.ret (.dat (.and (.i "int" .(0)) (.not (.i "bool" .(0)))))]
def jbt:IE:=.call (.call "_law_whole" 1 #[.x 0 1])
def ZH:IB:=#[.ret (.dat (.and (.i "list" .(0)) (.all (.new (.comp 1 1 [] ["_law_one"] (.nm 0 1) (.list .(0)) .yes jbt)))))]
def Z3:IB:=#[.a 2 2 (.dat (.n .Mod (.n .Add (.n .Add (.n .Mult .(0) (48271:)) (.n .Mult .(1) (69621:))) (12345:)) (2147483647:))),.a 3 3 (.dat (.n .Mod (.n .Add (.n .Add (.n .Mult .(2) (.n .Add (.n .Mod .(2) (65521:)) (7:))) (.n .Mult .(1) (40692:))) (.n .Mod .(0) (104729:))) (998244353:))),.ret (.dat (.n .FloorDiv .(3) (7:)))]
def jm:IB:=#[.set 0 0 (3:) (.n .Add (.ix .(0) (3:)) (1:)),.f (.p .Gt (.ix .(0) (2:)) (0:)) #[.a 2 2 (.dat (.ix .(0) (2:))),.set 0 0 (2:) (.n .FloorDiv .(2) .(1)),.ret (.dat (.n .Mod .(2) .(1)))] .nil,.f (.p .GtE (.ix .(0) (1:)) (.len (.ix .(0) (0:)))) #[.ret (.dat (.n .Mod (.call (.call "_law_mixed" 2 #[.ix .(0) (4:),.ix .(0) (3:)])) .(1)))] .nil,.a 3 3 (.dat (.ix (.ix .(0) (0:)) (.ix .(0) (1:)))),.set 0 0 (1:) (.n .Add (.ix .(0) (1:)) (1:)),.f (.p .Lt .(3) (.n .Pow (10:) (18:))) #[.ret (.dat (.n .Mod (.call (.call "_law_mixed" 2 #[.(3),.ix .(0) (3:)])) .(1)))] .nil,.set 0 0 (2:) (.n .FloorDiv .(3) .(1)),.ret (.dat (.n .Mod .(3) .(1)))]
def jan:IB:=#[.f (.or .(2) (.p .Gt (.call (.call "_law_take" 2 (.io 0 0 #[(4:)]))) (0:))) #[.ins 3 3 (.call (.call "_law_take" 2 (.io 0 0 #[.n .Add (.len .(3)) (1:)]))) .(4)] .nil]
def QB:IB:=#[.a 3 3 (.own (.lst .nil)),.loop (.nm 4 4) (.list .(1)) jan,.ret (.move 3 3)]
def jbr:IE:=.tup #[.ix (.ix (.x 1 0) (.x 0 1)) (0:),.b false,.ix (.ix (.x 1 0) (.x 0 1)) (2:)]
def QA:IB:=#[.ret (.own (.comp 1 1 [0] ["_law_at","_law_rows"] (.nm 0 1) (.range (.len .(0))) .yes jbr))]
def jbv:IE:=.call (.call "has_cell" 2 #[.x 1 0,.x 0 2])
def ja2:IE:=.tup #[.x 1 3,.or (.x 2 4) (.p .In (.x 0 2) (.x 4 1)),.x 3 5]
def j3:IB:=#[.f (.not (.all (.new (.comp 2 1 [0] ["at","bolt"] (.nm 0 2) (.tup .(1)) .yes jbv)))) #[.raise "NoCell"] .nil,.f (.p .NotEq (.lset .(1)) (.len .(1))) #[.raise "Twice"] .nil,.ret (.own (.comp 2 4 [1] ["at","stain","waxed","wish","cells"] (.tp #[.nm 0 2,.tp #[.nm 1 3,.nm 2 4,.nm 3 5]]) (.enum .(0)) .yes ja2))]
def j2:IB:=#[.ret (.dat (.h .LtE .Lt (0:) .(1) (.len .(0))))]
def jbs:IE:=.call (.call "_law_whole" 1 #[.x 0 2])
def ZG:IB:=#[.ret (.dat (.and (.i "tuple" .(0)) (.and (.p .Eq (.len .(0)) .(1)) (.all (.new (.comp 2 1 [] ["_law_one"] (.nm 0 2) (.tup .(0)) .yes jbs))))))]
def jba:IB:=#[.ret (.dat (.ix (.new (.lst #[.neg (1:),.(1),.n .Add (.n .Add .(1) (1:)) (.call (.call "_law_take" 2 (.io 0 0 #[(50:)]))),.n .Sub (.neg (1:)) .(1)])) (.call (.call "_law_take" 2 (.io 0 0 #[(4:)])))))]
def qL:IB:=.cons (.f (.and (.p .Gt .(1) (0:)) (.p .Gt (.call (.call "_law_take" 2 (.io 0 0 #[(7:)]))) (0:))) #[.ret (.call "_law_take" 2 (.io 0 0 #[.(1)]))] .nil) jba
def jaj:IB:=#[.f (.p .Eq .(2) (0:)) #[.app 4 4 (.call (.call "_law_place" 2 (.io 0 0 #[.(1)])))] #[.a 6 6 (.dat (.call (.call "_law_take" 2 (.io 0 0 #[.n .Add .(1) (1:)])))),.f (.and (.p .Lt .(6) .(1)) (.p .NotIn .(6) .(4))) #[.app 4 4 .(6)] .nil]]
def jL:IB:=#[.a 2 2 (.dat (.call (.call "_law_take" 2 (.io 0 0 #[(3:)])))),.a 3 3 (.dat (.call (.call "_law_take" 2 (.io 0 0 #[(7:)])))),.f (.and (.p .Eq .(2) (2:)) (.p .Eq .(3) (0:))) #[.ret (.dat (.tuple (.new (.back (.new (.lrng .(1))) (.neg (1:))))))] .nil,.a 4 4 (.own (.lst .nil)),.loop (.nm 5 5) (.range .(3)) jaj,.ret (.dat (.tuple .(4)))]
def jab:IB:=#[.f (.or (.p .Lt .(2) (0:)) (.p .GtE .(2) .(1))) #[.ret (.dat (.q "NoCell"))] .nil]
def qE:IB:=#[.loop (.nm 2 2) (.tup .(0)) jab,.f (.p .Lt (.lset .(0)) (.len .(0))) #[.ret (.dat (.q "Twice"))] .nil,.ret (.dat (.q ""))]
def jbf:IE:=.tup #[.ix (.ix (.x 1 0) (.x 0 2)) (0:),.or (.ix (.ix (.x 1 0) (.x 0 2)) (1:)) (.p .In (.x 0 2) (.x 2 1)),.ix (.ix (.x 1 0) (.x 0 2)) (2:)]
def Jq:IB:=#[.ret (.own (.comp 2 1 [0,1] ["_law_at","_law_rows","_law_cells"] (.nm 0 2) (.range (.len .(0))) .yes jbf))]
def ja0:IE:=.and (.not (.x 1 3)) (.p .GtE (.ix (.x 0 2) (.x 3 1)) (.j "DEEPEST" (9)))
def ja1:IE:=.tup #[.f (.x 1 3) (.x 0 2) (.call (.call "deepened" 2 #[.x 0 2,.x 3 1])),.x 1 3,.x 2 4]
def ZB:IB:=#[.f (.any (.new (.comp 2 3 [1] ["stain","waxed","wish","dye"] (.tp #[.nm 0 2,.nm 1 3,.nm 2 4]) (.list .(0)) .yes ja0))) #[.raise "TooDeep"] .nil,.ret (.own (.comp 2 3 [1] ["stain","waxed","wish","dye"] (.tp #[.nm 0 2,.nm 1 3,.nm 2 4]) (.list .(0)) .yes ja1))]
def QQ:IB:=#[.ret (.dat (.n .Add (.n .Add (.cutT .(0) .non (.one .(1))) (.tup #[.n .Add (.ix .(0) .(1)) (1:)])) (.cutT .(0) (.one (.n .Add .(1) (1:))) .non)))]
def jao:IE:=.n .Add (.ix (.x 1 3) (.x 0 6)) (.int (.p .Eq (.x 0 6) (.x 2 1)))
def ja5:IB:=#[.f (.not .(4)) #[.a 3 3 (.dat (.tuple (.new (.comp 6 1 [3,1] ["_law_k","_law_stain","_law_dye_here"] (.nm 0 6) (.range (.len .(3))) .yes jao))))] .nil,.app 2 2 (.tup #[.(3),.(4),.(5)])]
def Zx:IB:=#[.a 2 2 (.own (.lst .nil)),.loop (.tp #[.nm 3 3,.nm 4 4,.nm 5 5]) (.list .(0)) ja5,.ret (.move 2 2)]
def ja6:IE:=.and (.not (.ix (.x 0 2) (1:))) (.p .Eq (.ix (.ix (.x 0 2) (0:)) .(1)) (9:))
def ZF:IB:=#[.ret (.dat (.any (.new (.comp 2 1 [1] ["_law_cell_here","_law_dye"] (.nm 0 2) (.list .(0)) .yes ja6))))]
def jO:IB:=#[.f (.not (.call (.call "has_cell" 2 #[.(0),.(1)]))) #[.raise "NoCell"] .nil,.t (.tp #[.nm 3 3,.nm 4 4,.nm 5 5]) (.ix .(0) .(1)),.f (.not (.call (.call "is_picture" 2 #[.(2),.len .(3)]))) #[.raise "BadWish"] .nil,.ret (.own (.cat (.new (.cat (.new (.cut .(0) .non (.one .(1)))) (.new (.lst #[.tup #[.(3),.(4),.(2)]])))) (.new (.cut .(0) (.one (.n .Add .(1) (1:))) .non))))]
def jbq:IE:=.h .LtE .LtE (0:) (.x 0 2) (.j "DEEPEST" (9))
def jS:IB:=#[.ret (.dat (.and (.p .Eq (.len .(0)) .(1)) (.all (.new (.comp 2 1 [] ["shade"] (.nm 0 2) (.tup .(0)) .yes jbq)))))]
def jbu:IE:=.tup #[.x 0 1,.b false,.x 2 3]
def WQ:IB:=#[.ret (.own (.comp 1 3 [] ["stain","waxed","wish"] (.tp #[.nm 0 1,.nm 1 2,.nm 2 3]) (.list .(0)) .yes jbu))]
def Zj:IB:=#[.ret (.dat (.q "abcdefghijklmnopqrstuvwxyz"))]
def ja8:IE:=.six (.call (.call "_law_letters" 0 .nil)) (.call (.call "_law_take" 2 (.io 1 0 #[(26:)])))
def Z4:IB:=#[.a 1 1 (.dat (.n .Add (1:) (.call (.call "_law_take" 2 (.io 0 0 #[(8:)]))))),.ret (.dat (.join "" (.new (.comp 2 1 [0] ["_law_k","_law_box_here"] (.nm 0 2) (.range .(1)) .yes ja8))))]
def Qa:IE:=.sin (.x 0 1) (.gstr "LETTERS" "abcdefghijklmnopqrstuvwxyz")
def JJ:IB:=#[.ret (.dat (.and (.h .LtE .LtE (1:) (.slen .(0)) (.j "MOST_LETTERS" (8))) (.all (.new (.comp 1 1 [] ["sign"] (.nm 0 1) (.chars .(0)) .yes Qa)))))]
def Qq:IB:=#[.bad]
def jam:IE:=.tup #[.x 1 2,.b false,.x 1 2]
def jbk:IB:=#[.a 2 2 (.dat (.n .Mult (.tup #[(0:)]) .(0))),.ret (.own (.comp 3 1 [2] ["at","clear"] (.nm 0 3) (.range .(1)) .yes jam))]
def JK:IB:=#[.bad,.bad,.bad,.bad]
def zbR:IB:=#[.bad,.bad,.bad]
def zbQ:IB:=#[.bad,.bad]
def ZA:IB:=#[.fset 0 0 "Stand" "fresh" (.dat .(1)),.fset 0 0 "Stand" "cloths" (.dat .(2))]
def Qb:IB:=#[.ret (.dat (.call (.make "Stand" "Stand.__init__" 3 #[.new (.mul (.new (.lst #[.b true])) .(0)),.newD .nil])))]
def Zs:IB:=#[.t (.tp #[.nm 2 2,.nm 3 3]) .(1),.e (.call (.call "check_new" 2 #[.(0),.(2)])),.f (.not (.h .LtE .LtE (0:) .(3) (.j "MOST_CELLS" (40)))) #[.raise "BadSize"] .nil,.ret (.call "with_cloths" 2 #[.(0),.newD (.one .(2) (.call (.call "bare" 2 #[.len (.t "Stand" "fresh" .(0)),.(3)])))])]
def qm:IB:=.cons (.star 2 2 3 3 .(1)) (.disp 4 4 "DEEDS" [("hang","behind_hang"),("fold","behind_fold"),("twin","behind_twin"),("wish","behind_wish"),("wax","behind_wax"),("dip","behind_dip"),("boil","behind_boil"),("brew","behind_brew")] 2 .(2) #[.(0),.(3)])
def Zw:IB:=#[.a 2 2 (.ownD (.copy (.t "Stand" "cloths" .(0)))),.dupd 2 2 .(1),.ret (.dat (.call (.make "Stand" "Stand.__init__" 3 #[.t "Stand" "fresh" .(0),.frz 2 2])))]
def Z9:IB:=#[.f (.not (.call (.call "is_name" 1 #[.(1)]))) #[.raise "NoName"] .nil,.f (.d .(1) (.t "Stand" "cloths" .(0))) #[.raise "Taken"] .nil]
def jx:IB:=#[.f (.dnin .(1) (.t "Stand" "cloths" .(0))) #[.raise "NoCloth"] .nil]
def jr:IB:=#[.fset 0 0 "House" "pots" (.dat .(1)),.fset 0 0 "House" "first" (.call "new_stand" 1 #[.(1)]),.fset 0 0 "House" "done" (.own (.lst .nil)),.fset 0 0 "House" "undone" (.own (.lst .nil)),.fset 0 0 "House" "places" (.ownD .nil)]
def yi:IC:=.one (.p .LtE (.x 1 5) (.x 2 3))
def yj:IE:=.x 0 4
def yk:IE:=.x 1 5
def ZO:IB:=#[.a 2 2 (.dat (.call (.call "behind" 2 #[.call (.m 0 0 "House" "now" "House.now" 1 .nil),.(1)]))),.a 3 3 (.dat (.flen 0 0 "House" "done")),.fset 0 0 "House" "places" (.ownD (.comp 4 2 [3] ["word","place","many"] (.tp #[.nm 0 4,.nm 1 5]) (.items (.ffrz 0 0 "House" "places")) yi yj yk)),.fapp 0 0 "House" "done" (.p (.v 1 1) (.v 2 2)),.fset 0 0 "House" "undone" (.own (.lst .nil))]
def Zm:IB:=#[.ret (.own (.sortD (.t "Stand" "cloths" (.call (.m 0 0 "House" "now" "House.now" 1 .nil)))))]
def jaw:IC:=.one (.x 1 2)
def jax:IE:=.x 0 1
def Zn:IB:=#[.ret (.own (.comp 1 2 [] ["dye","is_fresh"] (.tp #[.nm 0 1,.nm 1 2]) (.enum (.t "Stand" "fresh" (.call (.m 0 0 "House" "now" "House.now" 1 .nil)))) jaw jax))]
def jbg:IE:=.x 0 2
def j0:IB:=#[.ret (.own (.comp 2 3 [] ["stain","waxed","wish"] (.tp #[.nm 0 2,.nm 1 3,.nm 2 4]) (.list (.call (.m 0 0 "House" "cloth" "House.cloth" 2 #[.(1)]))) .yes jbg))]
def jbj:IE:=.x 2 4
def j1:IB:=#[.ret (.own (.comp 2 3 [] ["stain","waxed","wish"] (.tp #[.nm 0 2,.nm 1 3,.nm 2 4]) (.list (.call (.m 0 0 "House" "cloth" "House.cloth" 2 #[.(1)]))) .yes jbj))]
def jbh:IC:=.one (.x 2 4)
def jbi:IE:=.x 0 2
def Zo:IB:=#[.ret (.own (.comp 2 4 [] ["at","stain","waxed","wish"] (.tp #[.nm 0 2,.tp #[.nm 1 3,.nm 2 4,.nm 3 5]]) (.enum (.call (.m 0 0 "House" "cloth" "House.cloth" 2 #[.(1)]))) jbh jbi))]
def Zd:IB:=#[.f (.not (.ftru 0 0 "House" "done")) #[.ret (.dat (.fdat 0 0 "House" "first"))] .nil,.ret (.dat (.ix (.flast 0 0 "House" "done") (1:)))]
def jw:IB:=#[.a 2 2 (.dat (.call (.m 0 0 "House" "now" "House.now" 1 .nil))),.e (.call (.call "check_hangs" 2 #[.(2),.(1)])),.ret (.dat (.g (.t "Stand" "cloths" .(2)) .(1)))]
def ja9:IE:=.call (.call "_law_shades" 2 #[.x 0 2,.len (.x 0 2)])
def jU:IB:=#[.f (.or (.not (.i "list" .(0))) (.p .NotEq .(0) .(1))) #[.ret (.dat (.b false))] .nil,.ret (.dat (.all (.new (.comp 2 1 [] ["_law_one"] (.nm 0 2) (.list .(0)) .yes ja9))))]
def jah:IC:=.one (.p .NotEq (.x 0 3) (.x 1 2))
def jay:IE:=.x 0 3
def jaz:IE:=.g (.t "Stand" "cloths" (.x 2 0)) (.x 0 3)
def Zr:IB:=#[.a 2 2 (.dat (.ix .(1) (0:))),.e (.call (.call "check_hangs" 2 #[.(0),.(2)])),.ret (.dat (.call (.make "Stand" "Stand.__init__" 3 #[.t "Stand" "fresh" .(0),.newD (.comp 3 1 [2,0] ["other","name","stand"] (.nm 0 3) (.keys (.t "Stand" "cloths" .(0))) jah jay jaz)])))]
def Zt:IB:=#[.t (.tp #[.nm 2 2,.nm 3 3]) .(1),.e (.call (.call "check_hangs" 2 #[.(0),.(2)])),.e (.call (.call "check_new" 2 #[.(0),.(3)])),.ret (.call "with_cloths" 2 #[.(0),.newD (.one .(3) (.g (.t "Stand" "cloths" .(0)) .(2)))])]
def Zu:IB:=#[.t (.tp #[.nm 2 2,.nm 3 3,.nm 4 4]) .(1),.e (.call (.call "check_hangs" 2 #[.(0),.(2)])),.ret (.call "with_cloths" 2 #[.(0),.newD (.one .(2) (.call (.call "with_wish" 3 #[.g (.t "Stand" "cloths" .(0)) .(2),.(3),.(4)])))])]
def ZQ:IB:=#[.t (.tp #[.nm 2 2,.nm 3 3]) .(1),.e (.call (.call "check_hangs" 2 #[.(0),.(2)])),.ret (.call "with_cloths" 2 #[.(0),.newD (.one .(2) (.call (.call "with_wax" 2 #[.g (.t "Stand" "cloths" .(0)) .(2),.(3)])))])]
def jbn:IE:=.x 0 5
def jbo:IE:=.call (.call "dipped" 2 #[.g (.t "Stand" "cloths" (.x 1 0)) (.x 0 5),.x 2 3])
def ZP:IB:=#[.t (.tp #[.nm 2 2,.nm 3 3]) .(1),.e (.call (.call "check_dye" 2 #[.(0),.(3)])),.f (.not (.ix (.t "Stand" "fresh" .(0)) .(3))) #[.raise "Spent"] .nil,.e (.call (.call "check_names" 2 #[.(0),.(2)])),.a 4 4 (.dat (.newD (.comp 5 1 [0,3] ["name","stand","dye"] (.nm 0 5) (.std (.tup .(2))) .yes jbn jbo))),.ret (.call "with_pot" 3 #[.call (.call "with_cloths" 2 #[.(0),.(4)]),.(3),.b false])]
def jbl:IE:=.x 0 3
def jbm:IE:=.call (.call "boiled" 1 #[.g (.t "Stand" "cloths" (.x 1 0)) (.x 0 3)])
def Zp:IB:=#[.a 2 2 (.dat (.ix .(1) (0:))),.e (.call (.call "check_names" 2 #[.(0),.(2)])),.ret (.call "with_cloths" 2 #[.(0),.newD (.comp 3 1 [0] ["name","stand"] (.nm 0 3) (.std (.tup .(2))) .yes jbl jbm)])]
def Zq:IB:=#[.a 2 2 (.dat (.ix .(1) (0:))),.e (.call (.call "check_dye" 2 #[.(0),.(2)])),.f (.ix (.t "Stand" "fresh" .(0)) .(2)) #[.raise "StillFresh"] .nil,.ret (.call "with_pot" 3 #[.(0),.(2),.b true])]
def QR:IB:=#[.a 3 3 (.own (.list (.t "Stand" "fresh" .(0)))),.set 3 3 .(1) .(2),.ret (.dat (.call (.make "Stand" "Stand.__init__" 3 #[.frz 3 3,.t "Stand" "cloths" .(0)])))]
def jbp:IB:=#[.e (.call (.call "check_hangs" 2 #[.(0),.(2)]))]
def Zv:IB:=#[.loop (.nm 2 2) (.tup .(1)) jbp,.f (.p .NotEq (.lsetS .(1)) (.len .(1))) #[.raise "Twice"] .nil]
def Z8:IB:=#[.f (.not (.h .LtE .Lt (0:) .(1) (.len (.t "Stand" "fresh" .(0))))) #[.raise "NoDye"] .nil]
def vn:IE:=.and (.not (.ix (.x 0 2) (1:))) (.p .Eq (.ix (.ix (.x 0 2) (0:)) .(1)) (9:))
def yN:IB:=#[.ret (.dat (.any (.new (.comp 2 1 [1] ["_law_cell","_law_dye_here"] (.nm 0 2) (.list .(0)) .yes vn))))]
def ja7:IE:=.b true
def QC:IB:=#[.ret (.own (.lst #[.(0),.new (.comp 1 1 [] ["_law_dye_here"] (.nm 0 1) (.range .(0)) .yes ja7),.newD .nil]))]
def ja3:IE:=(0:)
def ja4:IE:=.tup #[.x 1 2,.b false,.x 1 2]
def ZZ:IB:=#[.a 2 2 (.dat (.tuple (.new (.comp 3 1 [] ["_law_dye_here"] (.nm 0 3) (.range .(0)) .yes ja3)))),.ret (.own (.comp 3 1 [2] ["_law_at","_law_empty"] (.nm 0 3) (.range .(1)) .yes ja4))]
def qq:IB:=#[.u 3 3 .(5) (.call (.call "_law_dip" 2 #[.g .(3) .(5),.ix .(1) (2:)]))]
def qr:IB:=#[.u 3 3 .(5) (.call (.call "_law_boil" 1 #[.g .(3) .(5)]))]
def qI:IB:=#[.a 2 2 (.own (.list (.ix .(0) (1:)))),.a 3 3 (.ownD (.copy (.ix .(0) (2:)))),.f (.p .Eq (.ix .(1) (0:)) (.q "hang")) #[.u 3 3 (.ix .(1) (1:)) (.call (.call "_law_blank" 2 #[.ix .(0) (0:),.ix .(1) (2:)]))] #[.f (.p .Eq (.ix .(1) (0:)) (.q "fold")) #[.dpop 3 3 (.ix .(1) (1:))] #[.f (.p .Eq (.ix .(1) (0:)) (.q "twin")) #[.u 3 3 (.ix .(1) (2:)) (.g .(3) (.ix .(1) (1:)))] #[.f (.p .Eq (.ix .(1) (0:)) (.q "wish")) #[.a 4 4 (.own (.list (.g .(3) (.ix .(1) (1:))))),.set 4 4 (.ix .(1) (2:)) (.tup #[.ix (.ix .(4) (.ix .(1) (2:))) (0:),.ix (.ix .(4) (.ix .(1) (2:))) (1:),.ix .(1) (3:)]),.u 3 3 (.ix .(1) (1:)) (.frz 4 4)] #[.f (.p .Eq (.ix .(1) (0:)) (.q "wax")) #[.u 3 3 (.ix .(1) (1:)) (.call (.call "_law_wax" 2 #[.g .(3) (.ix .(1) (1:)),.ix .(1) (2:)]))] #[.f (.p .Eq (.ix .(1) (0:)) (.q "dip")) #[.set 2 2 (.ix .(1) (2:)) (.b false),.loop (.nm 5 5) (.tup (.ix .(1) (1:))) qq] #[.f (.p .Eq (.ix .(1) (0:)) (.q "boil")) #[.loop (.nm 5 5) (.tup (.ix .(1) (1:))) qr] #[.set 2 2 (.ix .(1) (1:)) (.b true)]]]]]]],.ret (.own (.lst #[.ix .(0) (0:),.frz 2 2,.frz 3 3]))]
def jas:IC:=.one (.ix (.ix .(1) (1:)) (.x 0 8))
def jat:IE:=.x 0 8
def jbb:IE:=.ix (.x 0 8) (0:)
def jbc:IE:=.ix (.x 0 8) (2:)
def jbd:IC:=.one (.ix (.ix (.x 1 6) (.x 0 8)) (1:))
def jbe:IE:=.x 0 8
def jau:IB:=#[.a 6 6 (.dat (.g (.ix .(1) (2:)) .(5))),.f (.not (.call (.call "_law_pictures" 2 #[.call (.m 0 0 "House" "stains" "House.stains" 2 #[.(5)]),.new (.comp 8 1 [] ["_law_cell"] (.nm 0 8) (.list .(6)) .yes jbb)]))) #[.ret (.dat (.b false))] .nil,.f (.not (.call (.call "_law_pictures" 2 #[.call (.m 0 0 "House" "wishes" "House.wishes" 2 #[.(5)]),.new (.comp 8 1 [] ["_law_cell"] (.nm 0 8) (.list .(6)) .yes jbc)]))) #[.ret (.dat (.b false))] .nil,.a 7 7 (.dat (.call (.m 0 0 "House" "waxed" "House.waxed" 2 #[.(5)]))),.f (.or (.not (.call (.call "_law_wholes" 1 #[.(7)]))) (.p .NotEq .(7) (.new (.comp 8 1 [6] ["_law_at","_law_rows"] (.nm 0 8) (.range (.len .(6))) jbd jbe)))) #[.ret (.dat (.b false))] .nil]
def Zk:IB:=#[.a 2 2 (.dat (.call (.m 0 0 "House" "ready" "House.ready" 1 .nil))),.a 3 3 (.dat (.call (.m 0 0 "House" "names" "House.names" 1 .nil))),.a 4 4 (.dat (.new (.comp 8 1 [1] ["_law_dye_here","_law_kept_here"] (.nm 0 8) (.range (.ix .(1) (0:))) jas jat))),.f (.or (.not (.call (.call "_law_wholes" 1 #[.(2)]))) (.or (.p .NotEq .(2) .(4)) (.or (.not (.i "list" .(3))) (.p .NotEq .(3) (.new (.sortD (.ix .(1) (2:)))))))) #[.ret (.dat (.b false))] .nil,.loop (.nm 5 5) (.list .(3)) jau,.ret (.dat (.b true))]
def jak:IB:=#[.a 3 3 (.dat (.call (.call "_law_named" 1 (.io 0 0 .nil)))),.f (.p .NotIn .(3) .(1)) #[.app 1 1 .(3)] .nil]
def QD:IB:=#[.a 1 1 (.own (.lst .nil)),.loop (.nm 2 2) (.range (.n .Add (2:) (.call (.call "_law_take" 2 (.io 0 0 #[(3:)]))))) jak,.ret (.move 1 1)]
end
def runI(n:Nat)(mask:List Bool)(io:Ac)(body:IB)(cf:CF)(args:List OV):RF:=if args.length=mask.length then fin mask (body.ex cf io (args.map some++List.replicate (n-mask.length) none)) else .bad
end Wx
local macro_rules
  | `(tactic| simp! [$xs,*])=>do
    let ys←("fin outs sSeq sNext sAsg sIf sRet sSet sApp sFor sAsgT sExpr fVar fFrz fC fBin fCmp fB fTru fNotT fAndT fOrT fAndV fOrV fIf fIx f1 f2 fChain fTup fLst fCons fNil fNew fOwn fOD fD fMove fCall aNil aCons aIo toArg toArgs ios putBack derf derS derSs derL leaves itemF binD cmpD truD R.bind R.get isOwn fSeqL fSeqT fRange fEnum fYes fComp fListC fTupC gLen lenD gInt gAll gAny gMin gMax gNeg fIsi isiB tgF tgFs".splitOn " ").toArray.mapM fun s=>`(Lean.Parser.Tactic.simpLemma| $(Lean.mkIdent ("L3."++s).toName):ident)
    `(tactic| simp [Wx.runI,L2.tyD,L2.noL,$ys,*,$xs,*])
namespace Wx
open PySem L2 L3
def Nz{α:Type}(a b:α):Prop:=a=b
def nz{α:Type}{a b:α}(h:a=b):Nz a b:=h
section
variable {α:Type}{a b:α}{l m:List α}{n:Nat}
def l1:(a::l).set 0 b=b::l:=rfl
def l2:(a::l).set (n+1) b=a::l.set n b:=rfl
def l3:(a::l).take (n+1)=a::l.take n:=rfl
def l5:(a::l).length=l.length+1:=rfl
def l6:([]:List α).length=0:=rfl
def l7:l.take 0= []:=rfl
def l8{β:Type}{f:α->β}:(a::l).map f=f a::l.map f:=rfl
def l9{β:Type}{f:α->β}:([]:List α).map f= []:=rfl
def la:(a::l)++m=a::(l++m):=rfl
def lb:([]:List α)++m=m:=rfl
def lc:List.replicate (n+1) a=a::List.replicate n a:=rfl
def ld:List.replicate 0 a= []:=rfl
def lf{n:Nat}:(n:Int).toNat=n:=rfl
def le{x:PyData}:(OV.d x).view=x:=rfl
def lg{d:Ad}:(OV.m d).view=.dict (d.map dK):=rfl
def lh{d:Aa}:(OV.l (d.map .d)).view=.list d:=by rw[OV.view,OV.views_d]
end
def gB{α β:Type}{r:R α}{f:α->R β}{a:α}{y:R β}(h:r=.ok a)(k:f a=y):r.bind f=y:=by rw[h];exact k
def gG{α β:Type}{o:Option α}{f:α->R β}{a:α}{y:R β}(h:o=some a)(k:f a=y):R.get o f=y:=by rw[h];exact k
def kSq(g:SM)(Γ1:Gv)(fl:FL):R (FL×Gv):=match fl with | .next=>g Γ1 | fl=>.ok (fl,Γ1)
section
variable {f g:SM}{Γ Γ1 Γ2 Γ3:Gv}{x:FL×Gv}{fl:FL}{y:R (FL×Gv)}{o:OV}
def kN(h:g Γ=y):kSq g Γ .next=y:=h
def kR:kSq g Γ (.ret o)=.ok (.ret o,Γ):=rfl
def gSeq(h:f Γ=.ok x)(hn:Nz x (fl,Γ1))(k:kSq g Γ1 fl=y):sSeq f g Γ=y:=by
 cases hn;unfold sSeq;rw[h];cases fl<;>exact k
def gOD{f:EM OV}{x:PyData}(h:f Γ=.ok (o,Γ1))(hn:Nz o.view x):fOD f Γ=.ok (.dat x,Γ1):=by
 cases hn;unfold fOD;rw[h];rfl
def zkg{run:List OV->RF}{fa:EM (List AV)}{as:List AV}{args ar:List OV}{r:OV}{os:List (Option OV)}(h:fa Γ=.ok (as,Γ1))(h1:toArgs Γ1 as=some args)(ha:Nz args ar)(h2:decide ((ios as).Nodup)=true)(h3:run ar=.ok r os)(h4:putBack as os Γ1=some Γ2)(hn:Nz (Γ2.take Γ.length) Γ3):fCall run fa Γ=.ok (r,Γ3):=by
 cases hn;cases ha;unfold fCall;rw[h];dsimp only [R.bind];rw[h1];dsimp only;rw[if_pos (Xf h2),h3];dsimp only;rw[h4]
def gRun{n:Nat}{mask:List Bool}{io:Ac}{body:IB}{cf:CF}{args:List OV}{r:OV}{os:List (Option OV)}(h0:decide (args.length=mask.length)=true)(hn:Nz (args.map some++List.replicate (n-mask.length) none) Γ)(h:body.ex cf io Γ=.ok x)(h1:fin mask (.ok x)=.ok r os):runI n mask io body cf args=.ok r os:=by
 cases hn;unfold runI;rw[if_pos (Xf h0),h];exact h1
end
section
end
section
variable {α:Type}{a b y:R α}
def gT{c:Bool}(h:c=true)(k:a=y):(if c then a else b)=y:=by rw[h];exact k
def gF{c:Bool}(h:c=false)(k:b=y):(if c then a else b)=y:=by rw[h];exact k
def gP{c:Prop}[Decidable c](h:c)(k:a=y):(if c then a else b)=y:=by rw[if_pos h];exact k
end
end Wx
open PySem L2 L3 Wx in
local macro_rules
  | `(tactic| push_cast [$xs,*])=>do
    let ys:=xs.getElems.map λx=>(⟨x.raw[2]⟩:Lean.Term)
    let b:=ys[0]!
    let zs:=ys.extract 1 ys.size
    let cl<-`(tactic| first | (with_reducible rfl) | (with_reducible assumption) | exact of_decide_eq_true rfl | (simp[$[$zs:term],*]<;>omega) | exact decide_eq_true (by omega) | exact decide_eq_false (by omega) | exact rfl | omega)
    `(tactic| (try apply gRun)<;>(try dsimp only [$b:term,vT_1,vT_2,zdp,zdc,zaR,zaS,kE,za0,za1,zdo,zdk,zc8,zc9,kF,zdl,zdj,zc6,zf1,zdf,zf0,zdg,zdd,zc5,zc7,kI,zde,zdi,zdh,zaT,zaQ,za3,kH,zdm,za5,za2,zdn,zaU,zda,zdb,zaV,zaP,za4,zaW,zaY,zaZ,kG,zaX,zds,za9,zc0,zaL,zfZ,zdx,zdw,zbc,zdv,zbe,zbd,zbf,zdy,kO,zdB,zdC,za8,zdr,kM,za7,kL,zc4,zc3,zdz,zdA,zbg,zbj,zbk,zbh,zbi,zdt,zdu,zbb,zba,zdq,kJ,za6,zdF,zdE,zbl,zbp,zdH,zbs,zdI,zdD,zdJ,zdG,kP,zbt,zbr,zbq,zbo,zbn,zbm,zc1,zc2,zaN,zaO,zaM])<;>repeat' (first | ((with_reducible apply nz);(try dsimp only [l1,l2,l3,l5,l6,l7,l8,l9,la,lb,lc,ld,le,lf,lg,Nat.reduceAdd,Nat.reduceSub]);(try simp only[lh]);(try exact rfl);done) | (with_reducible rfl) | (with_reducible apply gSeq) | (with_reducible apply kN) | (with_reducible apply kR) | ((fail_if_success (with_reducible show (_:R (FL×Gv))=_));exact rfl) $[| (with_reducible apply $zs)]* | (with_reducible apply zkg) | (with_reducible apply gOD) | (with_reducible apply gRg) | (with_reducible apply gB) | (with_reducible apply gG) | ((with_reducible apply gT);$cl) | ((with_reducible apply gF);$cl) | ((with_reducible apply gP);$cl) | ((with_reducible apply gN);$cl) | (with_reducible apply gIo) | ((with_reducible show (-1000000<=_/\_));$cl) | (with_reducible apply mL) | (with_reducible apply mT) | (with_reducible apply mK) | exact rfl | (apply mO;exact rfl) | (apply mD;exact rfl) | ((with_reducible show ((_:Option _)=some _));(conv=>lhs;simp[$[$zs:term],*,cmpD,gDin,gDnin,gLen,lenD,gAll,gAny,gInt,truD,leaves]);(try exact rfl);done)))
namespace Wx
open PySem L2 L3
def VH (cf:CF):Prop:=∀ a b:Int,∃ r,cf "_law_mixed" [.d (.int a),.d (.int b)]=.ok (.d (.int r)) [none,none]
def zeb(cf:CF):VH λ_=>runI 4 [false,false] [] Z3 cf:=λa b=>by
 simp![Z3,OV.view,OV.views,W6,ixN,atI]
 rw[if_pos]
 ·simp[outs]
 ·lia
def zV(b:OV):Prop:=∃ cells i l t s,0<=i/\b=Qu cells i l t s
def zh3(b:OV)(n:Int)(x:RF):Prop:=∃(r:Int)(b':OV),0<=r/\r<n/\zV b'/\x=.ok (.d (.int r)) [some b',none]
def qJ (cf:CF):Prop:=∀ b,zV b->∀ n:Int,1<=n->n<1073741824->zh3 b n (cf "_law_take" [b,.d (.int n)])
def zhz(cf:CF)(hm:VH cf):qJ λ_=>runI 4 [true,false] [0] jm cf:=λb hb n h1 h2=>by
 let⟨cells,i,l,t,s,hi,rfl⟩:=hb
 let h0:0<n:=by lia
 let hp:((10:Int) ^ 18)=1000000000000000000:=by decide
 by_cases hl:0<l
 ·refine⟨l % n,Qu cells i (l / n) (t+1) s,uU _ (by lia),uC _ h0,⟨_,_,_,_,_,hi,rfl⟩,?_⟩
  simp![jm,Qu,hl,h0,h2,OV.view,OV.views,W6,ixN,atI]
 ·by_cases hc:(cells.length:Int)<=i
  ·let⟨r,er⟩:=hm s (t+1)
   refine⟨r % n,Qu cells i l (t+1) s,uU _ (by lia),uC _ h0,⟨_,_,_,_,_,hi,rfl⟩,?_⟩
   simp![jm,Qu,hl,hc,h0,h2,er,OV.view,OV.views,W6,ixN,atI]
  ·let hix:i.toNat<cells.length:=by lia
   let hlt:i<(cells.length:Int):=by lia
   let hg:=xb hix
   by_cases hs:cells[i.toNat]<1000000000000000000
   ·let⟨r,er⟩:=hm cells[i.toNat] (t+1)
    refine⟨r % n,Qu cells (i+1) l (t+1) s,uU _ (by lia),uC _ h0,⟨_,_,_,_,_,by lia,rfl⟩,?_⟩
    simp![jm,Qu,hl,hc,h0,h2,hi,hlt,hg,hs,hp,er,OV.view,OV.views,W6,ixN,atI]
   ·refine⟨cells[i.toNat] % n,Qu cells (i+1) (cells[i.toNat] / n) (t+1) s,uU _ (by lia),uC _ h0,⟨_,_,_,_,_,by lia,rfl⟩,?_⟩
    simp![jm,Qu,hl,hc,h0,h2,hi,hlt,hg,hs,hp,OV.view,OV.views,W6,ixN,atI]
def jf{t:IT}{body:SM}(I:Aa->Gv->Prop){ds:Aa}(h0:I [] Γ)
  (hs:∀ pre d post,ds=pre++d::post->∀ Γ,I pre Γ->∃ Γ1 Γ2,tgF t d Γ=some Γ1/\body Γ1=.ok (.next,Γ2)/\I (pre++ [d]) Γ2):∃ Γ',jk t body ds Γ=.ok (.next,Γ')/\I ds Γ':=by
 suffices H:∀ post pre Γ,ds=pre++post->I pre Γ->∃ Γ',jk t body post Γ=.ok (.next,Γ')/\I ds Γ' from H ds [] Γ rfl h0
 intro post
 induction post with
 |nil=>intro pre Γ e h;rw[xU]at e;subst e;exact⟨Γ,rfl,h⟩
 |cons d post ih=>
  intro pre Γ e h
  let⟨Γ1,Γ2,e1,e2,h2⟩:=hs pre d post e Γ h
  let⟨Γ',e3,h3⟩:=ih (pre++ [d]) Γ2 (by rw[e];simp) h2
  exact⟨Γ',by rw[jk,e1];simp only[e2];exact e3,h3⟩
def qH{k:Nat}{t:IT}{cond:EM Bool}{elt:EM FV}(I:Aa->Aa->Gv->Prop){ds:Aa}(h0:I [] [] Γ)
  (hs:∀ pre d post,ds=pre++d::post->∀ ys Γ,I pre ys Γ->∃ Γ2 c Γ3,tgF t d (Γ++List.replicate k none)=some Γ2/\cond Γ2=.ok (c,Γ3)/\(c=true->∃ u Γ4 y,elt Γ3=.ok (u,Γ4)/\derS Γ4 u=some y/\I (pre++ [d]) (ys++ [y]) (Γ4.take Γ.length))/\(c=false->I (pre++ [d]) ys (Γ3.take Γ.length))) :
  ∃ ys Γ',qD k t cond elt ds [] Γ=.ok (ys,Γ')/\I ds ys Γ':=by
 suffices H:∀ post pre ys Γ,ds=pre++post->I pre ys Γ->∃ ys' Γ',qD k t cond elt post ys Γ=.ok (ys',Γ')/\I ds ys' Γ' from H ds [] [] Γ rfl h0
 intro post
 induction post with
 |nil=>intro pre ys Γ e h;rw[xU]at e;subst e;exact⟨ys,Γ,rfl,h⟩
 |cons d post ih=>
  intro pre ys Γ e h
  let⟨Γ2,c,Γ3,e1,e2,ht,hf⟩:=hs pre d post e ys Γ h
  cases c with
  |true=>
   let⟨u,Γ4,y,e3,e4,h5⟩:=ht rfl
   let⟨ys',Γ',e6,h6⟩:=ih (pre++ [d]) _ _ (by rw[e];simp) h5
   let hit:itL elt Γ3=.ok (y,Γ4):=by simp only[itL,e3,R.bind,R.get,e4]
   exact⟨ys',Γ',by unfold qD;rw[loopG,e1];simp only[e2,hit];exact e6,h6⟩
  |false=>
   let⟨ys',Γ',e6,h6⟩:=ih (pre++ [d]) _ _ (by rw[e];simp) (hf rfl)
   exact⟨ys',Γ',by unfold qD;rw[loopG,e1];simp only[e2];exact e6,h6⟩
def qF{k:Nat}{t:IT}{cond:EM Bool}{elt:EM FV}(p:PyData->Bool)(f:PyData->PyData){ds:Aa}{Γ:Gv}
  (hs:∀ d∈ds,∃ Γ2 Γ3,tgF t d (Γ++List.replicate k none)=some Γ2/\cond Γ2=.ok (p d,Γ3)/\Γ3.take Γ.length=Γ/\(p d=true->∃ u Γ4,elt Γ3=.ok (u,Γ4)/\derS Γ4 u=some (f d)/\Γ4.take Γ.length=Γ)) :
  qD k t cond elt ds [] Γ=.ok ((ds.filter p).map f,Γ):=by
 let⟨ys,Γ',e,hy,rfl⟩:=qH (k:=k) (λpre ys Γ'=>ys=(pre.filter p).map f/\Γ'=Γ) (ds:=ds) (Γ:=Γ) ⟨rfl,rfl⟩ (by
  rintro pre d post e ys Γ' ⟨rfl,rfl⟩
  let⟨Γ2,Γ3,e1,e2,e3,h⟩:=hs d (by rw[e];simp)
  refine⟨Γ2,p d,Γ3,e1,e2,λhp=>?_,λhp=>⟨by simp[uD,hp],e3⟩⟩
  let⟨u,Γ4,e4,e5,e6⟩:=h hp
  exact⟨u,Γ4,_,e4,e5,by simp[uD,hp],e6⟩)
 rw[e,hy]
def zca(e:ds=pre++d::post):pre.length<ds.length:=by rw[e];simp
def zA(xs:List Int):PyData:=.tuple (xs.map .int)
def Zc(st:List Int)(w:Bool)(wi:List Int):PyData:=.tuple [zA st,.bool w,zA wi]
def In9(xs:List Int):Prop:=∀ x∈xs,0<=x/\x<=9
structure zct(pots:Nat)(st wi:List Int):Prop where
 sl:st.length=pots
 wl:wi.length=pots
 sn:In9 st
 wn:In9 wi
structure Cl where
 st:List Int
 w:Bool
 wi:List Int
def Cl.D(c:Cl):PyData:=Zc c.st c.w c.wi
def zQ(n:Nat)(i:Int):lay n (.int i)=true:=by cases n<;>rfl
def WF(h:∀ x∈xs,lay n x=true):lay (n+1) (.list xs)=true:=by rw[lay];exact xG.mpr h
def zgg(h:∀ x∈xs,lay n x=true):lay (n+1) (.tuple xs)=true:=by rw[lay];exact xG.mpr h
def wC(h:lay n d=true):PyData.eqv d d=true:=PySem.SeqAt.eqv_refl d (q8 n d h).1
def zS(i j:Int):PyData.eqv (.int i) (.int j)=(i==j):=rfl
def ql(xs:Ac):Aa:=xs.map λ(i:Nat)=>.int (i:Int)
def zB(cs:List Cl):PyData:=.list (cs.map Cl.D)
def Bolt(pots:Nat)(cs:List Cl):Prop:=cs.length<=1000/\∀ c∈cs,zct pots c.st c.wi
def wB{xs:List Int}(h:d<xs.length):atI (xs.map PyData.int) (d:Int)=some (.int (xs.getD d 0)):=by
 let e:(xs.map PyData.int)[d]?=some (.int (xs.getD d 0)):=by rw[xf,xb h,xE,xb h];rfl
 unfold atI ixN
 rw[if_pos (by lia),if_pos (by rw[xo];lia)]
 simpa using e
def jz{α:Type}(a b c:α):atI [a,b,c] 0=some a:=rfl
def jT{α:Type}(a b c:α):atI [a,b,c] 1=some b:=rfl
def jJ{α:Type}(a b c:α):atI [a,b,c] 2=some c:=rfl
def zbL(xs:Ac):(ql xs).length=xs.length:=by simp[ql]
def qG{α:Type}(l:List α):l.filter (λ_=>true)=l:=List.filter_eq_self.mpr λ_ _=>rfl
def wA (cf:CF):Prop:=∀ i:Int,cf "_law_whole" [.d (.int i)]=.ok (.d (.bool true)) [none]
def zft(cf:CF):wA λ_=>runI 1 [false] [] Z5 cf:=λi=>by
 push_cast [Z5]
def wW (cf:CF):Prop:=∀ xs:Ac,xs.length<=1000->cf "_law_wholes" [.d (.list (ql xs))]=.ok (.d (.bool true)) [none]
def zcl(cf:CF)(hw:wA cf):wW λ_=>runI 1 [false] [] ZH cf:=λxs hl=>by
 let e:=qF (k:=1) (t:=.nm 0 1) (cond:=fYes) (elt:=(jbt.ev cf).1) (ds:=ql xs) (Γ:= [@&(.list (ql xs))]) (λ_=>true) (λ_=>.bool true) (by
  intro x hx
  let⟨i,_,rfl⟩:=xv.mp hx
  refine⟨_,_,by simp[tgF];rfl,rfl,by simp,λ_=>⟨.dat (.bool true),[@&(.list (ql xs)),@&(.int i)],?_,rfl,by simp⟩⟩
  simp![jbt,hw (i:Int),OV.view,OV.views,W6,ixN,atI])
 let hz:xs.length<=1000000:=by lia
 let hb:qi (List.map (λ_=>PyData.bool true) (List.filter (λ_=>true) (ql xs)))=some ((ql xs).map λ_=>true):=by
  rw[qG,<- jM,xu];rfl
 let ha:((ql xs).map λ_=>true).all id=true:=by simp
 simp![ZH,zbL,hz,OV.view,OV.views,W6,ixN,atI]
 rw[e]
 simp only[Option.bind_some,gAll,hb,uz,ha,outs];rfl
def YC(s:String):PyData.strOk (Str.ofString s)=true:=by
 rw[Str.ofString_eq_toList]
 unfold PyData.strOk
 rw[Array.all_eq_true]
 intro i hi
 let key:∀ c:Char,c.toNat<0x110000:=λc=>by
  have:=c.valid
  rcases this with h | h
  ·let h1:c.toNat<0xd800:=h
   lia
  ·erw[h.2]
 simp only[x0]
 have:∀ x∈(s.toList.map Char.toNat),x<0x110000:=λx hx=>by
  let⟨c,_,rfl⟩:=xv.mp hx
  erw[key c]
 let hi':i<(s.toList.map Char.toNat).length:=by simpa using hi
 have:=this _ (xO hi')
 simpa using this
def zge(sep:Str)(ys:Ab):Txt.join sep ys=Str.join sep ys:=StrLaws.glued_eq_join sep ys
inductive Deed where
 |hang (n:Str) (k:Int)
 |fold (n:Str)
 |twin (n m:Str)
 |wish (n:Str) (k:Int) (sh:List Int)
 |wax (n:Str) (cs:List Int)
 |dip (ns:Ab) (k:Int)
 |boil (ns:Ab)
 |brew (k:Int)
def qc(ns:Ab):PyData:=.tuple (ns.map .str)
def Deed.D:Deed->PyData
 |.hang n k=>.tuple [.str "hang",.str n,.int k]
 |.fold n=>.tuple [.str "fold",.str n]
 |.twin n m=>.tuple [.str "twin",.str n,.str m]
 |.wish n k sh=>.tuple [.str "wish",.str n,.int k,zA sh]
 |.wax n cs=>.tuple [.str "wax",.str n,zA cs]
 |.dip ns k=>.tuple [.str "dip",qc ns,.int k]
 |.boil ns=>.tuple [.str "boil",qc ns]
 |.brew k=>.tuple [.str "brew",.int k]
def Nm(x:Str):Prop:=1<=x.length/\x.length<=8/\∀ c∈x.cps.toList,97<=c/\c<=122
def Nm.ok(h:Nm x):PyData.strOk x=true:=by
 unfold PyData.strOk
 rw[Array.all_eq_true]
 intro i hi
 have:=(h.2.2 x.cps[i] (by simp)).2
 simp only[x0];lia
def k5 (cf:CF):runI 0 [] [] Zj cf []=.ok (.d (.str "abcdefghijklmnopqrstuvwxyz")) []:=by
 push_cast [Zj]
def Qi (cf:CF):Prop:=cf "_law_letters" []=.ok (.d (.str "abcdefghijklmnopqrstuvwxyz")) []
def zbH (h0:0<=i) (h1:i<26):∃ c:Nat,atI ("abcdefghijklmnopqrstuvwxyz" :Str).cps.toList i=some c/\97<=c/\c<=122:=by
 have:∀ n:Nat,n<26->∃ c:Nat,atI ("abcdefghijklmnopqrstuvwxyz" :Str).cps.toList (n:Int)=some c/\97<=c/\c<=122:=by
  intro n hn
  let key:∀ n:Fin 26,("abcdefghijklmnopqrstuvwxyz" :Str).cps.toList[(n:Nat)]?=some (97+(n:Nat)):=by decide +kernel
  exact⟨97+n,qW (key ⟨n,hn⟩),by lia,by lia⟩
 let e:i=((i.toNat:Nat):Int):=by lia
 rw[e]
 exact this i.toNat (by lia)
def yD(x:PyData):(OV.d x).view=x:=rfl
def QY (cf:CF):Prop:=∀ b,zV b->∃ (n:Str) (b':OV),Nm n/\zV b'/\cf "_law_named" [b]=.ok (.d (.str n)) [some b']
def zed(cf:CF)(ht:qJ cf)(hl:Qi cf):QY λ_=>runI 2 [true] [0] Z4 cf:=λb hb=>by
 let⟨r,b1,h1,h1',hb1,e1⟩:=ht b hb 8 (by decide) (by decide)
 let⟨ys,Γ',e2,⟨b2,cs,hcl,hcs,hb2,rfl,rfl⟩⟩:=qH (k:=1) (t:=.nm 0 2) (cond:=fYes) (elt:=(ja8.ev cf).1) (ds:=zZ (1+r.toNat)) (Γ:= [some b1,@&(.int (1+r))])
  (λpre ys Γ=>∃(b2:OV)(cs:Ac),cs.length=pre.length/\(∀ c∈cs,97<=c/\c<=122)/\zV b2/\ys=cs.map (λc=>.str ⟨#[c]⟩)/\Γ= [some b2,@&(.int (1+r))]) ⟨b1,[],rfl,(λ_ h=>nomatch h),hb1,rfl,rfl⟩ (by
   rintro pre d post e ys Γ ⟨b2,cs,hcl,hcs,hb2,rfl,rfl⟩
   let⟨j,b3,g1,g2,hb3,e3⟩:=ht b2 hb2 26 (by decide) (by decide)
   let⟨c,hc,hc1,hc2⟩:=zbH g1 g2
   refine⟨[some b2,@&(.int (1+r)),@&d],true,_,rfl,rfl,λ_=>⟨.dat (.str ⟨#[c]⟩),[some b3,@&(.int (1+r)),@&d],.str ⟨#[c]⟩,?_,rfl,b3,cs++ [c],by simp[hcl],?_,hb3,by simp,rfl⟩,λz=>nomatch z⟩
   ·let hz:("abcdefghijklmnopqrstuvwxyz" :Str).length<=1000000:=by decide
    let hl':cf "_law_letters" []=.ok (.d (.str "abcdefghijklmnopqrstuvwxyz")) []:=hl
    rwa[("abcdefghijklmnopqrstuvwxyz" :Str)=abc]
    simp![ja8,hl',e3,zf4,hz,hc,yD]
   ·intro x hx
    rcases xF.mp hx with hx | hx
    ·erw[hcs x hx]
    ·have:x=c:=by simpa using hx
     subst this;exact⟨hc1,hc2⟩)
 rw[zF]at hcl
 let hj:Str.join "" (cs.map λc=>(⟨#[c]⟩:Str))=⟨cs.toArray⟩:=PyProof.Rows.join_ones cs
 let hm:(cs.map λc=>PyData.str ⟨#[c]⟩)=(cs.map λc=>(⟨#[c]⟩:Str)).map .str:=by rw[xu];rfl
 let hs:=QS (cs.map λc=>(⟨#[c]⟩:Str))
 let hsum:((cs.map λc=>(⟨#[c]⟩:Str)).map (·.length)).sum=cs.length:=by
  clear hs hm hj e2 hcs hcl
  induction cs with
  |nil=>rfl
  |cons c r ih=>simp only[xp,List.sum_cons,ih,xq];show 1+_=_;lia
 let hlen:(cs.map λc=>(⟨#[c]⟩:Str)).length=cs.length:=by simp
 let hg:Wt "" (.list (cs.map λc=>PyData.str ⟨#[c]⟩))=some (.str ⟨cs.toArray⟩):=by
  unfold Wt
  simp only[hm,hs]
  rw[if_pos ⟨by rw[hsum,hlen];lia,by decide⟩,zge,hj]
 refine⟨⟨cs.toArray⟩,b2,⟨by show 1<=cs.toArray.size;simp;lia,by show cs.toArray.size<=8;simp;lia,λc hc=>hcs c (by simpa using hc)⟩,hb2,?_⟩
 let hz: -1000000<=1+r/\1+r<=1000000:=by lia
 let hr:(1+r).toNat=1+r.toNat:=by lia
 let hz2:1+r.toNat<=1000000:=by lia
 rwa[(cs.map λc=>PyData.str ⟨#[c]⟩)=CS,({ cps:=cs.toArray }:Str)=nm]
 unfold Z4
 rwa[ja8=body]
 simp![e1,hz,hz2,hr,e2,zF,hg,yD]
def Kb(h:Str.ofString x=Str.ofString y):x=y:=by
 rw[Str.ofString_eq_toList,Str.ofString_eq_toList]at h
 let h1:x.toList.map Char.toNat=y.toList.map Char.toNat:=by
  have:=congrArg (λz:Str=>z.cps.toList) h
  simpa using this
 let key:∀ a b:List Char,a.map Char.toNat=b.map Char.toNat->a=b:=by
  intro a
  induction a with
  |nil=>intro b e;cases b with
   |nil=>rfl
   |cons _ _=>cases e
  |cons c r ih=>
   intro b e
   cases b with
   |nil=>cases e
   |cons d s=>
    rw[xp,xp,List.cons.injEq]at e
    rw[ih s e.2,show c=d from Char.ext (UInt32.toNat_inj.mp e.1)]
 erw[String.toList_inj.mp (key _ _ h1)]
def wq(x y:String):PyData.eqv (.str (Str.ofString x)) (.str (Str.ofString y))=decide (x=y):=by
 show decide (Str.ofString x=Str.ofString y)=_
 by_cases h:x=y
 ·subst h;simp
 ·rw[Xa h,Xa (λe=>h (Kb e))]
def zY(s:String)(n:Nat):lay n (.str (Str.ofString s))=true:=by
 have:=YC s
 cases n<;>exact this
def cs1{x y:String}:cmpD .Eq (.str (Str.ofString x)) (.str (Str.ofString y))=some (decide (x=y)):=by
 let h2:cmpD .Eq (.str (Str.ofString x)) (.str (Str.ofString y))=some (PyData.eqv (.str (Str.ofString x)) (.str (Str.ofString y))):=by
  simp[cmpD,zY]
 rw[h2,wq x y]
noncomputable abbrev ch(c:Nat):Str:=⟨#[c]⟩
def zcN{α:Type}(xs:List α):(qi (xs.map λ_=>PyData.bool true)).map (λbs=>PyData.bool (bs.all id))=some (.bool true):=by
 have:qi (xs.map λ_=>PyData.bool true)=some (xs.map λ_=>true):=by
  induction xs with
  |nil=>rfl
  |cons a r ih=>simp[qi,ih]
 rw[this]
 simp
def zh4(cf:CF){body:IE}(hb:body=.sin (.x 0 1) (.gstr x z)){cs:Ac}{D:OV}(h:∀ c∈cs,Txt.contains z (ch c)=true) :
  qD 1 (.nm 0 1) fYes (body.ev cf).1 (cs.map λc=>PyData.str (ch c)) [] [some D]=.ok (cs.map λ_=>PyData.bool true,[some D]):=by
 let e:=qF (k:=1) (t:=.nm 0 1) (cond:=fYes) (elt:=(body.ev cf).1) (Γ:= [some D]) (λ_=>true) (λ_=>.bool true) (by
  intro y hy
  let⟨c,hc,rfl⟩:=xv.mp hy
  let hz:=h c hc
  refine⟨[some D,@&(.str (ch c))],_,rfl,rfl,rfl,λ_=>⟨.dat (.bool true),[some D,@&(.str (ch c))],?_,rfl,rfl⟩⟩
  subst hb
  rwa[ch c=cc]
  simp![y9,hz])
 rw[qG,xu]at e
 erw[e]
def kZ:∀ c:Nat,97<=c->c<=122->Txt.contains (Str.ofString "abcdefghijklmnopqrstuvwxyz") (ch c)=true:=λc h1 h2=>by
 have:∀ k:Fin 26,Txt.contains (Str.ofString "abcdefghijklmnopqrstuvwxyz") (ch (97+(k:Nat)))=true:=by decide +kernel
 let e:=this ⟨c-97,by lia⟩
 have:97+(c-97)=c:=by lia
 simp only[this]at e
 erw[e]
def yM{x:Str}(h:∀ c∈x.cps.toList,c<=127):x.cps.all (·<128)=true:=by
 rw[Array.all_eq_true]
 intro i hi
 have:=h x.cps[i] (by simp)
 simp only[x0];lia
def wP (cf:CF):Prop:=∀ n,Nm n->cf "is_name" [.d (.str n)]=.ok (.d (.bool true)) [none]
def kY(cf:CF):wP λ_=>runI 1 [false] [] JJ cf:=λn h=>by
 let⟨h1,h2,h3⟩:=h
 let ha:=yM (x:=n) λc hc=>by have:=(h3 c hc).2;lia
 let e:=zh4 cf (body:=Qa) rfl (cs:=n.cps.toList) (D:=.d (.str n)) λc hc=>kZ c (h3 c hc).1 (h3 c hc).2
 let eb:=zcN n.cps.toList
 let hs:ZS n=n.cps.toList.map λc=>PyData.str (ch c):=rfl
 let hz:n.length<=1000000:=by lia
 let hi1:(1:Int)<=(n.length:Int):=by lia
 let hi2:(n.length:Int)<=8:=by lia
 let hi3:=h1
 let hcl:(n.cps.toList.map λc=>PyData.str (ch c)).length<=1000000:=by simp;exact hz
 unfold JJ
 rwa[Qa=B,(n.cps.toList.map λ_=>PyData.bool true)=BB,(n.cps.toList.map λc=>PyData.str (ch c))=CC]
 simp![JT,QI,ha,hs,hz,hcl,hi1,hi2,hi3,h2,e,eb]
def tps(l:Ao):Aa:=l.map λp=>.tuple [p.1,p.2]
def prs(l:Ao):List OV:=(tps l).map .d
def Kf(l:Ao):leaves (prs l)=some (tps l):=WG _
def jq(x y:String):(Str.ofString x=Str.ofString y)=(x=y):=propext ⟨Kb,λh=>by rw[h]⟩
def hV (pots:Int) (first:PyData) (dn un:Ao) (pl:Ad):OV:=.o "House" ["pots","first","done","undone","places"] [.d (.int pots),.d first,.l (prs dn),.l (prs un),.m pl]
def stV (fr:Aa) (cl:Ad):PyData:=.dict [(.none,.str "Stand"),(.str "fresh",.list fr),(.str "cloths",.dict (cl.map dK))]
def zE(x:PyData):(OV.d x).view=x:=rfl
def wI (fr:Aa) (cl:Ad):(OV.o "Stand" ["fresh","cloths"] [.d (.list fr),.d (.dict (cl.map dK))]).view=stV fr cl:=rfl
def Zh(x y:String):(Str.ofString x==Str.ofString y)=decide (x=y):=by
 by_cases h:x=y
 ·subst h;simp
 ·rw[Xa h]
  erw[x9.mpr λe=>h (Kb e)]
def qM (fr:Aa) (cl:Ad):zdP "Stand" "fresh" (stV fr cl)=some (.list fr):=rfl
def qj (fr:Aa) (cl:Ad):zdP "Stand" "cloths" (stV fr cl)=some (.dict (cl.map dK)):=rfl
def Qk (cf:CF):Prop:=∀ a b,cf "Stand.__init__" [.o "Stand" [] [],.d a,.d b]=.ok (.d .none) [some (.o "Stand" ["fresh","cloths"] [.d a,.d b]),none,none]
def zfc(cf:CF):Qk λ_=>runI 3 [true,false,false] [0] ZA cf:=λa b=>rfl
def zcy (cf:CF):Prop:=∀ p:Nat,p<=12->cf "new_stand" [.d (.int p)]=.ok (.d (stV (List.replicate p (.bool true)) [])) [none]
end Wx
local macro_rules
  | `(tactic| dsimp! [$xs,*])=>do
    let ys←("fDget fDgd derD fAttr fFdat objF ixF fFlen fFtru fFlast fFfrz updF setO sFset sFapp zD wD fMeth fMake fOwnD fNewD fDnil fDone fDcopy fCompD hid loopG fStd fItems fKeys fSortD fMul sRaise sDisp sStar sDupd fNo fNoV gDin gDnin".splitOn " ").toArray.mapM fun s=>`(Lean.Parser.Tactic.simpLemma| $(Lean.mkIdent ("L3."++s).toName):ident)
    `(tactic| simp! [$ys,*,$xs,*])
namespace Wx
open PySem L2 L3
def ziM(cf:CF)(hs:Qk cf):zcy λ_=>runI 1 [false] [] Qb cf:=λp hp=>by
 let h:=hs (.list (List.replicate p (.bool true))) (.dict [])
 let hz:(0:Int)<=p/\(p:Int)<=1000000:=by lia
 let hz2:p<=1000000:=by lia
 let hv:(OV.m []).view=.dict []:=rfl
 let hw:=wI (List.replicate p (.bool true)) []
 dsimp! [Qb,h,hz,hz2,hv,zE,hw]
 rfl
def VF (cf:CF):Prop:=∀ p:Nat,p<=12->cf "House.__init__" [.o "House" [] [],.d (.int p)]=.ok (.d .none) [some (hV p (stV (List.replicate p (.bool true)) []) [] [] []),none]
def zdY(cf:CF)(hn:zcy cf):VF λ_=>runI 2 [true,false] [0] jr cf:=λp hp=>by
 let h:=hn p hp
 rwa[stV (List.replicate p (.bool true)) []=D]
 push_cast [jr,h,hV,prs,tps,jq,cs1]
def j8(first:PyData)(dn:Ao):PyData:=match dn.getLast? with
 |some p=>p.2
 |none=>first
def wR (cf:CF):Prop:=∀ (p:Int) (f:PyData) (dn un:Ao) (pl:Ad),cf "House.now" [hV p f dn un pl]=.ok (.d (j8 f dn)) [some (hV p f dn un pl)]
def ziN(cf:CF):wR λ_=>runI 1 [true] [0] Zd cf:=λp f dn un pl=>by
 cases q:dn.getLast? with
 |none=>
  have:dn= []:=List.getLast?_eq_none_iff.mp q
  subst this
  push_cast [Zd,hV,prs,tps,j8,jq,cs1]
 |some x=>
  let hne:dn≠ []:=λz=>by rw[z]at q;cases q
  let h1:prs dn≠ []:=by cases dn with
   |nil=>erw[absurd rfl hne]
   |cons _ _=>erw[λz=>nomatch z]
  let h2:(prs dn).getLast?=some (.d (.tuple [x.1,x.2])):=by
   unfold prs tps
   rw[List.getLast?_map,List.getLast?_map,q];rfl
  let hi:atI [x.1,x.2] 1=some x.2:=rfl
  simp only[hV,j8,q]
  rwa[prs dn=P]
  dsimp! [Zd,h1,h2,hi,jq]
def Zb (cf:CF):Prop:=∀ (fr:Aa) (cl:Ad) (n:Str),cf "check_hangs" [.d (stV fr cl),.d (.str n)]=if (zI cl n).isSome then .ok (.d .none) [none,none] else .bad
def zdW(cf:CF):Zb λ_=>runI 2 [false,false] [] jx cf:=λfr cl n=>by
 let h1:=qj fr cl
 let h2:=zL cl
 rwa[stV fr cl=D]
 cases q:zI cl n<;>(first | (push_cast [jx,h1,h2,q,fAttr,gDnin,cs1];done) | simp![jx,h1,h2,q,fAttr,gDnin,sRaise])
def QW (cf:CF):Prop:=∀ (p:Int) (f:PyData) (dn un:Ao) (pl:Ad) (fr:Aa) (cl:Ad) (n:Str),j8 f dn=stV fr cl->cf "House.cloth" [hV p f dn un pl,.d (.str n)]=match zI cl n with
 |some d=>.ok (.d d) [some (hV p f dn un pl),none]
 |none=>.bad
def zcP(cf:CF)(hn:wR cf)(hh:Zb cf):QW λ_=>runI 3 [true,false] [0] jw cf:=λp f dn un pl fr cl n hq=>by
 let e1:=hn p f dn un pl
 let e2:=hh fr cl n
 rw[hq]at e1
 let h1:=qj fr cl
 let h2:=zL cl
 let hns:hV p f dn un pl=.o "House" ["pots","first","done","undone","places"] [.d (.int p),.d f,.l (prs dn),.l (prs un),.m pl]:=rfl
 rwa[stV fr cl=D,[OV.d (.int p),.d f,.l (prs dn),.l (prs un),.m pl]=XS,hV p f dn un pl=HH]
 subst hns
 cases q:zI cl n with
 |none=>
  rw[q]at e2
  dsimp! [jw,e1,e2,h1,h2,q,zE,jq]
 |some d=>
  rw[q]at e2
  dsimp! [jw,e1,e2,h1,h2,q,zE,jq]
def zs(p:Nat):PyData:=.tuple (List.replicate p (.int 0))
def jj(p:Nat):PyData:=.tuple [zs p,.bool false,zs p]
def YM (cf:CF):Prop:=∀ p s:Nat,p<=12->s<=40->cf "bare" [.d (.int p),.d (.int s)]=.ok (.l ((List.replicate s (jj p)).map .d)) [none,none]
def ziL{p:Nat}(hp:p<=12):binD .Mult (.tuple [.int 0]) (.int p)=some (zs p):=by
 let h1:(0:Int)<=p/\(p:Int)<1000000/\ [PyData.int 0].length*(p:Int).toNat<=1000000:=⟨by lia,by lia,by rw[uc];lia⟩
 let e:binD .Mult (.tuple [.int 0]) (.int p)=if (0:Int)<=p/\(p:Int)<1000000/\ [PyData.int 0].length*(p:Int).toNat<=1000000 then some (.tuple (List.replicate (p:Int).toNat [.int 0]).flatten) else none:=by
  rw[binD]
 rw[e,if_pos h1]
 unfold zs
 simp
def mul_one(p:Int)(S:OV)(Z:PyData)(G:PyData->PyData->Option PyData)(hb:G (.tuple [.int 0]) (.int p)=some Z):fBin G (fTup (fCons (fC (.int 0)) fNil)) (fVar 0) [@&(.int p),some S,none]=.ok (.dat Z,[@&(.int p),some S,none]):=by
 simp[fBin,fTup,fCons,fC,fNil,fVar,R.bind,R.get,derf,derS,derSs,hb]
def zib(hz:s<=1000000)(hz2: -1000000<=S/\S<=1000000)(hn:S.toNat=s)(B:EM FV)(e:qD 1 (.nm 0 3) fYes B (zZ s) [] [o0,@&(.int S),o2]=.ok (ys,[o0,@&(.int S),o2])):fComp 3 1 (.nm 0 3) (fRange (fVar 1)) fYes B [o0,@&(.int S),o2]=.ok (ys,[o0,@&(.int S),o2]):=by
 simp[fComp,fRange,fVar,R.bind,R.get,derf,hz2,hn,zF,hz,e]
def zcI(e1:A1 [some P,some S,none]=.ok (.next,[some P,some S,some Z]))(e2:A2 [some P,some S,some Z]=.ok (.ret LL,[some P,some S,some Z])):fin [false,false] (sSeq A1 A2 [some P,some S,none])=.ok LL [none,none]:=by
 simp[sSeq,e1,e2,fin,outs]
def zfK(hb:G (.tuple [.int 0]) (.int P)=some Z):sAsg [] 2 (fD (fBin G (fTup (fCons (fC (.int 0)) fNil)) (fVar 0))) [@&(.int P),some S,none]=.ok (.next,[@&(.int P),some S,@&Z]):=by
 let q1:=mul_one P S Z G hb
 unfold sAsg fD
 rw[q1];rfl
def zfL(hz:s<=1000000)(hz2: -1000000<=S/\S<=1000000)(hn:S.toNat=s)(B:EM FV)(e:qD 1 (.nm 0 3) fYes B (zZ s) [] [o0,@&(.int S),o2]=.ok (ys,[o0,@&(.int S),o2])):sRet (fOwn (fComp 3 1 (.nm 0 3) (fRange (fVar 1)) fYes B)) [o0,@&(.int S),o2]=.ok (.ret (.l (ys.map .d)),[o0,@&(.int S),o2]):=by
 let q2:=zib hz hz2 hn B e
 unfold sRet fOwn
 rw[q2];rfl
def zfN(cf:CF)(ds:Aa):qD 1 (.nm 0 3) fYes (jam.ev cf).1 ds [] [o0,o1,@&Z]=.ok (ds.map λ_=>.tuple [Z,.bool false,Z],[o0,o1,@&Z]):=by
 let e:=qF (k:=1) (t:=.nm 0 3) (cond:=fYes) (elt:=(jam.ev cf).1) (ds:=ds) (Γ:= [o0,o1,@&Z]) (λ_=>true) (λ_=>.tuple [Z,.bool false,Z]) (by
  intro x hx
  refine⟨[o0,o1,@&Z,@&x],_,rfl,rfl,rfl,λ_=>⟨.dat (.tuple [Z,.bool false,Z]),[o0,o1,@&Z,@&x],?_,rfl,rfl⟩⟩
  simp![jam])
 rw[qG]at e
 erw[e]
def zfM:jbk.ex cf []=sSeq (sAsg [] 2 (fD (fBin (binD .Mult) (fTup (fCons (fC (.int 0)) fNil)) (fVar 0)))) (sRet (fOwn (fComp 3 1 (.nm 0 3) (fRange (fVar 1)) fYes (jam.ev cf).1))):=rfl
def zfO(cf:CF):YM λ_=>runI 3 [false,false] [] jbk cf:=λp s hp hs=>by
 let e:=zfN cf (o0:=some (.d (.int p))) (o1:=some (.d (.int s))) (Z:=zs p) (zZ s)
 rw[List.map_const',zF]at e
 let f1:=zfK (S:=.d (.int s)) (ziL hp)
 let f2:=zfL (by lia) (by lia) (by lia) _ e
 let hB:jj p=.tuple [zs p,.bool false,zs p]:=rfl
 rw[hB]
 unfold runI
 erw[(if_pos rfl).trans ?_]
 show fin _ (jbk.ex cf [] [@&(.int p),@&(.int s),none])=_
 rw[zfM]
 rwa[(jam.ev cf).1=B,binD .Mult=G,zs p=Z,(p:Int)=P,(s:Int)=S]
 erw[zcI f1 f2]
def ZY (cf:CF):Prop:=∀ (fr:Aa) (cl ch:Ad),cl.length+ch.length<=1000000->cf "with_cloths" [.d (stV fr cl),.d (.dict (ch.map dK))]=.ok (.d (stV fr (zM cl ch))) [none,none]
def qU(ds:Ad):(OV.m ds).view=.dict (ds.map dK):=rfl
def zhJ(cf:CF)(hs:Qk cf):ZY λ_=>runI 3 [false,false] [] Zw cf:=λfr cl ch hl=>by
 let h1:=qj fr cl
 let h2:=zL cl
 let h3:=qM fr cl
 let h4:=zL ch
 let e1:=hs (.list fr) (.dict ((zM cl ch).map dK))
 let hv:=qU (zM cl ch)
 let hw:=wI fr (zM cl ch)
 rwa[stV fr cl=D]
 generalize hMC:zM cl ch=MC at e1 hv hw |-
 rwa[stV fr MC=D2,PyData.dict (MC.map dK)=MD,cl.map dK=CD,ch.map dK=HD]
 dsimp! [Zw,hMC,h1,h2,h3,h4,e1,hv,hw,hl,zE]
def Qj (cf:CF):Prop:=∀ (fr:Aa) (cl:Ad) (n:Str),Nm n->zI cl n=none->cf "check_new" [.d (stV fr cl),.d (.str n)]=.ok (.d .none) [none,none]
def Ym(cf:CF)(hi:wP cf):Qj λ_=>runI 2 [false,false] [] Z9 cf:=λfr cl n hn hv=>by
 let e1:=hi n hn
 let h1:=qj fr cl
 let h2:=zL cl
 rwa[stV fr cl=D,cl.map dK=CD]
 dsimp! [Z9,e1,h1,h2,hv,zE]
def YR (cf:CF):Prop:=∀ (fr:Aa) (cl:Ad) (n:Str) (k:Nat),Nm n->zI cl n=none->fr.length<=12->cl.length<=1000->k<=40->cf "behind_hang" [.d (stV fr cl),.d (.list [.str n,.int k])]=.ok (.d (stV fr (zM cl [(n,.list (List.replicate k (jj fr.length)))]))) [none,none]
def qv(xs:Aa):(OV.l (xs.map .d)).view=.list xs:=by rw[OV.view,OV.views_d]
def zf9(cf:CF)(hw:ZY cf)(hc:Qj cf)(hb:YM cf):YR λ_=>runI 4 [false,false] [] Zs cf:=λfr cl n k hn hv hf hl hk=>by
 let e1:=hc fr cl n hn hv
 let e2:=hb fr.length k hf hk
 let e3:=hw fr cl [(n,.list (List.replicate k (jj fr.length)))] (by simp;lia)
 let h1:=qM fr cl
 let hv2:=qv (List.replicate k (jj fr.length))
 let hz:fr.length<=1000000:=by lia
 let hm:=qU [(n,PyData.list (List.replicate k (jj fr.length)))]
 let hk0:(0:Int)<=k:=by lia
 let hk1:(k:Int)<=40:=by lia
 rwa[stV fr cl=D,stV fr (zM cl [(n,.list (List.replicate k (jj fr.length)))])=D2,PyData.dict (List.map dK [(n,PyData.list (List.replicate k (jj fr.length)))])=MD,OV.l ((List.replicate k (jj fr.length)).map .d)=BL,PyData.list (List.replicate k (jj fr.length))=BD,(k:Int)=K]
 dsimp! [Zs,e1,e2,e3,h1,hv2,hm,hk0,hk1,zE]
def yH (cf:CF) (S D S':PyData):Prop:=cf "behind" [.d S,.d D]=.ok (.d S') [none,none]
def zio(cf:CF)(hn:wR cf)(p:Int)(f:PyData)(dn un:Ao)(D S':PyData)(hl:dn.length<1000000)(hb:yH cf (j8 f dn) D S'):runI 4 [true,false] [0] ZO cf [hV p f dn un [],.d D]=.ok (.d .none) [some (hV p f (dn++ [(D,S')]) [] []),none]:=by
 let e1:=hn p f dn un []
 let e2:cf "behind" [.d (j8 f dn),.d D]=.ok (.d S') [none,none]:=hb
 let h1:(prs dn).length=dn.length:=by unfold prs tps;simp
 let h2:=Kf dn
 let h3:(tps dn++ [PyData.tuple [D,S']]).map OV.d=prs (dn++ [(D,S')]):=by unfold prs tps;simp
 let h4:(tps dn).length<1000000:=by unfold tps;simpa using hl
 let hv:(OV.m []).view=.dict []:=rfl
 let hu:unD []=some []:=rfl
 simp only[hV]at *
 rwa[prs (dn++ [(D,S')])=P2,j8 f dn=NW,prs dn=P,tps dn=T,prs un=U]
 let hp0:prs []= []:=rfl
 dsimp! [ZO,e1,e2,h1,h2,h3,h4,hv,hu,hp0,zE,jq]
def zcB{ds:Aa}:Option.map (λbs=>PyData.bool (bs.all id)) (qi (ds.map λ_=>PyData.bool true))=some (.bool true):=by
 have:(ds.map λ_=>PyData.bool true)=(ds.map λ_=>true).map .bool:=by rw[xu];rfl
 rw[this,jM]
 simp
def jR(x:PyData):(OV.d x).view=x:=rfl
def wS (cf:CF):Prop:=∀ (xs:List Int) (pots:Nat),xs.length=pots->pots<=1000->cf "_law_shades" [.d (zA xs),.d (.int pots)]=.ok (.d (.bool true)) [none,none]
def zb7(cf:CF)(hw:wA cf):wS λ_=>runI 2 [false,false] [] ZG cf:=λxs pots h hl=>by
 let e:=qF (k:=1) (t:=.nm 0 2) (cond:=fYes) (elt:=(jbs.ev cf).1) (ds:=xs.map .int) (Γ:= [@&(zA xs),@&(.int pots)]) (λ_=>true) (λ_=>.bool true) (by
  intro x hx
  let⟨i,_,rfl⟩:=xv.mp hx
  refine⟨[@&(zA xs),@&(.int pots),@&(.int i)],_,rfl,rfl,by simp,λ_=>⟨.dat (.bool true),[@&(zA xs),@&(.int pots),@&(.int i)],?_,rfl,by simp⟩⟩
  simp![jbs,hw i,jR])
 rw[qG]at e
 let a1:=zcB (ds:=xs.map .int)
 let hml:(xs.map PyData.int).length=pots:=by simpa using h
 unfold zA at e |-
 rwa[xs.map PyData.int=X]
 let hz:X.length<=1000000:=by lia
 let hq:((pots:Int)==(pots:Int))=true:=by simp
 let hz2:pots<=1000000:=by lia
 simp![ZG,hml,zQ,zS,hq,hz,hz2,e,a1]
def Wy(d:Nat)(st:List Int):List Int:=(List.range st.length).map λk=>st.getD k 0+(if k=d then 1 else 0)
def qp(d:Nat)(c:Cl):Cl:=if c.w then c else ⟨Wy d c.st,c.w,c.wi⟩
def qf(d:Nat)(c:Cl):Bool:= !c.w&&decide (9<=c.st.getD d 0)
def Yd(d:Nat)(st:List Int):(Wy d st).length=st.length:=by unfold Wy;simp
def zdZ(h:d<st.length):st.take d++ [st.getD d 0+1]++st.drop (d+1)=Wy d st:=by
 apply xR
 intro k
 unfold Wy
 rw[xf]
 by_cases hk:k<st.length
 ·rw[um hk]
  simp only[uz]
  rw[uv]
  by_cases h1:k<d
  ·rw[xc (by simp;lia),xT h1,xb hk,if_neg (by lia),xE,xb hk]
   simp
  ·rw[xm (by simp;lia)]
   by_cases h2:k=d
   ·subst h2
    rw[if_pos rfl]
    have:k-(st.take k).length=0:=by simp;lia
    rw[this];rfl
   ·rw[if_neg h2]
    have:k-(st.take d).length=(k-d-1)+1:=by simp;lia
    rw[this,List.singleton_append,ui,List.getElem?_drop,show d+1+(k-d-1)=k by lia,xb hk,xE,xb hk]
    simp
 ·rw[xD (by simp;lia),xD (by simp;lia)];rfl
def yt(h:d<=n)(z:Nat):HT.sIx n z (some (d:Int))=d:=by
 show (if (d:Int)<0 then ((d:Int)+(n:Int)).toNat else min ((d:Int).toNat) n)=d
 rw[if_neg (by lia)]
 simp;lia
def VD (cf:CF):Prop:=∀ (st:List Int) (d:Nat),d<st.length->st.length<=1000->cf "deepened" [.d (zA st),.d (.int d)]=.ok (.d (zA (Wy d st))) [none,none]
def y2(cf:CF):VD λ_=>runI 2 [false,false] [] QQ cf:=λst d h hl=>by
 let a1:=wB h
 let hn:(st.map PyData.int).length=st.length:=by simp
 let s1:HT.sIx (st.map PyData.int).length (st.map PyData.int).length (some (d:Int))=d:=by rw[hn];exact yt (by lia) _
 let s2:HT.sIx (st.map PyData.int).length 0 (some ((d:Int)+1))=d+1:=by
  have:=yt (n:=st.length) (d:=d+1) (by lia) 0
  rw[hn];exact this
 let c1:Q3 (st.map PyData.int) none (some (d:Int))=(st.take d).map PyData.int:=by
  unfold Q3
  rw[s1]
  have:HT.sIx (st.map PyData.int).length 0 none=0:=rfl
  rw[this];simp
 let c2:Q3 (st.map PyData.int) (some ((d:Int)+1)) none=(st.drop (d+1)).map PyData.int:=by
  unfold Q3
  rw[s2]
  have:HT.sIx (st.map PyData.int).length (st.map PyData.int).length none=st.length:=by rw[hn];rfl
  rw[this,uQ]
  exact uq (by simp)
 let hne:¬ (HT.sIx (st.map PyData.int).length 0 none=0/\HT.sIx (st.map PyData.int).length (st.map PyData.int).length (some (d:Int))=(st.map PyData.int).length):=by rw[s1,hn];lia
 let hne2:¬ (HT.sIx (st.map PyData.int).length 0 (some ((d:Int)+1))=0/\HT.sIx (st.map PyData.int).length (st.map PyData.int).length none=(st.map PyData.int).length):=by rw[s2];lia
 let z1:((st.take d).map PyData.int).length+1<=1000000:=by simp;lia
 let z2:((st.take d).map PyData.int).length+1+((st.drop (d+1)).map PyData.int).length<=1000000:=by simp;lia
 let hfin:(st.take d).map PyData.int++.int (st.getD d 0+1)::(st.drop (d+1)).map PyData.int=(Wy d st).map PyData.int:=by
  rw[<- zdZ h]
  simp
 unfold zA
 rw[<- hfin]
 rwa[st.getD d 0=g,(st.take d).map PyData.int=T1,(st.drop (d+1)).map PyData.int=T2,st.map PyData.int=X]
 simp only[QQ]
 simp![KK,zdN,y7,hne,hne2,c1,c2,a1,z1,z2]
def zfX(cf:CF)(hb:Bolt pots cs)(hd:d<pots) :
  qD 3 (.tp (.cons (.nm 0 2) (.cons (.nm 1 3) (.cons (.nm 2 4) .nil)))) fYes (ja0.ev cf).1 (cs.map Cl.D) [] [@&(zB cs),@&(.int d)]=.ok ((cs.map (qf d)).map .bool,[@&(zB cs),@&(.int d)]):=by
 let⟨ys,Γ',e,hy,rfl⟩:=qH (k:=3) (t:=.tp (.cons (.nm 0 2) (.cons (.nm 1 3) (.cons (.nm 2 4) .nil)))) (cond:=fYes) (elt:=(ja0.ev cf).1) (ds:=cs.map Cl.D) (Γ:= [@&(zB cs),@&(.int d)])
  (λpre ys Γ=>ys=((cs.take pre.length).map (qf d)).map .bool/\Γ= [@&(zB cs),@&(.int d)]) ⟨rfl,rfl⟩ (by
   rintro pre x post e ys Γ ⟨hy,rfl⟩
   let hx:x∈cs.map Cl.D:=by rw[e];simp
   let hlt:pre.length<cs.length:=by have:=congrArg List.length e;simp at this;lia
   let hxe:x=(cs[pre.length]).D:=by
    have:(cs.map Cl.D)[pre.length]?=some x:=by rw[e];simp
    rw[xf,xb hlt]at this
    simpa using this.symm
   let hc:=hb.2 _ (xO hlt)
   let hnx:(cs.take (pre.length+1)).map (qf d)=(cs.take pre.length).map (qf d)++ [qf d cs[pre.length]]:=by
    rw[xY,xb hlt,xC];rfl
   rwa[cs[pre.length]=c]
   subst hxe
   let a1:=wB (xs:=c.st) (d:=d) (by rw[hc.sl];exact hd)
   refine⟨[@&(zB cs),@&(.int d),@&(zA c.st),@&(.bool c.w),@&(zA c.wi)],true,_,rfl,rfl,λ_=>⟨.dat (.bool (qf d c)),[@&(zB cs),@&(.int d),@&(zA c.st),@&(.bool c.w),@&(zA c.wi)],.bool (qf d c),?_,rfl,?_,rfl⟩,λh=>nomatch h⟩
   ·unfold qf zA
    rwa[c.st.getD d 0=g,c.st.map PyData.int=X]
    cases hw:c.w with
    |true=>push_cast [ja0]
    |false=>simp![ja0,a1]
   ·rw[hy]
    simp only[xy,xq,uj,uK]
    rw[hnx,xC];rfl)
 rw[e,hy]
 have:(cs.take (cs.map Cl.D).length)=cs:=by rw[xo,xW]
 rw[this]
def zfY(cf:CF)(hdp:VD cf)(hp:pots<=1000)(hb:Bolt pots cs)(hd:d<pots) :
  qD 3 (.tp (.cons (.nm 0 2) (.cons (.nm 1 3) (.cons (.nm 2 4) .nil)))) fYes (ja1.ev cf).1 (cs.map Cl.D) [] [@&(zB cs),@&(.int d)]=.ok ((cs.map (qp d)).map Cl.D,[@&(zB cs),@&(.int d)]):=by
 let⟨ys,Γ',e,hy,rfl⟩:=qH (k:=3) (t:=.tp (.cons (.nm 0 2) (.cons (.nm 1 3) (.cons (.nm 2 4) .nil)))) (cond:=fYes) (elt:=(ja1.ev cf).1) (ds:=cs.map Cl.D) (Γ:= [@&(zB cs),@&(.int d)])
  (λpre ys Γ=>ys=((cs.take pre.length).map (qp d)).map Cl.D/\Γ= [@&(zB cs),@&(.int d)]) ⟨rfl,rfl⟩ (by
   rintro pre x post e ys Γ ⟨hy,rfl⟩
   let hlt:pre.length<cs.length:=by have:=congrArg List.length e;simp at this;lia
   let hxe:x=(cs[pre.length]).D:=by
    have:(cs.map Cl.D)[pre.length]?=some x:=by rw[e];simp
    rw[xf,xb hlt]at this
    simpa using this.symm
   let hc:=hb.2 _ (xO hlt)
   let hnx:(cs.take (pre.length+1)).map (qp d)=(cs.take pre.length).map (qp d)++ [qp d cs[pre.length]]:=by
    rw[xY,xb hlt,xC];rfl
   rwa[cs[pre.length]=c]
   subst hxe
   let e1:=hdp c.st d (by rw[hc.sl];exact hd) (by rw[hc.sl];exact hp)
   refine⟨[@&(zB cs),@&(.int d),@&(zA c.st),@&(.bool c.w),@&(zA c.wi)],true,_,rfl,rfl,λ_=>⟨.dat (qp d c).D,[@&(zB cs),@&(.int d),@&(zA c.st),@&(.bool c.w),@&(zA c.wi)],(qp d c).D,?_,rfl,?_,rfl⟩,λh=>nomatch h⟩
   ·unfold qp
    cases hw:c.w with
    |true=>simp![ja1,hw,Cl.D,Zc]
    |false=>push_cast [ja1,hw,Cl.D,Zc,e1,jR]
   ·rw[hy]
    simp only[xy,xq,uj,uK]
    rw[hnx,xC];rfl)
 rw[e,hy]
 have:(cs.take (cs.map Cl.D).length)=cs:=by rw[xo,xW]
 rw[this]
def vP(bs:List Bool):Option.map (λbs=>PyData.bool (bs.any id)) (qi (bs.map .bool))=some (.bool (bs.any id)):=by rw[jM];rfl
def zaJ(cf:CF)(hdp:VD cf)(hp:pots<=1000)(hb:Bolt pots cs)(hd:d<pots) :
  runI 2 [false,false] [] ZB cf [.d (zB cs),.d (.int d)]=if cs.any (qf d) then .bad else .ok (.l ((cs.map (qp d)).map λc=>.d c.D)) [none,none]:=by
 let e1:=zfX cf hb hd
 let e2:=zfY cf hdp hp hb hd
 let hz:cs.length<=1000000:=by have:=hb.1;lia
 let hb1:=vP (cs.map (qf d))
 let ha:(cs.map (qf d)).any id=cs.any (qf d):=by rw[uH];rfl
 rw[ha]at hb1
 let hml:((cs.map (qf d)).map PyData.bool).length<=1000000:=by simpa using hz
 let hvv:((cs.map (qp d)).map Cl.D).map OV.d=(cs.map (qp d)).map λc=>OV.d c.D:=by rw[xu];rfl
 rw[<- hvv]
 unfold zB at *
 let hxl:(cs.map Cl.D).length<=1000000:=by simpa using hz
 rwa[(cs.map (qf d)).map PyData.bool=BB,(cs.map (qp d)).map Cl.D=DD,cs.map Cl.D=X,cs.any (qf d)=b]
 cases b with
 |true=>simp![ZB,e1,hb1,hxl,hml,sRaise]
 |false=>push_cast [ZB,e1,e2,hb1,hxl,hml]
def kD(cf:CF)(d:Int):runI 2 [false,false] [] ZB cf [.d (zB []),.d (.int d)]=.ok (.l []) [none,none]:=by
 push_cast [ZB,zB,qD,loopG,qi]
def yJ (cf:CF):Prop:=(∀ (pots:Nat) (cs:List Cl) (d:Nat),pots<=1000->Bolt pots cs->d<pots->cf "dipped" [.d (zB cs),.d (.int d)]=if cs.any (qf d) then .bad else .ok (.l ((cs.map (qp d)).map λc=>.d c.D)) [none,none])/\∀ d:Int,cf "dipped" [.d (zB []),.d (.int d)]=.ok (.l []) [none,none]
def Kz (cf:CF):Prop:=∀ (cs:List Cl) (a:Int),cs.length<=1000->cf "has_cell" [.d (zB cs),.d (.int a)]=.ok (.d (.bool (decide (0<=a/\a<cs.length)))) [none,none]
def ziv(cf:CF):Kz λ_=>runI 2 [false,false] [] j2 cf:=λcs a hl=>by
 let hxl:(cs.map Cl.D).length=cs.length:=by simp
 unfold zB
 rwa[cs.map Cl.D=X]
 by_cases h1:0<=a
 ·by_cases h2:a<cs.length
  ·let h3:a<(X.length:Int):=by lia
   simp![j2,hxl,h1,h2]
  ·simp![j2,hxl,h1,h2]
 ·simp![j2,hxl,h1]
def in9(i:Int):Bool:=decide (0<=i)&&decide (i<=9)
def zbV(xs:List Int)(pots:Nat):Bool:=decide (xs.length=pots)&&xs.all in9
def zcA (cf:CF):Prop:=∀ (xs:List Int) (pots:Nat),xs.length<=1000->cf "is_picture" [.d (zA xs),.d (.int pots)]=.ok (.d (.bool (zbV xs pots))) [none,none]
def zi6(cf:CF):zcA λ_=>runI 2 [false,false] [] jS cf:=λxs pots hl=>by
 let e:=qF (k:=1) (t:=.nm 0 2) (cond:=fYes) (elt:=(jbq.ev cf).1) (ds:=xs.map .int) (Γ:= [@&(zA xs),@&(.int pots)]) (λ_=>true) (λx=>match x with | .int i=>.bool (in9 i) | _=>.none) (by
  intro x hx
  let⟨i,_,rfl⟩:=xv.mp hx
  refine⟨[@&(zA xs),@&(.int pots),@&(.int i)],_,rfl,rfl,by simp,λ_=>⟨.dat (.bool (in9 i)),[@&(zA xs),@&(.int pots),@&(.int i)],?_,rfl,by simp⟩⟩
  unfold in9
  by_cases h1:0<=i
  ·simp![jbq,h1]
  ·simp![jbq,h1])
 rw[qG,xu]at e
 let em:(xs.map ((λx=>match x with | .int i=>PyData.bool (in9 i) | _=>.none)∘PyData.int))=(xs.map in9).map .bool:=by rw[xu];rfl
 rw[em]at e
 let hb1:=jM (xs.map in9)
 let ha:(xs.map in9).all id=xs.all in9:=by rw[uX];rfl
 let hml:(xs.map PyData.int).length=xs.length:=by simp
 let hzl:((xs.map in9).map PyData.bool).length<=1000000:=by simp;lia
 let hz:xs.length<=1000000:=by lia
 unfold zbV
 rw[<- ha]
 unfold zA at *
 rwa[(xs.map in9).map PyData.bool=BB,xs.map in9=B2,xs.map PyData.int=X]
 by_cases hp:xs.length=pots
 ·let hq:((xs.length:Int)==(pots:Int))=true:=by rw[beq_iff_eq];lia
  simp![jS,hml,zQ,zS,hq,hp,hz,e,hb1,hzl]
  let hz3:pots<=1000000:=by lia
  simp![hz3,hb1]
 ·let hq:((xs.length:Int)==(pots:Int))=false:=by
   rw[x9];lia
  simp![jS,hml,zQ,zS,hq,hp]
def qA(a:Nat)(xs:List Int)(cs:List Cl):List Cl:=match cs[a]? with
 |some c=>cs.take a++⟨c.st,c.w,xs⟩::cs.drop (a+1)
 |none=>cs
def zfv(cs:List Cl)(a:Int)(xs:List Int)(pots:Nat):RF:=if 0<=a/\a<cs.length then (if zbV xs pots then .ok (.l ((qA a.toNat xs cs).map λc=>.d c.D)) [none,none,none] else .bad) else .bad
def zii{α:Type}(X:List α)(h:a<=X.length):Q3 X none (some (a:Int))=X.take a:=by
 unfold Q3
 rw[yt h]
 have:HT.sIx X.length 0 none=0:=rfl
 rw[this];simp
def zih{α:Type}(X:List α)(h:a<=X.length):Q3 X (some (a:Int)) none=X.drop a:=by
 unfold Q3
 rw[yt h]
 have:HT.sIx X.length X.length none=X.length:=rfl
 rw[this]
 exact uq (by simp)
def Y2 (cf:CF):Prop:=∀ (pots:Nat) (cs:List Cl) (a:Int) (xs:List Int),pots<=1000->Bolt pots cs->xs.length<=1000->cf "with_wish" [.d (zB cs),.d (.int a),.d (zA xs)]=zfv cs a xs pots
def zhI(cf:CF)(hh:Kz cf)(hp:zcA cf):Y2 λ_=>runI 6 [false,false,false] [] jO cf:=λpots cs a xs hpo hb hl=>by
 let e1:=hh cs a hb.1
 unfold zfv
 by_cases h:0<=a/\a<cs.length
 ·let hd:decide (0<=a/\a<(cs.length:Int))=true:=by simpa using h
  rw[hd]at e1
  obtain⟨j,rfl⟩:∃ j:Nat,a=j:=⟨a.toNat,by lia⟩
  let hj:j<cs.length:=by lia
  let hc:=hb.2 _ (xO hj)
  let hcj:cs[j]?=some cs[j]:=xb hj
  let a1:atI (cs.map Cl.D) (j:Int)=some (cs[j]).D:=qW (by rw[xf,hcj];rfl)
  let hw:qA (j:Int).toNat xs cs=cs.take j++⟨(cs[j]).st,(cs[j]).w,xs⟩::cs.drop (j+1):=by
   unfold qA
   simp[hcj]
  rw[if_pos h,hw]
  rwa[cs[j]=c]
  let e2:=hp xs pots hl
  let hsl:(c.st.map PyData.int).length=pots:=by rw[xo];exact hc.sl
  let c1:Q3 (cs.map Cl.D) none (some (j:Int))=(cs.take j).map Cl.D:=by rw[zii _ (by simp;lia),List.map_take]
  let c2:Q3 (cs.map Cl.D) (some ((j:Int)+1)) none=(cs.drop (j+1)).map Cl.D:=by
   have:=zih (cs.map Cl.D) (a:=j+1) (by simp;lia)
   rw[uQ];exact this
  let z1:((cs.take j).map Cl.D).length+1<=1000000:=by have:=hb.1;simp;lia
  let z2:((cs.take j).map Cl.D).length+1+((cs.drop (j+1)).map Cl.D).length<=1000000:=by have:=hb.1;simp;lia
  let z3:((cs.take j).map Cl.D).length<=1000000:=by lia
  let z4:((cs.drop (j+1)).map Cl.D).length<=1000000:=by lia
  let hfin:((cs.take j++(⟨c.st,c.w,xs⟩:Cl)::cs.drop (j+1)).map λc=>OV.d c.D)=((cs.take j).map Cl.D).map OV.d++OV.d (.tuple [zA c.st,.bool c.w,zA xs])::((cs.drop (j+1)).map Cl.D).map OV.d:=by
   rw[xC,xp,xu,xu];rfl
  rw[hfin]
  unfold zB at *
  rwa[(cs.take j).map Cl.D=T1,(cs.drop (j+1)).map Cl.D=T2,cs.map Cl.D=X,zA xs=Y]
  let hcd:c.D=.tuple [.tuple (c.st.map PyData.int),.bool c.w,zA c.wi]:=rfl
  let hst:zA c.st=.tuple (c.st.map PyData.int):=rfl
  rw[hcd]at a1
  rw[hst]
  rwa[c.st.map PyData.int=S1,zA c.wi=W1,c.w=w]
  cases hpb:zbV xs pots with
  |true=>
   rw[hpb]at e2
   simp![jO,e1,a1,hsl,e2,zf3,zf2,zdN,y7,c1,c2,z1,z2,z3,z4,jR]
  |false=>
   rw[hpb]at e2
   simp![jO,e1,a1,hsl,e2,sRaise,jR]
 ·let hd:decide (0<=a/\a<(cs.length:Int))=false:=by simpa using h
  rw[hd]at e1
  rw[if_neg h]
  rwa[zB cs=B]
  simp![jO,e1,sRaise,jR]
def exS(h:b.nl=false):(IB.cons s b).ex cf io=sSeq (s.ex cf io) (b.ex cf io):=cB2 h
def WU:jba.nl=false:=rfl
def zeE(size u:Int)(h0:0<=v)(h1:v<4):∃ a:Int,atI [PyData.int (-1),.int size,.int (size+1+u),.int (-1-size)] v=some (.int a):=by
 obtain⟨j,rfl⟩:∃ k:Nat,v=k:=⟨v.toNat,by lia⟩
 let hj:j<4:=by lia
 match j,hj with
 |0,_=>exact⟨_,rfl⟩
 |1,_=>exact⟨_,rfl⟩
 |2,_=>exact⟨_,rfl⟩
 |3,_=>exact⟨_,rfl⟩
def zeF(cf:CF)(ht:qJ cf)(hb:zV b){size:Nat}(hs:size<=1000):∃(a:Int)(b':OV),zV b'/\runI 2 [true,false] [0] qL cf [b,.d (.int size)]=.ok (.d (.int a)) [some b',none]:=by
 let fall:∀ b1,zV b1->(runI 2 [true,false] [0] qL cf [b,.d (.int size)]=fin [true,false] ((jba.ex cf [0]) [some b1,@&(.int size)]))->∃(a:Int)(b':OV),zV b'/\runI 2 [true,false] [0] qL cf [b,.d (.int size)]=.ok (.d (.int a)) [some b',none]:=λb1 hb1 e0=>by
  let⟨u,b2,hu0,hu1,hb2,e2⟩:=ht b1 hb1 50 (by decide) (by decide)
  let⟨v,b3,hv0,hv1,hb3,e3⟩:=ht b2 hb2 4 (by decide) (by decide)
  let⟨a,ea⟩:=zeE size u hv0 hv1
  refine⟨a,b3,hb3,?_⟩
  rw[e0]
  simp![jba,e2,e3,ea,jR]
 by_cases h0:size=0
 ·subst h0
  erw[fall b hb ?_]
  push_cast [qL,exS WU]
 ·let hgt:(0:Int)<(size:Int):=by lia
  let hgt2:0<size:=by lia
  let⟨r,b1,hr0,hr1,hb1,e1⟩:=ht b hb 7 (by decide) (by decide)
  by_cases hr:0<r
  ·let⟨q,b2,hq0,hq1,hb2,e2⟩:=ht b1 hb1 (size:Int) (by lia) (by lia)
   refine⟨q,b2,hb2,?_⟩
   simp![qL,exS WU,hgt,hgt2,e1,hr,e2,jR]
  ·let hr':r=0:=by lia
   subst hr'
   erw[fall b1 hb1 ?_]
   simp![qL,exS WU,hgt,hgt2,e1,jR]
def wy (cf:CF):Prop:=∀ b,zV b->∀ size:Nat,size<=1000->∃ (a:Int) (b':OV),zV b'/\cf "_law_place" [b,.d (.int size)]=.ok (.d (.int a)) [some b',none]
def jZ(n:Nat)(i:Int):Bool:=decide (0<=i/\i<(n:Int))
def zaK(xs:List Int):Bool:=decide ((Tab.dedup xs).length<xs.length)
def yF(xs:List Int)(i:Nat)(c:Cl):Cl:=⟨c.st,c.w||xs.contains (i:Int),c.wi⟩
def yG(xs:List Int)(cs:List Cl)(k:Nat):List Cl:=(List.range k).filterMap λi=>(cs[i]?).map (yF xs i)
def jd(xs:List Int)(cs:List Cl):List Cl:=yG xs cs cs.length
def Vy(xs:List Int)(h:cs[k]?=some c):yG xs cs (k+1)=yG xs cs k++ [yF xs k c]:=by
 unfold yG
 rw[List.range_succ,List.filterMap_append]
 congr 1
 rw[ua,h];rfl
def zfs(xs:List Int)(cs:List Cl)(k:Nat):(yG xs cs k).length<=k:=by
 have:=List.length_filterMap_le (λi=>(cs[i]?).map (yF xs i)) (List.range k)
 rw[uL]at this;exact this
def yd(xs:List Int)(i:Int):inD (.int i) (xs.map .int)=xs.contains i:=by
 unfold inD
 rw[uH]
 induction xs with
 |nil=>rfl
 |cons x xs ih=>
  rw[xQ,ih,List.contains_cons]
  congr 1
  show PyData.eqv (.int x) (.int i)=(i==x)
  rw[zS,uV,beq_iff_eq,beq_iff_eq]
  exact⟨Eq.symm,Eq.symm⟩
def JD(xs:List Int):(∀ x∈xs.map PyData.int,lay 20 x=true)=True:=eq_true λx hx=>by
 let⟨i,_,rfl⟩:=xv.mp hx
 erw[zQ _ _]
def zjW(cs:List Cl)(xs:List Int):RF:=if xs.all (jZ cs.length) then (if zaK xs then .bad else .ok (.l ((jd xs cs).map λc=>.d c.D)) [none,none]) else .bad
def zhG(cf:CF){cs:List Cl}{xs:List Int} :
  qD 4 (.tp (.cons (.nm 0 2) (.cons (.tp (.cons (.nm 1 3) (.cons (.nm 2 4) (.cons (.nm 3 5) .nil)))) .nil))) fYes (ja2.ev cf).1 (qR (cs.map Cl.D)) [] [@&(zB cs),@&(zA xs)]=.ok ((jd xs cs).map Cl.D,[@&(zB cs),@&(zA xs)]):=by
 let⟨ys,Γ',e,hy,rfl⟩:=qH (k:=4) (t:=.tp (.cons (.nm 0 2) (.cons (.tp (.cons (.nm 1 3) (.cons (.nm 2 4) (.cons (.nm 3 5) .nil)))) .nil))) (cond:=fYes) (elt:=(ja2.ev cf).1) (ds:=qR (cs.map Cl.D)) (Γ:= [@&(zB cs),@&(zA xs)])
  (λpre ys Γ=>ys=(yG xs cs pre.length).map Cl.D/\Γ= [@&(zB cs),@&(zA xs)]) ⟨rfl,rfl⟩ (by
   rintro pre x post e ys Γ ⟨hy,rfl⟩
   obtain⟨c,hc,rfl⟩:∃ c,cs[pre.length]?=some c/\x=.tuple [.int (pre.length:Nat),c.D]:=by
    let h1:(qR (cs.map Cl.D))[pre.length]?=some x:=by rw[e];simp
    let⟨y,hy1,hy2⟩:=Qo h1
    rw[xf]at hy1
    cases q:cs[pre.length]? with
    |none=>rw[q]at hy1;cases hy1
    |some c=>
     rw[q]at hy1
     cases hy1
     exact⟨c,rfl,hy2⟩
   let hin:=yd xs (pre.length:Int)
   let hal:=JD xs
   let hnx:=Vy xs hc
   refine⟨[@&(zB cs),@&(zA xs),@&(.int (pre.length:Nat)),@&(zA c.st),@&(.bool c.w),@&(zA c.wi)],true,_,rfl,rfl,λ_=>⟨.dat (yF xs pre.length c).D,[@&(zB cs),@&(zA xs),@&(.int (pre.length:Nat)),@&(zA c.st),@&(.bool c.w),@&(zA c.wi)],(yF xs pre.length c).D,?_,rfl,?_,rfl⟩,λh=>nomatch h⟩
   ·unfold yF Cl.D Zc
    let hxi:zA xs=.tuple (xs.map .int):=rfl
    rw[hxi]
    rwa[zA c.st=A,zA c.wi=B,xs.map PyData.int=X,xs.contains (pre.length:Int)=ci]
    cases hw:c.w with
    |true=>push_cast [ja2]
    |false=>push_cast [ja2,hin,hal,zQ]
   ·rw[hy]
    simp only[xy,xq,uj,uK]
    rw[hnx,xC];rfl)
 rw[e,hy]
 have:(qR (cs.map Cl.D)).length=cs.length:=by simp[qR]
 rw[this];rfl
def Y0 (cf:CF):Prop:=∀ (cs:List Cl) (xs:List Int),cs.length<=1000->xs.length<=60->cf "with_wax" [.d (zB cs),.d (zA xs)]=zjW cs xs
def zhH(cf:CF)(hh:Kz cf):Y0 λ_=>runI 2 [false,false] [] j3 cf:=λcs xs hl hx=>by
 let e1:=qF (k:=1) (t:=.nm 0 2) (cond:=fYes) (elt:=(jbv.ev cf).1) (ds:=xs.map .int) (Γ:= [@&(zB cs),@&(zA xs)]) (λ_=>true) (λx=>match x with | .int i=>.bool (jZ cs.length i) | _=>.none) (by
  intro x hx
  let⟨i,_,rfl⟩:=xv.mp hx
  let e:=hh cs i hl
  refine⟨[@&(zB cs),@&(zA xs),@&(.int i)],_,rfl,rfl,by simp,λ_=>⟨.dat (.bool (jZ cs.length i)),[@&(zB cs),@&(zA xs),@&(.int i)],?_,rfl,by simp⟩⟩
  unfold jZ
  rwa[zB cs=B]
  push_cast [jbv,e,jR])
 rw[qG,xu]at e1
 let em:(xs.map ((λx=>match x with | .int i=>PyData.bool (jZ cs.length i) | _=>.none)∘PyData.int))=(xs.map (jZ cs.length)).map .bool:=by rw[xu];rfl
 rw[em]at e1
 let hb1:=jM (xs.map (jZ cs.length))
 let ha:(xs.map (jZ cs.length)).all id=xs.all (jZ cs.length):=by rw[uX];rfl
 let e2:=zhG cf (cs:=cs) (xs:=xs)
 let hio:=WA xs
 let hdl:=Tab.dedup_len xs
 let hml:(xs.map PyData.int).length=xs.length:=by simp
 let hz:xs.length<=1000000:=by lia
 let hzl:((xs.map (jZ cs.length)).map PyData.bool).length<=1000000:=by simp;lia
 let hel:(qR (cs.map Cl.D)).length<=1000000:=by simp[qR];lia
 let hcl:(cs.map Cl.D).length<=1000000:=by simp;lia
 let hvv:((jd xs cs).map Cl.D).map OV.d=(jd xs cs).map λc=>OV.d c.D:=by rw[xu];rfl
 unfold zjW zaK
 rw[<- hvv,<- ha]
 unfold zB zA at *
 rwa[(jd xs cs).map Cl.D=WW,(xs.map (jZ cs.length)).map PyData.bool=BB,xs.map (jZ cs.length)=B2,xs.map PyData.int=X,cs.map Cl.D=Y]
 cases hal:B2.all id with
 |false=>
  simp![j3,hml,hz,e1,hb1,hzl,hal,sRaise]
 |true=>
  by_cases hd:(Tab.dedup xs).length<xs.length
  ·let hne:(((Tab.dedup xs).length:Int)==(xs.length:Int))=false:=by rw[x9];lia
   simp![j3,hml,hz,e1,hb1,hzl,hal,Wr,hio,hx,hd,zQ,zS,hne,sRaise]
  ·let hne:(((Tab.dedup xs).length:Int)==(xs.length:Int))=true:=by rw[beq_iff_eq];lia
   let heq:(Tab.dedup xs).length=xs.length:=by lia
   simp![j3,hml,hz,e1,hb1,hzl,hal,Wr,hio,hx,hd,zQ,zS,heq,e2,hel,hcl]
def YU (cf:CF):Prop:=∀ (cs:List Cl) (xs:List Int),cs.length<=1000->cf "_law_wax" [.d (zB cs),.d (zA xs)]=.ok (.l ((jd xs cs).map λc=>.d c.D)) [none,none]
def zgk(cf:CF):YU λ_=>runI 2 [false,false] [] Jq cf:=λcs xs hl=>by
 let⟨ys,Γ',e,hy,rfl⟩:=qH (k:=1) (t:=.nm 0 2) (cond:=fYes) (elt:=(jbf.ev cf).1) (ds:=zZ cs.length) (Γ:= [@&(zB cs),@&(zA xs)])
  (λpre ys Γ=>ys=(yG xs cs pre.length).map Cl.D/\Γ= [@&(zB cs),@&(zA xs)]) ⟨rfl,rfl⟩ (by
   rintro pre x post e ys Γ ⟨hy,rfl⟩
   let h1:(zZ cs.length)[pre.length]?=some x:=by rw[e];simp
   let⟨hlt,rfl⟩:=ju h1
   let hc:cs[pre.length]?=some cs[pre.length]:=xb hlt
   let a1:atI (cs.map Cl.D) (pre.length:Int)=some (cs[pre.length]).D:=qW (by rw[xf,hc];rfl)
   let hin:=yd xs (pre.length:Int)
   let hal:=JD xs
   let hnx:=Vy xs hc
   rwa[cs[pre.length]=c]
   let hcd:c.D=.tuple [zA c.st,.bool c.w,zA c.wi]:=rfl
   rw[hcd]at a1
   let b0:atI [zA c.st,PyData.bool c.w,zA c.wi] 0=some (zA c.st):=rfl
   let b1:atI [zA c.st,PyData.bool c.w,zA c.wi] 1=some (.bool c.w):=rfl
   let b2:atI [zA c.st,PyData.bool c.w,zA c.wi] 2=some (zA c.wi):=rfl
   refine⟨[@&(zB cs),@&(zA xs),@&(.int (pre.length:Nat))],true,_,rfl,rfl,λ_=>⟨.dat (yF xs pre.length c).D,[@&(zB cs),@&(zA xs),@&(.int (pre.length:Nat))],(yF xs pre.length c).D,?_,rfl,?_,rfl⟩,λh=>nomatch h⟩
   ·unfold yF Cl.D Zc
    let hxi:zA xs=.tuple (xs.map .int):=rfl
    let hbd:zB cs=.list (cs.map Cl.D):=rfl
    rw[hxi,hbd]
    rwa[cs.map Cl.D=Y,zA c.st=A,zA c.wi=B,xs.map PyData.int=X,xs.contains (pre.length:Int)=ci]
    cases hw:c.w with
    |true=>
     rw[hw]at a1 b0 b1 b2
     push_cast [jbf,a1,b0,b1,b2]
    |false=>
     rw[hw]at a1 b0 b1 b2
     push_cast [jbf,a1,b0,b1,b2,hin,hal,zQ]
   ·rw[hy]
    simp only[xy,xq,uj,uK]
    rw[hnx,xC];rfl)
 rw[zF]at hy
 subst hy
 let hz: -1000000<=(cs.length:Int)/\(cs.length:Int)<=1000000:=by lia
 let hz2:cs.length<=1000000:=by lia
 let hml:(cs.map Cl.D).length=cs.length:=by simp
 let hvv:((yG xs cs cs.length).map Cl.D).map OV.d=(jd xs cs).map λc=>OV.d c.D:=by rw[xu];rfl
 rw[<- hvv]
 unfold zB at *
 rwa[(yG xs cs cs.length).map Cl.D=WW,cs.map Cl.D=Y]
 simp![Jq,hml,hz,hz2,zF,e]
def Vz(cf:CF):∀(xs:List Int)(o2:Option OV),(xs.all (jZ size)=true->∃ o2',jk (.nm 2 2) (jab.ex cf []) (xs.map .int) [o0,@&(.int size),o2]=.ok (.next,[o0,@&(.int size),o2'])) /\
  (xs.all (jZ size)=false->∃ Γ',jk (.nm 2 2) (jab.ex cf []) (xs.map .int) [o0,@&(.int size),o2]=.ok (.ret (.d (.str "NoCell")),Γ'))
 |[],o2=>⟨λ_=>⟨o2,rfl⟩,λh=>by cases h⟩
 |x::xs,o2=>by
  let⟨h1,h2⟩:=Vz cf xs (@&(.int x))
  let good:jZ size x=true->jab.ex cf [] [o0,@&(.int size),@&(.int x)]=.ok (.next,[o0,@&(.int size),@&(.int x)]):=λh=>by
   unfold jZ at h
   simp only[x0]at h
   let g1:¬ (x<0):=by lia
   let g2:¬ ((size:Int)<=x):=by lia
   push_cast [jab,g1,g2]
  let bad:jZ size x=false->jab.ex cf [] [o0,@&(.int size),@&(.int x)]=.ok (.ret (.d (.str "NoCell")),[o0,@&(.int size),@&(.int x)]):=λh=>by
   unfold jZ at h
   simp only[decide_eq_false_iff_not]at h
   by_cases g1:x<0
   ·push_cast [jab,g1]
   ·let g2:(size:Int)<=x:=by lia
    push_cast [jab,g1,g2]
  let htg:tgF (.nm 2 2) (PyData.int x) [o0,@&(.int size),o2]=some [o0,@&(.int size),@&(.int x)]:=rfl
  refine⟨λh=>?_,λh=>?_⟩
  ·rw[xX,xh]at h
   let⟨o2',e⟩:=h1 h.2
   refine⟨o2',?_⟩
   rw[xp,jk,htg]
   simp only[good h.1]
   erw[e]
  ·rw[xX,Bool.and_eq_false_iff]at h
   cases hx:jZ size x with
   |false=>
    refine⟨[o0,@&(.int size),@&(.int x)],?_⟩
    rw[xp,jk,htg]
    simp only[bad hx]
   |true=>
    rcases h with h | h
    ·rw[hx]at h;cases h
    ·let⟨Γ',e⟩:=h2 h
     refine⟨Γ',?_⟩
     rw[xp,jk,htg]
     simp only[good hx]
     erw[e]
def Jj (xs:List Int) (size:Nat):Str:=if xs.all (jZ size) then (if zaK xs then "Twice" else "") else "NoCell"
def zeK(cf:CF)(hx:xs.length<=60)(size:Nat):runI 3 [false,false] [] qE cf [.d (zA xs),.d (.int size)]=.ok (.d (.str (Jj xs size))) [none,none]:=by
 let⟨h1,h2⟩:=Vz cf (o0:=some (.d (zA xs))) xs none
 let hio:=WA xs
 let hml:(xs.map PyData.int).length=xs.length:=by simp
 let hz:xs.length<=1000000:=by lia
 unfold Jj zaK
 unfold zA at *
 rwa[xs.map PyData.int=X]
 cases hal:xs.all (jZ size) with
 |false=>
  let⟨Γ',e⟩:=h2 hal
  simp![qE,hml,hz,e]
  cases Γ' with
  |nil=>rfl
  |cons y r=>
   cases r<;>rfl
 |true=>
  let⟨o2',e⟩:=h1 hal
  by_cases hd:(Tab.dedup xs).length<xs.length
  ·let hd2:((Tab.dedup xs).length:Int)<(xs.length:Int):=by lia
   simp![qE,hml,hz,e,Wr,hio,hx,hd,hd2]
  ·let hd2:¬ (((Tab.dedup xs).length:Int)<(xs.length:Int)):=by lia
   simp![qE,hml,hz,e,Wr,hio,hx,hd,hd2]
def KB (cf:CF):Prop:=∀ (xs:List Int) (size:Nat),xs.length<=60->cf "_law_picks_word" [.d (zA xs),.d (.int size)]=.ok (.d (.str (Jj xs size))) [none,none]
def zbX(cf:CF)(ht:qJ cf)(hpl:wy cf)(hb:zV b){size:Nat}(hs:size<=1000){sp:Int}{o3 o6:Option OV}{xs:List Int}(hl:xs.length<1000){x:PyData} :
  ∃(b':OV)(ys:List Int)(o6':Option OV),zV b'/\ys.length<=xs.length+1/\jaj.ex cf [0] [some b,@&(.int size),@&(.int sp),o3,some (.l (xs.map λi=>.d (.int i))),@&x,o6]=.ok (.next,[some b',@&(.int size),@&(.int sp),o3,some (.l (ys.map λi=>.d (.int i))),@&x,o6']):=by
 let hz:xs.length<1000000:=by lia
 let hml:(xs.map λi=>OV.d (.int i)).length=xs.length:=by simp
 let happ:∀ a:Int,((xs++ [a]).map λi=>OV.d (.int i))=(xs.map λi=>OV.d (.int i))++ [.d (.int a)]:=λa=>by simp
 by_cases h0:sp=0
 ·subst h0
  let⟨a,b1,hb1,e1⟩:=hpl b hb size hs
  refine⟨b1,xs++ [a],o6,hb1,by simp,?_⟩
  rw[happ]
  rwa[(xs.map λi=>OV.d (.int i))=XO]
  simp![jaj,zQ,zS,e1,hml,hz,jR]
 ·let hq:(sp==0)=false:=by simpa using h0
  let⟨r,b1,hr0,hr1,hb1,e1⟩:=ht b hb ((size:Int)+1) (by lia) (by lia)
  by_cases hlt:r<(size:Int)
  ·let hvw:(OV.l (xs.map λi=>.d (.int i))).view=.list (xs.map .int):=by rw[OV.view,OV.views_map,xu];rfl
   let hin:=yd xs r
   let hal:=JD xs
   cases hc:xs.contains r with
   |true=>
    rw[hc]at hin
    refine⟨b1,xs,@&(.int r),hb1,by lia,?_⟩
    rwa[(xs.map λi=>OV.d (.int i))=XO,xs.map PyData.int=X]
    push_cast [jaj,zQ,zS,hq,h0,e1,hlt,hvw,hin,hal,jR]
   |false=>
    rw[hc]at hin
    refine⟨b1,xs++ [r],@&(.int r),hb1,by simp,?_⟩
    rw[happ]
    rwa[(xs.map λi=>OV.d (.int i))=XO,xs.map PyData.int=X]
    simp![jaj,zQ,zS,hq,h0,e1,hlt,hvw,hin,hal,hml,hz,jR]
  ·refine⟨b1,xs,@&(.int r),hb1,by lia,?_⟩
   rwa[(xs.map λi=>OV.d (.int i))=XO]
   push_cast [jaj,zQ,zS,hq,h0,e1,hlt,jR]
def zeD(cf:CF)(ht:qJ cf)(hpl:wy cf)(hb:zV b){size:Nat}(hs:size<=50):∃(xs:List Int)(b':OV),zV b'/\xs.length<=60/\runI 7 [true,false] [0] jL cf [b,.d (.int size)]=.ok (.d (zA xs)) [some b',none]:=by
 let⟨sp,b1,hs0,hs1,hb1,e1⟩:=ht b hb 3 (by decide) (by decide)
 let⟨m,b2,hm0,hm1,hb2,e2⟩:=ht b1 hb1 7 (by decide) (by decide)
 obtain⟨M,rfl⟩:∃ k:Nat,m=k:=⟨m.toNat,by lia⟩
 by_cases hsp:sp=2/\(M:Int)=0
 ·let⟨rfl,hM⟩:=hsp
  rw[hM]at e2
  let hz:(size:Int)<=1000000:=by lia
  refine⟨(List.range size).reverse.map λ(i:Nat)=>(i:Int),b2,hb2,by simp;lia,?_⟩
  let hr:(zZ size).reverse=((List.range size).reverse.map λ(i:Nat)=>(i:Int)).map .int:=by
   unfold zZ
   rw[<- List.map_reverse,xu];rfl
  unfold zA
  rw[<- hr]
  push_cast [jL,e1,e2,zQ,zS,KM,hz,KJ,y7,jR]
 ·let⟨Γ',e3,⟨b3,xs,o5,o6,hb3,hxl,rfl⟩⟩:=jf (t:=.nm 5 5) (ds:=zZ M) (Γ:= [some b2,@&(.int size),@&(.int sp),@&(.int M),some (.l []),none,none])
   (λpre Γ=>∃(b3:OV)(xs:List Int)(o5 o6:Option OV),zV b3/\xs.length<=pre.length/\Γ= [some b3,@&(.int size),@&(.int sp),@&(.int M),some (.l (xs.map λi=>.d (.int i))),o5,o6]) ⟨b2,[],none,none,hb2,xg _,rfl⟩ (by
    rintro pre x post e Γ ⟨b3,xs,o5,o6,hb3,hxl,rfl⟩
    let hpl2:pre.length<M:=by
     have:=congrArg List.length e
     rw[zF]at this;simp at this;lia
    let⟨b4,ys,o6',hb4,hyl,es⟩:=zbX cf ht hpl hb3 (size:=size) (by lia) (sp:=sp) (o6:=o6) (xs:=xs) (by lia) (x:=x)
    exact⟨_,_,rfl,es,b4,ys,_,o6',hb4,by simp;lia,rfl⟩)
  rw[zF]at hxl
  refine⟨xs,b3,hb3,by lia,?_⟩
  let hz: -1000000<=(M:Int)/\(M:Int)<=1000000:=by lia
  let hlv:leaves (xs.map λi=>OV.d (.int i))=some (xs.map .int):=by
   have:=WG (xs.map PyData.int)
   rw[xu]at this;exact this
  let hz2:M<=1000000:=by lia
  unfold zA
  rwa[(xs.map λi=>OV.d (.int i))=XO,xs.map PyData.int=X]
  by_cases h2:sp=2
  ·let hM:¬ ((M:Int)=0):=λz=>hsp ⟨h2,z⟩
   let hM0:¬ (M=0):=by lia
   let hq2:((M:Int)==0)=false:=by simpa using hM0
   subst h2
   simp![jL,e1,e2,zQ,zS,hq2,hM0,hz,hz2,zF,e3,hlv,jR]
  ·let hq1:(sp==2)=false:=by simpa using h2
   simp![jL,e1,e2,zQ,zS,hq1,h2,hz,hz2,zF,e3,hlv,jR]
def KC (cf:CF):Prop:=∀ b,zV b->∀ size:Nat,size<=50->∃ (xs:List Int) (b':OV),zV b'/\xs.length<=60/\cf "_law_picks" [b,.d (.int size)]=.ok (.d (zA xs)) [some b',none]
def zd8(cf:CF)(hb:Bolt pots cs)(hd:d<pots) :
  runI 2 [false,false] [] ZF cf [.d (zB cs),.d (.int d)]=.ok (.d (.bool (cs.any (qf d)))) [none,none]:=by
 let⟨ys,Γ',e,hy,rfl⟩:=qH (k:=1) (t:=.nm 0 2) (cond:=fYes) (elt:=(ja6.ev cf).1) (ds:=cs.map Cl.D) (Γ:= [@&(zB cs),@&(.int d)])
  (λpre ys Γ=>ys=((cs.take pre.length).map (qf d)).map .bool/\Γ= [@&(zB cs),@&(.int d)]) ⟨rfl,rfl⟩ (by
   rintro pre x post e ys Γ ⟨hy,rfl⟩
   let hlt:pre.length<cs.length:=by have:=congrArg List.length e;simp at this;lia
   let hxe:x=(cs[pre.length]).D:=by
    have:(cs.map Cl.D)[pre.length]?=some x:=by rw[e];simp
    rw[xf,xb hlt]at this
    simpa using this.symm
   let hc:=hb.2 _ (xO hlt)
   let hnx:(cs.take (pre.length+1)).map (qf d)=(cs.take pre.length).map (qf d)++ [qf d cs[pre.length]]:=by
    rw[xY,xb hlt,xC];rfl
   rwa[cs[pre.length]=c]
   subst hxe
   let hdl:d<c.st.length:=by rw[hc.sl];exact hd
   let a1:=wB (xs:=c.st) (d:=d) hdl
   let h9:c.st.getD d 0<=9:=by
    rw[xE,xb hdl]
    erw[(hc.sn _ (xO hdl)).2]
   let hq:(c.st.getD d 0==9)=decide (9<=c.st.getD d 0):=by
    rw[uV,beq_iff_eq,x0];lia
   refine⟨[@&(zB cs),@&(.int d),some (.d c.D)],true,_,rfl,rfl,λ_=>⟨.dat (.bool (qf d c)),[@&(zB cs),@&(.int d),some (.d c.D)],.bool (qf d c),?_,rfl,?_,rfl⟩,λh=>nomatch h⟩
   ·unfold qf Cl.D Zc
    rw[<- hq]
    rwa[c.st.getD d 0=g]
    let a0:atI [zA c.st,PyData.bool c.w,zA c.wi] 0=some (zA c.st):=rfl
    let a2:atI [zA c.st,PyData.bool c.w,zA c.wi] 1=some (.bool c.w):=rfl
    unfold zA at *
    rwa[c.st.map PyData.int=X,c.wi.map PyData.int=Y]
    cases hw:c.w with
    |true=>
     rw[hw]at a0 a2
     push_cast [ja6,a0,a2]
    |false=>
     rw[hw]at a0 a2
     simp![ja6,a0,a2,a1,zQ,zS]
   ·rw[hy]
    simp only[xy,xq,uj,uK]
    rw[hnx,xC];rfl)
 let ht:(cs.take (cs.map Cl.D).length)=cs:=by rw[xo,xW]
 rw[ht]at hy
 subst hy
 let hz:cs.length<=1000000:=by have:=hb.1;lia
 let hb1:=vP (cs.map (qf d))
 let ha:(cs.map (qf d)).any id=cs.any (qf d):=by rw[uH];rfl
 rw[ha]at hb1
 let hml:((cs.map (qf d)).map PyData.bool).length<=1000000:=by simpa using hz
 unfold zB at *
 let hxl:(cs.map Cl.D).length<=1000000:=by simpa using hz
 rwa[(cs.map (qf d)).map PyData.bool=BB,cs.map Cl.D=X,cs.any (qf d)=b]
 push_cast [ZF,e,hb1,hxl,hml]
def zbI(cf:CF)(d:Int):runI 2 [false,false] [] ZF cf [.d (zB []),.d (.int d)]=.ok (.d (.bool false)) [none,none]:=by
 push_cast [ZF,zB,qD,loopG,loopG,qi]
def zgh(cf:CF)(hl:st.length<=1000){d:Nat}{o0 o2 o4 o5:Option OV} :
  qD 1 (.nm 0 6) fYes (jao.ev cf).1 (zZ st.length) [] [o0,@&(.int d),o2,@&(zA st),o4,o5]=.ok ((Wy d st).map .int,[o0,@&(.int d),o2,@&(zA st),o4,o5]):=by
 let e:=qF (k:=1) (t:=.nm 0 6) (cond:=fYes) (elt:=(jao.ev cf).1) (ds:=zZ st.length) (Γ:= [o0,@&(.int d),o2,@&(zA st),o4,o5]) (λ_=>true) (λx=>match x with | .int i=>.int (st.getD i.toNat 0+(if i.toNat=d then 1 else 0)) | _=>.none) (by
  intro x hx
  let⟨i,hi,rfl⟩:=xv.mp hx
  let hi':i<st.length:=by simpa using hi
  let a1:=wB (xs:=st) (d:=i) hi'
  refine⟨[o0,@&(.int d),o2,@&(zA st),o4,o5,@&(.int i)],_,rfl,rfl,by simp,λ_=>⟨.dat (.int (st.getD i 0+(if i=d then 1 else 0))),[o0,@&(.int d),o2,@&(zA st),o4,o5,@&(.int i)],?_,rfl,by simp⟩⟩
  let hq:((i:Int)==(d:Int))=decide (i=d):=by
   rw[uV,beq_iff_eq,x0];lia
  unfold zA
  rwa[st.getD i 0=g,st.map PyData.int=X]
  by_cases hid:i=d
  ·subst hid
   simp![jao,a1,zQ,zS]
  ·let hn:((i:Int)==(d:Int))=false:=by rw[hq];simpa using hid
   simp![jao,a1,zQ,zS,hn,hid])
 rw[e,qG]
 unfold zZ Wy
 rw[xu,xu]
 rfl
def zgi(cf:CF)(hp:pots<=1000)(hb:Bolt pots cs)(d:Nat) :
  runI 6 [false,false] [] Zx cf [.d (zB cs),.d (.int d)]=.ok (.l ((cs.map (qp d)).map λc=>.d c.D)) [none,none]:=by
 let⟨Γ',e,⟨o3,o4,o5,rfl⟩⟩:=jf (t:=.tp (.cons (.nm 3 3) (.cons (.nm 4 4) (.cons (.nm 5 5) .nil)))) (body:=ja5.ex cf []) (ds:=cs.map Cl.D) (Γ:= [@&(zB cs),@&(.int d),some (.l []),none,none,none])
  (λpre Γ=>∃ o3 o4 o5:Option OV,Γ= [@&(zB cs),@&(.int d),some (.l (((cs.take pre.length).map (qp d)).map λc=>.d c.D)),o3,o4,o5]) ⟨_,_,_,rfl⟩ (by
   rintro pre x post e Γ ⟨o3,o4,o5,rfl⟩
   let hlt:pre.length<cs.length:=by have:=congrArg List.length e;simp at this;lia
   let hxe:x=(cs[pre.length]).D:=by
    have:(cs.map Cl.D)[pre.length]?=some x:=by rw[e];simp
    rw[xf,xb hlt]at this
    simpa using this.symm
   let hc:=hb.2 _ (xO hlt)
   let hnx:(cs.take (pre.length+1)).map (qp d)=(cs.take pre.length).map (qp d)++ [qp d cs[pre.length]]:=by
    rw[xY,xb hlt,xC];rfl
   let hz:(((cs.take pre.length).map (qp d)).map λc=>OV.d c.D).length<1000000:=by
    have:=hb.1
    simp;lia
   rwa[cs[pre.length]=c]
   subst hxe
   let hpl:(pre++ [c.D]).length=pre.length+1:=by simp
   rw[hpl,hnx,xC]
   let e1:=zgh cf (st:=c.st) (by rw[hc.sl];exact hp) (d:=d) (o0:=some (.d (zB cs))) (o2:=some (.l (((cs.take pre.length).map (qp d)).map λc=>.d c.D))) (o4:=some (.d (.bool c.w))) (o5:=some (.d (zA c.wi)))
   let hz1: -1000000<=(c.st.length:Int)/\(c.st.length:Int)<=1000000:=by rw[hc.sl];lia
   let hz2:c.st.length<=1000000:=by rw[hc.sl];lia
   let hz3:((Wy d c.st).map PyData.int).length<=1000000:=by simp[Yd];rw[hc.sl];lia
   rwa[((cs.take pre.length).map (qp d)).map (λc=>OV.d c.D)=AA]
   refine⟨[@&(zB cs),@&(.int d),some (.l AA),@&(zA c.st),@&(.bool c.w),@&(zA c.wi)],[@&(zB cs),@&(.int d),some (.l (AA++ [.d (qp d c).D])),@&(zA (qp d c).st),@&(.bool c.w),@&(zA c.wi)],rfl,?_,_,_,_,rfl⟩
   unfold qp
   let hl0:(c.st.map PyData.int).length=c.st.length:=by simp
   cases hw:c.w with
   |true=>
    simp![ja5,hw,Cl.D,Zc,hz]
   |false=>
    rw[hw]at e1
    unfold zA at *
    rwa[c.st.map PyData.int=X]
    generalize hY:(Wy d c.st).map PyData.int=Y at *
    generalize hZ:c.wi.map PyData.int=Z at *
    simp![ja5,hw,Cl.D,Zc,zA,hl0,hz1,hz2,hz3,e1,hz,zF]
    exact⟨⟨hY.symm,hZ.symm⟩,hY.symm⟩)
 let ht:(cs.take (cs.map Cl.D).length)=cs:=by rw[xo,xW]
 rw[ht]at e
 unfold zB at *
 rwa[cs.map Cl.D=X,(cs.map (qp d)).map (λc=>OV.d c.D)=DD]
 push_cast [Zx,e]
def zd7(cf:CF)(d:Int):runI 6 [false,false] [] Zx cf [.d (zB []),.d (.int d)]=.ok (.l []) [none,none]:=by
 push_cast [Zx,zB,jk]
def VG (cf:CF):Prop:=(∀ (pots:Nat) (cs:List Cl) (d:Nat),Bolt pots cs->d<pots->cf "_law_full" [.d (zB cs),.d (.int d)]=.ok (.d (.bool (cs.any (qf d)))) [none,none])/\∀ d:Int,cf "_law_full" [.d (zB []),.d (.int d)]=.ok (.d (.bool false)) [none,none]
def zcx (cf:CF):Prop:=(∀ (pots:Nat) (cs:List Cl) (d:Nat),pots<=1000->Bolt pots cs->cf "_law_dip" [.d (zB cs),.d (.int d)]=.ok (.l ((cs.map (qp d)).map λc=>.d c.D)) [none,none])/\∀ d:Int,cf "_law_dip" [.d (zB []),.d (.int d)]=.ok (.l []) [none,none]
def yQ{α:Type}{k:Nat}{t:IT}{elt:EM FV}(g f:α->PyData){xs:List α}{Γ:Gv}
  (hs:∀ a∈xs,∃ Γ2 u Γ4,tgF t (g a) (Γ++List.replicate k none)=some Γ2/\elt Γ2=.ok (u,Γ4)/\derS Γ4 u=some (f a)/\Γ4.take Γ.length=Γ) :
  qD k t fYes elt (xs.map g) [] Γ=.ok (xs.map f,Γ):=by
 let⟨ys,Γ',e,hy,rfl⟩:=qH (k:=k) (cond:=fYes) (λpre ys Γ'=>ys=(xs.take pre.length).map f/\Γ'=Γ) (ds:=xs.map g) (Γ:=Γ) ⟨rfl,rfl⟩ (by
  rintro pre d post e ys Γ' ⟨rfl,rfl⟩
  let hlen:pre.length<xs.length:=by
   have:=congrArg List.length e
   simp at this;lia
  let hd:d=g xs[pre.length]:=by
   let h1:(xs.map g)[pre.length]?=some d:=by rw[e];simp
   rw[xf,xb hlen]at h1
   erw[(Option.some.inj h1).symm]
  let⟨Γ2,u,Γ4,e1,e2,e3,e4⟩:=hs xs[pre.length] (xO hlen)
  rw[<- hd]at e1
  refine⟨Γ2,true,Γ2,e1,rfl,λ_=>⟨u,Γ4,f xs[pre.length],e2,e3,?_,e4⟩,λz=>nomatch z⟩
  rw[xy,uc,xY,xC,xb hlen]
  rfl)
 rw[e]
 rw[hy]
 simp
def zin{α:Type}{k:Nat}{t:IT}{ek ev:EM FV}(g:α->PyData)(ky:α->Str)(f:α->PyData){Γ:Gv}:∀(xs:List α)(acc:Ad),
  (∀ a∈xs,∃ Γ2 Γ4,tgF t (g a) (Γ++List.replicate k none)=some Γ2/\itD ek ev Γ2=.ok ((ky a,f a),Γ4)/\Γ4.take Γ.length=Γ) ->
  loopG k t fYes (itD ek ev) (λys y=>zU ys y.1 y.2) (xs.map g) acc Γ=.ok (zM acc (xs.map λa=>(ky a,f a)),Γ)
 |[],acc,_=>rfl
 |x::xs,acc,h=>by
  let⟨Γ2,Γ4,e1,e2,e3⟩:=h x (by simp)
  let ih:=zin g ky f (Γ:=Γ) xs (zU acc (ky x) (f x)) λa ha=>h a (by simp[ha])
  rw[xp,loopG,e1]
  simp only[fYes,e2,e3]
  erw[ih]
section
variable {β:Type}
def Yu{v:β}(h:n∉c.map (·.1)):zU c n v=c++ [(n,v)]:=by
 unfold zU
 rw[if_neg]
 intro z
 let⟨p,hp,e⟩:=ux.mp z
 exact h (xv.mpr ⟨p,hp,by simpa using e⟩)
def valG_none{c:List (Str×β)}:zI c n=none↔n∉c.map (·.1):=by
 unfold zI
 rw[Option.map_eq_none_iff,List.find?_eq_none]
 constructor
 ·intro h z
  let⟨p,hp,e⟩:=xv.mp z
  exact h p hp (by simpa using e)
 ·intro h p hp z
  exact h (xv.mpr ⟨p,hp,by simpa using z⟩)
def j6(h:zI c n=some v):(n,v)∈c:=by
 unfold zI at h
 let⟨p,e,rfl⟩:=uI.mp h
 let h1:=List.mem_of_find?_eq_some e
 let h2:=List.find?_some e
 have:p.1=n:=by simpa using h2
 rw[<- this];exact h1
def zb1(c:List (Str×β))(n:Str)(v:β):(zU c n v).map (·.1)=if n∈c.map (·.1) then c.map (·.1) else c.map (·.1)++ [n]:=by
 by_cases h:n∈c.map (·.1)
 ·rw[if_pos h]
  unfold zU
  rw[if_pos (by
   let⟨p,hp,e⟩:=xv.mp h
   exact ux.mpr ⟨p,hp,by simpa using e⟩),xu]
  apply uo
  intro p hp
  show (if p.1=n then (p.1,v) else p).1=p.1
  split<;>rfl
 ·rw[if_neg h,Yu h];simp
def WZ(h:(c.map (·.1)).Nodup)(n:Str)(v:β):((zU c n v).map (·.1)).Nodup:=by
 rw[zb1]
 split
 ·erw[h]
 next hn=>
  rw[xJ]
  exact⟨h,by simp,λa ha b hb e=>hn (by
   let hbn:b=n:=by simpa using hb
   rw[<- hbn,<- e];exact ha)⟩
def WY(h:p∈zU c n v):p∈c∨p=(n,v):=by
 unfold zU at h
 split at h
 ·let⟨q,hq,e⟩:=xv.mp h
  split at e
  next hn=>
   exact .inr (by rw[<- e,hn])
  ·exact .inl (by rw[<- e];exact hq)
 ·rcases xF.mp h with h | h
  ·erw[.inl h]
  ·exact .inr (by simpa using h)
def YL(v:β)(h:m≠n):zI (zU c n v) m=zI c m:=by
 unfold zI zU
 split
 ·congr 1
  rw[List.find?_map]
  have:((λp:Str×β=>decide (p.1=m))∘λp:Str×β=>if p.1=n then (p.1,v) else p)=λp=>decide (p.1=m):=by
   funext p
   show decide ((if p.1=n then (p.1,v) else p).1=m)=_
   split<;>rfl
  rw[this]
  cases q:c.find? λp=>decide (p.1=m) with
  |none=>rfl
  |some p=>
   have:=List.find?_some q
   have:p.1=m:=by simpa using this
   show some (if p.1=n then (p.1,v) else p)=some p
   rw[if_neg (by rw[this];exact h)]
 ·rw[List.find?_append]
  have:([(n,v)]:List (Str×β)).find? (λp=>decide (p.1=m))=none:=by
   rw[List.find?_eq_none]
   intro p hp
   have:p=(n,v):=by simpa using hp
   rw[this];simpa using λe:n=m=>h e.symm
  rw[this,Option.or_none]
def k9(c L:List (Str×β))(n:Str)(v:β):zM c (L++ [(n,v)])=zU (zM c L) n v:=by
 unfold zM;rw[List.foldl_append];rfl
def Qw:∀(L c:List (Str×β)){m:Str},m∉L.map (·.1)->zI (zM c L) m=zI c m
 |[],c,m,_=>rfl
 |p::L,c,m,h=>by
  have:=Qw L (zU c p.1 p.2) (λz=>h (by simp only[xp,xw];exact .inr z))
  rw[YL _ (λe=>h (by simp[e]))]at this
  erw[this]
def JG:∀(L c:List (Str×β)),(L.map (·.1)).Nodup->(∀ p∈L,p.1∉c.map (·.1))->zM c L=c++L
 |[],c,_,_=>by simp[zM]
 |p::L,c,h,hd=>by
  rw[xp,xB]at h
  let e:=Yu (v:=p.2) (hd p (by simp))
  let ih:=JG L (c++ [p]) h.2 (λq hq z=>by
   rw[xC,xF]at z
   rcases z with z | z
   ·exact hd q (by simp[hq]) z
   ·have:q.1=p.1:=by simpa using z
    exact h.1 (xv.mpr ⟨q,hq,this⟩))
  show zM (zU c p.1 p.2) L=_
  rw[e,show (c++ [(p.1,p.2)])=c++ [p] from rfl,ih];simp
def JF:∀(L:List (Str×β)){c:List (Str×β)}{p:Str×β},p∈zM c L->p∈c∨p∈L
 |[],c,p,h=>.inl h
 |x::L,c,p,h=>by
  rcases JF L h with h | h
  ·rcases WY h with h | h
   ·erw[.inl h]
   ·exact .inr (by simp[h])
  ·exact .inr (by simp[h])
def J0:∀(L:List (Str×β)){c:List (Str×β)},(c.map (·.1)).Nodup->((zM c L).map (·.1)).Nodup
 |[],_,h=>h
 |x::L,c,h=>J0 L (WZ h x.1 x.2)
variable {γ:Type}(f:β->γ)
def zfm(c:List (Str×β))(n:Str):zI (c.map λp=>(p.1,f p.2)) n=(zI c n).map f:=by
 unfold zI
 rw[List.find?_map]
 have:((λp:Str×γ=>decide (p.1=n))∘λp:Str×β=>(p.1,f p.2))=λp=>decide (p.1=n):=rfl
 rw[this,Option.map_map,Option.map_map];rfl
def Yt(c:List (Str×β))(n:Str)(v:β):zU (c.map λp=>(p.1,f p.2)) n (f v)=(zU c n v).map λp=>(p.1,f p.2):=by
 unfold zU
 rw[uH]
 have:((λp:Str×γ=>decide (p.1=n))∘λp:Str×β=>(p.1,f p.2))=λp=>decide (p.1=n):=rfl
 rw[this]
 split
 ·rw[xu,xu]
  apply uo
  intro p _
  show (if p.1=n then (p.1,f v) else (p.1,f p.2))=_
  show _=((if p.1=n then (p.1,v) else p).1,f (if p.1=n then (p.1,v) else p).2)
  split<;>rfl
 ·rw[xC];rfl
def WJ:∀(L c:List (Str×β)),zM (c.map λp=>(p.1,f p.2)) (L.map λp=>(p.1,f p.2))=(zM c L).map λp=>(p.1,f p.2)
 |[],_=>rfl
 |p::L,c=>by
  have:=WJ L (zU c p.1 p.2)
  rw[<- Yt]at this
  erw[this]
def Vh(c:List (Str×β))(n:Str):qu (c.map λp=>(p.1,f p.2)) n=(qu c n).map λp=>(p.1,f p.2):=by
 unfold qu
 rw[List.filter_map];rfl
end
noncomputable abbrev Cls:=List (Str×List Cl)
def frD(fr:List Bool):Aa:=fr.map .bool
def clD(c:Cls):Ad:=c.map λp=>(p.1,zB p.2)
def stA(fr:List Bool)(c:Cls):PyData:=stV (frD fr) (clD c)
def qg(c:Cls)(n:Str):List Cl:=(zI c n).getD []
def jb(p:Nat):Cl:=⟨List.replicate p 0,false,List.replicate p 0⟩
def qh(c:Cl):Cl:=⟨c.st,false,c.wi⟩
def KE(p:Nat):(jb p).D=jj p:=by
 unfold jb Cl.D Zc zA jj zs
 simp
def zal(p k:Nat):PyData.list (List.replicate k (jj p))=zB (List.replicate k (jb p)):=by
 unfold zB
 rw[ur,KE]
def Deed.fr:Deed->List Bool->List Bool
 |.dip _ k,fr=>fr.set k.toNat false
 |.brew k,fr=>fr.set k.toNat true
 |_,fr=>fr
def Deed.cl(p:Nat):Deed->Cls->Cls
 |.hang n k,c=>zU c n (List.replicate k.toNat (jb p))
 |.fold n,c=>qu c n
 |.twin n m,c=>zU c m (qg c n)
 |.wish n k sh,c=>zU c n (qA k.toNat sh (qg c n))
 |.wax n xs,c=>zU c n (jd xs (qg c n))
 |.dip ns k,c=>zM c (ns.map λn=>(n,(qg c n).map (qp k.toNat)))
 |.boil ns,c=>zM c (ns.map λn=>(n,(qg c n).map qh))
 |.brew _,c=>c
def yK(pool:Ab)(fr:List Bool)(c:Cls):Deed->Prop
 |.hang n k=>n∈pool/\zI c n=none/\0<=k/\k<=40
 |.fold n=>∃ cs,zI c n=some cs
 |.twin n m=>(∃ cs,zI c n=some cs)/\m∈pool/\zI c m=none
 |.wish n k sh=>∃ cs,zI c n=some cs/\0<=k/\k<cs.length/\sh.length=fr.length/\In9 sh
 |.wax n xs=>∃ cs,zI c n=some cs/\xs.all (jZ cs.length)=true/\zaK xs=false/\xs.length<=60
 |.dip ns k=>0<=k/\k<fr.length/\fr[k.toNat]?=some true/\ns.Nodup/\ns.length<=60/\∀ n∈ns,∃ cs,zI c n=some cs/\cs.any (qf k.toNat)=false
 |.boil ns=>ns.Nodup/\ns.length<=60/\∀ n∈ns,∃ cs,zI c n=some cs
 |.brew k=>0<=k/\k<fr.length/\fr[k.toNat]?=some false
def Clo(p:Nat)(cs:List Cl):Prop:=cs.length<=40/\∀ c∈cs,zct p c.st c.wi
structure StOk(pool:Ab)(p:Nat)(fr:List Bool)(c:Cls):Prop where
 hp:p<=12
 hl:fr.length=p
 hb:∀ q∈c,Clo p q.2
 nd:(c.map (·.1)).Nodup
 np:∀ q∈c,q.1∈pool
def WM:∀{l T:Ab},l.Nodup->(∀ x∈l,x∈T)->l.length<=T.length
 |[],_,_,_=>ub _
 |a::l,T,hn,hs=>by
  rw[xB]at hn
  let ha:=hs a (by simp)
  have:=WM hn.2 (λx hx=>by
   let hx2:=hs x (by simp[hx])
   let hne:x≠a:=λe=>hn.1 (e ▸ hx)
   exact (List.mem_erase_of_ne hne).mpr hx2)
  let h1:=List.length_erase_of_mem ha
  let h2:=List.length_pos_of_mem ha
  simp only[xq];lia
def StOk.len(h:StOk pool p fr c):c.length<=pool.length:=by
 have:=WM h.nd (λx hx=>by
  let⟨q,hq,rfl⟩:=xv.mp hx
  exact h.np q hq)
 rwa [xo]at this
def StOk.clo(h:StOk pool p fr c)(e:zI c n=some cs):Clo p cs:=h.hb _ (j6 e)
def StOk.bolt(h:StOk pool p fr c)(e:zI c n=some cs):Bolt p cs:=⟨xH (h.clo e).1 (by decide),(h.clo e).2⟩
def qN(e:zI c n=some cs):qg c n=cs:=by unfold qg;rw[e];rfl
def KT(p:Nat):In9 (List.replicate p 0):=λx hx=>by
 have:=List.eq_of_mem_replicate hx
 lia
def zan(hk:k<=40):Clo p (List.replicate k (jb p)):=⟨by simpa using hk,λc hc=>by
 rw[List.eq_of_mem_replicate hc]
 exact⟨by simp[jb],by simp[jb],KT p,KT p⟩⟩
def zao(h:Clo p cs):Clo p (cs.map qh):=⟨by simpa using h.1,λc hc=>by
 let⟨a,ha,rfl⟩:=xv.mp hc
 have:=h.2 a ha
 exact⟨this.sl,this.wl,this.sn,this.wn⟩⟩
def zcM(xs:List Int)(h:Clo p cs):Clo p (jd xs cs):=⟨xH (zfs xs cs _) h.1,λc hc=>by
 let⟨i,_,e⟩:=List.mem_filterMap.mp hc
 cases q:cs[i]? with
 |none=>rw[q]at e;cases e
 |some c0=>
  rw[q]at e
  cases e
  have:=h.2 c0 (ug q)
  exact⟨this.sl,this.wl,this.sn,this.wn⟩⟩
def zap(h:Clo p cs)(h1:sh.length=p)(h2:In9 sh):Clo p (qA a sh cs):=by
 unfold qA
 cases q:cs[a]? with
 |none=>erw[h]
 |some c=>
  let ha:=(xa.mp q).1
  refine⟨by have:=h.1;simp;lia,λx hx=>?_⟩
  rcases xF.mp hx with hx | hx
  ·erw[h.2 x (List.mem_of_mem_take hx)]
  ·rcases xw.mp hx with rfl | hx
   ·have:=h.2 c (ug q)
    exact⟨this.sl,h1,this.sn,h2⟩
   ·erw[h.2 x (List.mem_of_mem_drop hx)]
def zcL(h:Clo p cs)(hf:cs.any (qf d)=false):Clo p (cs.map (qp d)):=⟨by simpa using h.1,λc hc=>by
 let⟨a,ha,rfl⟩:=xv.mp hc
 let k:=h.2 a ha
 let hn:qf d a=false:=by
  cases q:qf d a with
  |false=>rfl
  |true=>rw[ux.mpr ⟨a,ha,q⟩]at hf;cases hf
 unfold qp
 split
 ·erw[k]
 next hw=>
  refine⟨by rw[Yd];exact k.sl,k.wl,λx hx=>?_,k.wn⟩
  let⟨i,hi,rfl⟩:=xv.mp hx
  let hi':i<a.st.length:=by simpa using hi
  let g:a.st.getD i 0=a.st[i]:=by rw[xE,xb hi'];rfl
  let b:=k.sn _ (xO hi')
  rw[g]
  split
  next e=>
   subst e
   unfold qf at hn
   let hw':a.w=false:=by simpa using hw
   rw[hw',g]at hn
   simp at hn
   lia
  ·lia⟩
def StOk.put(h:StOk pool p fr c)(hn:n∈pool)(hb:Clo p cs):StOk pool p fr (zU c n cs):=⟨h.hp,h.hl,λq hq=>by
  rcases WY hq with hq | rfl
  ·erw[h.hb q hq]
  ·exact hb,WZ h.nd _ _,λq hq=>by
  rcases WY hq with hq | rfl
  ·erw[h.np q hq]
  ·exact hn⟩
def StOk.merge(h:StOk pool p fr c)(hL:∀ q∈L,q.1∈pool/\Clo p q.2):StOk pool p fr (zM c L):=⟨h.hp,h.hl,λq hq=>by
  rcases JF L hq with hq | hq
  ·erw[h.hb q hq]
  ·exact (hL q hq).2,J0 L h.nd,λq hq=>by
  rcases JF L hq with hq | hq
  ·erw[h.np q hq]
  ·exact (hL q hq).1⟩
def StOk.step(h:StOk pool p fr c)(g:yK pool fr c d):StOk pool p (d.fr fr) (d.cl p c):=by
 cases d with
 |hang n k=>exact h.put g.1 (zan (by have:=g.2.2.2;lia))
 |fold n=>
  refine⟨h.hp,h.hl,λq hq=>h.hb q ((uS.mp hq).1),?_,λq hq=>h.np q ((uS.mp hq).1)⟩
  erw[h.nd.sublist (List.Sublist.map _ List.filter_sublist)]
 |twin n m=>
  let⟨⟨cs,e⟩,hm,_⟩:=g
  show StOk pool p fr (zU c m (qg c n))
  rw[qN e]
  erw[h.put hm (h.clo e)]
 |wish n k sh=>
  let⟨cs,e,_,_,h1,h2⟩:=g
  show StOk pool p fr (zU c n (qA k.toNat sh (qg c n)))
  rw[qN e]
  exact h.put (h.np _ (j6 e)) (zap (h.clo e) (by rw[h1,h.hl]) h2)
 |wax n xs=>
  let⟨cs,e,_⟩:=g
  show StOk pool p fr (zU c n (jd xs (qg c n)))
  rw[qN e]
  erw[h.put (h.np _ (j6 e)) (zcM xs (h.clo e))]
 |dip ns k=>
  let⟨_,_,_,_,_,hh⟩:=g
  have:=h.merge (L:=ns.map λn=>(n,(qg c n).map (qp k.toNat))) (λq hq=>by
   let⟨n,hn,rfl⟩:=xv.mp hq
   let⟨cs,e,hf⟩:=hh n hn
   let hm:=h.np _ (j6 e)
   refine⟨hm,?_⟩
   show Clo p ((qg c n).map _)
   rw[qN e]
   exact zcL (h.clo e) hf)
  exact⟨this.hp,by show (fr.set _ _).length=p;rw[xK];exact h.hl,this.hb,this.nd,this.np⟩
 |boil ns=>
  let⟨_,_,hh⟩:=g
  exact h.merge (L:=ns.map λn=>(n,(qg c n).map qh)) (λq hq=>by
   let⟨n,hn,rfl⟩:=xv.mp hq
   let⟨cs,e⟩:=hh n hn
   let hm:=h.np _ (j6 e)
   refine⟨hm,?_⟩
   show Clo p ((qg c n).map _)
   rw[qN e]
   exact zao (h.clo e))
 |brew k=>exact⟨h.hp,by show (fr.set _ _).length=p;rw[xK];exact h.hl,h.hb,h.nd,h.np⟩
def Qg(cs:List Cl):(OV.l (cs.map λc=>.d c.D)).view=zB cs:=by
 have:=qv (cs.map Cl.D)
 rw[xu]at this
 erw[this]
def zW(c:Cls)(n:Str):zI (clD c) n=(zI c n).map zB:=zfm zB c n
def jy(c:Cls)(n:Str)(cs:List Cl):zU (clD c) n (zB cs)=clD (zU c n cs):=Yt zB c n cs
def Jk (cf:CF):Prop:=∀ cs:List Cl,cs.length<=1000->cf "boiled" [.d (zB cs)]=.ok (.l ((cs.map qh).map λc=>.d c.D)) [none]
def Y7(cf:CF):Jk λ_=>runI 1 [false] [] WQ cf:=λcs hl=>by
 let e:=yQ (k:=3) (t:=.tp (.cons (.nm 0 1) (.cons (.nm 1 2) (.cons (.nm 2 3) .nil)))) (elt:=(jbu.ev cf).1) Cl.D (λc=>(qh c).D) (xs:=cs) (Γ:= [@&(zB cs)]) (by
  intro c hc
  refine⟨[@&(zB cs),@&(zA c.st),@&(.bool c.w),@&(zA c.wi)],.dat (qh c).D,[@&(zB cs),@&(zA c.st),@&(.bool c.w),@&(zA c.wi)],rfl,?_,rfl,rfl⟩
  unfold qh Cl.D Zc
  rwa[zA c.st=A,zA c.wi=B]
  push_cast [jbu,cs1])
 let hz:(cs.map Cl.D).length<=1000000:=by simp;lia
 let hvv:(cs.map λc=>(qh c).D).map OV.d=(cs.map qh).map λc=>OV.d c.D:=by rw[xu,xu];rfl
 rw[<- hvv]
 unfold zB at *
 rwa[(cs.map λc=>(qh c).D)=DD,cs.map Cl.D=X]
 push_cast [WQ,e,hz,cs1]
def Ky (cf:CF):Prop:=∀ (fr:List Bool) (cl:Ad) (d:Nat),d<fr.length->cf "check_dye" [.d (stV (frD fr) cl),.d (.int d)]=.ok (.d .none) [none,none]
def zir(cf:CF):Ky λ_=>runI 2 [false,false] [] Z8 cf:=λfr cl d hd=>by
 let h1:=qM (frD fr) cl
 let hz:(frD fr).length=fr.length:=by simp[frD]
 let h2:(0:Int)<=(d:Int):=by lia
 let h3:(d:Int)<(fr.length:Int):=by lia
 rwa[stV (frD fr) cl=D,frD fr=F,(d:Int)=I]
 push_cast [Z8,h1,hz,h2,h3,cs1]
def zcV{α:Type}[DecidableEq α]:∀{l acc:List α},l.Nodup->(∀ x∈l,x∉acc)->l.foldl PyProof.Rows.step_dedup acc=acc++l
 |[],acc,_,_=>by simp
 |x::l,acc,hn,hd=>by
  rw[xB]at hn
  let e:PyProof.Rows.step_dedup acc x=acc++ [x]:=by
   unfold PyProof.Rows.step_dedup
   rw[if_neg]
   intro z
   let⟨y,hy,q⟩:=ux.mp z
   exact hd x (by simp) (by rw[<- eq_of_beq q];exact hy)
  rw[uy,e,zcV hn.2 (λy hy z=>by
   rcases xF.mp z with z | z
   ·exact hd y (by simp[hy]) z
   ·have:y=x:=by simpa using z
    exact hn.1 (this ▸ hy))]
  simp
def y1{α:Type}[DecidableEq α]{l:List α}(h:l.Nodup):Tab.dedup l=l:=by
 unfold Tab.dedup
 rw[zcV h (by simp)];rfl
def QV (cf:CF):Prop:=∀ (fr:Aa) (cl:Ad) (ns:Ab),ns.Nodup->ns.length<=60->(∀ n∈ns,(zI cl n).isSome=true)->cf "check_names" [.d (stV fr cl),.d (qc ns)]=.ok (.d .none) [none,none]
def zaB(cf:CF)(hh:Zb cf):QV λ_=>runI 3 [false,false] [] Zv cf:=λfr cl ns hn hl ha=>by
 let⟨Γ',e,⟨o2,rfl⟩⟩:=jf (t:=.nm 2 2) (body:=jbp.ex cf []) (ds:=ns.map .str) (Γ:= [@&(stV fr cl),@&(qc ns),none])
  (λpre Γ=>∃ o2:Option OV,Γ= [@&(stV fr cl),@&(qc ns),o2]) ⟨_,rfl⟩ (by
   rintro pre x post e Γ ⟨o2,rfl⟩
   let hx:x∈ns.map PyData.str:=by rw[e];simp
   let⟨n,hm,rfl⟩:=xv.mp hx
   let e1:=hh fr cl n
   rw[if_pos (ha n hm)]at e1
   refine⟨_,[@&(stV fr cl),@&(qc ns),@&(.str n)],rfl,?_,_,rfl⟩
   rwa[stV fr cl=D,qc ns=NS]
   push_cast [jbp,e1,cs1])
 let hs:=QS ns
 let hd:=y1 hn
 let hml:(ns.map PyData.str).length=ns.length:=by simp
 unfold qc at *
 rwa[stV fr cl=D]
 unfold Zv
 rwa[jbp=B1,ns.map PyData.str=X]
 let hz:ns.length<=1000000:=by lia
 dsimp! [e,Jz,hs,hd,hl,hml,hz,zQ,zS,zE]
def ZR(Γ:Gv)(F:Aa):W6 Γ (.dat (.list F))=some F:=rfl
def KD (cf:CF):Prop:=∀ (fr:List Bool) (cl:Ad) (d:Nat) (b:Bool),d<fr.length->cf "with_pot" [.d (stV (frD fr) cl),.d (.int d),.d (.bool b)]=.ok (.d (stV (frD (fr.set d b)) cl)) [none,none,none]
def zi7(cf:CF)(hs:Qk cf):KD λ_=>runI 4 [false,false,false] [] QR cf:=λfr cl d b hd=>by
 let h1:=qM (frD fr) cl
 let h2:=qj (frD fr) cl
 let hz:((frD fr).map OV.d).length=fr.length:=by simp[frD]
 let e1:=hs (.list (frD (fr.set d b))) (.dict (cl.map dK))
 let hw:=wI (frD (fr.set d b)) cl
 let hst:((frD fr).map OV.d).set d (.d (.bool b))=(frD (fr.set d b)).map OV.d:=by
  unfold frD
  rw[xZ,xZ]
 let hv:=qv (frD (fr.set d b))
 let hg:(frD fr)[d]?=some (.bool fr[d]):=by unfold frD;rw[xf,xb hd];rfl
 generalize fr[d]=g at hg
 let h4:¬ ((d:Int)<0):=by lia
 let h5:(d:Int)<(fr.length:Int):=by lia
 let h6:(d:Int).toNat=d:=by lia
 let h7:(0:Int)<=(d:Int):=by lia
 let hi:ixN ((frD fr).map OV.d).length (d:Int)=some d:=by
  unfold ixN
  rw[hz,if_pos h7,if_pos h5,h6]
 rwa[stV (frD fr) cl=D,stV (frD (fr.set d b)) cl=D2]
 generalize hF:frD fr=F at *
 rwa[frD (fr.set d b)=F2,cl.map dK=CD,(d:Int)=I]
 dsimp! [QR,ZR,h1,h2,e1,hw,hst,hv,hg,hi,hz,h4,h5,h6,h7,zE,ixN]
def YN (cf:CF):Prop:=∀ (fr:List Bool) (cl:Ad) (d:Nat),fr[d]?=some false->cf "behind_brew" [.d (stV (frD fr) cl),.d (.list [.int d])]=.ok (.d (stV (frD (fr.set d true)) cl)) [none,none]
def y8{d:Nat}(h:fr[d]?=some b):atI (frD fr) (d:Int)=some (.bool b):=qW (by unfold frD;rw[xf,h];rfl)
def zfP(cf:CF)(hd:Ky cf)(hp:KD cf):YN λ_=>runI 3 [false,false] [] Zq cf:=λfr cl d h=>by
 let hlt:=(xa.mp h).1
 let e1:=hd fr cl d hlt
 let e2:=hp fr cl d true hlt
 let h1:=qM (frD fr) cl
 let h2:=y8 h
 let h3:atI [PyData.int d] 0=some (.int d):=rfl
 rwa[stV (frD fr) cl=D,stV (frD (fr.set d true)) cl=D2,frD fr=F,(d:Int)=I]
 push_cast [Zq,e1,e2,h1,h2,h3,cs1]
def YQ (cf:CF):Prop:=∀ (fr:Aa) (cl:Ad) (n:Str),(zI cl n).isSome=true->(cl.map (·.1)).Nodup->cl.length<=1000->(∀ p∈cl,PyData.strOk p.1=true)->PyData.strOk n=true->cf "behind_fold" [.d (stV fr cl),.d (.list [.str n])]=.ok (.d (stV fr (qu cl n))) [none,none]
def V9 (cf:CF) (h1:zdP "Stand" "cloths" D=some (.dict (cl.map dK))) (hns:PyData.strOk n=true){o1:Option OV}:∀ (xs acc:Ad),(∀ p∈xs,zI cl p.1=some p.2/\PyData.strOk p.1=true) ->
  loopG 1 (.nm 0 3) (jah.ev cf) (itD (jay.ev cf).1 (jaz.ev cf).1) (λys y=>zU ys y.1 y.2) (xs.map λp=>.str p.1) acc [@&D,o1,@&(.str n)]=.ok (zM acc (qu xs n),[@&D,o1,@&(.str n)])
 |[],acc,_=>rfl
 |p::xs,acc,h=>by
  let hv:=(h p (by simp)).1
  let h2:=zL cl
  let hy:lay 20 (.str p.1)=true:=(h p (by simp)).2
  let hy2:lay 20 (.str n)=true:=hns
  let hq:PyData.eqv (.str p.1) (.str n)=decide (p.1=n):=by
   show (p.1==n)=_
   rw[uV,beq_iff_eq,x0]
  let hqn:PyData.eqv (.str n) (.str n)=true:=by
   show (n==n)=true
   simp
  let et:tgF (.nm 0 3) (PyData.str p.1) ([@&D,o1,@&(.str n)]++List.replicate 1 none)=some [@&D,o1,@&(.str n),@&(.str p.1)]:=rfl
  rw[xp,loopG,et]
  by_cases hn:p.1=n
  ·let ec:jah.ev cf [@&D,o1,@&(.str n),@&(.str p.1)]=.ok (false,[@&D,o1,@&(.str n),@&(.str p.1)]):=by
    push_cast [jah,hy,hy2,hq,hqn,hn,cs1]
   let ed:qu (p::xs) n=qu xs n:=by
    unfold qu
    rw[ud,if_neg (by simpa using hn)]
   simp only[ec]
   rw[ed]
   exact V9 cf h1 hns xs acc λq hq=>h q (by simp[hq])
  ·let ec:jah.ev cf [@&D,o1,@&(.str n),@&(.str p.1)]=.ok (true,[@&D,o1,@&(.str n),@&(.str p.1)]):=by
    push_cast [jah,hy,hy2,hq,hqn,hn,cs1]
   let ei:itD (jay.ev cf).1 (jaz.ev cf).1 [@&D,o1,@&(.str n),@&(.str p.1)]=.ok ((p.1,p.2),[@&D,o1,@&(.str n),@&(.str p.1)]):=by
    dsimp! [itD,jay,jaz,h1,h2,hv]
   let ed:qu (p::xs) n=p::qu xs n:=by
    unfold qu
    rw[ud,if_pos (by simpa using hn)]
   simp only[ec,ei]
   rw[ed]
   exact V9 cf h1 hns xs (zU acc p.1 p.2) λq hq=>h q (by simp[hq])
def Qx{β:Type}:∀{c:List (Str×β)}{p:Str×β},(c.map (·.1)).Nodup->p∈c->zI c p.1=some p.2
 |q::c,p,hn,hp=>by
  rw[xp,xB]at hn
  unfold zI
  rw[xV]
  by_cases e:q.1=p.1
  ·rcases xw.mp hp with rfl | hp
   ·simp
   ·erw[absurd (xv.mpr ⟨p,hp,e.symm⟩) hn.1]
  ·rcases xw.mp hp with rfl | hp
   ·erw[absurd rfl e]
   ·have:=Qx hn.2 hp
    unfold zI at this
    simpa [e] using this
def zf6(cf:CF)(hs:Qk cf)(hh:Zb cf):YQ λ_=>runI 3 [false,false] [] Zr cf:=λfr cl n h hn hl hk hns=>by
 let h1:=qj fr cl
 let h2:=zL cl
 let h3:=qM fr cl
 let e1:=hh fr cl n
 rw[if_pos h]at e1
 let e2:=hs (.list fr) (.dict ((qu cl n).map dK))
 let hw:=wI fr (qu cl n)
 let hv:=qU (qu cl n)
 let e3:=V9 cf h1 (n:=n) hns (o1:=some (.d (.list [.str n]))) cl [] (λp hp=>⟨Qx hn hp,hk p hp⟩)
 let e4:=JG (qu cl n) [] (hn.sublist (List.Sublist.map _ List.filter_sublist)) (by simp)
 rw[e4,uT]at e3
 let h5:atI [PyData.str n] 0=some (.str n):=rfl
 let hz:(cl.map λp=>PyData.str p.1).length<=1000000:=by simp;lia
 rwa[stV fr cl=D,stV fr (qu cl n)=D2]
 generalize hDG:qu cl n=DG at *
 generalize hKY:(cl.map λp=>PyData.str p.1)=KY at *
 rwa[cl.map dK=CD]
 unfold Zr
 rwa[jah=B1,jay=B2,jaz=B3]
 let hz2:cl.length<=1000000:=by lia
 dsimp! [e1,e2,e3,h1,h2,h3,h5,hw,hv,hz,hz2,hKY,zE]
def YY (cf:CF):Prop:=∀ (fr:Aa) (cl:Ad) (n m:Str) (v:PyData),Nm m->zI cl n=some v->zI cl m=none->cl.length<=1000->cf "behind_twin" [.d (stV fr cl),.d (.list [.str n,.str m])]=.ok (.d (stV fr (zU cl m v))) [none,none]
def zhC(cf:CF)(hw:ZY cf)(hh:Zb cf)(hc:Qj cf):YY λ_=>runI 4 [false,false] [] Zt cf:=λfr cl n m v hm h hq hl=>by
 let e1:=hh fr cl n
 rw[if_pos (by rw[h];rfl)]at e1
 let e2:=hc fr cl m hm hq
 let e3:cf "with_cloths" [.d (stV fr cl),.d (.dict ([(m,v)].map dK))]=.ok (.d (stV fr (zU cl m v))) [none,none]:=hw fr cl [(m,v)] (by simp;lia)
 let h1:=qj fr cl
 let h2:=zL cl
 let hv:=qU [(m,v)]
 rwa[stV fr cl=D,stV fr (zU cl m v)=D2,PyData.dict ([(m,v)].map dK)=MD,cl.map dK=CD]
 dsimp! [Zt,e1,e2,e3,h,h1,h2,hv,zE]
def YZ (cf:CF):Prop:=∀ (fr:Aa) (cl:Ad) (n:Str) (cs:List Cl) (xs:List Int),zI cl n=some (zB cs)->cs.length<=1000->xs.length<=60->xs.all (jZ cs.length)=true->zaK xs=false->cl.length<=1000->cf "behind_wax" [.d (stV fr cl),.d (.list [.str n,zA xs])]=.ok (.d (stV fr (zU cl n (zB (jd xs cs))))) [none,none]
def zhF(cf:CF)(hw:ZY cf)(hh:Zb cf)(hx:Y0 cf):YZ λ_=>runI 4 [false,false] [] ZQ cf:=λfr cl n cs xs h hc hx1 hx2 hx3 hl=>by
 let e1:=hh fr cl n
 rw[if_pos (by rw[h];rfl)]at e1
 let e2:=hx cs xs hc hx1
 unfold zjW at e2
 rw[if_pos hx2,hx3,if_neg (by decide)]at e2
 let e3:cf "with_cloths" [.d (stV fr cl),.d (.dict ([(n,zB (jd xs cs))].map dK))]=.ok (.d (stV fr (zU cl n (zB (jd xs cs))))) [none,none]:=hw fr cl [(n,zB (jd xs cs))] (by simp;lia)
 let h1:=qj fr cl
 let h2:=zL cl
 let hv:=qU [(n,zB (jd xs cs))]
 let hb:=Qg (jd xs cs)
 rwa[stV fr cl=D,stV fr (zU cl n (zB (jd xs cs)))=D2,PyData.dict ([(n,zB (jd xs cs))].map dK)=MD,cl.map dK=CD,OV.l ((jd xs cs).map λc=>.d c.D)=WL,zB (jd xs cs)=WB,zB cs=BB,zA xs=XX]
 dsimp! [ZQ,e1,e2,e3,h,h1,h2,hv,hb,zE]
def VJ (cf:CF):Prop:=∀ (fr:Aa) (cl:Ad) (n:Str) (p:Nat) (cs:List Cl) (a:Nat) (xs:List Int),zI cl n=some (zB cs)->Bolt p cs->p<=1000->a<cs.length->xs.length=p->In9 xs->cl.length<=1000->cf "behind_wish" [.d (stV fr cl),.d (.list [.str n,.int a,zA xs])]=.ok (.d (stV fr (zU cl n (zB (qA a xs cs))))) [none,none]
def zfu(cf:CF)(hw:ZY cf)(hh:Zb cf)(hx:Y2 cf):VJ λ_=>runI 5 [false,false] [] Zu cf:=λfr cl n p cs a xs h hc hp ha hx1 hx2 hl=>by
 let e1:=hh fr cl n
 rw[if_pos (by rw[h];rfl)]at e1
 let e2:=hx p cs a xs hp hc (by lia)
 unfold zfv at e2
 let hpb:zbV xs p=true:=by
  unfold zbV
  rw[xh,xG]
  exact⟨by simpa using hx1,λx hm=>by have:=hx2 x hm;simp[in9,this]⟩
 rw[if_pos (by lia),if_pos hpb,show ((a:Int)).toNat=a from by lia]at e2
 let e3:cf "with_cloths" [.d (stV fr cl),.d (.dict ([(n,zB (qA a xs cs))].map dK))]=.ok (.d (stV fr (zU cl n (zB (qA a xs cs))))) [none,none]:=hw fr cl [(n,zB (qA a xs cs))] (by simp;lia)
 let h1:=qj fr cl
 let h2:=zL cl
 let hv:=qU [(n,zB (qA a xs cs))]
 let hb:=Qg (qA a xs cs)
 rwa[stV fr cl=D,stV fr (zU cl n (zB (qA a xs cs)))=D2,PyData.dict ([(n,zB (qA a xs cs))].map dK)=MD,cl.map dK=CD,OV.l ((qA a xs cs).map λc=>.d c.D)=WL,zB (qA a xs cs)=WB,zB cs=BB,zA xs=XX,(a:Int)=AA]
 dsimp! [Zu,e1,e2,e3,h,h1,h2,hv,hb,zE]
def zh6{α:Type}(x:α):atI [x] 0=some x:=rfl
def VB (cf:CF):Prop:=∀ (fr:Aa) (c:Cls) (ns:Ab),ns.Nodup->ns.length<=60->(∀ n∈ns,∃ cs,zI c n=some cs/\cs.length<=1000)->c.length<=1000->cf "behind_boil" [.d (stV fr (clD c)),.d (.list [qc ns])]=.ok (.d (stV fr (clD (zM c (ns.map λn=>(n,(qg c n).map qh)))))) [none,none]
def v5(c:Cls)(f:List Cl->List Cl){ns:Ab}(hn:ns.Nodup):zM [] (ns.map λn=>(n,zB (f (qg c n))))=ns.map λn=>(n,zB (f (qg c n))):=by
 have:=JG (ns.map λn=>(n,zB (f (qg c n)))) [] (by rw[xu];simpa [Function.comp_def] using hn) (by simp)
 simpa using this
def Vo(c:Cls)(f:List Cl->List Cl)(ns:Ab):zM (clD c) (ns.map λn=>(n,zB (f (qg c n))))=clD (zM c (ns.map λn=>(n,f (qg c n)))):=by
 have:=WJ zB (ns.map λn=>(n,f (qg c n))) c
 rw[xu]at this
 erw[this]
def zcK(cf:CF)(hw:ZY cf)(hcn:QV cf)(hx:Jk cf):VB λ_=>runI 3 [false,false] [] Zp cf:=λfr c ns hn hl ha hc=>by
 let e1:=hcn fr (clD c) ns hn hl (λn hm=>by
  let⟨cs,e,_⟩:=ha n hm
  rw[zW,e];rfl)
 let e3:=hw fr (clD c) (ns.map λn=>(n,zB ((qg c n).map qh))) (by simp[clD];lia)
 rw[Vo c (·.map qh)]at e3
 let h1:=qj fr (clD c)
 let h2:=zL (clD c)
 let e2:=zin (k:=1) (t:=.nm 0 3) (ek:=(jbl.ev cf).1) (ev:=(jbm.ev cf).1) PyData.str id (λn=>zB ((qg c n).map qh)) (Γ:= [@&(stV fr (clD c)),@&(.list [qc ns]),@&(qc ns)]) ns [] (by
  intro n hm
  let⟨cs,e,hcl⟩:=ha n hm
  let ev:=hx cs hcl
  let vb:=Qg (cs.map qh)
  let hvn:zI (clD c) n=some (zB cs):=by rw[zW,e];rfl
  rw[qN e]
  refine⟨_,[@&(stV fr (clD c)),@&(.list [qc ns]),@&(qc ns),@&(.str n)],rfl,?_,rfl⟩
  rwa[stV fr (clD c)=D,(clD c).map dK=CD,OV.l ((cs.map qh).map λc=>.d c.D)=WL,zB (cs.map qh)=WB,zB cs=BB]
  dsimp! [itD,jbl,jbm,ev,vb,hvn,h1,h2,zE])
 let ek:=v5 c (·.map qh) hn
 dsimp only [id]at e2
 rw[ek]at e2
 let hv:=qU (ns.map λn=>(n,zB ((qg c n).map qh)))
 let hz:(ns.map PyData.str).length<=1000000:=by simp;lia
 rwa[stV fr (clD c)=D,stV fr (clD (zM c (ns.map λn=>(n,(qg c n).map qh))))=D2,(ns.map λn=>(n,zB ((qg c n).map qh)))=ML]
 unfold Zp
 rwa[jbl=B1,jbm=B2]
 unfold qc at *
 rwa[ns.map PyData.str=NS]
 dsimp! [e1,e2,e3,zh6,hv,hz,zE]
def YO (cf:CF):Prop:=∀ (fr:List Bool) (c:Cls) (ns:Ab) (d:Nat),d<13->fr.length<=12->fr[d]?=some true->ns.Nodup->ns.length<=60->(∀ n∈ns,∃ cs,zI c n=some cs/\Bolt fr.length cs/\cs.any (qf d)=false)->c.length<=1000->cf "behind_dip" [.d (stV (frD fr) (clD c)),.d (.list [qc ns,.int d])]=.ok (.d (stV (frD (fr.set d false)) (clD (zM c (ns.map λn=>(n,(qg c n).map (qp d))))))) [none,none]
def zfW(cf:CF)(hw:ZY cf)(hcn:QV cf)(hdy:Ky cf)(hpo:KD cf)(hx:yJ cf):YO λ_=>runI 5 [false,false] [] ZP cf:=λfr c ns d h0 hf hfd hn hl ha hc=>by
 let hlt:=(xa.mp hfd).1
 let e0:=hdy fr (clD c) d hlt
 let e1:=hcn (frD fr) (clD c) ns hn hl (λn hm=>by
  let⟨cs,e,_⟩:=ha n hm
  rw[zW,e];rfl)
 let e3:=hw (frD fr) (clD c) (ns.map λn=>(n,zB ((qg c n).map (qp d)))) (by simp[clD];lia)
 rw[Vo c (·.map (qp d))]at e3
 let e4:=hpo fr (clD (zM c (ns.map λn=>(n,(qg c n).map (qp d))))) d false hlt
 let h1:=qj (frD fr) (clD c)
 let h2:=zL (clD c)
 let h3:=qM (frD fr) (clD c)
 let h4:=y8 hfd
 let e2:=zin (k:=1) (t:=.nm 0 5) (ek:=(jbn.ev cf).1) (ev:=(jbo.ev cf).1) PyData.str id (λn=>zB ((qg c n).map (qp d))) (Γ:= [@&(stV (frD fr) (clD c)),@&(.list [qc ns,.int d]),@&(qc ns),@&(.int d),none]) ns [] (by
  intro n hm
  let⟨cs,e,hbo,hfu⟩:=ha n hm
  let ev:=hx.1 fr.length cs d (by lia) hbo hlt
  rw[hfu,if_neg (by decide)]at ev
  let vb:=Qg (cs.map (qp d))
  let hvn:zI (clD c) n=some (zB cs):=by rw[zW,e];rfl
  rw[qN e]
  refine⟨_,[@&(stV (frD fr) (clD c)),@&(.list [qc ns,.int d]),@&(qc ns),@&(.int d),none,@&(.str n)],rfl,?_,rfl⟩
  rwa[stV (frD fr) (clD c)=D,(clD c).map dK=CD,OV.l ((cs.map (qp d)).map λc=>.d c.D)=WL,zB (cs.map (qp d))=WB,zB cs=BB]
  dsimp! [itD,jbn,jbo,ev,vb,hvn,h1,h2,zE])
 let ek:=v5 c (·.map (qp d)) hn
 dsimp only [id]at e2
 rw[ek]at e2
 let hv:=qU (ns.map λn=>(n,zB ((qg c n).map (qp d))))
 let hz:(ns.map PyData.str).length<=1000000:=by simp;lia
 rwa[stV (frD fr) (clD c)=D,stV (frD (fr.set d false)) (clD (zM c (ns.map λn=>(n,(qg c n).map (qp d)))))=D3,stV (frD fr) (clD (zM c (ns.map λn=>(n,(qg c n).map (qp d)))))=D2,(ns.map λn=>(n,zB ((qg c n).map (qp d))))=ML,frD fr=F]
 unfold ZP
 rwa[jbn=B1,jbo=B2]
 unfold qc at *
 rwa[ns.map PyData.str=NS,(d:Int)=I]
 dsimp! [e0,e1,e2,e3,e4,h3,h4,hv,hz,zE]
structure Kx(cf:CF):Prop where
 hang:YR cf
 fold:YQ cf
 twin:YY cf
 wish:VJ cf
 wax:YZ cf
 dip:YO cf
 boil:VB cf
 brew:YN cf
def wJ (cf:CF):Prop:=∀ (pool:Ab) (p:Nat) (fr:List Bool) (c:Cls) (d:Deed),pool.length<=60->(∀ n∈pool,Nm n)->StOk pool p fr c->yK pool fr c d->cf "behind" [.d (stA fr c),.d d.D]=.ok (.d (stA (d.fr fr) (d.cl p c))) [none,none]
def zam(cf:CF)(h:Kx cf):wJ λ_=>runI 5 [false,false] [] qm cf:=λpool p fr c d hpl hpn S G=>by
 let hcl:=S.len
 let hdl:(clD c).length<=1000:=by simp[clD];lia
 unfold stA
 cases d with
 |hang n k=>
  let⟨hn,hv,hk0,hk1⟩:=G
  let⟨j,rfl⟩:=xz hk0
  let e1:=h.hang (frD fr) (clD c) n j (hpn n hn) (by rw[zW,hv];rfl) (by simp[frD];have:=S.hl;have:=S.hp;lia) hdl (by lia)
  let hfl:(frD fr).length=p:=by simp[frD];exact S.hl
  rw[hfl,zal,show zM (clD c) [(n,zB (List.replicate j (jb p)))]=zU (clD c) n (zB (List.replicate j (jb p))) from rfl,jy]at e1
  show _=RF.ok (.d (stV (frD fr) (clD (zU c n (List.replicate (j:Int).toNat (jb p)))))) [none,none]
  rw[show (j:Int).toNat=j from by lia]
  show runI 5 [false,false] [] qm cf [.d (stV (frD fr) (clD c)),.d (.tuple [.str "hang",.str n,.int j])]=_
  rwa[stV (frD fr) (clD c)=D,stV (frD fr) (clD (zU c n (List.replicate j (jb p))))=D2]
  dsimp! [qm,e1,zE,Zh,List.lookup]
 |fold n=>
  let⟨cs,hv⟩:=G
  let e1:=h.fold (frD fr) (clD c) n (by rw[zW,hv];rfl) (by simpa [clD,Function.comp_def] using S.nd) hdl (λq hq=>by
   let⟨z,hz,rfl⟩:=xv.mp hq
   exact (hpn _ (S.np z hz)).ok) (hpn _ (S.np _ (j6 hv))).ok
  rw[show qu (clD c) n=clD (qu c n) from Vh zB c n]at e1
  show runI 5 [false,false] [] qm cf [.d (stV (frD fr) (clD c)),.d (.tuple [.str "fold",.str n])]=RF.ok (.d (stV (frD fr) (clD (qu c n)))) [none,none]
  rwa[stV (frD fr) (clD c)=D,stV (frD fr) (clD (qu c n))=D2]
  dsimp! [qm,e1,zE,Zh,List.lookup]
 |twin n m=>
  let⟨⟨cs,hv⟩,hm,hvm⟩:=G
  let e1:=h.twin (frD fr) (clD c) n m (zB cs) (hpn m hm) (by rw[zW,hv];rfl) (by rw[zW,hvm];rfl) hdl
  rw[jy]at e1
  show runI 5 [false,false] [] qm cf [.d (stV (frD fr) (clD c)),.d (.tuple [.str "twin",.str n,.str m])]=RF.ok (.d (stV (frD fr) (clD (zU c m (qg c n))))) [none,none]
  rw[qN hv]
  rwa[stV (frD fr) (clD c)=D,stV (frD fr) (clD (zU c m cs))=D2]
  dsimp! [qm,e1,zE,Zh,List.lookup]
 |wish n k sh=>
  let⟨cs,hv,hk0,hk1,hs1,hs2⟩:=G
  let⟨j,rfl⟩:=xz hk0
  let e1:=h.wish (frD fr) (clD c) n p cs j sh (by rw[zW,hv];rfl) (S.bolt hv) (by have:=S.hp;lia) (by lia) (by rw[hs1,S.hl]) hs2 hdl
  rw[jy]at e1
  show runI 5 [false,false] [] qm cf [.d (stV (frD fr) (clD c)),.d (.tuple [.str "wish",.str n,.int j,zA sh])]=RF.ok (.d (stV (frD fr) (clD (zU c n (qA (j:Int).toNat sh (qg c n)))))) [none,none]
  rw[qN hv,show (j:Int).toNat=j from by lia]
  rwa[stV (frD fr) (clD c)=D,stV (frD fr) (clD (zU c n (qA j sh cs)))=D2,zA sh=SD]
  dsimp! [qm,e1,zE,Zh,List.lookup]
 |wax n xs=>
  let⟨cs,hv,hx1,hx2,hx3⟩:=G
  let e1:=h.wax (frD fr) (clD c) n cs xs (by rw[zW,hv];rfl) (S.bolt hv).1 hx3 hx1 hx2 hdl
  rw[jy]at e1
  show runI 5 [false,false] [] qm cf [.d (stV (frD fr) (clD c)),.d (.tuple [.str "wax",.str n,zA xs])]=RF.ok (.d (stV (frD fr) (clD (zU c n (jd xs (qg c n)))))) [none,none]
  rw[qN hv]
  rwa[stV (frD fr) (clD c)=D,stV (frD fr) (clD (zU c n (jd xs cs)))=D2,zA xs=SD]
  dsimp! [qm,e1,zE,Zh,List.lookup]
 |dip ns k=>
  let⟨hk0,hk1,hfd,hn,hl,ha⟩:=G
  let⟨j,rfl⟩:=xz hk0
  rw[show (j:Int).toNat=j from by lia]at *
  let hlf:=S.hl
  let hlp:=S.hp
  let e1:=h.dip fr c ns j (by lia) (by lia) hfd hn hl (λn hm=>by
   let⟨cs,e,hf⟩:=ha n hm
   exact⟨cs,e,by rw[hlf];exact S.bolt e,hf⟩) (by lia)
  show runI 5 [false,false] [] qm cf [.d (stV (frD fr) (clD c)),.d (.tuple [.str "dip",qc ns,.int j])]=RF.ok (.d (stV (frD (fr.set (j:Int).toNat false)) (clD (zM c (ns.map λn=>(n,(qg c n).map (qp (j:Int).toNat))))))) [none,none]
  rw[show (j:Int).toNat=j from by lia]
  rwa[stV (frD fr) (clD c)=D,stV (frD (fr.set j false)) (clD (zM c (ns.map λn=>(n,(qg c n).map (qp j)))))=D2,qc ns=SD]
  dsimp! [qm,e1,zE,Zh,List.lookup]
 |boil ns=>
  let⟨hn,hl,ha⟩:=G
  let e1:=h.boil (frD fr) c ns hn hl (λn hm=>by
   let⟨cs,e⟩:=ha n hm
   exact⟨cs,e,(S.bolt e).1⟩) (by lia)
  show runI 5 [false,false] [] qm cf [.d (stV (frD fr) (clD c)),.d (.tuple [.str "boil",qc ns])]=RF.ok (.d (stV (frD fr) (clD (zM c (ns.map λn=>(n,(qg c n).map qh)))))) [none,none]
  rwa[stV (frD fr) (clD c)=D,stV (frD fr) (clD (zM c (ns.map λn=>(n,(qg c n).map qh))))=D2,qc ns=SD]
  dsimp! [qm,e1,zE,Zh,List.lookup]
 |brew k=>
  let⟨hk0,hk1,hfd⟩:=G
  let⟨j,rfl⟩:=xz hk0
  rw[show (j:Int).toNat=j from by lia]at *
  let e1:=h.brew fr (clD c) j hfd
  show runI 5 [false,false] [] qm cf [.d (stV (frD fr) (clD c)),.d (.tuple [.str "brew",.int j])]=RF.ok (.d (stV (frD (fr.set (j:Int).toNat true)) (clD c))) [none,none]
  rw[show (j:Int).toNat=j from by lia]
  rwa[stV (frD fr) (clD c)=D,stV (frD (fr.set j true)) (clD c)=D2]
  dsimp! [qm,e1,zE,Zh,List.lookup]
def zK(p:Nat)(fr:List Bool)(c:Cls):Aa:= [.int p,.list (frD fr),.dict ((clD c).map dK)]
noncomputable abbrev zN(p:Nat)(fr:List Bool)(c:Cls):PyData:=.list (zK p fr c)
def kL2(p:Nat)(fr:List Bool)(c:Cls):atI (zK p fr c) 2=some (.dict ((clD c).map dK)):=rfl
def wQ (cf:CF):Prop:=∀ cs:List Cl,cs.length<=1000->cf "_law_boil" [.d (zB cs)]=.ok (.l ((cs.map qh).map λc=>.d c.D)) [none]
def zbG(cf:CF):wQ λ_=>runI 1 [false] [] QA cf:=λcs hl=>by
 let⟨ys,Γ',e,hy,rfl⟩:=qH (k:=1) (t:=.nm 0 1) (cond:=fYes) (elt:=(jbr.ev cf).1) (ds:=zZ cs.length) (Γ:= [@&(zB cs)])
  (λpre ys Γ=>ys=((cs.take pre.length).map qh).map Cl.D/\Γ= [@&(zB cs)]) ⟨rfl,rfl⟩ (by
   rintro pre x post e ys Γ ⟨rfl,rfl⟩
   let h1:(zZ cs.length)[pre.length]?=some x:=by rw[e];simp
   let⟨hlt,rfl⟩:=ju h1
   let hc:=xb hlt
   let a1:atI (cs.map Cl.D) (pre.length:Int)=some (cs[pre.length]).D:=qW (by rw[xf,hc];rfl)
   let hnx:(cs.take (pre.length+1)).map qh=(cs.take pre.length).map qh++ [qh cs[pre.length]]:=by
    rw[xY,hc,xC];rfl
   rwa[cs[pre.length]=c]
   refine⟨[@&(zB cs),@&(.int (pre.length:Nat))],true,_,rfl,rfl,λ_=>⟨.dat (qh c).D,[@&(zB cs),@&(.int (pre.length:Nat))],(qh c).D,?_,rfl,?_,rfl⟩,λh=>nomatch h⟩
   ·unfold qh
    let hbd:zB cs=.list (cs.map Cl.D):=rfl
    rw[hbd]
    unfold Cl.D Zc at *
    rwa[zA c.st=A,zA c.wi=B,(cs.map λc=>PyData.tuple [zA c.st,PyData.bool c.w,zA c.wi])=Y]
    push_cast [jbr,a1,jz,jJ,cs1]
   ·simp only[xy,xq,uj,uK]
    rw[hnx,xC];rfl)
 rw[zF,xW]at hy
 subst hy
 let hz: -1000000<=(cs.length:Int)/\(cs.length:Int)<=1000000:=by lia
 let hz2:cs.length<=1000000:=by lia
 let hml:(cs.map Cl.D).length=cs.length:=by simp
 let hvv:((cs.map qh).map Cl.D).map OV.d=(cs.map qh).map λc=>OV.d c.D:=by rw[xu];rfl
 rw[<- hvv]
 unfold zB at *
 rwa[(cs.map qh).map Cl.D=WW,cs.map Cl.D=Y]
 simp![QA,hml,hz,hz2,zF,e]
def w6(n:Nat)(h:∀ i:Nat,∃ Γ2 u Γ4,tgF t (.int i) (Γ++List.replicate k none)=some Γ2/\B Γ2=.ok (u,Γ4)/\derS Γ4 u=some y/\Γ4.take Γ.length=Γ):qD k t fYes B (zZ n) [] Γ=.ok (List.replicate n y,Γ):=by
 let e:=yQ (λi:Nat=>.int i) (λ_=>y) (xs:=List.range n) (Γ:=Γ) (λi _=>h i)
 have:(List.range n).map (λi:Nat=>PyData.int i)=zZ n:=rfl
 rw[this]at e
 rw[e,List.map_const',uL]
def YS (cf:CF):Prop:=∀ p:Nat,p<=12->cf "_law_kept" [.d (.int p)]=.ok (.l ((zK p (List.replicate p true) []).map .d)) [none]
def zgf(cf:CF):YS λ_=>runI 1 [false] [] QC cf:=λp hp=>by
 let e:=w6 (k:=1) (t:=.nm 0 1) (B:=(ja7.ev cf).1) (Γ:= [@&(.int p)]) (y:=.bool true) p (λi=>⟨[@&(.int p),@&(.int i)],.dat (.bool true),[@&(.int p),@&(.int i)],rfl,by push_cast [ja7,cs1],rfl,rfl⟩)
 let hz: -1000000<=(p:Int)/\(p:Int)<=1000000:=by lia
 let hz2:p<=1000000:=by lia
 let hn2:(p:Int).toNat=p:=by lia
 let v1:=qv (List.replicate p (.bool true))
 let v2:(OV.m []).view=.dict []:=rfl
 let hk:zK p (List.replicate p true) []= [.int p,.list (List.replicate p (.bool true)),.dict []]:=by
  unfold zK frD clD
  rw[ur];rfl
 rw[hk]
 unfold QC
 rwa[ja7=B1,List.replicate p (PyData.bool true)=RP]
 generalize hI:(p:Int)=I at *
 dsimp! [e,hz,hz2,hn2,v1,v2,zF,zE]
def VA (cf:CF):Prop:=∀ p s:Nat,p<=12->s<=40->cf "_law_blank" [.d (.int p),.d (.int s)]=.ok (.l ((List.replicate s (jb p)).map λc=>.d c.D)) [none,none]
def zcJ(cf:CF):VA λ_=>runI 3 [false,false] [] ZZ cf:=λp s hp hs=>by
 let e1:=w6 (k:=1) (t:=.nm 0 3) (B:=(ja3.ev cf).1) (Γ:= [@&(.int p),@&(.int s),none]) (y:=.int 0) p (λi=>⟨[@&(.int p),@&(.int s),none,@&(.int i)],.dat (.int 0),[@&(.int p),@&(.int s),none,@&(.int i)],rfl,by push_cast [ja3,cs1],rfl,rfl⟩)
 let e2:=w6 (k:=1) (t:=.nm 0 3) (B:=(ja4.ev cf).1) (Γ:= [@&(.int p),@&(.int s),@&(zs p)]) (y:=jj p) s (λi=>⟨[@&(.int p),@&(.int s),@&(zs p),@&(.int i)],.dat (jj p),[@&(.int p),@&(.int s),@&(zs p),@&(.int i)],rfl,by unfold jj;generalize zs p=Z;push_cast [ja4,cs1],rfl,rfl⟩)
 let hz: -1000000<=(p:Int)/\(p:Int)<=1000000:=by lia
 let hz2:p<=1000000:=by lia
 let hn2:(p:Int).toNat=p:=by lia
 let gz: -1000000<=(s:Int)/\(s:Int)<=1000000:=by lia
 let gz2:s<=1000000:=by lia
 let gn2:(s:Int).toNat=s:=by lia
 let hzz:zs p=.tuple (List.replicate p (.int 0)):=rfl
 let hvv:(List.replicate s (jb p)).map (λc=>OV.d c.D)=(List.replicate s (jj p)).map OV.d:=by
  rw[ur,ur,KE]
 let hl0:(List.replicate p (PyData.int 0)).length<=1000000:=by simp;lia
 rw[hvv]
 rw[hzz]at e2
 unfold ZZ
 rwa[ja3=B1,ja4=B2,List.replicate p (PyData.int 0)=Z0,List.replicate s (jj p)=Z1]
 generalize hI:(p:Int)=I at *
 generalize hJ:(s:Int)=J at *
 simp![e1,e2,hz,hz2,hn2,gz,gz2,gn2,hl0,zF,zE]
def zcE{α:Type}(a b:α):atI [a,b] 0=some a:=rfl
def zcF{α:Type}(a b:α):atI [a,b] 1=some b:=rfl
def zj5{α:Type}(a b c d:α):atI [a,b,c,d] 0=some a:=rfl
def zj6{α:Type}(a b c d:α):atI [a,b,c,d] 1=some b:=rfl
def zj7{α:Type}(a b c d:α):atI [a,b,c,d] 2=some c:=rfl
def zj8{α:Type}(a b c d:α):atI [a,b,c,d] 3=some d:=rfl
def zcm(sh:List Int)(h:cs[a]?=some c):qA a sh cs=cs.set a ⟨c.st,c.w,sh⟩:=by
 unfold qA
 rw[h]
 let hlt:=(xa.mp h).1
 rw[List.set_eq_take_append_cons_drop,if_pos hlt]
def yI (cf:CF):Prop:=∀ (pool:Ab) (p:Nat) (fr:List Bool) (c:Cls) (d:Deed),pool.length<=60->StOk pool p fr c->yK pool fr c d->cf "_law_did" [.d (zN p fr c),.d d.D]=.ok (.l ((zK p (d.fr fr) (d.cl p c)).map .d)) [none,none]
structure zh0(cf:CF):Prop where
 blank:VA cf
 wax:YU cf
 dip:zcx cf
 boil:wQ cf
def zbv{f:List Cl->List Cl}(hn:n∉pre):zM c ((pre++ [n]).map λm=>(m,f (qg c m)))=zU (zM c (pre.map λm=>(m,f (qg c m)))) n (f (qg c n))/\zI (zM c (pre.map λm=>(m,f (qg c m)))) n=zI c n:=by
 constructor
 ·rw[xC]
  erw[k9 c _ n _]
 ·refine Qw _ _ ?_
  rw[xu]
  simpa [Function.comp_def] using hn
def Vp{β:Type}:∀(L c:List (Str×β)),(zM c L).length<=c.length+L.length
 |[],c=>by simp[zM]
 |p::L,c=>by
  let h1:=Vp L (zU c p.1 p.2)
  let h2:=JW c p.1 p.2
  show (zM (zU c p.1 p.2) L).length<=_
  simp only[xq];lia
def zcW(cf:CF)(body:IB){F:List Cl->List Cl}{c:Cls}{K D S:OV}{o4:Option OV}(hc:c.length<=1000) :
  ∀(ns:Ab),ns.Nodup->ns.length<=60 ->
  (∀ n∈ns,∀(c1:Cls)(o5:Option OV),c1.length<=2000->zI c1 n=zI c n->body.ex cf [] [some K,some D,some S,some (.m (clD c1)),o4,@&(.str n)]=.ok (.next,[some K,some D,some S,some (.m (clD (zU c1 n (F (qg c n))))),o4,@&(.str n)])) ->
  ∃ o5,jk (.nm 5 5) (body.ex cf []) (ns.map .str) [some K,some D,some S,some (.m (clD c)),o4,none]=.ok (.next,[some K,some D,some S,some (.m (clD (zM c (ns.map λn=>(n,F (qg c n)))))),o4,o5]):=by
 intro ns hn hl hb
 let⟨Γ',e,⟨o5,rfl⟩⟩:=jf (t:=.nm 5 5) (ds:=ns.map .str) (Γ:= [some K,some D,some S,some (.m (clD c)),o4,none])
  (λpre Γ=>∃ o5:Option OV,Γ= [some K,some D,some S,some (.m (clD (zM c ((ns.take pre.length).map λn=>(n,F (qg c n)))))),o4,o5]) ⟨none,rfl⟩ (by
   rintro pre x post e Γ ⟨o5,rfl⟩
   let hlt:pre.length<ns.length:=by have:=congrArg List.length e;simp at this;lia
   let hx:x=.str ns[pre.length]:=by
    have:(ns.map PyData.str)[pre.length]?=some x:=by rw[e];simp
    rw[xf,xb hlt]at this
    simpa using this.symm
   subst hx
   let hnx:ns.take (pre.length+1)=ns.take pre.length++ [ns[pre.length]]:=by rw[xY,xb hlt];rfl
   let hni:ns[pre.length]∉ns.take pre.length:=λz=>by
    let h2:(ns.take pre.length++ [ns[pre.length]]).Nodup:=by rw[<- hnx];exact hn.sublist (List.take_sublist _ _)
    rw[xJ]at h2
    exact h2.2.2 _ z _ (by simp) rfl
   let⟨f1',f2'⟩:=zbv (c:=c) hni
   let hlc:=Vp ((ns.take pre.length).map λn=>(n,F (qg c n))) c
   let hb1:=hb ns[pre.length] (xO hlt) (zM c ((ns.take pre.length).map λn=>(n,F (qg c n)))) o5 (by
    rw[xo,xI]at hlc;lia) f2'
   refine⟨[some K,some D,some S,some (.m (clD (zM c ((ns.take pre.length).map λn=>(n,F (qg c n)))))),o4,@&(.str ns[pre.length])],_,rfl,hb1,@&(.str ns[pre.length]),?_⟩
   rw[xy,uc,hnx,f1'])
 refine⟨o5,?_⟩
 rw[e,xo,xW]
def zil(cf:CF)(h:zh0 cf):yI λ_=>runI 6 [false,false] [] qI cf:=λpool p fr c d hpl S G=>by
 let hcl:=S.len
 let hlf:=S.hl
 let hlp:=S.hp
 let hz:(clD c).length<1000000:=by simp[clD];lia
 let k0:atI (zK p fr c) 0=some (.int p):=rfl
 let k1:atI (zK p fr c) 1=some (.list (frD fr)):=rfl
 let k2:atI (zK p fr c) 2=some (.dict ((clD c).map dK)):=rfl
 let hu:=zL (clD c)
 let hK:zN p fr c=.list (zK p fr c):=rfl
 rw[hK]
 cases d with
 |hang n k=>
  let⟨hn,hv,hk0,hk1⟩:=G
  let⟨j,rfl⟩:=xz hk0
  let e1:=h.blank p j hlp (by lia)
  let vb:=Qg (List.replicate j (jb p))
  let ep:=jy c n (List.replicate j (jb p))
  let v1:=qv (frD fr)
  let v2:=qU (clD (zU c n (List.replicate j (jb p))))
  let hf:zK p ((Deed.hang n j).fr fr) ((Deed.hang n j).cl p c)= [.int p,.list (frD fr),.dict ((clD (zU c n (List.replicate j (jb p)))).map dK)]:=rfl
  let hD:(Deed.hang n j).D=.tuple [.str "hang",.str n,.int j]:=rfl
  rw[hf,hD]
  rwa[zK p fr c=KL,OV.l ((List.replicate j (jb p)).map λc=>.d c.D)=WL,zB (List.replicate j (jb p))=WB,clD (zU c n (List.replicate j (jb p)))=C2,(clD c).map dK=CD,clD c=C1,frD fr=F,(j:Int)=J]
  unfold qI
  rwa[qq=B1,qr=B2]
  dsimp! [k0,k1,k2,hu,e1,vb,ep,v1,v2,hz,jz,jT,jJ,ZR,wq,zY,Jf,zE]
 |fold n=>
  let⟨cs,hv⟩:=G
  let hvn:zI (clD c) n=some (zB cs):=by rw[zW,hv];rfl
  let ep:qu (clD c) n=clD (qu c n):=Vh zB c n
  let v1:=qv (frD fr)
  let v2:=qU (clD (qu c n))
  let hf:zK p ((Deed.fold n).fr fr) ((Deed.fold n).cl p c)= [.int p,.list (frD fr),.dict ((clD (qu c n)).map dK)]:=rfl
  let hD:(Deed.fold n).D=.tuple [.str "fold",.str n]:=rfl
  rw[hf,hD]
  rwa[zK p fr c=KL,clD (qu c n)=C2,(clD c).map dK=CD,clD c=C1,frD fr=F]
  unfold qI
  rwa[qq=B1,qr=B2]
  dsimp! [k0,k1,k2,hu,hvn,ep,v1,v2,hz,zcE,zcF,ZR,wq,zY,Yx,zE]
 |twin n m=>
  let⟨⟨cs,hv⟩,hm,hvm⟩:=G
  let hvn:zI (clD c) n=some (zB cs):=by rw[zW,hv];rfl
  let ep:=jy c m cs
  let v1:=qv (frD fr)
  let v2:=qU (clD (zU c m cs))
  let hf:zK p ((Deed.twin n m).fr fr) ((Deed.twin n m).cl p c)= [.int p,.list (frD fr),.dict ((clD (zU c m cs)).map dK)]:=by
   show zK p fr (zU c m (qg c n))=_
   rw[qN hv];rfl
  let hD:(Deed.twin n m).D=.tuple [.str "twin",.str n,.str m]:=rfl
  rw[hf,hD]
  rwa[zK p fr c=KL,clD (zU c m cs)=C2,(clD c).map dK=CD,clD c=C1,frD fr=F]
  unfold qI
  rwa[qq=B1,qr=B2]
  dsimp! [k0,k1,k2,hu,hvn,ep,v1,v2,hz,jz,jT,jJ,ZR,wq,zY,Jf,zE]
 |wax n xs=>
  let⟨cs,hv,hx1,hx2,hx3⟩:=G
  let hvn:zI (clD c) n=some (zB cs):=by rw[zW,hv];rfl
  let e1:=h.wax cs xs (S.bolt hv).1
  let vb:=Qg (jd xs cs)
  let ep:=jy c n (jd xs cs)
  let v1:=qv (frD fr)
  let v2:=qU (clD (zU c n (jd xs cs)))
  let hf:zK p ((Deed.wax n xs).fr fr) ((Deed.wax n xs).cl p c)= [.int p,.list (frD fr),.dict ((clD (zU c n (jd xs cs))).map dK)]:=by
   show zK p fr (zU c n (jd xs (qg c n)))=_
   rw[qN hv];rfl
  let hD:(Deed.wax n xs).D=.tuple [.str "wax",.str n,zA xs]:=rfl
  rw[hf,hD]
  rwa[zK p fr c=KL,OV.l ((jd xs cs).map λc=>.d c.D)=WL,zB (jd xs cs)=WB,clD (zU c n (jd xs cs))=C2,(clD c).map dK=CD,clD c=C1,frD fr=F,zA xs=XX,zB cs=BB]
  unfold qI
  rwa[qq=B1,qr=B2]
  dsimp! [k0,k1,k2,hu,hvn,e1,vb,ep,v1,v2,hz,jz,jT,jJ,ZR,wq,zY,Jf,zE]
 |wish n k sh=>
  let⟨cs,hv,hk0,hk1,hs1,hs2⟩:=G
  let⟨j,rfl⟩:=xz hk0
  let hj:j<cs.length:=by lia
  let hvn:zI (clD c) n=some (zB cs):=by rw[zW,hv];rfl
  let hcj:cs[j]?=some cs[j]:=xb hj
  let hws:=zcm sh hcj
  let ep:=jy c n (qA j sh cs)
  let v1:=qv (frD fr)
  let v2:=qU (clD (zU c n (qA j sh cs)))
  let v3:=qv (cs.map Cl.D)
  let a1:atI (cs.map Cl.D) (j:Int)=some (cs[j]).D:=qW (by rw[xf,hcj];rfl)
  let hcd:(cs[j]).D=.tuple [zA (cs[j]).st,.bool (cs[j]).w,zA (cs[j]).wi]:=rfl
  let gj:((cs.map Cl.D).map OV.d)[j]?=some (.d (cs[j]).D):=by rw[xf,xf,hcj];rfl
  let hset:((cs.map Cl.D).map OV.d).set j (.d (.tuple [zA (cs[j]).st,.bool (cs[j]).w,zA sh]))=((qA j sh cs).map Cl.D).map OV.d:=by
   rw[hws,xZ,xZ];rfl
  let v4:=qv ((qA j sh cs).map Cl.D)
  let hi:ixN ((cs.map Cl.D).map OV.d).length (j:Int)=some j:=by
   unfold ixN
   rw[if_pos (by lia),if_pos (by simp;lia)];simp
  let hf:zK p ((Deed.wish n j sh).fr fr) ((Deed.wish n j sh).cl p c)= [.int p,.list (frD fr),.dict ((clD (zU c n (qA j sh cs))).map dK)]:=by
   show zK p fr (zU c n (qA (j:Int).toNat sh (qg c n)))=_
   rw[qN hv,show (j:Int).toNat=j from by lia];rfl
  let hD:(Deed.wish n j sh).D=.tuple [.str "wish",.str n,.int j,zA sh]:=rfl
  let hbd:zB cs=.list (cs.map Cl.D):=rfl
  let hbd2:zB (qA j sh cs)=.list ((qA j sh cs).map Cl.D):=rfl
  rw[hf,hD]
  rw[hbd]at hvn
  rw[hbd2]at ep
  let a2:atI ((cs.map Cl.D).map OV.d) (j:Int)=some (.d (cs[j]).D):=qW gj
  rw[hcd]at a1 a2 gj
  rwa[zK p fr c=KL,clD (zU c n (qA j sh cs))=C2,(qA j sh cs).map Cl.D=W2,(clD c).map dK=CD,clD c=C1,frD fr=F,zA sh=XX,zA (cs[j]).st=A1,zA (cs[j]).wi=A2,(cs[j]).w=A3]
  generalize hY:(cs.map Cl.D).map OV.d=Y at *
  rwa[cs.map Cl.D=Y1,(j:Int)=J]
  unfold qI
  rwa[qq=B1,qr=B2]
  dsimp! [k0,k1,k2,hu,hvn,a1,a2,gj,hY,hset,hi,ep,v1,v2,v3,v4,hz,zj5,zj6,zj7,zj8,jz,jT,jJ,ZR,wq,zY,Jf,zE]
 |dip ns k=>
  let⟨hk0,hk1,hfd,hn,hl,ha⟩:=G
  let⟨j,rfl⟩:=xz hk0
  rw[show (j:Int).toNat=j from by lia]at *
  let hj:j<fr.length:=by lia
  let hst:((frD fr).map OV.d).set j (.d (.bool false))=(frD (fr.set j false)).map OV.d:=by
   unfold frD
   rw[xZ,xZ]
  let hg:((frD fr).map OV.d)[j]?=some (.d (.bool fr[j])):=by unfold frD;rw[xf,xf,xb hj];rfl
  let hi:ixN ((frD fr).map OV.d).length (j:Int)=some j:=by
   unfold ixN
   rw[if_pos (by lia),if_pos (by simp[frD];lia)];simp
  let⟨o5,e1⟩:=zcW cf qq (F:=λl=>l.map (qp j)) (c:=c) (K:=.d (.list (zK p fr c))) (D:=.d (.tuple [.str "dip",qc ns,.int j])) (S:=.l ((frD (fr.set j false)).map OV.d)) (o4:=none) (by lia) ns hn hl (by
   intro n hm c1 o5 hc1 hv1
   let⟨cs,e,hf⟩:=ha n hm
   let q1:=h.dip.1 p cs j (by lia) (S.bolt e)
   let vb:=Qg (cs.map (qp j))
   let ep:=jy c1 n (cs.map (qp j))
   let hvn:zI (clD c1) n=some (zB cs):=by rw[zW,hv1,e];rfl
   let hz1:(clD c1).length<1000000:=by simp[clD];lia
   rw[qN e]
   rwa[clD (zU c1 n (cs.map (qp j)))=C2,clD c1=C1,OV.l ((cs.map (qp j)).map λc=>.d c.D)=WL,zB (cs.map (qp j))=WB,zB cs=BB,qc ns=NS,(j:Int)=J,PyData.list (zK p fr c)=KP,OV.l ((frD (fr.set j false)).map OV.d)=SS]
   dsimp! [qq,q1,vb,ep,hvn,hz1,jJ,Jf,zE])
  let v1:=qv (frD (fr.set j false))
  let v2:=qU (clD (zM c (ns.map λn=>(n,(qg c n).map (qp j)))))
  let hf:zK p ((Deed.dip ns j).fr fr) ((Deed.dip ns j).cl p c)= [.int p,.list (frD (fr.set j false)),.dict ((clD (zM c (ns.map λn=>(n,(qg c n).map (qp j))))).map dK)]:=by
   show zK p (fr.set (j:Int).toNat false) (zM c (ns.map λn=>(n,(qg c n).map (qp (j:Int).toNat))))=_
   rw[show (j:Int).toNat=j from by lia];rfl
  let hD:(Deed.dip ns j).D=.tuple [.str "dip",qc ns,.int j]:=rfl
  let hzn:(ns.map PyData.str).length<=1000000:=by simp;lia
  rw[hf,hD]
  rwa[zK p fr c=KL,clD (zM c (ns.map λn=>(n,(qg c n).map (qp j))))=C2,(clD c).map dK=CD,clD c=C1,frD (fr.set j false)=F2]
  generalize hFO:(frD fr).map OV.d=FO at *
  rwa[frD fr=F,fr[j]=g]
  unfold qI
  rwa[qq=B1,qr=B2]
  unfold qc at *
  rwa[ns.map PyData.str=NS,(j:Int)=J]
  dsimp! [k0,k1,k2,hu,e1,hst,hg,hi,hFO,v1,v2,hz,hzn,jz,jT,jJ,ZR,wq,zY,zE]
 |boil ns=>
  let⟨hn,hl,ha⟩:=G
  let⟨o5,e1⟩:=zcW cf qr (F:=λl=>l.map qh) (c:=c) (K:=.d (.list (zK p fr c))) (D:=.d (.tuple [.str "boil",qc ns])) (S:=.l ((frD fr).map OV.d)) (o4:=none) (by lia) ns hn hl (by
   intro n hm c1 o5 hc1 hv1
   let⟨cs,e⟩:=ha n hm
   let q1:=h.boil cs (S.bolt e).1
   let vb:=Qg (cs.map qh)
   let ep:=jy c1 n (cs.map qh)
   let hvn:zI (clD c1) n=some (zB cs):=by rw[zW,hv1,e];rfl
   let hz1:(clD c1).length<1000000:=by simp[clD];lia
   rw[qN e]
   rwa[clD (zU c1 n (cs.map qh))=C2,clD c1=C1,OV.l ((cs.map qh).map λc=>.d c.D)=WL,zB (cs.map qh)=WB,zB cs=BB,qc ns=NS,PyData.list (zK p fr c)=KP,OV.l ((frD fr).map OV.d)=SS]
   dsimp! [qr,q1,vb,ep,hvn,hz1,Jf,zE])
  let v1:=qv (frD fr)
  let v2:=qU (clD (zM c (ns.map λn=>(n,(qg c n).map qh))))
  let hf:zK p ((Deed.boil ns).fr fr) ((Deed.boil ns).cl p c)= [.int p,.list (frD fr),.dict ((clD (zM c (ns.map λn=>(n,(qg c n).map qh)))).map dK)]:=rfl
  let hD:(Deed.boil ns).D=.tuple [.str "boil",qc ns]:=rfl
  let hzn:(ns.map PyData.str).length<=1000000:=by simp;lia
  rw[hf,hD]
  rwa[zK p fr c=KL,clD (zM c (ns.map λn=>(n,(qg c n).map qh)))=C2,(clD c).map dK=CD,clD c=C1,frD fr=F]
  unfold qI
  rwa[qq=B1,qr=B2]
  unfold qc at *
  rwa[ns.map PyData.str=NS]
  dsimp! [k0,k1,k2,hu,e1,v1,v2,hz,hzn,zcE,zcF,ZR,wq,zY,zE]
 |brew k=>
  let⟨hk0,hk1,hfd⟩:=G
  let⟨j,rfl⟩:=xz hk0
  rw[show (j:Int).toNat=j from by lia]at *
  let hj:j<fr.length:=by lia
  let hst:((frD fr).map OV.d).set j (.d (.bool true))=(frD (fr.set j true)).map OV.d:=by
   unfold frD
   rw[xZ,xZ]
  let hg:((frD fr).map OV.d)[j]?=some (.d (.bool fr[j])):=by unfold frD;rw[xf,xf,xb hj];rfl
  let hi:ixN ((frD fr).map OV.d).length (j:Int)=some j:=by
   unfold ixN
   rw[if_pos (by lia),if_pos (by simp[frD];lia)];simp
  let v1:=qv (frD (fr.set j true))
  let v2:=qU (clD c)
  let hf:zK p ((Deed.brew j).fr fr) ((Deed.brew j).cl p c)= [.int p,.list (frD (fr.set j true)),.dict ((clD c).map dK)]:=by
   show zK p (fr.set (j:Int).toNat true) c=_
   rw[show (j:Int).toNat=j from by lia];rfl
  let hD:(Deed.brew j).D=.tuple [.str "brew",.int j]:=rfl
  rw[hf,hD]
  rwa[zK p fr c=KL]
  generalize hCD:(clD c).map dK=CD at *
  rwa[clD c=C1,frD (fr.set j true)=F2]
  generalize hFO:(frD fr).map OV.d=FO at *
  rwa[frD fr=F,fr[j]=g]
  unfold qI
  rwa[qq=B1,qr=B2,(j:Int)=J]
  dsimp! [k0,k1,k2,hu,hst,hg,hi,hFO,v1,v2,hz,zcE,zcF,ZR,wq,zY,zE]
def zfR{k:Nat}{t:IT}{cond:EM Bool}{elt:EM FV}(P:Nat->Bool){ds:Aa}{Γ:Gv}
  (h:∀(i:Nat)(d:PyData),ds[i]?=some d->∃ Γ2 Γ3,tgF t d (Γ++List.replicate k none)=some Γ2/\cond Γ2=.ok (P i,Γ3)/\Γ3.take Γ.length=Γ/\(P i=true->∃ u Γ4,elt Γ3=.ok (u,Γ4)/\derS Γ4 u=some (.int (i:Nat))/\Γ4.take Γ.length=Γ)) :
  qD k t cond elt ds [] Γ=.ok (ql ((List.range ds.length).filter P),Γ):=by
 let⟨ys,Γ',e,hy,rfl⟩:=qH (k:=k) (λpre ys Γ'=>ys=ql ((List.range pre.length).filter P)/\Γ'=Γ) (ds:=ds) (Γ:=Γ) ⟨rfl,rfl⟩ (by
  rintro pre d post e ys Γ' ⟨rfl,rfl⟩
  let hd:ds[pre.length]?=some d:=by rw[e];simp
  let⟨Γ2,Γ3,e1,e2,e3,h4⟩:=h pre.length d hd
  refine⟨Γ2,P pre.length,Γ3,e1,e2,λhp=>?_,λhp=>⟨?_,e3⟩⟩
  ·let⟨u,Γ4,f1',f2',f3'⟩:=h4 hp
   refine⟨u,Γ4,.int (pre.length:Nat),f1',f2',?_,f3'⟩
   rw[xy,uc,List.range_succ,uD]
   unfold ql
   rw[xC]
   simp[hp]
  ·rw[xy,uc,List.range_succ,uD]
   simp[hp])
 rw[e,hy]
def rdP(fr:List Bool)(i:Nat):Bool:=fr.getD i false
def qT(fr:List Bool):Ac:=(List.range fr.length).filter (rdP fr)
def zbA(cf:CF)(fr:List Bool){o0:Option OV}:qD 2 (.tp (.cons (.nm 0 1) (.cons (.nm 1 2) .nil))) (jaw.ev cf) (jax.ev cf).1 (qR (frD fr)) [] [o0]=.ok (ql (qT fr),[o0]):=by
 let e:=zfR (k:=2) (t:=.tp (.cons (.nm 0 1) (.cons (.nm 1 2) .nil))) (cond:=jaw.ev cf) (elt:=(jax.ev cf).1) (rdP fr) (ds:=qR (frD fr)) (Γ:= [o0]) (by
  intro i d hd
  let⟨x,hx,rfl⟩:=Qo hd
  unfold frD at hx
  rw[xf]at hx
  cases hb:fr[i]? with
  |none=>rw[hb]at hx;cases hx
  |some b=>
   rw[hb]at hx
   cases hx
   let hr:rdP fr i=b:=by unfold rdP;rw[xE,hb];rfl
   rw[hr]
   refine⟨[o0,@&(.int i),@&(.bool b)],[o0,@&(.int i),@&(.bool b)],rfl,?_,rfl,λ_=>⟨.dat (.int i),[o0,@&(.int i),@&(.bool b)],?_,rfl,rfl⟩⟩
   ·generalize (i:Int)=I
    push_cast [jaw,cs1]
   ·generalize (i:Int)=I
    push_cast [jax,cs1])
 rw[e]
 have:(qR (frD fr)).length=fr.length:=by simp[qR,frD]
 rw[this];rfl
def Jn (cf:CF):Prop:=∀ (p:Int) (f:PyData) (dn un:Ao) (pl:Ad) (fr:List Bool) (cl:Ad),fr.length<=12->j8 f dn=stV (frD fr) cl->cf "House.ready" [hV p f dn un pl]=.ok (.l ((ql (qT fr)).map .d)) [some (hV p f dn un pl)]
def kT(cf:CF)(hn:wR cf):Jn λ_=>runI 1 [true] [0] Zn cf:=λp f dn un pl fr cl hq hs=>by
 let e1:=hn p f dn un pl
 rw[hs]at e1
 let h1:=qM (frD fr) cl
 let e2:=zbA cf fr (o0:=some (hV p f dn un pl))
 let hl:(qR (frD fr)).length<=1000000:=by simp[qR,frD];lia
 let hl2:(frD fr).length<=1000000:=by simp[frD];lia
 let hns:hV p f dn un pl=.o "House" ["pots","first","done","undone","places"] [.d (.int p),.d f,.l (prs dn),.l (prs un),.m pl]:=rfl
 rwa[stV (frD fr) cl=D,[OV.d (.int p),.d f,.l (prs dn),.l (prs un),.m pl]=XS,hV p f dn un pl=HH]
 subst hns
 unfold Zn
 rwa[jaw=B1,jax=B2,frD fr=F,ql (qT fr)=NR]
 dsimp! [e1,h1,e2,hl,hl2,zE,jq]
def Z7(cl:Ad):Ab:=j5 (cl.map (·.1))
def wM (cf:CF):Prop:=∀ (p:Int) (f:PyData) (dn un:Ao) (pl:Ad) (fr:Aa) (cl:Ad),cl.length<64->j8 f dn=stV fr cl->cf "House.names" [hV p f dn un pl]=.ok (.l (((Z7 cl).map .str).map .d)) [some (hV p f dn un pl)]
def zbz(cf:CF)(hn:wR cf):wM λ_=>runI 1 [true] [0] Zm cf:=λp f dn un pl fr cl hl hs=>by
 let e1:=hn p f dn un pl
 rw[hs]at e1
 let h1:=qj fr cl
 let h2:=zL cl
 let hns:hV p f dn un pl=.o "House" ["pots","first","done","undone","places"] [.d (.int p),.d f,.l (prs dn),.l (prs un),.m pl]:=rfl
 let hk:Z7 cl=j5 (cl.map (·.1)):=rfl
 rw[hk]
 rwa[stV fr cl=D,[OV.d (.int p),.d f,.l (prs dn),.l (prs un),.m pl]=XS,hV p f dn un pl=HH]
 subst hns
 dsimp! [Zm,e1,h1,h2,hl,zE,jq]
def ja(g:Cl->List Int)(cs:List Cl):Aa:=cs.map λc=>zA (g c)
def wN(nm:Str)(g:Cl->List Int)(cf:CF):Prop:=∀(p:Int)(f:PyData)(dn un:Ao)(pl:Ad)(fr:Aa)(cl:Ad)(n:Str)(cs:List Cl),cs.length<=1000->j8 f dn=stV fr cl->zI cl n=some (zB cs)->cf nm [hV p f dn un pl,.d (.str n)]=.ok (.l ((ja g cs).map .d)) [some (hV p f dn un pl),none]
def kU(cf:CF)(hc:QW cf)(p:Int)(f:PyData)(dn un:Ao)(pl:Ad)(fr:Aa)(cl:Ad)(n:Str)(cs:List Cl)(hl:cs.length<=1000)(hq:j8 f dn=stV fr cl)(hv:zI cl n=some (zB cs)):runI 2 [true,false] [0] j0 cf [hV p f dn un pl,.d (.str n)]=.ok (.l ((ja Cl.st cs).map .d)) [some (hV p f dn un pl),none]:=by
 let e1:=hc p f dn un pl fr cl n hq
 rw[hv]at e1
 let e2:=yQ (k:=3) (t:=.tp (.cons (.nm 0 2) (.cons (.nm 1 3) (.cons (.nm 2 4) .nil)))) (elt:=(jbg.ev cf).1) Cl.D (λc=>zA c.st) (xs:=cs) (Γ:= [some (hV p f dn un pl),@&(.str n)]) (by
  intro c hc
  refine⟨[some (hV p f dn un pl),@&(.str n),@&(zA c.st),@&(.bool c.w),@&(zA c.wi)],.dat (zA c.st),[some (hV p f dn un pl),@&(.str n),@&(zA c.st),@&(.bool c.w),@&(zA c.wi)],rfl,?_,rfl,rfl⟩
  rwa[zA c.st=A,zA c.wi=B]
  push_cast [jbg,cs1])
 let hz:(cs.map Cl.D).length<=1000000:=by simp;lia
 let hns:hV p f dn un pl=.o "House" ["pots","first","done","undone","places"] [.d (.int p),.d f,.l (prs dn),.l (prs un),.m pl]:=rfl
 rwa[[OV.d (.int p),.d f,.l (prs dn),.l (prs un),.m pl]=XS,hV p f dn un pl=HH]
 subst hns
 unfold j0
 rwa[jbg=B1]
 unfold zB ja at *
 rwa[(cs.map λc=>zA c.st)=PL,cs.map Cl.D=Y]
 dsimp! [e1,e2,hz,zE,jq]
def kW(cf:CF)(hc:QW cf)(p:Int)(f:PyData)(dn un:Ao)(pl:Ad)(fr:Aa)(cl:Ad)(n:Str)(cs:List Cl)(hl:cs.length<=1000)(hq:j8 f dn=stV fr cl)(hv:zI cl n=some (zB cs)):runI 2 [true,false] [0] j1 cf [hV p f dn un pl,.d (.str n)]=.ok (.l ((ja Cl.wi cs).map .d)) [some (hV p f dn un pl),none]:=by
 let e1:=hc p f dn un pl fr cl n hq
 rw[hv]at e1
 let e2:=yQ (k:=3) (t:=.tp (.cons (.nm 0 2) (.cons (.nm 1 3) (.cons (.nm 2 4) .nil)))) (elt:=(jbj.ev cf).1) Cl.D (λc=>zA c.wi) (xs:=cs) (Γ:= [some (hV p f dn un pl),@&(.str n)]) (by
  intro c hc
  refine⟨[some (hV p f dn un pl),@&(.str n),@&(zA c.st),@&(.bool c.w),@&(zA c.wi)],.dat (zA c.wi),[some (hV p f dn un pl),@&(.str n),@&(zA c.st),@&(.bool c.w),@&(zA c.wi)],rfl,?_,rfl,rfl⟩
  rwa[zA c.st=A,zA c.wi=B]
  push_cast [jbj,cs1])
 let hz:(cs.map Cl.D).length<=1000000:=by simp;lia
 let hns:hV p f dn un pl=.o "House" ["pots","first","done","undone","places"] [.d (.int p),.d f,.l (prs dn),.l (prs un),.m pl]:=rfl
 rwa[[OV.d (.int p),.d f,.l (prs dn),.l (prs un),.m pl]=XS,hV p f dn un pl=HH]
 subst hns
 unfold j1
 rwa[jbj=B1]
 unfold zB ja at *
 rwa[(cs.map λc=>zA c.wi)=PL,cs.map Cl.D=Y]
 dsimp! [e1,e2,hz,zE,jq]
def wxP(cs:List Cl)(i:Nat):Bool:=match cs[i]? with
 |some c=>c.w
 |none=>false
def QU(cs:List Cl):Ac:=(List.range cs.length).filter (wxP cs)
def wO (cf:CF):Prop:=∀ (p:Int) (f:PyData) (dn un:Ao) (pl:Ad) (fr:Aa) (cl:Ad) (n:Str) (cs:List Cl),cs.length<=1000->j8 f dn=stV fr cl->zI cl n=some (zB cs)->cf "House.waxed" [hV p f dn un pl,.d (.str n)]=.ok (.l ((ql (QU cs)).map .d)) [some (hV p f dn un pl),none]
def zbB(cf:CF)(hc:QW cf):wO λ_=>runI 2 [true,false] [0] Zo cf:=λp f dn un pl fr cl n cs hl hq hv=>by
 let e1:=hc p f dn un pl fr cl n hq
 rw[hv]at e1
 let e2:=zfR (k:=4) (t:=.tp (.cons (.nm 0 2) (.cons (.tp (.cons (.nm 1 3) (.cons (.nm 2 4) (.cons (.nm 3 5) .nil)))) .nil))) (cond:=jbh.ev cf) (elt:=(jbi.ev cf).1) (wxP cs) (ds:=qR (cs.map Cl.D)) (Γ:= [some (hV p f dn un pl),@&(.str n)]) (by
  intro i d hd
  let⟨x,hx,rfl⟩:=Qo hd
  rw[xf]at hx
  cases hb:cs[i]? with
  |none=>rw[hb]at hx;cases hx
  |some c=>
   rw[hb]at hx
   cases hx
   let hr:wxP cs i=c.w:=by unfold wxP;rw[hb]
   rw[hr]
   refine⟨[some (hV p f dn un pl),@&(.str n),@&(.int i),@&(zA c.st),@&(.bool c.w),@&(zA c.wi)],[some (hV p f dn un pl),@&(.str n),@&(.int i),@&(zA c.st),@&(.bool c.w),@&(zA c.wi)],rfl,?_,rfl,λ_=>⟨.dat (.int i),[some (hV p f dn un pl),@&(.str n),@&(.int i),@&(zA c.st),@&(.bool c.w),@&(zA c.wi)],?_,rfl,rfl⟩⟩
   ·generalize (i:Int)=I
    rwa[zA c.st=A,zA c.wi=B]
    push_cast [jbh,cs1]
   ·generalize (i:Int)=I
    rwa[zA c.st=A,zA c.wi=B]
    push_cast [jbi,cs1])
 let hel:(qR (cs.map Cl.D)).length=cs.length:=by simp[qR]
 rw[hel]at e2
 let hz:cs.length<=1000000:=by lia
 let hz2:(cs.map Cl.D).length=cs.length:=by simp
 let hns:hV p f dn un pl=.o "House" ["pots","first","done","undone","places"] [.d (.int p),.d f,.l (prs dn),.l (prs un),.m pl]:=rfl
 rwa[[OV.d (.int p),.d f,.l (prs dn),.l (prs un),.m pl]=XS,hV p f dn un pl=HH]
 subst hns
 unfold Zo QU
 rwa[jbh=B1,jbi=B2]
 unfold zB at *
 rwa[ql ((List.range cs.length).filter (wxP cs))=NW]
 generalize hY:cs.map Cl.D=Y at *
 dsimp! [e1,e2,hz,hz2,hel,zE,jq]
def ZE (cf:CF):Prop:=∀ (p:Nat) (g:Cl->List Int) (cs:List Cl),p<=12->cs.length<=1000->(∀ c∈cs,(g c).length=p)->cf "_law_pictures" [.d (.list (ja g cs)),.d (.list (ja g cs))]=.ok (.d (.bool true)) [none,none]
def zd4(n:Nat)(g:Cl->List Int)(cs:List Cl):lay (n+2) (.list (ja g cs))=true:=WF λx h=>by
 let⟨c,_,rfl⟩:=xv.mp h
 exact zgg λx h=>by let⟨i,_,rfl⟩:=xv.mp h;exact zQ _ _
def Yr(cf:CF)(hs:wS cf):ZE λ_=>runI 2 [false,false] [] jU cf:=λp g cs hp hl hg=>by
 let e:=yQ (k:=1) (t:=.nm 0 2) (elt:=(ja9.ev cf).1) (λc=>zA (g c)) (λ_=>.bool true) (xs:=cs) (Γ:= [@&(.list (ja g cs)),@&(.list (ja g cs))]) (by
  intro c hc
  let h1:=hg c hc
  let e1:=hs (g c) p h1 (by lia)
  refine⟨[@&(.list (ja g cs)),@&(.list (ja g cs)),@&(zA (g c))],.dat (.bool true),[@&(.list (ja g cs)),@&(.list (ja g cs)),@&(zA (g c))],rfl,?_,rfl,rfl⟩
  let hml:((g c).map PyData.int).length=p:=by simpa using h1
  unfold zA at *
  rwa[PyData.list (ja g cs)=PL,(g c).map PyData.int=X]
  simp![ja9,e1,hml,zE])
 let hy:=zd4 18 g cs
 let hq:=wC hy
 let ha:=zcB (ds:=ja g cs)
 let hpl:(ja g cs).map (λ_=>PyData.bool true)=cs.map λ_=>PyData.bool true:=by unfold ja;rw[xu];rfl
 rw[hpl]at ha
 let hz:(ja g cs).length<=1000000:=by simp[ja];lia
 let hz2:(cs.map λ_=>PyData.bool true).length<=1000000:=by simp;lia
 let hpc:(cs.map λc=>zA (g c))=ja g cs:=rfl
 rw[hpc]at e
 unfold jU
 rwa[ja9=B1,ja g cs=PL,(cs.map λ_=>PyData.bool true)=BT]
 simp![e,hy,hq,ha,hz,hz2,zE]
def zek(cf:CF)(p:Nat)(fr:List Bool)(c:Cls)(hl:fr.length=p):qD 1 (.nm 0 8) (jas.ev cf) (jat.ev cf).1 (zZ p) [] [o0,@&(zN p fr c),o2,o3,o4,o5,o6,o7]=.ok (ql (qT fr),[o0,@&(zN p fr c),o2,o3,o4,o5,o6,o7]):=by
 let e:=zfR (k:=1) (t:=.nm 0 8) (cond:=jas.ev cf) (elt:=(jat.ev cf).1) (rdP fr) (ds:=zZ p) (Γ:= [o0,@&(zN p fr c),o2,o3,o4,o5,o6,o7]) (by
  intro i d hd
  let⟨hlt,rfl⟩:=ju hd
  let hb:fr[i]?=some fr[i]:=xb (by lia)
  let hr:rdP fr i=fr[i]:=by unfold rdP;rw[xE,hb];rfl
  let a2:=y8 hb
  rw[hr]
  rwa[fr[i]=b]
  refine⟨[o0,@&(zN p fr c),o2,o3,o4,o5,o6,o7,@&(.int i)],[o0,@&(zN p fr c),o2,o3,o4,o5,o6,o7,@&(.int i)],rfl,?_,rfl,λ_=>⟨.dat (.int i),[o0,@&(zN p fr c),o2,o3,o4,o5,o6,o7,@&(.int i)],?_,rfl,rfl⟩⟩
  ·let hK:zN p fr c=.list (zK p fr c):=rfl
   let k1:atI (zK p fr c) 1=some (.list (frD fr)):=rfl
   rw[hK]
   rwa[zK p fr c=KL,frD fr=F,(i:Int)=I]
   push_cast [jas,k1,a2,cs1]
  ·generalize zN p fr c=KL at *
   rwa[(i:Int)=I]
   push_cast [jat,cs1])
 rw[e,zF]
 unfold qT
 rw[hl]
def Vl(xs:Ac):lay 20 (.list (ql xs))=true:=WF λx h=>by
 let⟨i,_,rfl⟩:=xv.mp h
 erw[zQ _ _]
def zd5{ss:Ab}(h:∀ s∈ss,PyData.strOk s=true):lay 20 (.list (ss.map .str))=true:=WF λx hx=>by
 let⟨s,hs,rfl⟩:=xv.mp hx
 erw[h s hs]
structure KA(cf:CF):Prop where
 ready:Jn cf
 names:wM cf
 stains:wN "House.stains" Cl.st cf
 wishes:wN "House.wishes" Cl.wi cf
 waxed:wO cf
 pics:ZE cf
 wholes:wW cf
def YB(cf:CF)(h:KA cf){P:Int}{dn un:Ao}{pl:Ad}(hq:j8 f dn=stA fr c)(hp:p<=12)(hv:zI c n=some cs)(hb:Bolt p cs){o2 o3 o4 o6 o7:Option OV} :
  jau.ex cf [0] [some (hV P f dn un pl),@&(zN p fr c),o2,o3,o4,@&(.str n),o6,o7]=.ok (.next,[some (hV P f dn un pl),@&(zN p fr c),o2,o3,o4,@&(.str n),@&(zB cs),@&(.list (ql (QU cs)))]):=by
 let hvn:zI (clD c) n=some (zB cs):=by rw[zW,hv];rfl
 let e1:=h.stains P f dn un pl (frD fr) (clD c) n cs hb.1 hq hvn
 let e2:=h.wishes P f dn un pl (frD fr) (clD c) n cs hb.1 hq hvn
 let e3:=h.waxed P f dn un pl (frD fr) (clD c) n cs hb.1 hq hvn
 let q1:=h.pics p Cl.st cs hp hb.1 (λc hc=>(hb.2 c hc).sl)
 let q2:=h.pics p Cl.wi cs hp hb.1 (λc hc=>(hb.2 c hc).wl)
 let q3:=h.wholes (QU cs) (by
  have:=List.length_filter_le (wxP cs) (List.range cs.length)
  rw[uL]at this
  have:=hb.1
  unfold QU;lia)
 let v1:=qv (ja Cl.st cs)
 let v2:=qv (ja Cl.wi cs)
 let v3:=qv (ql (QU cs))
 let c1:=yQ (k:=1) (t:=.nm 0 8) (elt:=(jbb.ev cf).1) Cl.D (λc=>zA c.st) (xs:=cs) (Γ:= [some (hV P f dn un pl),@&(zN p fr c),o2,o3,o4,@&(.str n),@&(zB cs),o7]) (by
  intro c' hc
  refine⟨[some (hV P f dn un pl),@&(zN p fr c),o2,o3,o4,@&(.str n),@&(zB cs),o7,some (.d c'.D)],.dat (zA c'.st),[some (hV P f dn un pl),@&(zN p fr c),o2,o3,o4,@&(.str n),@&(zB cs),o7,some (.d c'.D)],rfl,?_,rfl,rfl⟩
  unfold Cl.D Zc
  rwa[zA c'.st=A,zA c'.wi=B]
  push_cast [jbb,jz,cs1])
 let c2:=yQ (k:=1) (t:=.nm 0 8) (elt:=(jbc.ev cf).1) Cl.D (λc=>zA c.wi) (xs:=cs) (Γ:= [some (hV P f dn un pl),@&(zN p fr c),o2,o3,o4,@&(.str n),@&(zB cs),o7]) (by
  intro c' hc
  refine⟨[some (hV P f dn un pl),@&(zN p fr c),o2,o3,o4,@&(.str n),@&(zB cs),o7,some (.d c'.D)],.dat (zA c'.wi),[some (hV P f dn un pl),@&(zN p fr c),o2,o3,o4,@&(.str n),@&(zB cs),o7,some (.d c'.D)],rfl,?_,rfl,rfl⟩
  unfold Cl.D Zc
  rwa[zA c'.st=A,zA c'.wi=B]
  push_cast [jbc,jJ,cs1])
 let c3:=zfR (k:=1) (t:=.nm 0 8) (cond:=jbd.ev cf) (elt:=(jbe.ev cf).1) (wxP cs) (ds:=zZ cs.length) (Γ:= [some (hV P f dn un pl),@&(zN p fr c),o2,o3,o4,@&(.str n),@&(zB cs),@&(.list (ql (QU cs)))]) (by
  intro i d hd
  let⟨hlt,rfl⟩:=ju hd
  let hb:cs[i]?=some cs[i]:=xb hlt
  let hr:wxP cs i=(cs[i]).w:=by unfold wxP;rw[hb]
  let a1:atI (cs.map Cl.D) (i:Int)=some (cs[i]).D:=qW (by rw[xf,hb];rfl)
  let hcd:(cs[i]).D=.tuple [zA (cs[i]).st,.bool (cs[i]).w,zA (cs[i]).wi]:=rfl
  rw[hr]
  rw[hcd]at a1
  let hbd:zB cs=.list (cs.map Cl.D):=rfl
  rw[hbd]
  refine⟨[some (hV P f dn un pl),@&(zN p fr c),o2,o3,o4,@&(.str n),@&(.list (cs.map Cl.D)),@&(.list (ql (QU cs))),@&(.int i)],[some (hV P f dn un pl),@&(zN p fr c),o2,o3,o4,@&(.str n),@&(.list (cs.map Cl.D)),@&(.list (ql (QU cs))),@&(.int i)],rfl,?_,rfl,λ_=>⟨.dat (.int i),[some (hV P f dn un pl),@&(zN p fr c),o2,o3,o4,@&(.str n),@&(.list (cs.map Cl.D)),@&(.list (ql (QU cs))),@&(.int i)],?_,rfl,rfl⟩⟩
  ·generalize zA (cs[i]).st=A at *
   rwa[zA (cs[i]).wi=B,(cs[i]).w=W1,ql (QU cs)=NW,cs.map Cl.D=Y,(i:Int)=I,hV P f dn un pl=HH]
   push_cast [jbd,a1,jT,cs1]
  ·generalize cs.map Cl.D=Y at *
   rwa[ql (QU cs)=NW,(i:Int)=I,hV P f dn un pl=HH]
   push_cast [jbe,cs1])
 rw[zF]at c3
 let hwn:ql ((List.range cs.length).filter (wxP cs))=ql (QU cs):=rfl
 rw[hwn]at c3
 let hy:=Vl (QU cs)
 let hqv:=wC hy
 let hK:zN p fr c=.list (zK p fr c):=rfl
 let k2:atI (zK p fr c) 2=some (.dict ((clD c).map dK)):=rfl
 let hu:=zL (clD c)
 let hl:=hb.1
 let hz:(cs.map Cl.D).length=cs.length:=by simp
 let hz1:cs.length<=1000000:=by lia
 let hz2: -1000000<=(cs.length:Int)/\(cs.length:Int)<=1000000:=by lia
 let hbd:zB cs=.list (cs.map Cl.D):=rfl
 let hps:(cs.map λc=>zA c.st)=ja Cl.st cs:=rfl
 let hpw:(cs.map λc=>zA c.wi)=ja Cl.wi cs:=rfl
 rw[hps]at c1
 rw[hpw]at c2
 clear hK hbd hps hpw hwn
 unfold zN zB at *
 let hns:hV P f dn un pl=.o "House" ["pots","first","done","undone","places"] [.d (.int P),.d f,.l (prs dn),.l (prs un),.m pl]:=rfl
 rwa[[OV.d (.int P),.d f,.l (prs dn),.l (prs un),.m pl]=XS,hV P f dn un pl=HH]
 subst hns
 rwa[zK p fr c=KL,(clD c).map dK=CD,clD c=C1]
 unfold jau
 rwa[jbb=B3,jbc=B4,jbd=B5,jbe=B6,ja Cl.st cs=PS,ja Cl.wi cs=PW,ql (QU cs)=NW]
 generalize hYY:cs.map Cl.D=Y at *
 dsimp! [k2,hu,hvn,e1,e2,e3,q1,q2,q3,c1,c2,c3,v1,v2,v3,hy,hqv,hz,hz1,hz2,zF,zE,jq]
def wT (cf:CF):Prop:=∀ (pool:Ab) (p:Nat) (fr:List Bool) (c:Cls) (P:Int) (f:PyData) (dn un:Ao) (pl:Ad),pool.length<=60->(∀ n∈pool,Nm n)->StOk pool p fr c->j8 f dn=stA fr c->cf "_law_stands" [hV P f dn un pl,.d (zN p fr c)]=.ok (.d (.bool true)) [some (hV P f dn un pl),none]
def Yi(h:n∈Z7 (clD c)):∃ cs,zI c n=some cs:=by
 let h1:=(ZT _).mem_iff.mp h
 cases q:zI c n with
 |some cs=>exact⟨cs,rfl⟩
 |none=>
  have:=valG_none.mp q
  erw[absurd ?_ this]
  let e:(clD c).map (·.1)=c.map (·.1):=by unfold clD;rw[xu];rfl
  rw[<- e];exact h1
def Km(cf:CF)(h:KA cf):wT λ_=>runI 8 [true,false] [0] Zk cf:=λpool p fr c P f dn un pl hpl hpn S hq=>by
 let hcl:=S.len
 let hlf:=S.hl
 let hlp:=S.hp
 let hdl:(clD c).length<64:=by simp[clD];lia
 let e1:=h.ready P f dn un pl fr (clD c) (by lia) hq
 let e2:=h.names P f dn un pl (frD fr) (clD c) hdl hq
 let hrl:(qT fr).length<=12:=by
  have:=List.length_filter_le (rdP fr) (List.range fr.length)
  rw[uL]at this
  unfold qT;lia
 let e3:=h.wholes (qT fr) (by lia)
 let e4:=zek cf p fr c hlf (o0:=some (hV P f dn un pl)) (o2:=some (.d (.list (ql (qT fr))))) (o3:=some (.d (.list ((Z7 (clD c)).map .str)))) (o4:=none) (o5:=none) (o6:=none) (o7:=none)
 let⟨Γ',e5,⟨o5,o6,o7,rfl⟩⟩:=jf (t:=.nm 5 5) (body:=jau.ex cf [0]) (ds:=(Z7 (clD c)).map .str) (Γ:= [some (hV P f dn un pl),@&(zN p fr c),@&(.list (ql (qT fr))),@&(.list ((Z7 (clD c)).map .str)),@&(.list (ql (qT fr))),none,none,none])
  (λpre Γ=>∃ o5 o6 o7:Option OV,Γ= [some (hV P f dn un pl),@&(zN p fr c),@&(.list (ql (qT fr))),@&(.list ((Z7 (clD c)).map .str)),@&(.list (ql (qT fr))),o5,o6,o7]) ⟨none,none,none,rfl⟩ (by
   rintro pre x post e Γ ⟨o5,o6,o7,rfl⟩
   let hx:x∈(Z7 (clD c)).map PyData.str:=by rw[e];simp
   let⟨n,hm,rfl⟩:=xv.mp hx
   let⟨cs,hv⟩:=Yi hm
   exact⟨_,_,rfl,YB cf h hq hlp hv (S.bolt hv),_,_,_,rfl⟩)
 let v1:=qv (ql (qT fr))
 let v2:=qv ((Z7 (clD c)).map .str)
 let hy:=Vl (qT fr)
 let hqv:=wC hy
 let hy2:=zd5 (λs hs=>by
  let⟨cs,hv⟩:=Yi hs
  exact (hpn _ (S.np _ (j6 hv))).ok)
 let hqv2:=wC hy2
 let hK:zN p fr c=.list (zK p fr c):=rfl
 let k0:atI (zK p fr c) 0=some (.int p):=rfl
 let k2:atI (zK p fr c) 2=some (.dict ((clD c).map dK)):=rfl
 let hu:=zL (clD c)
 let hz: -1000000<=(p:Int)/\(p:Int)<=1000000:=by lia
 let hz2:p<=1000000:=by lia
 let hn2:(p:Int).toNat=p:=by lia
 let hks:Z7 (clD c)=j5 ((clD c).map (·.1)):=rfl
 clear hK hks
 unfold zN Z7 at *
 let hns:hV P f dn un pl=.o "House" ["pots","first","done","undone","places"] [.d (.int P),.d f,.l (prs dn),.l (prs un),.m pl]:=rfl
 rwa[[OV.d (.int P),.d f,.l (prs dn),.l (prs un),.m pl]=XS,hV P f dn un pl=HH]
 subst hns
 rwa[zK p fr c=KL,(clD c).map dK=CD]
 generalize hKS:(j5 ((clD c).map (·.1))).map PyData.str=KS at *
 unfold Zk
 rwa[jas=B1,jat=B2,jau=B7,ql (qT fr)=NR,(p:Int)=I]
 dsimp! [k0,k2,hu,e1,e2,e3,e4,e5,v1,v2,hy,hqv,hy2,hqv2,hz,hz2,hn2,hdl,hKS,zF,zE,jq]
def JH(f:PyData)(dn:Ao)(D S:PyData):j8 f (dn++ [(D,S)])=S:=by
 unfold j8
 rw[List.getLast?_append];rfl
def zcw(cf:CF):Prop:=∀(pool:Ab)(p:Nat)(fr:List Bool)(c:Cls)(d:Deed)(P:Int)(f:PyData)(dn un:Ao),pool.length<=60->(∀ n∈pool,Nm n)->StOk pool p fr c->yK pool fr c d->dn.length<1000000->j8 f dn=stA fr c ->
 cf "House.do" [hV P f dn un [],.d d.D]=.ok (.d .none) [some (hV P f (dn++ [(d.D,stA (d.fr fr) (d.cl p c))]) [] []),none]
def zkd(cf:CF)(hn:wR cf)(hb:wJ cf):zcw λ_=>runI 4 [true,false] [0] ZO cf:=λpool p fr c d P f dn un h1 h2 S G hl hq=>
 zio cf hn P f dn un d.D _ hl (by unfold yH;rw[hq];exact hb pool p fr c d h1 h2 S G)
def jar:IE:=.sin (.x 0 1) (.call (.call "_law_letters" 0 .nil))
section
local macro_rules|`(#[$a])=>`(.cons $a .nil)|`(#[$a,$b,*])=>`(.cons $a #[$b,*])|`(.($n:num))=>`(.x $n $n)|`(($n:num :))=>`(.k $n)
def Zi:IB:=#[.ret (.dat (.and (.h .Lt .Lt (0:) (.slen .(0)) (9:)) (.all (.new (.comp 1 1 [] ["_law_sign"] (.nm 0 1) (.chars .(0)) .yes jar)))))]
def qK:IB:=#[.f (.not (.call (.call "_law_is_name" 1 #[.(1)]))) #[.ret (.dat (.q "NoName"))] .nil,.f (.d .(1) (.ix .(0) (2:))) #[.ret (.dat (.q "Taken"))] .nil,.ret (.dat (.q ""))]
def jaq:IE:=.d (.x 0 2) (.ix (.x 1 0) (2:))
def jl:IB:=#[.f (.not (.all (.new (.comp 2 1 [0] ["_law_name","_law_kept_here"] (.nm 0 2) (.tup .(1)) .yes jaq)))) #[.ret (.dat (.q "NoCloth"))] .nil,.f (.p .Lt (.lsetS .(1)) (.len .(1))) #[.ret (.dat (.q "Twice"))] .nil,.ret (.dat (.q ""))]
def jap:IE:=.call (.call "_law_full" 2 #[.g (.ix (.x 1 0) (2:)) (.x 0 4),.(2)])
def qy:IB:=#[.f (.or (.p .Lt .(2) (0:)) (.p .GtE .(2) (.ix .(0) (0:)))) #[.ret (.dat (.q "NoDye"))] .nil,.f (.not (.ix (.ix .(0) (1:)) .(2))) #[.ret (.dat (.q "Spent"))] .nil,.a 3 3 (.dat (.call (.call "_law_group_word" 2 #[.(0),.(1)]))),.f (.and (.p .Eq .(3) (.q "")) (.any (.new (.comp 4 1 [0,2] ["_law_name","_law_kept_here","_law_dye_here"] (.nm 0 4) (.tup .(1)) .yes jap)))) #[.ret (.dat (.q "TooDeep"))] .nil,.ret (.dat .(3))]
def jai:IE:=.or (.p .Lt (.x 0 3) (0:)) (.p .Gt (.x 0 3) (9:))
def qX:IB:=#[.a 2 2 (.dat (.g (.ix .(0) (2:)) (.ix .(1) (1:)))),.f (.p .Eq (.ix .(1) (0:)) (.q "wax")) #[.ret (.call "_law_picks_word" 2 #[.ix .(1) (2:),.len .(2)])] .nil,.f (.or (.p .Lt (.ix .(1) (2:)) (0:)) (.p .GtE (.ix .(1) (2:)) (.len .(2)))) #[.ret (.dat (.q "NoCell"))] .nil,.f (.or (.p .NotEq (.len (.ix .(1) (3:))) (.ix .(0) (0:))) (.any (.new (.comp 3 1 [] ["_law_shade"] (.nm 0 3) (.tup (.ix .(1) (3:))) .yes jai)))) #[.ret (.dat (.q "BadWish"))] .nil,.ret (.dat (.q ""))]
def zX:IB:=#[.f (.p .Eq (.ix .(1) (0:)) (.q "hang")) #[.a 2 2 (.dat (.call (.call "_law_new_word" 2 #[.(0),.ix .(1) (1:)]))),.f (.and (.p .Eq .(2) (.q "")) (.not (.h .LtE .LtE (0:) (.ix .(1) (2:)) (40:)))) #[.ret (.dat (.q "BadSize"))] .nil,.ret (.dat .(2))] .nil,.f (.p .Eq (.ix .(1) (0:)) (.q "dip")) #[.ret (.call "_law_dip_word" 3 #[.(0),.ix .(1) (1:),.ix .(1) (2:)])] .nil,.f (.p .Eq (.ix .(1) (0:)) (.q "boil")) #[.ret (.call "_law_group_word" 2 #[.(0),.ix .(1) (1:)])] .nil,.f (.p .Eq (.ix .(1) (0:)) (.q "brew")) #[.f (.or (.p .Lt (.ix .(1) (1:)) (0:)) (.p .GtE (.ix .(1) (1:)) (.ix .(0) (0:)))) #[.ret (.dat (.q "NoDye"))] .nil,.ret (.dat (.ix (.new (.lst #[.q "",.q "StillFresh"])) (.int (.ix (.ix .(0) (1:)) (.ix .(1) (1:))))))] .nil,.f (.dnin (.ix .(1) (1:)) (.ix .(0) (2:))) #[.ret (.dat (.q "NoCloth"))] .nil,.f (.p .Eq (.ix .(1) (0:)) (.q "twin")) #[.ret (.call "_law_new_word" 2 #[.(0),.ix .(1) (2:)])] .nil,.f (.p .Eq (.ix .(1) (0:)) (.q "fold")) #[.ret (.dat (.q ""))] .nil,.ret (.call "_law_cell_word" 2 #[.(0),.(1)])]
def je:IB:=#[.f (.p .Eq (.call (.call "_law_take" 2 (.io 0 0 #[(14:)]))) (0:)) #[.ret (.dat (.ix (.new (.lst #[.q "",.q "A",.q "ab cd",.q "abcdefghi",.q "a1",.q "zzzzzzzz"])) (.call (.call "_law_take" 2 (.io 0 0 #[(6:)])))))] .nil,.ret (.dat (.ix .(1) (.call (.call "_law_take" 2 (.io 0 0 #[.len .(1)])))))]
def jK:IB:=#[.a 3 3 (.call "_law_deal" 3 (.io 0 0 #[.new (.sortD (.ix .(1) (2:))),.p .Eq (.call (.call "_law_take" 2 (.io 0 0 #[(3:)]))) (0:)])),.a 4 4 (.dat (.call (.call "_law_take" 2 (.io 0 0 #[(12:)])))),.f (.and (.or (.p .Eq .(4) (1:)) (.p .Eq .(4) (2:))) (.p .Gt (.len .(3)) (0:))) #[.app 3 3 (.ix .(3) (0:))] .nil,.f (.p .Eq .(4) (0:)) #[.app 3 3 (.call (.call "_law_any_name" 2 (.io 0 0 #[.(2)])))] .nil,.f (.p .Eq .(4) (2:)) #[.ins 3 3 (.call (.call "_law_take" 2 (.io 0 0 #[.n .Add (.len .(3)) (1:)]))) (.call (.call "_law_any_name" 2 (.io 0 0 #[.(2)])))] .nil,.ret (.dat (.tuple .(3)))]
def Zy:IB:=#[.f (.and (.p .Gt .(1) (0:)) (.p .Gt (.call (.call "_law_take" 2 (.io 0 0 #[(9:)]))) (0:))) #[.ret (.call "_law_take" 2 (.io 0 0 #[.(1)]))] .nil,.ret (.dat (.ix (.new (.lst #[.neg (1:),.(1),.n .Add .(1) (3:)])) (.call (.call "_law_take" 2 (.io 0 0 #[(3:)])))))]
def jac:IE:=.min (9:) (.n .Add (.x 0 6) (.call (.call "_law_take" 2 (.io 1 0 #[(2:)]))))
def jaa:IE:=.n .Sub (.call (.call "_law_take" 2 (.io 1 0 #[(11:)]))) (.int (.p .Eq (.call (.call "_law_take" 2 (.io 1 0 #[(9:)]))) (0:)))
def qP:IB:=#[.a 4 4 (.dat (.dgd (.ix .(1) (2:)) .(2) (.new (.lst .nil)))),.f (.and (.h .LtE .Lt (0:) .(3) (.len .(4))) (.p .Gt (.call (.call "_law_take" 2 (.io 0 0 #[(7:)]))) (0:))) #[.ret (.dat (.tuple (.new (.comp 6 1 [0] ["_law_shade","_law_box_here"] (.nm 0 6) (.tup (.ix (.ix .(4) .(3)) (0:))) .yes jac))))] .nil,.a 5 5 (.dat (.max (0:) (.n .Add (.ix .(1) (0:)) (.ix (.new (.lst #[(0:),(0:),(1:),.neg (1:)])) (.call (.call "_law_take" 2 (.io 0 0 #[(4:)]))))))),.ret (.dat (.tuple (.new (.comp 6 1 [0] ["_law_k","_law_box_here"] (.nm 0 6) (.range .(5)) .yes jaa))))]
def qY:IB:=#[.f (.p .Eq (.call (.call "_law_take" 2 (.io 0 0 #[(9:)]))) (0:)) #[.ret (.dat (.ix (.new (.lst #[(40:),(41:),.neg (1:),(23:)])) (.call (.call "_law_take" 2 (.io 0 0 #[(4:)])))))] .nil,.ret (.call "_law_take" 2 (.io 0 0 #[(6:)]))]
def qC:IB:=#[.a 3 3 (.dat (.new (.lst #[.q "hang",.q "wish",.q "wax",.q "dip",.q "boil",.q "brew",.q "dip",.q "twin",.q "wax",.q "dip",.q "wish",.q "fold"]))),.a 4 4 (.dat (.ix .(3) (.call (.call "_law_take" 2 (.io 0 0 #[(12:)]))))),.a 5 5 (.dat (.call (.call "_law_any_name" 2 (.io 0 0 #[.(2)])))),.a 6 6 (.dat (.len (.dgd (.ix .(1) (2:)) .(5) (.new (.lst .nil))))),.f (.p .Eq .(4) (.q "hang")) #[.ret (.dat (.tup #[.(4),.(5),.call (.call "_law_hang_size" 1 (.io 0 0 .nil))]))] .nil,.f (.p .Eq .(4) (.q "fold")) #[.ret (.dat (.tup #[.(4),.(5)]))] .nil,.f (.p .Eq .(4) (.q "twin")) #[.ret (.dat (.tup #[.(4),.(5),.call (.call "_law_any_name" 2 (.io 0 0 #[.(2)]))]))] .nil,.f (.p .Eq .(4) (.q "wish")) #[.a 7 7 (.dat (.call (.call "_law_place" 2 (.io 0 0 #[.(6)])))),.ret (.dat (.tup #[.(4),.(5),.(7),.call (.call "_law_wanted" 4 (.io 0 0 #[.(1),.(5),.(7)]))]))] .nil,.f (.p .Eq .(4) (.q "wax")) #[.ret (.dat (.tup #[.(4),.(5),.call (.call "_law_picks" 2 (.io 0 0 #[.(6)]))]))] .nil,.f (.p .Eq .(4) (.q "dip")) #[.ret (.dat (.tup #[.(4),.call (.call "_law_group" 3 (.io 0 0 #[.(1),.(2)])),.call (.call "_law_dye" 2 (.io 0 0 #[.ix .(1) (0:)]))]))] .nil,.f (.p .Eq .(4) (.q "boil")) #[.ret (.dat (.tup #[.(4),.call (.call "_law_group" 3 (.io 0 0 #[.(1),.(2)]))]))] .nil,.ret (.dat (.tup #[.(4),.call (.call "_law_dye" 2 (.io 0 0 #[.ix .(1) (0:)]))]))]
def jal:IB:=#[.a 6 6 (.dat (.call (.call "_law_deed" 3 (.io 0 0 #[.(2),.(3)])))),.f (.p .Eq (.call (.call "_law_word" 2 #[.(2),.(6)])) (.q "")) #[.e (.call (.m 1 1 "House" "do" "House.do" 2 #[.(6)])),.a 2 2 (.dat (.call (.call "_law_did" 2 #[.(2),.(6)])))] .nil]
def ZI:IB:=#[.loop (.nm 5 5) (.range .(4)) jal,.ret (.dat .(2))]
end
def jQ(ns:Ab):PyData:=.list (ns.map .str)
def odds:Ab:= ["","A","ab cd","abcdefghi","a1","zzzzzzzz"]
def zcH{α:Type}{xs:List α}{r:Int}(h0:0<=r)(h1:r<(xs.length:Int)):∃ x,x∈xs/\atI xs r=some x:=by
 let⟨j,rfl⟩:=xz h0
 let hj:j<xs.length:=by lia
 exact⟨xs[j],xO hj,qW (xb hj)⟩
def Qh (cf:CF):Prop:=∀ b,zV b->∀ pool:Ab,1<=pool.length->pool.length<=60->∃ (n:Str) (b':OV),(n∈pool∨n∈odds)/\zV b'/\cf "_law_any_name" [b,.d (jQ pool)]=.ok (.d (.str n)) [some b',none]
def yL(cf:CF)(ht:qJ cf):Qh λ_=>runI 2 [true,false] [0] je cf:=λb hb pool h1 h2=>by
 let⟨r1,b1,g1,g1',hb1,e1⟩:=ht b hb 14 (by decide) (by decide)
 by_cases z:r1=0
 ·subst z
  let⟨r2,b2,g2,g2',hb2,e2⟩:=ht b1 hb1 6 (by decide) (by decide)
  let⟨x,hx,a⟩:=zcH (xs:=odds.map PyData.str) g2 g2'
  let⟨n,hn,rfl⟩:=xv.mp hx
  refine⟨n,b2,.inr hn,hb2,?_⟩
  simp only[odds,List.map]at a
  unfold jQ
  generalize pool.map PyData.str=P
  push_cast [je,e1,e2,a,zS,zQ,cs1]
 ·let hz:(r1==0)=false:=x9.mpr z
  let⟨r2,b2,g2,g2',hb2,e2⟩:=ht b1 hb1 pool.length (by lia) (by lia)
  let⟨x,hx,a⟩:=zcH (xs:=pool.map PyData.str) g2 (by simpa using g2')
  let⟨n,hn,rfl⟩:=xv.mp hx
  refine⟨n,b2,.inl hn,hb2,?_⟩
  let hl:(pool.map PyData.str).length=pool.length:=by simp
  unfold jQ
  rwa[pool.map PyData.str=P]
  dsimp! [je,e1,e2,a,hz,hl,zS,zQ,zE]
def YT (cf:CF):Prop:=∀ b,zV b->∀ p:Nat,p<=12->∃ (d:Int) (b':OV),zV b'/\cf "_law_dye" [b,.d (.int p)]=.ok (.d (.int d)) [some b',none]
def zgj(cf:CF)(ht:qJ cf):YT λ_=>runI 2 [true,false] [0] Zy cf:=λb hb p hp=>by
 let fall:∀ b1,zV b1->∃ (r d:Int) (b2:OV),zV b2/\cf "_law_take" [b1,.d (.int 3)]=.ok (.d (.int r)) [some b2,none]/\atI [PyData.int (-1),.int p,.int (p+3)] r=some (.int d):=λb1 hb1=>by
  let⟨r,b2,g2,g2',hb2,e2⟩:=ht b1 hb1 3 (by decide) (by decide)
  have:r=0∨r=1∨r=2:=by lia
  rcases this with rfl | rfl | rfl
  ·exact⟨0,_,b2,hb2,e2,rfl⟩
  ·exact⟨1,_,b2,hb2,e2,rfl⟩
  ·exact⟨2,_,b2,hb2,e2,rfl⟩
 by_cases h0:p=0
 ·subst h0
  let⟨r,d,b2,hb2,e2,a⟩:=fall b hb
  exact⟨d,b2,hb2,by dsimp! [Zy,e2,a,zS,zQ,zE];exact a ▸ rfl⟩
 ·let hgt:(0:Int)<(p:Int):=by lia
  let hgt2:0<p:=by lia
  let⟨r,b1,hr0,hr1,hb1,e1⟩:=ht b hb 9 (by decide) (by decide)
  by_cases hr:0<r
  ·let⟨q,b2,hq0,hq1,hb2,e2⟩:=ht b1 hb1 (p:Int) (by lia) (by lia)
   exact⟨q,b2,hb2,by push_cast [Zy,hgt,hgt2,e1,hr,e2,zS,zQ,cs1]⟩
  ·let⟨r',d,b2,hb2,e2,a⟩:=fall b1 hb1
   exact⟨d,b2,hb2,by push_cast [Zy,hgt,hgt2,e1,hr,e2,gNeg,a,zS,zQ,cs1]⟩
def Qz (cf:CF):Prop:=∀ b,zV b->∃ (d:Int) (b':OV),zV b'/\cf "_law_hang_size" [b]=.ok (.d (.int d)) [some b']
def yb(cf:CF)(ht:qJ cf):Qz λ_=>runI 1 [true] [0] qY cf:=λb hb=>by
 let⟨r,b1,hr0,hr1,hb1,e1⟩:=ht b hb 9 (by decide) (by decide)
 by_cases z:r=0
 ·subst z
  let⟨q,b2,g,g',hb2,e2⟩:=ht b1 hb1 4 (by decide) (by decide)
  have:∃ d,atI [PyData.int 40,.int 41,.int (-1),.int 23] q=some (.int d):=by
   have:q=0∨q=1∨q=2∨q=3:=by lia
   rcases this with rfl | rfl | rfl | rfl<;>exact⟨_,rfl⟩
  let⟨d,a⟩:=this
  exact⟨d,b2,hb2,by push_cast [qY,e1,e2,gNeg,a,zS,zQ,cs1]⟩
 ·let hz:(r==0)=false:=x9.mpr z
  let⟨q,b2,g,g',hb2,e2⟩:=ht b1 hb1 6 (by decide) (by decide)
  exact⟨q,b2,hb2,by push_cast [qY,e1,hz,e2,zS,zQ,cs1]⟩
def nmB (n:Str):Bool:=decide (0<n.length)&&decide (n.length<9)&&n.cps.toList.all λc=>Txt.contains (Str.ofString "abcdefghijklmnopqrstuvwxyz") (ch c)
def v6{α:Type}(f:α->Bool)(xs:List α):(qi (xs.map λa=>PyData.bool (f a))).map (λbs=>PyData.bool (bs.all id))=some (.bool (xs.all f)):=by
 have:qi (xs.map λa=>PyData.bool (f a))=some (xs.map f):=by
  induction xs with
  |nil=>rfl
  |cons a r ih=>simp[qi,ih]
 rw[this]
 simp[uX]
def zjA(cf:CF)(hl:Qi cf)(cs:Ac){D:OV} :
  qD 1 (.nm 0 1) fYes (jar.ev cf).1 (cs.map λc=>PyData.str (ch c)) [] [some D]=.ok (cs.map λc=>PyData.bool (Txt.contains (Str.ofString "abcdefghijklmnopqrstuvwxyz") (ch c)),[some D]):=by
 let hl':cf "_law_letters" []=.ok (.d (.str (Str.ofString "abcdefghijklmnopqrstuvwxyz"))) []:=hl
 rwa[Str.ofString "abcdefghijklmnopqrstuvwxyz" =zz]
 let e:=qF (k:=1) (t:=.nm 0 1) (cond:=fYes) (elt:=(jar.ev cf).1) (ds:=cs.map λc=>PyData.str (ch c)) (Γ:= [some D]) (λ_=>true) (λd=>match d with | .str s=>.bool (Txt.contains zz s) | _=>.none) (by
  intro y hy
  let⟨c,hc,rfl⟩:=xv.mp hy
  refine⟨[some D,@&(.str (ch c))],_,rfl,rfl,rfl,λ_=>⟨.dat (.bool (Txt.contains zz (ch c))),[some D,@&(.str (ch c))],?_,rfl,rfl⟩⟩
  generalize ch c=cc
  push_cast [jar,y9,hl',cs1])
 rw[qG,xu]at e
 erw[e]
def Jo (cf:CF):Prop:=∀ n:Str,n.length<=1000->(∀ c∈n.cps.toList,c<=127)->cf "_law_is_name" [.d (.str n)]=.ok (.d (.bool (nmB n))) [none]
def Yh(cf:CF)(hl:Qi cf):Jo λ_=>runI 1 [false] [] Zi cf:=λn h1 h2=>by
 let ha:=yM (x:=n) h2
 let e:=zjA cf hl n.cps.toList (D:=.d (.str n))
 let eb:=v6 (λc=>Txt.contains (Str.ofString "abcdefghijklmnopqrstuvwxyz") (ch c)) n.cps.toList
 let hs:ZS n=n.cps.toList.map λc=>PyData.str (ch c):=rfl
 let hz:n.length<=1000000:=by lia
 let hcl:(n.cps.toList.map λc=>PyData.str (ch c)).length<=1000000:=by simp;exact hz
 unfold nmB
 rwa[(n.cps.toList.all λc=>Txt.contains (Str.ofString "abcdefghijklmnopqrstuvwxyz") (ch c))=AA]
 unfold Zi
 rwa[jar=B,(n.cps.toList.map λc=>PyData.bool (Txt.contains (Str.ofString "abcdefghijklmnopqrstuvwxyz") (ch c)))=BB,(n.cps.toList.map λc=>PyData.str (ch c))=CC]
 by_cases g1:0<n.length
 ·let g1':(0:Int)<(n.length:Int):=by lia
  by_cases g2:n.length<9
  ·let g2':(n.length:Int)<9:=by lia
   dsimp! [JT,QI,ha,hs,hz,hcl,g1,g1',g2,g2',e,eb]
  ·let g2':¬ (n.length:Int)<9:=by lia
   dsimp! [JT,QI,ha,hs,hz,hcl,g1,g1',g2,g2']
 ·let g1':¬ (0:Int)<(n.length:Int):=by lia
  dsimp! [JT,QI,ha,hs,hz,hcl,g1,g1']
def Asc(n:Str):Prop:=n.length<=1000/\∀ c∈n.cps.toList,c<=127
def Vj(c:Cls)(n:Str):(zI (clD c) n).isSome=(zI c n).isSome:=by rw[zW];cases zI c n<;>rfl
def Q8 (c:Cls) (n:Str):Str:=if nmB n then (if (zI c n).isSome then "Taken" else "") else "NoName"
def Jp (cf:CF):Prop:=∀ (p:Nat) (fr:List Bool) (c:Cls) (n:Str),Asc n->cf "_law_new_word" [.d (zN p fr c),.d (.str n)]=.ok (.d (.str (Q8 c n))) [none,none]
def Yn(cf:CF)(hn:Jo cf):Jp λ_=>runI 2 [false,false] [] qK cf:=λp fr c n h=>by
 let e:=hn n h.1 h.2
 let hv:=Vj c n
 unfold Q8
 rwa[(zI c n).isSome=V,nmB n=B]
 cases B
 ·push_cast [qK,e,cs1]
 ·cases V<;>(first | (push_cast [qK,e,kL2,zL,hv,cs1];done) | dsimp! [qK,e,kL2,zL,hv,zE])
def ZX (c:Cls) (ns:Ab):Str:=if ns.all (λn=>(zI c n).isSome) then (if (Tab.dedup ns).length<ns.length then "Twice" else "") else "NoCloth"
def ziu(cf:CF)(p:Nat)(fr:List Bool)(c:Cls)(ns:Ab){o1:Option OV} :
  qD 1 (.nm 0 2) fYes (jaq.ev cf).1 (ns.map .str) [] [@&(zN p fr c),o1]=.ok (ns.map λn=>PyData.bool (zI c n).isSome,[@&(zN p fr c),o1]):=by
 let e:=qF (k:=1) (t:=.nm 0 2) (cond:=fYes) (elt:=(jaq.ev cf).1) (ds:=ns.map .str) (Γ:= [@&(zN p fr c),o1]) (λ_=>true) (λd=>match d with | .str n=>.bool (zI c n).isSome | _=>.none) (by
  intro y hy
  let⟨n,hc,rfl⟩:=xv.mp hy
  refine⟨[@&(zN p fr c),o1,@&(.str n)],_,rfl,rfl,rfl,λ_=>⟨.dat (.bool (zI c n).isSome),[@&(zN p fr c),o1,@&(.str n)],?_,rfl,rfl⟩⟩
  let hv:=Vj c n
  rwa[(zI c n).isSome=V]
  push_cast [jaq,kL2,zL,hv,cs1])
 rw[qG,xu]at e
 erw[e]
def Za (cf:CF):Prop:=∀ (p:Nat) (fr:List Bool) (c:Cls) (ns:Ab),ns.length<=60->cf "_law_group_word" [.d (zN p fr c),.d (qc ns)]=.ok (.d (.str (ZX c ns))) [none,none]
def vF(cf:CF):Za λ_=>runI 2 [false,false] [] jl cf:=λp fr c ns hl=>by
 let e:=ziu cf p fr c ns (o1:=some (.d (qc ns)))
 let eb:=v6 (λn=>(zI c n).isSome) ns
 let hs:=QS ns
 let hz:(ns.map PyData.str).length<=1000000:=by simp;lia
 let hml:(ns.map PyData.str).length=ns.length:=by simp
 let hz2:ns.length<=1000000:=by lia
 unfold ZX qc at *
 rwa[(ns.all λn=>(zI c n).isSome)=AA,zN p fr c=K]
 unfold jl
 rwa[jaq=B,(ns.map λn=>PyData.bool (zI c n).isSome)=BB,ns.map PyData.str=NS]
 cases AA
 ·dsimp! [e,eb,hz,zE]
 ·by_cases g:(Tab.dedup ns).length<ns.length
  ·let g':((Tab.dedup ns).length:Int)<(ns.length:Int):=by lia
   dsimp! [e,eb,hz,hz2,Jz,hs,hl,hml,g,g',zQ,zE]
  ·let g':¬ ((Tab.dedup ns).length:Int)<(ns.length:Int):=by lia
   dsimp! [e,eb,hz,hz2,Jz,hs,hl,hml,g,g',zQ,zE]
def zim(cf:CF)(hf:VG cf){pool:Ab}{p:Nat}{fr:List Bool}{c:Cls}(S:StOk pool p fr c){q:Nat}(hq:q<p)(ns:Ab)(ha:∀ n∈ns,(zI c n).isSome=true){o1 o3:Option OV} :
  qD 1 (.nm 0 4) fYes (jap.ev cf).1 (ns.map .str) [] [@&(zN p fr c),o1,@&(.int q),o3]=.ok (ns.map λn=>PyData.bool ((qg c n).any (qf q)),[@&(zN p fr c),o1,@&(.int q),o3]):=by
 let e:=qF (k:=1) (t:=.nm 0 4) (cond:=fYes) (elt:=(jap.ev cf).1) (ds:=ns.map .str) (Γ:= [@&(zN p fr c),o1,@&(.int q),o3]) (λ_=>true) (λd=>match d with | .str n=>.bool ((qg c n).any (qf q)) | _=>.none) (by
  intro y hy
  let⟨n,hc,rfl⟩:=xv.mp hy
  let⟨cs,hv⟩:=xS.mp (ha n hc)
  refine⟨[@&(zN p fr c),o1,@&(.int q),o3,@&(.str n)],_,rfl,rfl,rfl,λ_=>⟨.dat (.bool ((qg c n).any (qf q))),[@&(zN p fr c),o1,@&(.int q),o3,@&(.str n)],?_,rfl,rfl⟩⟩
  let hw:zI (clD c) n=some (zB cs):=by rw[zW,hv];rfl
  let ef:=hf.1 p cs q (S.bolt hv) hq
  rw[qN hv]
  rwa[cs.any (qf q)=V,zB cs=BD,(q:Int)=Q]
  push_cast [jap,kL2,zL,hw,ef,cs1])
 rw[qG,xu]at e
 erw[e]
def v7{α:Type}(f:α->Bool)(xs:List α):(qi (xs.map λa=>PyData.bool (f a))).map (λbs=>PyData.bool (bs.any id))=some (.bool (xs.any f)):=by
 have:qi (xs.map λa=>PyData.bool (f a))=some (xs.map f):=by
  induction xs with
  |nil=>rfl
  |cons a r ih=>simp[qi,ih]
 rw[this]
 simp[uH]
def zaI(p:Nat)(fr:List Bool)(c:Cls)(ns:Ab)(d:Int):Str :=
 if d<0∨(p:Int)<=d then "NoDye" else if fr[d.toNat]?=some true then (if ZX c ns= "" then (if ns.any (λn=>(qg c n).any (qf d.toNat)) then "TooDeep" else "") else ZX c ns) else "Spent"
def Jl (cf:CF):Prop:=∀ (pool:Ab) (p:Nat) (fr:List Bool) (c:Cls) (ns:Ab) (d:Int),StOk pool p fr c->ns.length<=60->cf "_law_dip_word" [.d (zN p fr c),.d (qc ns),.d (.int d)]=.ok (.d (.str (zaI p fr c ns d))) [none,none,none]
def Yb {c:Cls}{ns:Ab}(h:ZX c ns= ""):∀ n∈ns,(zI c n).isSome=true:=by
 unfold ZX at h
 split at h
 ·rename_i g;exact xG.mp g
 ·cases h
def y4(cf:CF)(hg:Za cf)(hf:VG cf):Jl λ_=>runI 4 [false,false,false] [] qy cf:=λpool p fr c ns d S hl=>by
 let k0:atI (zK p fr c) 0=some (.int p):=rfl
 let k1:atI (zK p fr c) 1=some (.list (frD fr)):=rfl
 let eg:=hg p fr c ns hl
 let hlf:=S.hl
 unfold zaI
 by_cases h0:d<0
 ·generalize qc ns=NS at *
  dsimp! [qy,h0,zE]
 let⟨q,rfl⟩:=xz (by lia:0<=d)
 by_cases h1:(p:Int)<=(q:Int)
 ·generalize qc ns=NS at *
  rwa[(q:Int)=Q,(p:Int)=P]
  dsimp! [qy,h0,h1,k0,zE]
 let hq:q<p:=by lia
 let hqf:fr[q]?=some fr[q]:=xb (by lia)
 let a1:=y8 hqf
 let hor:¬ ((q:Int)<0∨(p:Int)<=(q:Int)):=by lia
 rw[if_neg hor,Int.toNat_natCast,hqf]
 cases hv:fr[q] with
 |false=>
  rw[hv]at a1
  clear hqf hv
  rwa[qc ns=NS,frD fr=FF,(q:Int)=Q,(p:Int)=P]
  dsimp! [qy,h0,h1,k0,k1,a1,zE]
 |true=>
  rw[hv]at a1
  clear hqf hv
  by_cases g:ZX c ns= ""
  ·let e:=zim cf hf S hq ns (Yb g) (o1:=some (.d (qc ns))) (o3:=some (.d (.str "")))
   let eb:=v7 (λn=>(qg c n).any (qf q)) ns
   let hz:(ns.map PyData.str).length<=1000000:=by simp;lia
   let hz2:ns.length<=1000000:=by lia
   let hml:(ns.map PyData.str).length=ns.length:=by simp
   rw[g]at eg |-
   unfold qc at *
   rwa[(ns.any λn=>(qg c n).any (qf q))=AA]
   unfold qy
   rwa[jap=B,(ns.map λn=>PyData.bool ((qg c n).any (qf q)))=BB,ns.map PyData.str=NS,frD fr=FF,(q:Int)=Q,(p:Int)=P]
   let hse:PyData.eqv (.str "") (.str "")=true:=by decide
   let hly2:lay 20 (.str "")=true:=by kernel_rfl
   cases AA<;>dsimp! [h0,h1,k0,k1,a1,eg,e,eb,hz,hz2,hml,hse,hly2,zQ,zE]
  ·let hse:PyData.eqv (.str (ZX c ns)) (.str "")=false:=by
    show (ZX c ns== "")=false
    erw[x9.mpr g]
   let hly:lay 20 (.str (ZX c ns))=true:=by
    unfold ZX
    split
    ·split<;>kernel_rfl
    ·kernel_rfl
   let hly2:lay 20 (.str "")=true:=by kernel_rfl
   rwa[ZX c ns=GW,qc ns=NS,frD fr=FF,(q:Int)=Q,(p:Int)=P]
   dsimp! [qy,h0,h1,k0,k1,a1,eg,g,hse,hly,hly2,zE]
def vm(p:Nat)(cs:List Cl)(a:Int)(sh:List Int):Str :=
 if a<0∨(cs.length:Int)<=a then "NoCell" else if sh.length=p then (if sh.any (λx=>decide (x<0)||decide (9<x)) then "BadWish" else "") else "BadWish"
def zfQ(cf:CF)(sh:List Int){o0 o1 o2:Option OV} :
  qD 1 (.nm 0 3) fYes (jai.ev cf).1 (sh.map .int) [] [o0,o1,o2]=.ok (sh.map λx=>PyData.bool (decide (x<0)||decide (9<x)),[o0,o1,o2]):=by
 let e:=qF (k:=1) (t:=.nm 0 3) (cond:=fYes) (elt:=(jai.ev cf).1) (ds:=sh.map .int) (Γ:= [o0,o1,o2]) (λ_=>true) (λd=>match d with | .int x=>.bool (decide (x<0)||decide (9<x)) | _=>.none) (by
  intro y hy
  let⟨x,hc,rfl⟩:=xv.mp hy
  refine⟨[o0,o1,o2,@&(.int x)],_,rfl,rfl,rfl,λ_=>⟨.dat (.bool (decide (x<0)||decide (9<x))),[o0,o1,o2,@&(.int x)],?_,rfl,rfl⟩⟩
  by_cases g:x<0
  ·dsimp! [jai,g,zE]
  ·by_cases g2:9<x<;>dsimp! [jai,g,g2,zE])
 rw[qG,xu]at e
 erw[e]
structure Qy(cf:CF):Prop where
 wax:∀ (pool:Ab) (p:Nat) (fr:List Bool) (c:Cls) (n:Str) (cs:List Cl) (xs:List Int),StOk pool p fr c->zI c n=some cs->xs.length<=60->cf "_law_cell_word" [.d (zN p fr c),.d (.tuple [.str "wax",.str n,zA xs])]=.ok (.d (.str (Jj xs cs.length))) [none,none]
 wish:∀ (pool:Ab) (p:Nat) (fr:List Bool) (c:Cls) (n:Str) (cs:List Cl) (a:Int) (sh:List Int),StOk pool p fr c->zI c n=some cs->sh.length<=60->cf "_law_cell_word" [.d (zN p fr c),.d (.tuple [.str "wish",.str n,.int a,zA sh])]=.ok (.d (.str (vm p cs a sh))) [none,none]
def vQ(a b c d:PyData):atI [a,b,c,d] 0=some a:=rfl
def vR(a b c d:PyData):atI [a,b,c,d] 1=some b:=rfl
def vU(a b c d:PyData):atI [a,b,c,d] 2=some c:=rfl
def zhO(a b c d:PyData):atI [a,b,c,d] 3=some d:=rfl
def Q2(cf:CF)(hw:KB cf):Qy λ_=>runI 3 [false,false] [] qX cf where
 wax:=λpool p fr c n cs xs S hv hl=>by
  let hvn:zI (clD c) n=some (.list (cs.map Cl.D)):=by rw[zW,hv];rfl
  let e:=hw xs cs.length hl
  let hml:(cs.map Cl.D).length=cs.length:=by simp
  rwa[cs.map Cl.D=CC,zA xs=XS]
  dsimp! [qX,kL2,zL,hvn,e,hml,jz,jT,jJ,wq,zY,zE]
 wish:=λpool p fr c n cs a sh S hv hl=>by
  let k0:atI (zK p fr c) 0=some (.int p):=rfl
  let hvn:zI (clD c) n=some (.list (cs.map Cl.D)):=by rw[zW,hv];rfl
  let hml:(cs.map Cl.D).length=cs.length:=by simp
  let e:=zfQ cf sh (o0:=some (.d (zN p fr c))) (o1:=some (.d (.tuple [.str "wish",.str n,.int a,zA sh]))) (o2:=some (.d (.list (cs.map Cl.D))))
  let eb:=v7 (λx:Int=>decide (x<0)||decide (9<x)) sh
  let hsl:(sh.map PyData.int).length=sh.length:=by simp
  let hz:sh.length<=1000000:=by lia
  let hp9:p<=1000000:=by have:=S.hp;lia
  unfold vm
  unfold zA at *
  rwa[(sh.any λx=>decide (x<0)||decide (9<x))=AA,cs.map Cl.D=CC]
  unfold qX
  rwa[jai=B,(sh.map λx=>PyData.bool (decide (x<0)||decide (9<x)))=BB,sh.map PyData.int=SH]
  by_cases h0:a<0
  ·dsimp! [kL2,zL,hvn,hml,h0,vQ,vR,vU,wq,zY,zE]
  by_cases h1:(cs.length:Int)<=a
  ·dsimp! [kL2,zL,hvn,hml,h0,h1,vQ,vR,vU,wq,zY,zE]
  by_cases h2:sh.length=p
  ·let h2':((sh.length:Int)==(p:Int))=true:=by rw[beq_iff_eq];lia
   cases AA<;>dsimp! [k0,kL2,zL,hvn,hml,hsl,hz,hp9,h0,h1,h2,h2',e,eb,vQ,vR,vU,zhO,wq,zY,zQ,zS,zE]
  ·let h2':((sh.length:Int)==(p:Int))=false:=by rw[x9];lia
   dsimp! [k0,kL2,zL,hvn,hml,hsl,hz,h0,h1,h2,h2',vQ,vR,vU,zhO,wq,zY,zQ,zS,zE]
def Deed.Fit:Deed->Prop
 |.hang n _=>Asc n
 |.fold _=>True
 |.twin _ m=>Asc m
 |.wish _ _ sh=>sh.length<=60
 |.wax _ xs=>xs.length<=60
 |.dip ns _=>ns.length<=60
 |.boil ns=>ns.length<=60
 |.brew _=>True
def Deed.w(p:Nat)(fr:List Bool)(c:Cls):Deed->Str
 |.hang n k=>if Q8 c n= "" then (if 0<=k/\k<=40 then "" else "BadSize") else Q8 c n
 |.fold n=>if (zI c n).isSome then "" else "NoCloth"
 |.twin n m=>if (zI c n).isSome then Q8 c m else "NoCloth"
 |.wish n a sh=>match zI c n with | some cs=>vm p cs a sh | none=> "NoCloth"
 |.wax n xs=>match zI c n with | some cs=>Jj xs cs.length | none=> "NoCloth"
 |.dip ns d=>zaI p fr c ns d
 |.boil ns=>ZX c ns
 |.brew d=>if d<0∨(p:Int)<=d then "NoDye" else if fr[d.toNat]?=some true then "StillFresh" else ""
structure zfE(cf:CF):Prop where
 new:Jp cf
 grp:Za cf
 dip:Jl cf
 cell:Qy cf
def wx (cf:CF):Prop:=∀ (pool:Ab) (p:Nat) (fr:List Bool) (c:Cls) (d:Deed),StOk pool p fr c->d.Fit->cf "_law_word" [.d (zN p fr c),.d d.D]=.ok (.d (.str (d.w p fr c))) [none,none]
def yg(c:Cls)(n:Str):lay 20 (.str (Q8 c n))=true:=by
 unfold Q8
 split
 ·split<;>kernel_rfl
 ·kernel_rfl
def wY(a b:PyData):atI [a,b] 0=some a:=rfl
def wZ(a b:PyData):atI [a,b] 1=some b:=rfl
def zd9(cf:CF)(h:zfE cf):wx λ_=>runI 3 [false,false] [] zX cf:=λpool p fr c d S hF=>by
 let k0:atI (zK p fr c) 0=some (.int p):=rfl
 let k1:atI (zK p fr c) 1=some (.list (frD fr)):=rfl
 let hly2:lay 20 (.str "")=true:=by kernel_rfl
 cases d with
 |hang n k=>
  let e:=h.new p fr c n hF
  let hly:=yg c n
  simp only[Deed.D,Deed.w]
  by_cases g:Q8 c n= ""
  ·let hse:PyData.eqv (.str "") (.str "")=true:=by decide
   rw[g]at e
   rw[if_pos g]
   by_cases g1:0<=k
   ·by_cases g2:k<=40<;>dsimp! [zX,e,hse,hly2,g1,g2,jz,jT,jJ,wq,zY,zE]
   ·dsimp! [zX,e,hse,hly2,g1,jz,jT,jJ,wq,zY,zE]
  ·let hse:PyData.eqv (.str (Q8 c n)) (.str "")=false:=by
    show (Q8 c n== "")=false
    erw[x9.mpr g]
   rw[if_neg g]
   rwa[Q8 c n=NW]
   push_cast [zX,e,hse,hly,hly2,jz,jT,jJ,wq,zY,cs1]
 |fold n=>
  let hv:=zW c n
  simp only[Deed.D,Deed.w]
  cases g:zI c n with
  |none=>
   rw[g]at hv
   change _=none at hv
   push_cast [zX,kL2,zL,hv,wY,wZ,wq,zY,cs1]
  |some cs=>
   rw[g]at hv
   change _=some (zB cs) at hv
   rwa[zB cs=BD]
   push_cast [zX,kL2,zL,hv,wY,wZ,wq,zY,cs1]
 |twin n m=>
  let e:=h.new p fr c m hF
  let hv:=zW c n
  simp only[Deed.D,Deed.w]
  rwa[Q8 c m=NW]
  cases g:zI c n with
  |none=>
   rw[g]at hv
   change _=none at hv
   push_cast [zX,kL2,zL,hv,jz,jT,jJ,wq,zY,cs1]
  |some cs=>
   rw[g]at hv
   change _=some (zB cs) at hv
   rwa[zB cs=BD]
   push_cast [zX,kL2,zL,hv,e,jz,jT,jJ,wq,zY,cs1]
 |wish n a sh=>
  let hv:=zW c n
  simp only[Deed.D,Deed.w]
  cases g:zI c n with
  |none=>
   rw[g]at hv
   change _=none at hv
   rwa[zA sh=XS]
   push_cast [zX,kL2,zL,hv,vQ,vR,vU,wq,zY,cs1]
  |some cs=>
   rw[g]at hv
   change _=some (zB cs) at hv
   let e:=h.cell.wish pool p fr c n cs a sh S g hF
   dsimp only
   rwa[zB cs=BD,vm p cs a sh=WW,zA sh=XS]
   push_cast [zX,kL2,zL,hv,e,vQ,vR,vU,wq,zY,cs1]
 |wax n xs=>
  let hv:=zW c n
  simp only[Deed.D,Deed.w]
  cases g:zI c n with
  |none=>
   rw[g]at hv
   change _=none at hv
   rwa[zA xs=XS]
   push_cast [zX,kL2,zL,hv,jz,jT,jJ,wq,zY,cs1]
  |some cs=>
   rw[g]at hv
   change _=some (zB cs) at hv
   let e:=h.cell.wax pool p fr c n cs xs S g hF
   dsimp only
   rwa[zB cs=BD,Jj xs cs.length=WW,zA xs=XS]
   push_cast [zX,kL2,zL,hv,e,jz,jT,jJ,wq,zY,cs1]
 |dip ns d=>
  let e:=h.dip pool p fr c ns d S hF
  simp only[Deed.D,Deed.w]
  rwa[zaI p fr c ns d=WW,qc ns=NS]
  push_cast [zX,e,jz,jT,jJ,wq,zY,cs1]
 |boil ns=>
  let e:=h.grp p fr c ns hF
  simp only[Deed.D,Deed.w]
  rwa[ZX c ns=WW,qc ns=NS]
  push_cast [zX,e,wY,wZ,wq,zY,cs1]
 |brew d=>
  let hlf:=S.hl
  simp only[Deed.D,Deed.w]
  by_cases h0:d<0
  ·dsimp! [zX,h0,wY,wZ,wq,zY,zE]
  let⟨q,rfl⟩:=xz (by lia:0<=d)
  by_cases h1:(p:Int)<=(q:Int)
  ·generalize (q:Int)=Q at *
   rwa[(p:Int)=P]
   dsimp! [zX,h0,h1,k0,wY,wZ,wq,zY,zE]
  let hqf:fr[q]?=some fr[q]:=xb (by lia)
  let a1:=y8 hqf
  let hor:¬ ((q:Int)<0∨(p:Int)<=(q:Int)):=by lia
  rw[if_neg hor,Int.toNat_natCast,hqf]
  let t0:atI [PyData.str "",.str "StillFresh"] 0=some (.str ""):=rfl
  let t1:atI [PyData.str "",.str "StillFresh"] 1=some (.str "StillFresh"):=rfl
  cases hv:fr[q] with
  |false=>
   rw[hv]at a1
   clear hqf hv
   rwa[frD fr=FF,(q:Int)=Q,(p:Int)=P]
   dsimp! [zX,h0,h1,k0,k1,a1,t0,wY,wZ,wq,zY,zE]
  |true=>
   rw[hv]at a1
   clear hqf hv
   rwa[frD fr=FF,(q:Int)=Q,(p:Int)=P]
   dsimp! [zX,h0,h1,k0,k1,a1,t1,wY,wZ,wq,zY,zE]
def Yl {c:Cls}{n:Str}(h:Q8 c n= ""):nmB n=true/\zI c n=none:=by
 unfold Q8 at h
 split at h
 next g=>
  split at h
  ·exact absurd h (by decide)
  next g2=>
   exact⟨g,by cases q:zI c n with
    |none=>rfl
    |some _=>rw[q]at g2;exact absurd rfl g2⟩
 ·exact absurd h (by decide)
def KO:∀(l acc:Ab),(l.foldl PyProof.Rows.step_dedup acc).length<=acc.length+l.length
 |[],acc=>by simp
 |x::l,acc=>by
  rw[uy,xq]
  erw[xH (KO l _) ?_]
  unfold PyProof.Rows.step_dedup
  split<;>simp<;>lia
def Vt:∀(l acc:Ab),acc.length+l.length<=(l.foldl PyProof.Rows.step_dedup acc).length->l.Nodup/\∀ x∈l,x∉acc
 |[],acc,_=>⟨.nil,by simp⟩
 |x::l,acc,h=>by
  rw[uy]at h
  by_cases hx:acc.any (·==x)=true
  ·let e:PyProof.Rows.step_dedup acc x=acc:=if_pos hx
   rw[e]at h
   have:=KO l acc
   simp at h;lia
  ·let e:PyProof.Rows.step_dedup acc x=acc++ [x]:=if_neg hx
   rw[e]at h
   let⟨h1,h2⟩:=Vt l (acc++ [x]) (by simp at h |-;lia)
   refine⟨xB.mpr ⟨λhm=>h2 x hm (by simp),h1⟩,λy hy hm=>?_⟩
   rcases xw.mp hy with rfl | hy
   ·exact hx (ux.mpr ⟨_,hm,by simp⟩)
   ·exact h2 y hy (by simp[hm])
def Yc {c:Cls}{ns:Ab}(h:ZX c ns= ""):ns.Nodup/\∀ n∈ns,∃ cs,zI c n=some cs:=by
 refine⟨?_,λn hn=>xS.mp (Yb h n hn)⟩
 unfold ZX at h
 split at h
 ·split at h
  ·exact absurd h (by decide)
  next g=>
   exact (Vt ns [] (by simpa [Tab.dedup] using g)).1
 ·exact absurd h (by decide)
def Deed.mk:Deed->Ab
 |.hang n _=> [n]
 |.twin _ m=> [m]
 |_=> []
def Deed.good {pool:Ab}{p:Nat}{fr:List Bool}{c:Cls}(S:StOk pool p fr c){d:Deed}(hF:d.Fit) (hN:∀ n∈d.mk,nmB n=true->n∈pool) (h:d.w p fr c= ""):yK pool fr c d:=by
 let hlf:=S.hl
 cases d with
 |hang n k=>
  simp only[Deed.w]at h
  split at h
  next g=>
   let⟨g1,g2⟩:=Yl g
   split at h
   ·rename_i g3;exact⟨hN n (by simp[Deed.mk]) g1,g2,g3.1,g3.2⟩
   ·exact absurd h (by decide)
  ·rename_i g;exact absurd h g
 |fold n=>
  simp only[Deed.w]at h
  split at h
  ·rename_i g;exact xS.mp g
  ·exact absurd h (by decide)
 |twin n m=>
  simp only[Deed.w]at h
  split at h
  next g=>
   let⟨g1,g2⟩:=Yl h
   exact⟨xS.mp g,hN m (by simp[Deed.mk]) g1,g2⟩
  ·exact absurd h (by decide)
 |wish n a sh=>
  simp only[Deed.w]at h
  cases g:zI c n with
  |none=>rw[g]at h;dsimp only at h;exact absurd h (by decide)
  |some cs=>
   rw[g]at h
   dsimp only at h
   unfold vm at h
   split at h
   ·exact absurd h (by decide)
   next g1=>
    split at h
    next g2=>
     split at h
     ·exact absurd h (by decide)
     next g3=>
      refine⟨cs,g,by lia,by lia,by lia,λx hx=>?_⟩
      have:=g3
      rw[Bool.not_eq_true,uF]at this
      have:=this x hx
      simp at this
      lia
    ·exact absurd h (by decide)
 |wax n xs=>
  simp only[Deed.w]at h
  cases g:zI c n with
  |none=>rw[g]at h;dsimp only at h;exact absurd h (by decide)
  |some cs=>
   rw[g]at h
   dsimp only at h
   unfold Jj at h
   split at h
   next g1=>
    split at h
    ·exact absurd h (by decide)
    ·rename_i g2;exact⟨cs,g,g1,by simpa using g2,hF⟩
   ·exact absurd h (by decide)
 |dip ns d=>
  simp only[Deed.w]at h
  unfold zaI at h
  split at h
  ·exact absurd h (by decide)
  next g1=>
   split at h
   next g2=>
    split at h
    next g3=>
     let⟨g4,g5⟩:=Yc g3
     split at h
     ·exact absurd h (by decide)
     next g6=>
      refine⟨by lia,by lia,g2,g4,hF,λn hn=>?_⟩
      let⟨cs,hv⟩:=g5 n hn
      have:=g6
      rw[Bool.not_eq_true,uF]at this
      have:=this n hn
      rw[qN hv]at this
      exact⟨cs,hv,by simpa using this⟩
    ·rename_i g3;exact absurd h g3
   ·exact absurd h (by decide)
 |boil ns=>
  let⟨g4,g5⟩:=Yc h
  exact⟨g4,hF,g5⟩
 |brew d=>
  simp only[Deed.w]at h
  split at h
  ·exact absurd h (by decide)
  next g1=>
   split at h
   ·exact absurd h (by decide)
   next g2=>
    let hq:d.toNat<fr.length:=by lia
    let he:fr[d.toNat]?=some fr[d.toNat]:=xb hq
    refine⟨by lia,by lia,?_⟩
    rw[he]at g2 |-
    cases q:fr[d.toNat] with
    |false=>rfl
    |true=>rw[q]at g2;exact absurd rfl g2
def ww(cf:CF):Prop:=∀ b,zV b->∀(pool:Ab)(p:Nat)(fr:List Bool)(c:Cls)(q:Ab),StOk pool p fr c->1<=q.length->q.length<=10->(∀ n∈q,Nm n)->pool.length<=50 ->
 ∃ (d:Deed) (b':OV),d.Fit/\(∀ n∈d.mk,n∈q∨n∈odds)/\zV b'/\cf "_law_deed" [b,.d (zN p fr c),.d (jQ q)]=.ok (.d d.D) [some b',none,none]
def zkt {n:Str}(h:n∈odds) (g:nmB n=true):n= "zzzzzzzz" :=by
 simp only[odds,xw,uP,or_false]at h
 rcases h with rfl | rfl | rfl | rfl | rfl | rfl
 ·exact absurd g (by decide +kernel)
 ·exact absurd g (by decide +kernel)
 ·exact absurd g (by decide +kernel)
 ·exact absurd g (by decide +kernel)
 ·exact absurd g (by decide +kernel)
 ·rfl
def zko(p:Nat)(fr:List Bool)(c:Cls)(d:Deed):lay 20 (.str (d.w p fr c))=true:=by
 let hg:∀ ns,lay 20 (.str (ZX c ns))=true:=λns=>by
  unfold ZX
  split
  ·split<;>kernel_rfl
  ·kernel_rfl
 cases d with
 |hang n k=>
  simp only[Deed.w]
  split
  ·split<;>kernel_rfl
  ·erw[yg c n]
 |fold n=>simp only[Deed.w];split<;>kernel_rfl
 |twin n m=>
  simp only[Deed.w]
  split
  ·erw[yg c m]
  ·kernel_rfl
 |wish n a sh=>
  simp only[Deed.w]
  cases zI c n with
  |none=>kernel_rfl
  |some cs=>
   show lay 20 (.str (vm p cs a sh))=true
   unfold vm
   split
   ·kernel_rfl
   ·split
    ·split<;>kernel_rfl
    ·kernel_rfl
 |wax n xs=>
  simp only[Deed.w]
  cases zI c n with
  |none=>kernel_rfl
  |some cs=>
   show lay 20 (.str (Jj xs cs.length))=true
   unfold Jj
   split
   ·split<;>kernel_rfl
   ·kernel_rfl
 |dip ns d=>
  simp only[Deed.w]
  unfold zaI
  split
  ·kernel_rfl
  ·split
   ·split
    ·split<;>kernel_rfl
    ·erw[hg ns]
   ·kernel_rfl
 |boil ns=>erw[hg ns]
 |brew d=>
  simp only[Deed.w]
  split
  ·kernel_rfl
  ·split<;>kernel_rfl
def Y3(pool:Ab)(p:Nat)(P:Int)(f:PyData)(L:Nat)(o3 o4:PyData)(Γ:Gv):Prop:=∃(b:OV)(fr:List Bool)(c:Cls)(dn:Ao)(o5 o6:Option OV),zV b/\StOk pool p fr c/\j8 f dn=stA fr c/\dn.length<=L /\
 Γ= [some b,some (hV P f dn [] []),@&(zN p fr c),@&o3,@&o4,o5,o6]
def zcn (cf:CF) (hd:ww cf) (hw:wx cf) (ho:zcw cf) (hi:yI cf){pool q:Ab}{p:Nat}{P:Int}{f:PyData}{L:Nat}{m:PyData}(h1:pool.length<=50) (h2:∀ n∈pool,Nm n) (hq1:1<=q.length) (hq2:q.length<=10) (hq:∀ n∈q,n∈pool) (hz:("zzzzzzzz" :Str)∈pool) (hL:L<1000000){x:PyData}{Γ:Gv}(h:Y3 pool p P f L (jQ q) m Γ) :
  ∃ Γ1 Γ2,tgF (.nm 5 5) x Γ=some Γ1/\jal.ex cf [0,1] Γ1=.ok (.next,Γ2)/\Y3 pool p P f (L+1) (jQ q) m Γ2:=by
 let⟨b,fr,c,dn,o5,o6,hb,S,hn,hl,rfl⟩:=h
 let⟨d,b1,hF,hN,hb1,e1⟩:=hd b hb pool p fr c q S hq1 hq2 (λn hn=>h2 n (hq n hn)) h1
 let e2:=hw pool p fr c d S hF
 let hly:=zko p fr c d
 let hly2:lay 20 (.str "")=true:=by kernel_rfl
 let hK:zN p fr c=.list (zK p fr c):=rfl
 refine⟨[some b,some (hV P f dn [] []),@&(zN p fr c),@&(jQ q),@&m,@&x,o6],?_⟩
 by_cases g:d.w p fr c= ""
 ·let G:yK pool fr c d:=d.good S hF (λn hn g=>(hN n hn).elim (hq n) λh=>zkt h g ▸ hz) g
  let e3:=ho pool p fr c d P f dn [] (by lia) h2 S G (by lia) hn
  let e4:=hi pool p fr c d (by lia) S G
  let S':=S.step G
  let vv:=qv (zK p (d.fr fr) (d.cl p c))
  let hse:PyData.eqv (.str "") (.str "")=true:=by decide
  refine⟨[some b1,some (hV P f (dn++ [(d.D,stA (d.fr fr) (d.cl p c))]) [] []),@&(zN p (d.fr fr) (d.cl p c)),@&(jQ q),@&m,@&x,some (.d d.D)],rfl,?_,b1,d.fr fr,d.cl p c,_,_,_,hb1,S',JH _ _ _ _,by simp;lia,rfl⟩
  rw[g]at e2
  let hK2:zN p (d.fr fr) (d.cl p c)=.list (zK p (d.fr fr) (d.cl p c)):=rfl
  rw[hK2]
  rw[hK]at e1 e2 e4 |-
  obtain⟨X1,g1⟩:∃ XS,hV P f dn [] []=.o "House" ["pots","first","done","undone","places"] XS:=⟨_,rfl⟩
  rw[g1]at e3 |-
  rwa[hV P f (dn++ [(d.D,stA (d.fr fr) (d.cl p c))]) [] []=H2,zK p (d.fr fr) (d.cl p c)=K2,zK p fr c=K,d.D=DD,jQ q=Q]
  dsimp! [jal,e1,e2,e3,e4,vv,hse,hly2,zE,jq]
 ·let hse:PyData.eqv (.str (d.w p fr c)) (.str "")=false:=by
   show (d.w p fr c== "")=false
   erw[x9.mpr g]
  refine⟨[some b1,some (hV P f dn [] []),@&(zN p fr c),@&(jQ q),@&m,@&x,some (.d d.D)],rfl,?_,b1,fr,c,dn,_,_,hb1,S,hn,by lia,rfl⟩
  rw[hK]at e1 e2 |-
  obtain⟨X1,g1⟩:∃ XS,hV P f dn [] []=.o "House" ["pots","first","done","undone","places"] XS:=⟨_,rfl⟩
  rw[g1]
  rwa[d.w p fr c=W,zK p fr c=K,d.D=DD,jQ q=Q]
  push_cast [jal,e1,e2,hse,hly,hly2,jq,cs1]
def wX (cf:CF):Prop:=∀ b,zV b->∀ (pool q:Ab) (p:Nat) (fr:List Bool) (c:Cls) (P:Int) (f:PyData) (dn:Ao) (m:Nat),pool.length<=50->(∀ n∈pool,Nm n)->1<=q.length->q.length<=10->(∀ n∈q,n∈pool)->("zzzzzzzz" :Str)∈pool->StOk pool p fr c->j8 f dn=stA fr c->m<=60->dn.length<=1000 ->
 ∃ (b':OV) (fr':List Bool) (c':Cls) (dn':Ao),zV b'/\StOk pool p fr' c'/\j8 f dn'=stA fr' c'/\dn'.length<=dn.length+m/\cf "_law_worked" [b,hV P f dn [] [],.d (zN p fr c),.d (jQ q),.d (.int m)]=.ok (.d (zN p fr' c')) [some b',some (hV P f dn' [] []),none,none,none]
def zco(cf:CF)(hd:ww cf)(hw:wx cf)(ho:zcw cf)(hi:yI cf):wX λ_=>runI 7 [true,true,false,false,false] [0,1] ZI cf:=λb hb pool q p fr c P f dn m h1 h2 hq1 hq2 hq hz S hn hm hdl=>by
 let⟨Γ',e,b',fr',c',dn',o5,o6,hb',S',hn',hl',rfl⟩:=jf (t:=.nm 5 5) (body:=jal.ex cf [0,1]) (ds:=zZ m) (Γ:= [some b,some (hV P f dn [] []),@&(zN p fr c),@&(jQ q),@&(.int m),none,none])
  (λpre Γ=>Y3 pool p P f (dn.length+pre.length) (jQ q) (.int m) Γ) ⟨b,fr,c,dn,none,none,hb,S,hn,xg _,rfl⟩ (by
   intro pre x post ex Γ hI
   let hlen:pre.length<m:=by
    have:=congrArg List.length ex
    rw[zF]at this
    simp at this;lia
   let⟨Γ1,Γ2,a1,a2,a3⟩:=zcn cf hd hw ho hi h1 h2 hq1 hq2 hq hz (by lia) hI (x:=x)
   exact⟨Γ1,Γ2,a1,a2,by rw[xy];exact a3⟩)
 rw[zF]at hl'
 refine⟨b',fr',c',dn',hb',S',hn',hl',?_⟩
 let hz1: -1000000<=(m:Int)/\(m:Int)<=1000000:=by lia
 let hz2:m<=1000000:=by lia
 let hrl:=zF m
 obtain⟨X1,g1⟩:∃ XS,hV P f dn [] []=.o "House" ["pots","first","done","undone","places"] XS:=⟨_,rfl⟩
 rw[g1]at e |-
 rwa[hV P f dn' [] []=H2,zN p fr c=K,zN p fr' c'=K2,jQ q=Q]
 unfold ZI
 rwa[jal=B]
 dsimp! [e,hz1,hz2,hrl,zE,jq]
def zfq(cf:CF)(ht:qJ cf){b:OV}(hb:zV b)(st:List Int){o1 o2 o3 o4 o5:Option OV} :
  ∃(xs:List Int)(b':OV),zV b'/\xs.length=st.length/\qD 1 (.nm 0 6) fYes (jac.ev cf).1 (st.map .int) [] [some b,o1,o2,o3,o4,o5]=.ok (xs.map .int,[some b',o1,o2,o3,o4,o5]):=by
 let⟨ys,Γ',e,b',xs,hb',hl,hy,rfl⟩:=qH (k:=1) (t:=.nm 0 6) (cond:=fYes) (elt:=(jac.ev cf).1) (ds:=st.map .int) (Γ:= [some b,o1,o2,o3,o4,o5])
  (λpre ys Γ=>∃(b':OV)(xs:List Int),zV b'/\xs.length=pre.length/\ys=xs.map .int/\Γ= [some b',o1,o2,o3,o4,o5]) ⟨b,[],hb,rfl,rfl,rfl⟩ (by
   rintro pre d post e ys Γ ⟨b0,xs,hb0,hl,rfl,rfl⟩
   let hd:d∈st.map PyData.int:=by rw[e];simp
   let⟨z,_,rfl⟩:=xv.mp hd
   let⟨r,b1,g1,g2,hb1,e1⟩:=ht b0 hb0 2 (by decide) (by decide)
   refine⟨[some b0,o1,o2,o3,o4,o5,@&(.int z)],true,_,rfl,rfl,λ_=>⟨.dat (.int (if z+r<9 then z+r else 9)),[some b1,o1,o2,o3,o4,o5,@&(.int z)],.int (if z+r<9 then z+r else 9),?_,rfl,b1,xs++ [if z+r<9 then z+r else 9],hb1,by simp[hl],by simp,rfl⟩,λz=>nomatch z⟩
   push_cast [jac,e1,cs1])
 exact⟨xs,b',hb',by simpa using hl,by rw[e,hy]⟩
def zfr(cf:CF)(ht:qJ cf){b:OV}(hb:zV b)(m:Nat){o1 o2 o3 o4 o5:Option OV} :
  ∃(xs:List Int)(b':OV),zV b'/\xs.length=m/\qD 1 (.nm 0 6) fYes (jaa.ev cf).1 (zZ m) [] [some b,o1,o2,o3,o4,o5]=.ok (xs.map .int,[some b',o1,o2,o3,o4,o5]):=by
 let⟨ys,Γ',e,b',xs,hb',hl,hy,rfl⟩:=qH (k:=1) (t:=.nm 0 6) (cond:=fYes) (elt:=(jaa.ev cf).1) (ds:=zZ m) (Γ:= [some b,o1,o2,o3,o4,o5])
  (λpre ys Γ=>∃(b':OV)(xs:List Int),zV b'/\xs.length=pre.length/\ys=xs.map .int/\Γ= [some b',o1,o2,o3,o4,o5]) ⟨b,[],hb,rfl,rfl,rfl⟩ (by
   rintro pre d post e ys Γ ⟨b0,xs,hb0,hl,rfl,rfl⟩
   let⟨r,b1,g1,g2,hb1,e1⟩:=ht b0 hb0 11 (by decide) (by decide)
   let⟨r2,b2,g3,g4,hb2,e2⟩:=ht b1 hb1 9 (by decide) (by decide)
   by_cases z:r2=0
   ·subst z
    refine⟨[some b0,o1,o2,o3,o4,o5,@&d],true,_,rfl,rfl,λ_=>⟨.dat (.int (r-1)),[some b2,o1,o2,o3,o4,o5,@&d],.int (r-1),?_,rfl,b2,xs++ [r-1],hb2,by simp[hl],by simp,rfl⟩,λz=>nomatch z⟩
    push_cast [jaa,e1,e2,gInt,zS,zQ,cs1]
   ·let hz:(r2==0)=false:=x9.mpr z
    refine⟨[some b0,o1,o2,o3,o4,o5,@&d],true,_,rfl,rfl,λ_=>⟨.dat (.int (r-0)),[some b2,o1,o2,o3,o4,o5,@&d],.int (r-0),?_,rfl,b2,xs++ [r-0],hb2,by simp[hl],by simp,rfl⟩,λz=>nomatch z⟩
    dsimp! [jaa,e1,e2,hz,zS,zQ,zE])
 exact⟨xs,b',hb',by rw[zF]at hl;exact hl,by rw[e,hy]⟩
def wV (cf:CF):Prop:=∀ b,zV b->∀ (pool:Ab) (p:Nat) (fr:List Bool) (c:Cls) (n:Str) (a:Int),StOk pool p fr c->∃ (sh:List Int) (b':OV),zV b'/\sh.length<=60/\cf "_law_wanted" [b,.d (zN p fr c),.d (.str n),.d (.int a)]=.ok (.d (zA sh)) [some b',none,none,none]
def zck(cf:CF)(ht:qJ cf):wV λ_=>runI 6 [true,false,false,false] [0] qP cf:=λb hb pool p fr c n a S=>by
 let k0:atI (zK p fr c) 0=some (.int p):=rfl
 let k2:atI (zK p fr c) 2=some (.dict ((clD c).map dK)):=rfl
 let hu:=zL (clD c)
 let hK:zN p fr c=.list (zK p fr c):=rfl
 let hp:=S.hp
 obtain⟨cs,hcs,hrow⟩:∃ cs:List Cl,(∀ q∈cs,q.st.length=p)/\(zI (clD c) n).getD (.list [])=.list (cs.map Cl.D):=by
  cases g:zI c n with
  |none=>exact⟨[],by simp,by rw[zW,g];rfl⟩
  |some cs=>exact⟨cs,λq hq=>((S.bolt g).2 q hq).sl,by rw[zW,g];rfl⟩
 let hml:(cs.map Cl.D).length=cs.length:=by simp
 rw[hK]
 generalize hKK:zK p fr c=K at *
 have fin2:∀ b1,zV b1->∃ (r k:Int) (b2 b3:OV) (m:Nat) (xs:List Int),zV b3/\xs.length<=60/\m<=60/\cf "_law_take" [b1,.d (.int 4)]=.ok (.d (.int r)) [some b2,none] /\
   atI [PyData.int 0,.int 0,.int 1,.int (-1)] r=some (.int k)/\(if (0:Int)<p+k then (p:Int)+k else 0)=(m:Int) /\
   qD 1 (.nm 0 6) fYes (jaa.ev cf).1 (zZ m) [] [some b2,@&(.list K),@&(.str n),@&(.int a),@&(.list (cs.map Cl.D)),@&(.int m)]=.ok (xs.map .int,[some b3,@&(.list K),@&(.str n),@&(.int a),@&(.list (cs.map Cl.D)),@&(.int m)]):=λb1 hb1=>by
  let⟨r,b2,g2,g2',hb2,e2⟩:=ht b1 hb1 4 (by decide) (by decide)
  obtain⟨k,hk,hk1,hk2⟩:∃ k:Int,atI [PyData.int 0,.int 0,.int 1,.int (-1)] r=some (.int k)/\ -1<=k/\k<=1:=by
   have:r=0∨r=1∨r=2∨r=3:=by lia
   rcases this with rfl | rfl | rfl | rfl
   ·exact⟨0,rfl,by lia,by lia⟩
   ·exact⟨0,rfl,by lia,by lia⟩
   ·exact⟨1,rfl,by lia,by lia⟩
   ·exact⟨-1,rfl,by lia,by lia⟩
  obtain⟨m,hm,hm2⟩:∃ m:Nat,(if (0:Int)<p+k then (p:Int)+k else 0)=(m:Int)/\m<=60:=by
   split
   ·exact⟨((p:Int)+k).toNat,by lia,by lia⟩
   ·exact⟨0,rfl,by lia⟩
  let⟨xs,b3,hb3,hl,e3⟩:=zfr cf ht hb2 m (o1:=some (.d (.list K))) (o2:=some (.d (.str n))) (o3:=some (.d (.int a))) (o4:=some (.d (.list (cs.map Cl.D)))) (o5:=some (.d (.int m)))
  exact⟨r,k,b2,b3,m,xs,hb3,by lia,hm2,e2,hk,hm,e3⟩
 by_cases h0:0<=a
 ·by_cases h1:a<(cs.length:Int)
  ·let⟨j,rfl⟩:=xz h0
   let hj:j<cs.length:=by lia
   let⟨r,b1,g1,g1',hb1,e1⟩:=ht b hb 7 (by decide) (by decide)
   by_cases hr:0<r
   ·let⟨xs,b2,hb2,hl,e2⟩:=zfq cf ht hb1 cs[j].st (o1:=some (.d (.list K))) (o2:=some (.d (.str n))) (o3:=some (.d (.int j))) (o4:=some (.d (.list (cs.map Cl.D)))) (o5:=none)
    let hst:=hcs cs[j] (xO hj)
    refine⟨xs,b2,hb2,by lia,?_⟩
    let ar:atI (cs.map Cl.D) (j:Int)=some cs[j].D:=qW (by rw[xf,xb hj];rfl)
    let a0:atI [zA cs[j].st,.bool cs[j].w,zA cs[j].wi] 0=some (zA cs[j].st):=rfl
    let hD:cs[j].D=.tuple [zA cs[j].st,.bool cs[j].w,zA cs[j].wi]:=rfl
    let hz:(cs[j].st.map PyData.int).length<=1000000:=by simp;lia
    let hz2:cs[j].st.length<=1000000:=by lia
    rw[hD]at ar
    unfold zA at *
    rwa[cs.map Cl.D=CC,(clD c).map dK=CD,clD c=C1,cs[j].st.map PyData.int=ST,cs[j].wi.map PyData.int=WI]
    unfold qP
    rwa[jac=B1,jaa=B2]
    clear fin2
    dsimp! [k2,hu,hrow,hml,h0,h1,hj,e1,hr,ar,a0,hz,e2,zE]
   ·let⟨r4,k,b2,b3,m,xs,hb3,hl,hm60,e4,hk,hm,e5⟩:=fin2 b1 hb1
    refine⟨xs,b3,hb3,hl,?_⟩
    let hz1: -1000000<=(m:Int)/\(m:Int)<=1000000:=by lia
    let hz2:m<=1000000:=by lia
    let hrl:=zF m
    unfold zA at *
    rwa[cs.map Cl.D=CC,(clD c).map dK=CD,clD c=C1]
    unfold qP
    rwa[jac=B1,jaa=B2]
    clear fin2
    dsimp! [k0,k2,hu,hrow,hml,h0,h1,hj,e1,hr,e4,hk,hm,e5,hz1,hz2,hrl,zE]
  ·let⟨r4,k,b2,b3,m,xs,hb3,hl,hm60,e4,hk,hm,e5⟩:=fin2 b hb
   refine⟨xs,b3,hb3,hl,?_⟩
   let hz1: -1000000<=(m:Int)/\(m:Int)<=1000000:=by lia
   let hz2:m<=1000000:=by lia
   let hrl:=zF m
   unfold zA at *
   rwa[cs.map Cl.D=CC,(clD c).map dK=CD,clD c=C1]
   unfold qP
   rwa[jac=B1,jaa=B2]
   clear fin2
   dsimp! [k0,k2,hu,hrow,hml,h0,h1,e4,hk,hm,e5,hz1,hz2,hrl,zE]
 ·let⟨r4,k,b2,b3,m,xs,hb3,hl,hm60,e4,hk,hm,e5⟩:=fin2 b hb
  refine⟨xs,b3,hb3,hl,?_⟩
  let hz1: -1000000<=(m:Int)/\(m:Int)<=1000000:=by lia
  let hz2:m<=1000000:=by lia
  let hrl:=zF m
  unfold zA at *
  rwa[cs.map Cl.D=CC,(clD c).map dK=CD,clD c=C1]
  unfold qP
  rwa[jac=B1,jaa=B2]
  clear fin2
  dsimp! [k0,k2,hu,hrow,hml,h0,e4,hk,hm,e5,hz1,hz2,hrl,zE]
def dvw(x:PyData):(OV.d x).view=x:=rfl
def ziq(xs:Aa):(OV.l (xs.map .d)).view=.list xs:=by rw[OV.view,OV.views_d]
def Wz{n k:Nat}(h:k<=n):vG n (k:Int)=k:=by
 unfold vG
 rw[if_neg (by lia)]
 simp;lia
def zcu(ds:Aa)(al:Bool)(x:RF):Prop:=∃(sub ps:Aa)(b':OV),sub.Sublist ds/\ps.Perm sub/\(al=true->sub=ds)/\zV b'/\x=.ok (.l (ps.map .d)) [some b',none,none]
def zfU(cf:CF)(ht:qJ cf){b:OV}(hb:zV b){ds:Aa}(hl:ds.length<=1000){al:Bool}:zcu ds al (runI 5 [true,false,false] [0] QB cf [b,.d (.list ds),.d (.bool al)]):=by
 let⟨Γ',e,⟨sub,ps,b',o4,h1,h2,h3,hb',rfl⟩⟩:=jf (t:=.nm 4 4) (body:=jan.ex cf [0]) (ds:=ds) (Γ:= [some b,@&(.list ds),@&(.bool al),some (.l []),none])
  (λpre Γ=>∃(sub ps:Aa)(b':OV)(o4:Option OV),sub.Sublist pre/\ps.Perm sub/\(al=true->sub=pre)/\zV b'/\Γ= [some b',@&(.list ds),@&(.bool al),some (.l (ps.map .d)),o4]) ⟨[],[],b,none,.slnil,.refl _,λ_=>rfl,hb,rfl⟩ (by
   rintro pre x post e Γ ⟨sub,ps,b1,o4,h1,h2,h3,hb1,rfl⟩
   let hlt:=zca e
   let hsl:=h1.length_le
   let hpl:=h2.length_eq
   let ins:∀ b2,zV b2->∃ (j:Nat) (b3:OV),j<=ps.length/\zV b3/\cf "_law_take" [b2,.d (.int ((ps.length:Int)+1))]=.ok (.d (.int (j:Int))) [some b3,none]:=λb2 hb2=>by
    let⟨r,b3,g1,g2,hb3,e3⟩:=ht b2 hb2 ((ps.length:Int)+1) (by lia) (by lia)
    obtain⟨j,rfl⟩:∃ k:Nat,r=k:=⟨r.toNat,by lia⟩
    exact⟨j,b3,by lia,hb3,e3⟩
   let put:∀ j,j<=ps.length->(ps.take j++x::ps.drop j).Perm (sub++ [x]):=λj _=>by
    let p1:(ps.take j++x::ps.drop j).Perm (x::(ps.take j++ps.drop j)):=List.perm_middle
    rw[List.take_append_drop]at p1
    erw[p1.trans ((h2.cons x).trans (List.perm_append_singleton x sub).symm)]
   let hz:ps.length<1000000:=by lia
   let hmt:∀ j,(ps.take j++x::ps.drop j).map OV.d=(ps.map OV.d).take j++.d x::(ps.map OV.d).drop j:=λj=>by rw[xC,xp,List.map_take,uQ]
   cases al with
   |true=>
    let⟨j,b3,hj,hb3,e3⟩:=ins b1 hb1
    let hi:=Wz hj
    let hk1: -1000000<=(j:Int)/\(j:Int)<=1000000:=by lia
    refine⟨[some b1,@&(.list ds),@&(.bool true),some (.l (ps.map .d)),@&x],[some b3,@&(.list ds),@&(.bool true),some (.l ((ps.take j++x::ps.drop j).map .d)),@&x],rfl,?_,sub++ [x],ps.take j++x::ps.drop j,b3,@&x,h1.append (List.Sublist.refl _),put j hj,λ_=>by rw[h3 rfl],hb3,rfl⟩
    rw[hmt]
    simp![jan,e3,dvw,ziq,Ki,hz,hi,hk1]
   |false=>
    let⟨r,b2,g1,g2,hb2,e2⟩:=ht b1 hb1 4 (by decide) (by decide)
    by_cases hr:0<r
    ·let⟨j,b3,hj,hb3,e3⟩:=ins b2 hb2
     let hi:=Wz hj
     let hk1: -1000000<=(j:Int)/\(j:Int)<=1000000:=by lia
     refine⟨[some b1,@&(.list ds),@&(.bool false),some (.l (ps.map .d)),@&x],[some b3,@&(.list ds),@&(.bool false),some (.l ((ps.take j++x::ps.drop j).map .d)),@&x],rfl,?_,sub++ [x],ps.take j++x::ps.drop j,b3,@&x,h1.append (List.Sublist.refl _),put j hj,(λh=>nomatch h),hb3,rfl⟩
     rw[hmt]
     simp![jan,e2,hr,e3,dvw,ziq,Ki,hz,hi,hk1]
    ·refine⟨[some b1,@&(.list ds),@&(.bool false),some (.l (ps.map .d)),@&x],[some b2,@&(.list ds),@&(.bool false),some (.l (ps.map .d)),@&x],rfl,?_,sub,ps,b2,@&x,List.Sublist.trans h1 (List.sublist_append_left _ _),h2,(λh=>nomatch h),hb2,rfl⟩
     push_cast [jan,e2,hr,dvw])
 refine⟨sub,ps,b',h1,h2,h3,hb',?_⟩
 push_cast [QB,e]
def zcv (cf:CF):Prop:=∀ b,zV b->∀ (ds:Aa) (al:Bool),ds.length<=1000->zcu ds al (cf "_law_deal" [b,.d (.list ds),.d (.bool al)])
def zbT{ps sub:Aa}{xs:Ab}(h1:sub.Sublist (xs.map .str))(h2:ps.Perm sub):∃ ns:Ab,ps=ns.map .str/\ns.length<=xs.length:=by
 let hm:∀ x∈ps,∃ n:Str,x=.str n:=λx hx=>by
  let⟨n,_,e⟩:=xv.mp (h1.subset (h2.mem_iff.mp hx))
  exact⟨n,e.symm⟩
 let hl:ps.length<=xs.length:=by
  have:=h1.length_le
  rw[h2.length_eq];simpa using this
 clear h1 h2
 suffices H:∃ ns:Ab,ps=ns.map .str by
  let⟨ns,rfl⟩:=H
  exact⟨ns,rfl,by simpa using hl⟩
 clear hl
 induction ps with
 |nil=>exact⟨[],rfl⟩
 |cons x ps ih=>
  let⟨n,rfl⟩:=hm x (by simp)
  let⟨ns,rfl⟩:=ih λy hy=>hm y (by simp[hy])
  exact⟨n::ns,rfl⟩
def WH(ns:Ab):leaves (ns.map λn=>OV.d (.str n))=some (ns.map .str):=by
 have:=WG (ns.map PyData.str)
 rw[xu]at this;exact this
def yE(ns:Ab):(OV.l (ns.map λn=>.d (.str n))).view=.list (ns.map .str):=by
 have:=ziq (ns.map PyData.str)
 rw[xu]at this;exact this
def VE (cf:CF):Prop:=∀ b,zV b->∀ (pool:Ab) (p:Nat) (fr:List Bool) (c:Cls) (q:Ab),StOk pool p fr c->pool.length<=50->1<=q.length->q.length<=60->∃ (ns:Ab) (b':OV),ns.length<=60/\zV b'/\cf "_law_group" [b,.d (zN p fr c),.d (jQ q)]=.ok (.d (qc ns)) [some b',none,none]
def zdV(cf:CF)(ht:qJ cf)(hd:zcv cf)(ha:Qh cf):VE λ_=>runI 5 [true,false,false] [0] jK cf:=λb hb pool p fr c q S hp q1 q2=>by
 let⟨r0,b0,g0,g0',hb0,e0⟩:=ht b hb 3 (by decide) (by decide)
 let hS:=S.len
 let hcl:(clD c).length=c.length:=by simp[clD]
 let hks:(j5 ((clD c).map (·.1))).length=c.length:=by rw[(ZT _).length_eq];simp[clD]
 let⟨sub,ps,b1,s1,s2,_,hb1,e1⟩:=hd b0 hb0 ((j5 ((clD c).map (·.1))).map .str) (r0==0) (by simp[hks];lia)
 let⟨ns,rfl,hl⟩:=zbT s1 s2
 replace hl:ns.length<=50:=by lia
 let⟨w,b2,g2,g2',hb2,e2⟩:=ht b1 hb1 12 (by decide) (by decide)
 let k2:atI (zK p fr c) 2=some (.dict ((clD c).map dK)):=rfl
 let hu:=zL (clD c)
 let hK:zN p fr c=.list (zK p fr c):=rfl
 let h64:(clD c).length<64:=by lia
 let hz:ns.length<1000000:=by lia
 let hmm:(ns.map PyData.str).map OV.d=ns.map λn=>OV.d (.str n):=by simp
 rw[hmm]at e1
 rw[hK]
 unfold qc
 generalize hKS:(j5 ((clD c).map (·.1))).map PyData.str=KS at *
 rwa[zK p fr c=K,(clD c).map dK=CD,clD c=C1]
 clear s1 s2 hmm hks hS S hK
 let ap:∀ xs:Ab,∀ n,(xs.map λn=>OV.d (.str n))++ [OV.d (.str n)]=(xs++ [n]).map λn=>OV.d (.str n):=by simp
 by_cases w0:w=0
 ·subst w0
  let⟨n,b3,hn,hb3,e3⟩:=ha b2 hb2 q q1 q2
  refine⟨ns++ [n],b3,by simp;lia,hb3,?_⟩
  let lv:=WH (ns++ [n])
  rw[<- ap]at lv
  rwa[(ns++ [n]).map PyData.str=NS]
  let hxl:(ns.map λn=>OV.d (.str n)).length=ns.length:=by simp
  rwa[(ns.map λn=>OV.d (.str n))=X,jQ q=Q]
  dsimp! [jK,k2,hu,h64,hKS,e0,e1,e2,e3,lv,hxl,hz,zS,zQ,zE]
 let w0':(w==0)=false:=x9.mpr w0
 obtain⟨ms,hm,em⟩:∃ ms:Ab,ms.length<=51/\(IS.f (.and (.or (.p .Eq (.x 4 4) (.k 1)) (.p .Eq (.x 4 4) (.k 2))) (.p .Gt (.len (.x 3 3)) (.k 0))) (.cons (.app 3 3 (.ix (.x 3 3) (.k 0))) .nil) .nil).ex cf [0] [some b2,@&(.list K),@&(jQ q),some (.l (ns.map λn=>OV.d (.str n))),@&(.int w)]=.ok (.next,[some b2,@&(.list K),@&(jQ q),some (.l (ms.map λn=>OV.d (.str n))),@&(.int w)]):=by
  rwa[jQ q=Q]
  by_cases w12:w=1∨w=2
  ·let vv:=yE ns
   cases ns with
   |nil=>exact⟨[],by simp,by rcases w12 with rfl | rfl<;>dsimp! [show (OV.l []).view=.list [] from rfl,zS,zQ,zE]⟩
   |cons n ns=>
    refine⟨(n::ns)++ [n],by simp at hl |-;lia,?_⟩
    let hml:(ns.map PyData.str).length=ns.length:=by simp
    let hnl:(ns.map λn=>OV.d (.str n)).length=ns.length:=by simp
    let hz':ns.length+1<1000000:=hz
    let hp:(0:Int)<(ns.length:Int)+1:=by lia
    rw[<- ap]
    simp only[xp]at vv |-
    rwa[(ns.map λn=>OV.d (.str n))=X,ns.map PyData.str=Y]
    let ha:atI (OV.d (.str n)::X) 0=some (.d (.str n)):=qW (j:=0) rfl
    rcases w12 with rfl | rfl<;>dsimp! [vv,ha,hml,hnl,hz',hp,zS,zQ,zE]
  ·let w1:(w==1)=false:=x9.mpr λh=>w12 (.inl h)
   let w2:(w==2)=false:=x9.mpr λh=>w12 (.inr h)
   exact⟨ns,by lia,by dsimp! [w1,w2,zS,zQ,zE]⟩
 generalize hX:(ms.map λn=>OV.d (.str n))=X at *
 let hxl:X.length=ms.length:=by rw[<- hX];simp
 let hmz:ms.length<1000000:=by lia
 let vv:=yE ms
 rw[hX]at vv
 let hml:(ms.map PyData.str).length=ms.length:=by simp
 by_cases w2:w=2
 ·subst w2
  let⟨j,b3,g3,g3',hb3,e3⟩:=ht b2 hb2 ((ms.length:Int)+1) (by lia) (by lia)
  let⟨i,rfl⟩:=xz g3
  let⟨n,b4,hn,hb4,e4⟩:=ha b3 hb3 q q1 q2
  let hi:=Wz (n:=ms.length) (k:=i) (by lia)
  let hk1: -1000000<=(i:Int)/\(i:Int)<=1000000:=by lia
  refine⟨ms.take i++n::ms.drop i,b4,by simp;lia,hb4,?_⟩
  let lv:=WH (ms.take i++n::ms.drop i)
  rw[xC,xp,List.map_take,uQ,hX]at lv
  rwa[(ms.take i++n::ms.drop i).map PyData.str=NS,ms.map PyData.str=Y,jQ q=Q]
  unfold jK
  rwa[(IS.f (.and _ _) _ _)=B]
  dsimp! [em,vv,hml,k2,hu,h64,hKS,e0,e1,e2,e3,e4,lv,hxl,hmz,Ki,hi,hk1,zS,zQ,zE]
 ·let w2':(w==2)=false:=x9.mpr w2
  refine⟨ms,b2,by lia,hb2,?_⟩
  let lv:=WH ms
  rw[hX]at lv
  rwa[ms.map PyData.str=NS,jQ q=Q]
  unfold jK
  rwa[(IS.f (.and _ _) _ _)=B]
  dsimp! [em,vv,hml,k2,hu,h64,hKS,e0,e1,e2,lv,w0',w2',zS,zQ,zE]
structure zfA(cf:CF):Prop where
 take:qJ cf
 any:Qh cf
 size:Qz cf
 place:wy cf
 want:wV cf
 picks:KC cf
 group:VE cf
 dye:YT cf
def wds:List String:= ["hang","wish","wax","dip","boil","brew","dip","twin","wax","dip","wish","fold"]
def zcD{q:Ab}(hq:∀ n∈q,Nm n){n:Str}(h:n∈q∨n∈odds):Asc n:=by
 rcases h with h | h
 ·let⟨h1,h2,h3⟩:=hq n h
  exact⟨by lia,λc hc=>by have:=h3 c hc;lia⟩
 ·simp only[odds,xw,uP,or_false]at h
  rcases h with rfl | rfl | rfl | rfl | rfl | rfl<;>exact⟨by decide,by decide⟩
def zd6(cf:CF)(h:zfA cf):ww λ_=>runI 8 [true,false,false] [0] qC cf:=λb hb pool p fr c q S q1 q2 hq hp=>by
 let⟨r,b1,g1,g1',hb1,e1⟩:=h.take b hb 12 (by decide) (by decide)
 let⟨n,b2,hn,hb2,e2⟩:=h.any b1 hb1 q q1 (by lia)
 let ha:=zcD hq hn
 let k0:atI (zK p fr c) 0=some (.int p):=rfl
 obtain⟨cs,hcs,hrow⟩:∃ cs:Aa,cs.length<=40/\(zI (clD c) n).getD (.list [])=.list cs:=by
  cases g:zI c n with
  |none=>exact⟨[],by simp,by rw[zW,g];rfl⟩
  |some cs=>exact⟨cs.map Cl.D,by simpa using (S.clo g).1,by rw[zW,g];rfl⟩
 obtain⟨w,hw,aw⟩:∃ w,w∈wds/\atI (wds.map λx=>PyData.str (Str.ofString x)) r=some (.str (Str.ofString w)):=by
  let⟨x,hx,a⟩:=zcH (xs:=wds.map λx=>PyData.str (Str.ofString x)) g1 g1'
  let⟨w,hw,rfl⟩:=xv.mp hx
  exact⟨w,hw,a⟩
 simp only[wds,xp,List.map_nil]at aw
 let hS:=h.size b2 hb2
 let hA:=h.any b2 hb2 q q1 (by lia)
 let hP:=h.place b2 hb2 cs.length (by lia)
 let hC:=h.picks b2 hb2 cs.length (by lia)
 let hG:=h.group b2 hb2 pool p fr c q S hp q1 (by lia)
 let hW:w= "hang" ∨w= "fold" ∨w= "twin" ∨w= "wish" ∨w= "wax" ∨w= "dip" ∨w= "boil" ∨w= "brew" :=by
  simp only[wds,xw,uP,or_false]at hw
  rcases hw with rfl | rfl | rfl | rfl | rfl | rfl | rfl | rfl | rfl | rfl | rfl | rfl<;>simp
 let hN:=λb hb a=>h.want b hb pool p fr c n a S
 let hD:=λb hb=>h.dye b hb p S.hp
 rwa[jQ q=Q]
 rcases hW with rfl | rfl | rfl | rfl | rfl | rfl | rfl | rfl
 ·let⟨d,b3,hb3,e3⟩:=hS
  refine⟨.hang n d,b3,ha,by simpa [Deed.mk] using hn,hb3,?_⟩
  push_cast [qC,e1,e2,e3,aw,kL2,zL,hrow,wq,zY,cs1]
 ·refine⟨.fold n,b2,trivial,by simp[Deed.mk],hb2,?_⟩
  push_cast [qC,e1,e2,aw,kL2,zL,hrow,wq,zY,cs1]
 ·let⟨m,b3,hm,hb3,e3⟩:=hA
  refine⟨.twin n m,b3,zcD hq hm,by simpa [Deed.mk] using hm,hb3,?_⟩
  push_cast [qC,e1,e2,e3,aw,kL2,zL,hrow,wq,zY,cs1]
 ·let⟨a,b3,hb3,e3⟩:=hP
  let⟨sh,b4,hb4,hl,e4⟩:=hN b3 hb3 a
  refine⟨.wish n a sh,b4,hl,by simp[Deed.mk],hb4,?_⟩
  simp only[Deed.D]
  rwa[zA sh=SH]
  push_cast [qC,e1,e2,e3,e4,aw,kL2,zL,hrow,wq,zY,cs1]
 ·let⟨xs,b3,hb3,hl,e3⟩:=hC
  refine⟨.wax n xs,b3,hl,by simp[Deed.mk],hb3,?_⟩
  simp only[Deed.D]
  rwa[zA xs=XS]
  push_cast [qC,e1,e2,e3,aw,kL2,zL,hrow,wq,zY,cs1]
 ·let⟨ns,b3,hl,hb3,e3⟩:=hG
  let⟨d,b4,hb4,e4⟩:=hD b3 hb3
  refine⟨.dip ns d,b4,hl,by simp[Deed.mk],hb4,?_⟩
  simp only[Deed.D]
  rwa[qc ns=NS]
  push_cast [qC,e1,e2,e3,e4,aw,k0,kL2,zL,hrow,wq,zY,cs1]
 ·let⟨ns,b3,hl,hb3,e3⟩:=hG
  refine⟨.boil ns,b3,hl,by simp[Deed.mk],hb3,?_⟩
  simp only[Deed.D]
  rwa[qc ns=NS]
  push_cast [qC,e1,e2,e3,aw,kL2,zL,hrow,wq,zY,cs1]
 ·let⟨d,b3,hb3,e3⟩:=hD b2 hb2
  refine⟨.brew d,b3,trivial,by simp[Deed.mk],hb3,?_⟩
  push_cast [qC,e1,e2,e3,aw,k0,kL2,zL,hrow,wq,zY,cs1]
def StOk.mono(S:StOk pool p fr c)(h:∀ n∈pool,n∈pool'):StOk pool' p fr c:=⟨S.hp,S.hl,S.hb,S.nd,λq hq=>h _ (S.np q hq)⟩
def zga(xs:Ab)(n:Str):inD (.str n) (xs.map .str)=xs.contains n:=by
 unfold inD
 induction xs with
 |nil=>rfl
 |cons x xs ih=>
  rw[xp,xQ,List.contains_cons,ih,Bool.beq_comm (a:=n)]
  rfl
def YW(L:Nat)(Γ:Gv):Prop:=∃(b:OV)(ns:Ab)(o2 o3:Option OV),zV b/\(∀ n∈ns,Nm n)/\ns.length<=L/\(1<=L->1<=ns.length)/\Γ= [some b,some (.l (ns.map λn=>.d (.str n))),o2,o3]
def zbZ(cf:CF)(hn:QY cf){L:Nat}(hL:L<60){Γ:Gv}{x:PyData}(h:YW L Γ) :
  ∃ Γ1 Γ2,tgF (.nm 2 2) x Γ=some Γ1/\jak.ex cf [0] Γ1=.ok (.next,Γ2)/\YW (L+1) Γ2:=by
 let⟨b,ns,o2,o3,hb,hN,hl,hl1,rfl⟩:=h
 let⟨n,b1,hn1,hb1,e1⟩:=hn b hb
 let hly:lay 20 (.str n)=true:=hn1.ok
 let hal:(ns.map PyData.str).all (lay 20)=true:=by
  rw[uX,xG]
  erw[λy hy=>(hN y hy).ok]
 let hin:=zga ns n
 let vv:=yE ns
 let hz:ns.length<1000000:=by lia
 let hxl:(ns.map λn=>OV.d (.str n)).length=ns.length:=by simp
 refine⟨[some b,some (.l (ns.map λn=>.d (.str n))),@&x,o3],?_⟩
 by_cases g:n∈ns
 ·let hc:ns.contains n=true:=by simpa using g
  refine⟨[some b1,some (.l (ns.map λn=>.d (.str n))),@&x,@&(.str n)],rfl,?_,b1,ns,_,_,hb1,hN,by lia,λ_=>List.length_pos_of_mem g,rfl⟩
  rw[hc]at hin
  rwa[(ns.map λn=>OV.d (.str n))=X,ns.map PyData.str=Y]
  push_cast [jak,e1,hly,hal,hin,vv,jq,cs1]
 ·let hc:ns.contains n=false:=by simpa using g
  refine⟨[some b1,some (.l ((ns++ [n]).map λn=>.d (.str n))),@&x,@&(.str n)],rfl,?_,b1,ns++ [n],_,_,hb1,by
   intro m hm
   rcases xF.mp hm with h | h
   ·erw[hN m h]
   ·rw[uB.mp h];exact hn1,by simp;lia,by simp,rfl⟩
  rw[hc]at hin
  rw[xC]
  rwa[(ns.map λn=>OV.d (.str n))=X,ns.map PyData.str=Y]
  dsimp! [jak,e1,hly,hal,hin,vv,hxl,hz,zE,jq]
def YX (cf:CF):Prop:=∀ b,zV b->∃ (ns:Ab) (b':OV),1<=ns.length/\ns.length<=4/\(∀ n∈ns,Nm n)/\zV b'/\cf "_law_pool" [b]=.ok (.l (ns.map λn=>.d (.str n))) [some b']
def zgF(cf:CF)(ht:qJ cf)(hn:QY cf):YX λ_=>runI 4 [true] [0] QD cf:=λb hb=>by
 let⟨r,b1,g1,g1',hb1,e1⟩:=ht b hb 3 (by decide) (by decide)
 let⟨m,rfl⟩:=xz g1
 let⟨Γ',e,b',ns,o2,o3,hb',hN,hl,hl1,rfl⟩:=jf (t:=.nm 2 2) (body:=jak.ex cf [0]) (ds:=zZ (2+m)) (Γ:= [some b1,some (.l []),none,none])
  (λpre Γ=>YW pre.length Γ) ⟨b1,[],none,none,hb1,(λ_ h=>nomatch h),xg _,id,rfl⟩ (by
   intro pre x post ex Γ hI
   let hlen:pre.length<2+m:=by
    have:=congrArg List.length ex
    rw[zF]at this
    simp at this;lia
   let⟨Γ1,Γ2,a1,a2,a3⟩:=zbZ cf hn (by lia) hI (x:=x)
   exact⟨Γ1,Γ2,a1,a2,by rw[xy];exact a3⟩)
 rw[zF]at hl hl1
 refine⟨ns,b',hl1 (by lia),by lia,hN,hb',?_⟩
 let hz1: -1000000<=(2:Int)+(m:Int)/\(2:Int)+(m:Int)<=1000000:=by lia
 let hz2:((2:Int)+(m:Int)).toNat=2+m:=by lia
 let hz3:2+m<=1000000:=by lia
 let hrl:=zF (2+m)
 rwa[(ns.map λn=>OV.d (.str n))=X]
 unfold QD
 rwa[jak=B]
 dsimp! [e,e1,hz1,hz2,hz3,hrl,zE,jq]
end Wx
namespace L3
open PySem L2
section
variable [Cs]{K:Ah}{mg:Aq}{h:Heap}{d:DefI}
def el0{α:Type}{P:List α->Prop}(h:P []):∀ us:List α,us.length=0->P us:=λus e=>by
 rw[List.length_eq_zero_iff.mp e];exact h
def el1{α:Type}{P:List α->Prop}(h:∀ a0,P [a0]):∀ us:List α,us.length=1->P us:=λus e=>by
 match us,e with
 |[a0],_=>erw[h a0]
def el2{α:Type}{P:List α->Prop}(h:∀ a0 a1,P [a0,a1]):∀ us:List α,us.length=2->P us:=λus e=>by
 match us,e with
 |[a0,a1],_=>erw[h a0 a1]
def el3{α:Type}{P:List α->Prop}(h:∀ a0 a1 a2,P [a0,a1,a2]):∀ us:List α,us.length=3->P us:=λus e=>by
 match us,e with
 |[a0,a1,a2],_=>erw[h a0 a1 a2]
def el4{α:Type}{P:List α->Prop}(h:∀ a0 a1 a2 a3,P [a0,a1,a2,a3]):∀ us:List α,us.length=4->P us:=λus e=>by
 match us,e with
 |[a0,a1,a2,a3],_=>erw[h a0 a1 a2 a3]
def el5{α:Type}{P:List α->Prop}(h:∀ a0 a1 a2 a3 a4,P [a0,a1,a2,a3,a4]):∀ us:List α,us.length=5->P us:=λus e=>by
 match us,e with
 |[a0,a1,a2,a3,a4],_=>erw[h a0 a1 a2 a3 a4]
def biOk(K:Ah)(L:Ab):Bool:=L.all λx=>match W.nsIn K mainGlobals x with
 |some none=>true
 |_=>false
def bi_all{L:Ab}(X:K.In h)(G:h.Ns mainGlobals mg)(hk:biOk K L=true)(x:Str)(hx:L.contains x=true):mg x=none:=by
 have:=xG.mp hk x (ul.mp hx)
 split at this
 ·exact W.mg_none_of X G (by assumption)
 ·cases this
def giOk(K:Ah)(L:List (Str×Int)):Bool:=L.all λp=>match W.nsIn K mainGlobals p.1 with
 |some (some (.int i _))=>decide (i=p.2)
 |_=>false
def gi_of{L:List (Str×Int)}(X:K.In h)(G:h.Ns mainGlobals mg)(hk:giOk K L=true)(x:Str)(i:Int)(hx:L.contains (x,i)=true):∃ t,mg x=some (.int i t):=by
 have:=xG.mp hk _ (ul.mp hx)
 split at this
 next e=>
  exact⟨_,(W.mg_of X G e).trans (by rw[Xf this])⟩
 ·cases this
def gsOk(K:Ah)(L:List (Str×Str)):Bool:=L.all λp=>match W.nsIn K mainGlobals p.1 with
 |some (some (.str i _))=>decide (i=p.2)
 |_=>false
def gs_of{L:List (Str×Str)}(X:K.In h)(G:h.Ns mainGlobals mg)(hk:gsOk K L=true)(x:Str)(i:Str)(hx:L.contains (x,i)=true):∃ t,mg x=some (.str i t):=by
 have:=xG.mp hk _ (ul.mp hx)
 split at this
 next e=>
  exact⟨_,(W.mg_of X G e).trans (by rw[Xf this])⟩
 ·cases this
def fkOk(K:Ah)(L:List (Str×Str)):Bool:=L.all λp=>match W.nsIn K mainGlobals p.1 with
 |some (some (.ref C))=>W.plainGet K C Str.empty&&(W.hasDictIn K C&&(W.plainOver K C&&((match W.findIn K (.ref C) "__setattr__" with
   |some (some (.builtin b))=>decide (b= "object.__setattr__")
   |_=>false)&&match W.findIn K (.ref C) p.2 with
   |some none=>true
   |_=>false)))
 |_=>false
def fk_all{L:List (Str×Str)}(X:K.In h)(G:h.Ns mainGlobals mg)(hk:fkOk K L=true)(c f:Str)(hx:L.contains (c,f)=true):Cls K ((csOf mg).adr c)/\NoAttr K ((csOf mg).adr c) f:=by
 have:=xG.mp hk _ (ul.mp hx)
 split at this
 next e=>
  simp only[xh]at this
  let⟨a1,a2,a3,a4,a5⟩:=this
  erw[zke X G ⟨e,a1,a2,a3,?_⟩ ?_]
  ·split at a4
   next e2=>
    rw[e2,Xf a4]
   ·cases a4
  ·split at a5
   ·assumption
   ·cases a5
 ·cases this
def AllX(K:Ah)(mg:Aq):List DefI->Prop
 |[]=>True
 |d::r=> @Dx (csOf mg) K mg d/\AllX K mg r
def dx_all{W:Wd}:{L:List DefI}->AllX K mg L->(∀ cf k,(L.all λd=>d.ok W cf k)=true)->∀ d∈L,@Dx (csOf mg) K mg d/\d.Ok W
 |[],_,_=>λd hd=>nomatch hd
 |e::r,a,ok=>λd hd=>by
  simp only[xX,xh]at ok
  rcases xw.mp hd with rfl | hd
  ·exact⟨a.1,λcf k=>(ok cf k).1⟩
  ·erw[dx_all a.2 (λcf k=>(ok cf k).2) d hd]
end
end L3
namespace Wx
open PySem L2 L3
noncomputable abbrev mkD(a:Str)(s:Stmt)(N:Ab)(m:List Bool)(io:Ac)(b:IB)(k:Kd):DefI:=⟨a,s,N.take m.length,N,m,io,b,k⟩
noncomputable abbrev mkF(a:Str)(s:Nat)(N:Ab)(n:Nat)(b:IB):DefI:=mkD a (top s) N (.replicate n false) [] b .fn
noncomputable abbrev zik:=mkF "_wall" 0 ["k"] 1 Qq
noncomputable abbrev zcT:=mkF "bare" 18 ["pots","size","clear"] 2 jbk
noncomputable abbrev vE:=mkF "with_wish" 19 ["bolt","at","wish","stain","waxed","gone"] 3 jO
noncomputable abbrev V3:=mkF "with_wax" 20 ["bolt","cells"] 2 j3
noncomputable abbrev kC:=mkF "dipped" 21 ["bolt","dye"] 2 ZB
noncomputable abbrev kB:=mkF "boiled" 22 ["bolt"] 1 WQ
noncomputable abbrev V1:=mkF "has_cell" 23 ["bolt","at"] 2 j2
noncomputable abbrev Wm:=mkF "is_picture" 24 ["shades","pots"] 2 jS
noncomputable abbrev V0:=mkF "deepened" 25 ["stain","dye"] 2 QQ
noncomputable abbrev y0:=mkF "is_name" 29 ["text"] 1 JJ
noncomputable abbrev QH:=mkD "Stand.__init__" (jX 32 0) ["self","fresh","cloths"] [true,false,false] [0] ZA (.ini "Stand")
noncomputable abbrev vD:=mkF "new_stand" 33 ["pots"] 1 Qb
noncomputable abbrev wf:=mkF "behind_hang" 34 ["stand","parts","name","size"] 2 Zs
noncomputable abbrev we:=mkF "behind_fold" 35 ["stand","parts","name"] 2 Zr
noncomputable abbrev wg:=mkF "behind_twin" 36 ["stand","parts","name","new"] 2 Zt
noncomputable abbrev wj:=mkF "behind_wish" 37 ["stand","parts","name","at","wish"] 2 Zu
noncomputable abbrev Wl:=mkF "behind_wax" 38 ["stand","parts","name","cells"] 2 ZQ
noncomputable abbrev Wj:=mkF "behind_dip" 39 ["stand","parts","names","dye","changed"] 2 ZP
noncomputable abbrev wc:=mkF "behind_boil" 40 ["stand","parts","names"] 2 Zp
noncomputable abbrev wd:=mkF "behind_brew" 41 ["stand","parts","dye"] 2 Zq
noncomputable abbrev kA:=mkF "behind" 43 ["stand","deed","word","parts","change"] 2 qm
noncomputable abbrev wt:=mkF "with_cloths" 44 ["stand","changed","cloths"] 2 Zw
noncomputable abbrev V2:=mkF "with_pot" 45 ["stand","dye","is_fresh","fresh"] 3 QR
noncomputable abbrev vA:=mkF "check_new" 46 ["stand","name"] 2 Z9
noncomputable abbrev wm:=mkF "check_hangs" 47 ["stand","name"] 2 jx
noncomputable abbrev wo:=mkF "check_names" 48 ["stand","names","name"] 2 Zv
noncomputable abbrev vz:=mkF "check_dye" 49 ["stand","dye"] 2 Z8
noncomputable abbrev yZ:=mkF "bolt_of" 51 ["stand","names","bolt","name"] 2 JK
noncomputable abbrev QG:=mkD "House.__init__" (jX 53 0) ["self","pots"] [true,false] [0] jr (.ini "House")
noncomputable abbrev VY:=mkD "House.do" (jX 53 1) ["self","deed","stand","many"] [true,false] [0] ZO (.me "House" "do")
noncomputable abbrev Wi:=mkD "House.undo" (jX 53 2) ["self","pair"] [true] [0] JK (.me "House" "undo")
noncomputable abbrev Wh:=mkD "House.redo" (jX 53 3) ["self","pair"] [true] [0] JK (.me "House" "redo")
noncomputable abbrev Wf:=mkD "House.book" (jX 53 4) ["self"] [true] [0] Qq (.me "House" "book")
noncomputable abbrev J7:=mkD "House.ahead" (jX 53 5) ["self"] [true] [0] Qq (.me "House" "ahead")
noncomputable abbrev Wg:=mkD "House.mark" (jX 53 6) ["self","word"] [true,false] [0] zbQ (.me "House" "mark")
noncomputable abbrev VZ:=mkD "House.go" (jX 53 7) ["self","word"] [true,false] [0] zbR (.me "House" "go")
noncomputable abbrev J9:=mkD "House.names" (jX 53 9) ["self"] [true] [0] Zm (.me "House" "names")
noncomputable abbrev wa:=mkD "House.ready" (jX 53 10) ["self"] [true] [0] Zn (.me "House" "ready")
noncomputable abbrev Jx:=mkD "House.stains" (jX 53 11) ["self","name"] [true,false] [0] j0 (.me "House" "stains")
noncomputable abbrev Jy:=mkD "House.wishes" (jX 53 12) ["self","name"] [true,false] [0] j1 (.me "House" "wishes")
noncomputable abbrev wb:=mkD "House.waxed" (jX 53 13) ["self","name"] [true,false] [0] Zo (.me "House" "waxed")
noncomputable abbrev We:=mkD "House.bolt" (jX 53 14) ["self","names"] [true,false] [0] Qq (.me "House" "bolt")
noncomputable abbrev vy:=mkD "House.now" (jX 53 21) ["self"] [true] [0] Zd (.me "House" "now")
noncomputable abbrev J8:=mkD "House.cloth" (jX 53 22) ["self","name","stand"] [true,false] [0] jw (.me "House" "cloth")
noncomputable abbrev yY:=mkF "_law_whole" 55 ["_law_found"] 1 Z5
noncomputable abbrev VW:=mkF "_law_wholes" 56 ["_law_found"] 1 ZH
noncomputable abbrev VT:=mkF "_law_shades" 57 ["_law_found","_law_pots"] 2 ZG
noncomputable abbrev yU:=mkF "_law_mixed" 59 ["_law_number","_law_turn","_law_one","_law_two"] 2 Z3
noncomputable abbrev kt:=mkD "_law_take" (top 60) ["_law_box_here","_law_many","_law_left","_law_cell"] [true,false] [0] jm .fn
noncomputable abbrev yX:=mkD "_law_place" (top 61) ["_law_box_here","_law_size"] [true,false] [0] qL .fn
noncomputable abbrev yW:=mkD "_law_picks" (top 62) ["_law_box_here","_law_size","_law_spread","_law_many","_law_found","_law_k","_law_at"] [true,false] [0] jL .fn
noncomputable abbrev Jw:=mkF "_law_picks_word" 63 ["_law_cells","_law_size","_law_at"] 2 qE
noncomputable abbrev zaG:=mkF "_law_wax" 64 ["_law_rows","_law_cells"] 2 Jq
noncomputable abbrev zaE:=mkF "_law_dip" 65 ["_law_rows","_law_dye_here","_law_found","_law_stain","_law_waxed","_law_want"] 2 Zx
noncomputable abbrev kg:=mkF "_law_boil" 66 ["_law_rows"] 1 QA
noncomputable abbrev km:=mkF "_law_full" 67 ["_law_rows","_law_dye_here"] 2 yN
noncomputable abbrev ki:=mkD "_law_deal" (top 68) ["_law_box_here","_law_some","_law_all_of","_law_found","_law_one"] [true,false,false] [0] QB .fn
noncomputable abbrev vt:=mkF "_law_letters" 69 [] 0 Zj
noncomputable abbrev yV:=mkD "_law_named" (top 70) ["_law_box_here","_law_many"] [true] [0] Z4 .fn
noncomputable abbrev vq:=mkF "_law_is_name" 71 ["_law_word_here"] 1 Zi
noncomputable abbrev ko:=mkF "_law_kept" 72 ["_law_pots"] 1 QC
noncomputable abbrev yS:=mkF "_law_blank" 73 ["_law_pots","_law_size","_law_empty"] 2 ZZ
noncomputable abbrev Wb:=mkF "_law_new_word" 74 ["_law_kept_here","_law_name"] 2 qK
noncomputable abbrev Jv:=mkF "_law_group_word" 75 ["_law_kept_here","_law_names"] 2 jl
noncomputable abbrev Wa:=mkF "_law_dip_word" 76 ["_law_kept_here","_law_names","_law_dye_here","_law_word_here"] 3 qy
noncomputable abbrev J5:=mkF "_law_cell_word" 77 ["_law_kept_here","_law_deed_here","_law_rows"] 2 qX
noncomputable abbrev ku:=mkF "_law_word" 78 ["_law_kept_here","_law_deed_here","_law_word_here"] 2 zX
noncomputable abbrev zaD:=mkF "_law_did" 79 ["_law_kept_here","_law_deed_here","_law_fresh","_law_cloths","_law_rows","_law_name"] 2 qI
noncomputable abbrev Wc:=mkF "_law_pictures" 80 ["_law_found","_law_due"] 2 jU
noncomputable abbrev VU:=mkD "_law_stands" (top 81) ["_law_house","_law_kept_here","_law_ready","_law_names","_law_pans","_law_name","_law_rows","_law_waxed"] [true,false] [0] Zk .fn
noncomputable abbrev kq:=mkD "_law_pool" (top 82) ["_law_box_here","_law_found","_law_k","_law_name"] [true] [0] QD .fn
noncomputable abbrev w9:=mkD "_law_any_name" (top 83) ["_law_box_here","_law_pool_here"] [true,false] [0] je .fn
noncomputable abbrev yT:=mkD "_law_group" (top 84) ["_law_box_here","_law_kept_here","_law_pool_here","_law_found","_law_way"] [true,false,false] [0] jK .fn
noncomputable abbrev zaF:=mkD "_law_dye" (top 85) ["_law_box_here","_law_pots"] [true,false] [0] Zy .fn
noncomputable abbrev VV:=mkD "_law_wanted" (top 86) ["_law_box_here","_law_kept_here","_law_name","_law_at","_law_rows","_law_many"] [true,false,false,false] [0] qP .fn
noncomputable abbrev J6:=mkD "_law_hang_size" (top 87) ["_law_box_here"] [true] [0] qY .fn
noncomputable abbrev kj:=mkD "_law_deed" (top 88) ["_law_box_here","_law_kept_here","_law_pool_here","_law_some","_law_word_here","_law_name","_law_size","_law_at"] [true,false,false] [0] qC .fn
noncomputable abbrev VX:=mkD "_law_worked" (top 89) ["_law_box_here","_law_house","_law_kept_here","_law_pool_here","_law_many","_law_k","_law_deed_here"] [true,true,false,false,false] [0,1] ZI .fn
section
local macro_rules|`(#[$a])=>`(.cons $a .nil)|`(#[$a,$b,*])=>`(.cons $a #[$b,*])|`(.($n:num))=>`(.x $n $n)|`(($n:num :))=>`(.k $n)
def jaf:IB:=#[.a 6 6 (.dat (.call (.call "_law_worked" 5 (.io 1 1 (.io 3 3 #[.(6),.new (.lst #[.ix .(4) (0:),.(7)]),(1:)]))))),.f (.not (.call (.call "_law_stands" 2 (.io 3 3 #[.(6)])))) #[.ret (.dat (.b false))] .nil]
def jav:IE:=.ix (.x 0 9) (0:)
def jag:IB:=#[.loop (.nm 8 8) (.range (.n .Add (1:) (.call (.call "_law_take" 2 (.io 1 1 #[(10:)]))))) jaf,.ret (.dat (.f (.d .(7) (.ix .(6) (2:))) (.call (.call "_law_pictures" 2 #[.call (.m 3 3 "House" "stains" "House.stains" 2 #[.(7)]),.new (.comp 9 1 [] ["_law_cell"] (.nm 0 9) (.list (.g (.ix .(6) (2:)) .(7))) .yes jav)])) (.b true)))]
def jad:IB:=.cons (.e (.call (.m 3 3 "House" "do" "House.do" 2 #[.tup #[.q "twin",.ix .(4) (0:),.(7)]]))) (.cons (.a 6 6 (.dat (.call (.call "_law_did" 2 #[.(6),.tup #[.q "twin",.ix .(4) (0:),.(7)]])))) (.cons (.f (.not (.call (.call "_law_stands" 2 (.io 3 3 #[.(6)])))) #[.ret (.dat (.b false))] .nil) jag))
def jae:IB:=.cons (.a 7 7 (.dat (.call (.call "_law_named" 1 (.io 1 1 .nil))))) (.cons (.f (.or (.dnin (.ix .(4) (0:)) (.ix .(6) (2:))) (.d .(7) (.ix .(6) (2:)))) #[.ret (.call "_law_stands" 2 (.io 3 3 #[.(6)]))] .nil) jad)
end
def defs:List DefI:=(zik::zcT::vE::V3::kC::kB::V1::Wm::V0::y0::QH::vD::wf::we::wg::wj::Wl::Wj::wc::wd::kA::wt::V2::vA::wm::wo::vz::yZ::QG::VY::Wi::Wh::Wf::J7::Wg::VZ::J9::wa::Jx::Jy::wb::We::vy::J8::yY::VW::VT::yU::kt::yX::yW::Jw::zaG::zaE::kg::km::ki::vt::yV::vq::ko::yS::Wb::Jv::Wa::J5::ku::zaD::Wc::VU::kq::w9::yT::zaF::VV::J6::kj::VX:: [])
section
local macro_rules|`(#[$a])=>`(.cons $a .nil)|`(#[$a,$b,*])=>`(.cons $a #[$b,*])|`(.($n:num))=>`(.x $n $n)|`(($n:num :))=>`(.k $n)
def lawB:IB:=.cons (.a 2 2 (.dat (.n .Add (1:) (.call (.call "_law_take" 2 (.io 1 1 #[(5:)])))))) (.cons (.a 3 3 (.make "House" "House.__init__" 2 #[.(2)])) (.cons (.a 4 4 (.dat (.call (.call "_law_pool" 1 (.io 1 1 .nil))))) (.cons (.a 5 5 (.dat (.n .Add (1:) (.call (.call "_law_take" 2 (.io 1 1 #[(5:)])))))) (.cons (.e (.call (.m 3 3 "House" "do" "House.do" 2 #[.tup #[.q "hang",.ix .(4) (0:),.(5)]]))) (.cons (.a 6 6 (.dat (.call (.call "_law_did" 2 #[.call (.call "_law_kept" 1 #[.(2)]),.tup #[.q "hang",.ix .(4) (0:),.(5)]])))) (.cons (.a 6 6 (.dat (.call (.call "_law_worked" 5 (.io 1 1 (.io 3 3 #[.(6),.(4),.call (.call "_law_take" 2 (.io 1 1 #[(9:)]))])))))) jae))))))
end
def W:Wd:=⟨["all","any","bool","dict","enumerate","int","isinstance","len","list","max","min","range","set","sorted","tuple"],[("DEEPEST",9),("MOST_CELLS",40),("MOST_LETTERS",8)],[("LETTERS","abcdefghijklmnopqrstuvwxyz")],defs.filterMap (λd=>match d.kd with | .fn=>some (d.name,d.ps.length) | _=>none),[("DEEDS",[("hang","behind_hang"),("fold","behind_fold"),("twin","behind_twin"),("wish","behind_wish"),("wax","behind_wax"),("dip","behind_dip"),("boil","behind_boil"),("brew","behind_brew")])],[("House","done"),("House","first"),("House","places"),("House","pots"),("House","undone"),("Stand","cloths"),("Stand","fresh")],[("House","House.__init__",2),("Stand","Stand.__init__",3)],[("House","cloth","House.cloth",2),("House","do","House.do",2),("House","names","House.names",1),("House","now","House.now",1),("House","ready","House.ready",1),("House","stains","House.stains",2),("House","waxed","House.waxed",2),("House","wishes","House.wishes",2)]⟩
noncomputable abbrev sBox:Stmt:=top 58
noncomputable abbrev sLaw:Stmt:=top 90
def LN:Ab:= ["_law_script","_law_box_here","_law_pots","_law_house","_law_pool_here","_law_size","_law_kept_here","_law_name","_law_turn"]
def okLaw [Cs]:∀ cf k,lawB.chk cf k W (defScope sLaw) LN [] 0 (defBody sLaw).tail=true:=λcf k=>by kernel_rfl
structure zcz(cf:CF):Prop where
 take:qJ cf
 named:QY cf
 house:VF cf
 kept:YS cf
 doG:zcw cf
 did:yI cf
 stands:wT cf
 worked:wX cf
 pool:YX cf
 hstains:wN "House.stains" Cl.st cf
 pictures:ZE cf
noncomputable abbrev cN:=v9 defs
def ok40(n:Nat):zcz (cN (n+20)):=by
 have z0 k:VH (cN (k+1)):=zeb _
 have z1 k:qJ (cN (k+2)):=zhz _ (z0 k)
 have z2 k:Qi (cN (k+1)):=k5 _
 have z3 k:QY (cN (k+3)):=zed _ (z1 k) (z2 (k+1))
 have z4 k:Qk (cN (k+1)):=zfc _
 have z5 k:zcy (cN (k+2)):=ziM _ (z4 k)
 have z6 k:VF (cN (k+3)):=zdY _ (z5 k)
 have z7 k:YS (cN (k+1)):=zgf _
 have z8 k:wR (cN (k+1)):=ziN _
 have z9 k:ZY (cN (k+2)):=zhJ _ (z4 k)
 have za k:wP (cN (k+1)):=kY _
 have zb k:Qj (cN (k+2)):=Ym _ (za k)
 have zc k:YM (cN (k+1)):=zfO _
 have zd k:YR (cN (k+3)):=zf9 _ (z9 k) (zb k) (zc (k+1))
 have ze k:Zb (cN (k+1)):=zdW _
 have zf k:YQ (cN (k+2)):=zf6 _ (z4 k) (ze k)
 have zg k:YY (cN (k+3)):=zhC _ (z9 k) (ze (k+1)) (zb k)
 have zh k:Kz (cN (k+1)):=ziv _
 have zi k:zcA (cN (k+1)):=zi6 _
 have zj k:Y2 (cN (k+2)):=zhI _ (zh k) (zi k)
 have zk k:VJ (cN (k+3)):=zfu _ (z9 k) (ze (k+1)) (zj k)
 have zl k:Y0 (cN (k+2)):=zhH _ (zh k)
 have zm k:YZ (cN (k+3)):=zhF _ (z9 k) (ze (k+1)) (zl k)
 have zn k:QV (cN (k+2)):=zaB _ (ze k)
 have zo k:Ky (cN (k+1)):=zir _
 have zp k:KD (cN (k+2)):=zi7 _ (z4 k)
 have zq k:VD (cN (k+1)):=y2 _
 have zr k:yJ (cN (k+2)):=⟨λpots cs d hp hb hd=>zaJ (cN (k+1)) (zq k) hp hb hd,λd=>kD (cN (k+1)) d⟩
 have zs k:YO (cN (k+3)):=zfW _ (z9 k) (zn k) (zo (k+1)) (zp k) (zr k)
 have zt k:Jk (cN (k+1)):=Y7 _
 have zu k:VB (cN (k+3)):=zcK _ (z9 k) (zn k) (zt (k+1))
 have zv k:YN (cN (k+3)):=zfP _ (zo (k+1)) (zp k)
 have zw k:Kx (cN (k+3)):=⟨zd k,zf (k+1),zg k,zk k,zm k,zs k,zu k,zv k⟩
 have zx k:wJ (cN (k+4)):=zam _ (zw k)
 have zy k:zcw (cN (k+5)):=zkd _ (z8 (k+3)) (zx k)
 have zz k:VA (cN (k+1)):=zcJ _
 have z10 k:YU (cN (k+1)):=zgk _
 have z11 k:zcx (cN (k+1)):=⟨λpots cs d hp hb=>zgi (cN k) hp hb d,λd=>zd7 (cN k) d⟩
 have z12 k:wQ (cN (k+1)):=zbG _
 have z13 k:yI (cN (k+2)):=zil _ ⟨zz k,z10 k,z11 k,z12 k⟩
 have z14 k:Jn (cN (k+2)):=kT _ (z8 k)
 have z15 k:wM (cN (k+2)):=zbz _ (z8 k)
 have z16 k:QW (cN (k+2)):=zcP _ (z8 k) (ze k)
 have z17 k:wN "House.stains" Cl.st (cN (k+3)):=λp f dn un pl fr cl n cs h1 h2 h3=>kU (cN (k+2)) (z16 k) p f dn un pl fr cl n cs h1 h2 h3
 have z18 k:wN "House.wishes" Cl.wi (cN (k+3)):=λp f dn un pl fr cl n cs h1 h2 h3=>kW (cN (k+2)) (z16 k) p f dn un pl fr cl n cs h1 h2 h3
 have z19 k:wO (cN (k+3)):=zbB _ (z16 k)
 have z1a k:wA (cN (k+1)):=zft _
 have z1b k:wS (cN (k+2)):=zb7 _ (z1a k)
 have z1c k:ZE (cN (k+3)):=Yr _ (z1b k)
 have z1d k:wW (cN (k+2)):=zcl _ (z1a k)
 have z1e k:wT (cN (k+4)):=Km _ ⟨z14 (k+1),z15 (k+1),z17 k,z18 k,z19 k,z1c k,z1d (k+1)⟩
 have z1f k:Qh (cN (k+3)):=yL _ (z1 k)
 have z1g k:Qz (cN (k+3)):=yb _ (z1 k)
 have z1h k:wy (cN (k+3)):=λb hb size hs=>zeF (cN (k+2)) (z1 k) hb hs
 have z1i k:wV (cN (k+3)):=zck _ (z1 k)
 have z1j k:KC (cN (k+4)):=λb hb size hs=>zeD (cN (k+3)) (z1 (k+1)) (z1h k) hb hs
 have z1k k:zcv (cN (k+3)):=λb hb ds al hl=>zfU (cN (k+2)) (z1 k) hb hl
 have z1l k:VE (cN (k+4)):=zdV _ (z1 (k+1)) (z1k k) (z1f k)
 have z1m k:YT (cN (k+3)):=zgj _ (z1 k)
 have z1n k:ww (cN (k+5)):=zd6 _ ⟨z1 (k+2),z1f (k+1),z1g (k+1),z1h (k+1),z1i (k+1),z1j k,z1l k,z1m (k+1)⟩
 have z1o k:Jo (cN (k+2)):=Yh _ (z2 k)
 have z1p k:Jp (cN (k+3)):=Yn _ (z1o k)
 have z1q k:Za (cN (k+1)):=vF _
 have z1r k:VG (cN (k+1)):=⟨λpots cs d hb hd=>zd8 (cN k) hb hd,λd=>zbI (cN k) d⟩
 have z1s k:Jl (cN (k+2)):=y4 _ (z1q k) (z1r k)
 have z1t k:KB (cN (k+1)):=λxs size hx=>zeK (cN k) hx size
 have z1u k:Qy (cN (k+2)):=⟨(Q2 (cN (k+1)) (z1t k)).wax,(Q2 (cN (k+1)) (z1t k)).wish⟩
 have z1v k:wx (cN (k+4)):=zd9 _ ⟨z1p k,z1q (k+2),z1s (k+1),z1u (k+1)⟩
 have z1w k:wX (cN (k+6)):=zco _ (z1n k) (z1v (k+1)) (zy k) (z13 (k+3))
 have z1x k:YX (cN (k+4)):=zgF _ (z1 (k+1)) (z3 k)
 exact⟨z1 (n+18),z3 (n+17),z6 (n+17),z7 (n+19),zy (n+15),z13 (n+18),z1e (n+16),z1w (n+14),z1x (n+16),z17 (n+17),z1c (n+17)⟩
def Z6 (p:Int) (f:PyData) (dn:Ao):∃ XS,hV p f dn [] []=.o "House" ["pots","first","done","undone","places"] XS:=⟨_,rfl⟩
structure Tn(pool:Ab)(p:Nat)(F:PyData)(L:Nat)(b:OV)(fr:List Bool)(c:Cls)(dn:Ao):Prop where
 hb:zV b
 S:StOk pool p fr c
 q:j8 F dn=stA fr c
 l:dn.length<=L
section
variable (p:Nat)(F:PyData)(NS:Aa)(o5 o7:Option OV)
def GG(b:OV)(fr:List Bool)(c:Cls)(dn:Ao)(o8:Option OV):Gv:= [none,some b,@&(.int p),some (hV p F dn [] []),@&(.list NS),o5,@&(zN p fr c),o7,o8]
end
section
variable {cf:CF}(h:zcz cf){pool:Ab}{p L:Nat}{F:PyData}(hl:pool.length<=50)(hN:∀ n∈pool,Nm n)(hz:("zzzzzzzz" :Str)∈pool){NS:Aa}{x y:Str}(hx:x∈pool)(hy:y∈pool)(ha:atI NS 0=some (.str x)){b:OV}{fr:List Bool}{c:Cls}{dn:Ao}(T:Tn pool p F L b fr c dn)(hL:L<=900){o5 o8:Option OV}
include h hl hN hz hx hy ha T hL in
/-- one turn -/
theorem zhB:∃(b':OV)(fr':List Bool)(c':Cls)(dn':Ao),Tn pool p F (L+1) b' fr' c' dn'/\jaf.ex cf [] (GG p F NS o5 (@&(.str y)) b fr c dn o8)=.ok (.next,GG p F NS o5 (@&(.str y)) b' fr' c' dn' o8):=by
 let⟨b',fr',c',dn',hb',S',q',l',e1⟩:=h.worked b T.hb pool [x,y] p fr c p F dn 1 hl hN (by simp) (by simp) (by simp[hx,hy]) hz T.S T.q (by decide) (by have:=T.l;lia)
 refine⟨b',fr',c',dn',⟨hb',S',q',by have:=T.l;lia⟩,?_⟩
 let e2:=h.stands pool p fr' c' p F dn' [] [] (by lia) hN S' q'
 let hs:jQ [x,y]=.list [.str x,.str y]:=rfl
 let h1:((1:Nat):Int)=1:=rfl
 rw[hs,h1]at e1
 let⟨X1,g1⟩:=Z6 p F dn
 let⟨X2,g2⟩:=Z6 p F dn'
 unfold GG
 rw[g1]at e1 |-
 rw[g2]at e1 e2 |-
 rwa[zN p fr c=K,zN p fr' c'=K']
 dsimp! [jaf,e1,e2,ha,zE,jq]
include h hl hN hz hx hy ha T in
/-- all turns -/
theorem zfj{m:Nat}(hm:L+m<=900):∃(b':OV)(fr':List Bool)(c':Cls)(dn':Ao)(o8':Option OV),Tn pool p F (L+m) b' fr' c' dn'/\jk (.nm 8 8) (jaf.ex cf []) (zZ m) (GG p F NS o5 (@&(.str y)) b fr c dn o8)=.ok (.next,GG p F NS o5 (@&(.str y)) b' fr' c' dn' o8'):=by
 let⟨Γ',e,b',fr',c',dn',o8',T',rfl⟩:=jf (t:=.nm 8 8) (body:=jaf.ex cf []) (ds:=zZ m) (Γ:=GG p F NS o5 (@&(.str y)) b fr c dn o8)
  (λpre Γ=>∃(b':OV)(fr':List Bool)(c':Cls)(dn':Ao)(o8':Option OV),Tn pool p F (L+pre.length) b' fr' c' dn'/\Γ=GG p F NS o5 (@&(.str y)) b' fr' c' dn' o8')
  ⟨_,_,_,_,_,T,rfl⟩ (by
   rintro pre d post e Γ ⟨b1,fr1,c1,dn1,p8,T1,rfl⟩
   let h1:(zZ m)[pre.length]?=some d:=by rw[e];simp
   let⟨hlt,rfl⟩:=ju h1
   let⟨b2,fr2,c2,dn2,T2,e2⟩:=zhB h hl hN hz hx hy ha T1 (by lia)
   exact⟨_,_,rfl,e2,b2,fr2,c2,dn2,_,by rw[xy];exact T2,rfl⟩)
 rw[zF]at T'
 exact⟨b',fr',c',dn',o8',T',e⟩
include h hl hN hz hx hy ha T in
/-- the turns and the last look -/
theorem zkz(hL:L<=800):∃ Γ',jag.ex cf [] (GG p F NS o5 (@&(.str y)) b fr c dn none)=.ok (.ret (.d (.bool true)),Γ'):=by
 let⟨r,b1,g1,g1',hb1,e1⟩:=h.take b T.hb 10 (by decide) (by decide)
 let⟨m,rfl⟩:=xz g1
 let⟨b2,fr2,c2,dn2,o8,T2,e2⟩:=zfj h hl hN hz hx hy ha { T with hb:=hb1 } (m:=1+m) (by lia) (o5:=o5) (o8:=none)
 let hz1: -1000000<=(1:Int)+(m:Int)/\(1:Int)+(m:Int)<=1000000:=by lia
 let hz2:((1:Int)+(m:Int)).toNat=1+m:=by lia
 let hz3:1+m<=1000000:=by lia
 let hrl:=zF (1+m)
 let hK:zN p fr2 c2=.list (zK p fr2 c2):=rfl
 let k2:atI (zK p fr2 c2) 2=some (.dict ((clD c2).map dK)):=rfl
 let hu:=zL (clD c2)
 let hv:=zW c2 y
 unfold GG at e2 |-
 let⟨X1,g1⟩:=Z6 p F dn
 rw[g1]at e2 |-
 cases gv:zI c2 y with
 |none=>
  rw[gv]at hv
  replace hv:zI (clD c2) y=none:=hv
  rw[hK]at e2
  let⟨X2,g2⟩:=Z6 p F dn2
  rw[g2]at e2
  rwa[zK p fr2 c2=K,zN p fr c=K0,(clD c2).map dK=CD,clD c2=C1]
  unfold jag
  rwa[jaf=B1,jav=B2]
  exact⟨_,by dsimp! [e1,e2,hz1,hz2,hz3,hrl,k2,hu,hv,zE,jq];rfl⟩
 |some cs=>
  rw[gv]at hv
  replace hv:zI (clD c2) y=some (zB cs):=hv
  let hb:=T2.S.bolt gv
  let e3:=h.hstains p F dn2 [] [] (frD fr2) (clD c2) y cs hb.1 T2.q hv
  let q1:=h.pictures p Cl.st cs T2.S.hp hb.1 (λc hc=>(hb.2 c hc).sl)
  let v1:=qv (ja Cl.st cs)
  let c1:=yQ (k:=1) (t:=.nm 0 9) (elt:=(jav.ev cf).1) Cl.D (λc=>zA c.st) (xs:=cs) (Γ:=GG p F NS o5 (@&(.str y)) b2 fr2 c2 dn2 o8) (by
   intro c' hc
   refine⟨GG p F NS o5 (@&(.str y)) b2 fr2 c2 dn2 o8++ [some (.d c'.D)],.dat (zA c'.st),GG p F NS o5 (@&(.str y)) b2 fr2 c2 dn2 o8++ [some (.d c'.D)],rfl,?_,rfl,rfl⟩
   unfold Cl.D Zc GG
   rwa[zA c'.st=A,zA c'.wi=B]
   dsimp! [jav,jz,zE])
  unfold GG at c1
  rw[hK]at e2 c1
  let⟨X2,g2⟩:=Z6 p F dn2
  rw[g2]at e2 e3 c1
  let hbd:zB cs=.list (cs.map Cl.D):=rfl
  let hpc:(cs.map λc=>zA c.st)=ja Cl.st cs:=rfl
  rw[hpc]at c1
  rw[hbd]at hv
  let hcl:(cs.map Cl.D).length<=1000000:=by have:=hb.1;simp;lia
  rwa[ja Cl.st cs=PS,cs.map Cl.D=CS,zK p fr2 c2=K,zN p fr c=K0,(clD c2).map dK=CD,clD c2=C1]
  unfold jag
  rwa[jaf=B1,jav=B2]
  exact⟨_,by dsimp! [e1,e2,e3,q1,v1,c1,hcl,hz1,hz2,hz3,hrl,k2,hu,hv,zE,jq];rfl⟩
end
section
variable {cf:CF}(h:zcz cf){pool:Ab}{p L:Nat}{F:PyData}(hl:pool.length<=50)(hN:∀ n∈pool,Nm n)(hz:("zzzzzzzz" :Str)∈pool){NS:Aa}{x y:Str}(hx:x∈pool)(ha:atI NS 0=some (.str x)){b:OV}{fr:List Bool}{c:Cls}{dn:Ao}(T:Tn pool p F L b fr c dn)(hL:L<=700){o5:Option OV}
include h hl hN hz hx ha T hL in
/-- the twin,and what follows -/
theorem zkA(hy:y∈pool)(gx:∃ cs,zI c x=some cs)(gy:zI c y=none):∃ Γ',jad.ex cf [] (GG p F NS o5 (@&(.str y)) b fr c dn none)=.ok (.ret (.d (.bool true)),Γ'):=by
 let G:yK pool fr c (.twin x y):=⟨gx,hy,gy⟩
 let e1:=h.doG pool p fr c (.twin x y) p F dn [] (by lia) hN T.S G (by have:=T.l;lia) T.q
 let e2:=h.did pool p fr c (.twin x y) (by lia) T.S G
 let S':=T.S.step G
 let q':=JH F dn (Deed.twin x y).D (stA ((Deed.twin x y).fr fr) ((Deed.twin x y).cl p c))
 let T':Tn pool p F (L+1) b ((Deed.twin x y).fr fr) ((Deed.twin x y).cl p c) (dn++ [((Deed.twin x y).D,stA ((Deed.twin x y).fr fr) ((Deed.twin x y).cl p c))]):=⟨T.hb,S',q',by simp;exact T.l⟩
 let e3:=h.stands pool p _ _ p F _ [] [] (by lia) hN S' q'
 let⟨Γ',e4⟩:=zkz h hl hN hz hx hy ha T' (by lia) (o5:=o5)
 refine⟨Γ',?_⟩
 let hs:∀ s,(IB.cons s jag).ex cf []=sSeq (s.ex cf []) (jag.ex cf []):=λs=>rfl
 let hd:(Deed.twin x y).D=.tuple [.str "twin",.str x,.str y]:=rfl
 let vv:=qv (zK p ((Deed.twin x y).fr fr) ((Deed.twin x y).cl p c))
 let hK:zN p ((Deed.twin x y).fr fr) ((Deed.twin x y).cl p c)=.list (zK p ((Deed.twin x y).fr fr) ((Deed.twin x y).cl p c)):=rfl
 unfold GG at e4 |-
 rw[hK]at e3 e4
 rwa[zK p ((Deed.twin x y).fr fr) ((Deed.twin x y).cl p c)=K2,(dn++ [((Deed.twin x y).D,stA ((Deed.twin x y).fr fr) ((Deed.twin x y).cl p c))])=dn2]
 rw[hd]at e1 e2
 let⟨X1,g1⟩:=Z6 p F dn
 let⟨X2,g2⟩:=Z6 p F dn2
 rw[g1]at e1 |-
 rw[g2]at e1 e3 e4
 rwa[zN p fr c=K]
 unfold jad
 rwa[jag=B3]
 dsimp! [hs,e1,e2,e3,e4,ha,vv,zE,jq]
end
section
variable {cf:CF}(h:zcz cf){pool:Ab}{p L:Nat}{F:PyData}(hl:pool.length<=49)(hN:∀ n∈pool,Nm n)(hz:("zzzzzzzz" :Str)∈pool){NS:Aa}{x:Str}(hx:x∈pool)(ha:atI NS 0=some (.str x)){b:OV}{fr:List Bool}{c:Cls}{dn:Ao}(T:Tn pool p F L b fr c dn)(hL:L<=700){o5:Option OV}
include h hl hN hz hx ha T hL in
/-- a name for the twin -/
theorem zkB:∃ Γ',jae.ex cf [] (GG p F NS o5 none b fr c dn none)=.ok (.ret (.d (.bool true)),Γ'):=by
 let⟨y,b1,hy,hb1,e1⟩:=h.named b T.hb
 let e2:=h.stands pool p fr c p F dn [] [] (by lia) hN T.S T.q
 let T1:Tn (y::pool) p F L b1 fr c dn:=⟨hb1,T.S.mono λn h=>xl _ h,T.q,T.l⟩
 let hN1:∀ n∈y::pool,Nm n:=λn h=>by
  rcases xw.mp h with rfl | h
  ·erw[hy]
  ·erw[hN n h]
 let e3:=λgx gy=>zkA h (pool:=y::pool) (by simp;lia) hN1 (xl _ hz) (xl _ hx) ha T1 hL (o5:=o5) (y:=y) (by simp) gx gy
 let hs:∀ s,(IB.cons s jad).ex cf []=sSeq (s.ex cf []) (jad.ex cf []):=λs=>rfl
 let hK:zN p fr c=.list (zK p fr c):=rfl
 let k2:atI (zK p fr c) 2=some (.dict ((clD c).map dK)):=rfl
 let hu:=zL (clD c)
 let hvx:=zW c x
 let hvy:=zW c y
 let⟨X1,g1⟩:=Z6 p F dn
 unfold GG at e3 |-
 rw[hK]at e2 e3 |-
 rw[g1]at e2 e3 |-
 rwa[zK p fr c=K,(clD c).map dK=CD]
 cases gx:zI c x with
 |none=>
  rw[gx]at hvx
  replace hvx:zI (clD c) x=none:=hvx
  rwa[clD c=C1]
  unfold jae
  rwa[jad=B4]
  exact⟨_,by dsimp! [hs,e1,e2,ha,k2,hu,hvx,zE,jq];rfl⟩
 |some cs=>
  cases gy:zI c y with
  |some cs'=>
   rw[gx]at hvx
   rw[gy]at hvy
   replace hvx:zI (clD c) x=some (zB cs):=hvx
   replace hvy:zI (clD c) y=some (zB cs'):=hvy
   rwa[zB cs=Z1,zB cs'=Z2,clD c=C1]
   unfold jae
   rwa[jad=B4]
   exact⟨_,by dsimp! [hs,e1,e2,ha,k2,hu,hvx,hvy,zE,jq];rfl⟩
  |none=>
   let⟨Γ',e3⟩:=e3 ⟨cs,gx⟩ gy
   rw[gx]at hvx
   rw[gy]at hvy
   replace hvx:zI (clD c) x=some (zB cs):=hvx
   replace hvy:zI (clD c) y=none:=hvy
   rwa[zB cs=Z1,clD c=C1]
   unfold jae
   rwa[jad=B4]
   exact⟨Γ',by dsimp! [hs,e1,e3,ha,k2,hu,hvx,hvy,zE,jq]⟩
end
def nm_z:Nm "zzzzzzzz" :=⟨by decide,by decide,by decide⟩
def law_run(cf:CF)(h:zcz cf)(cells:List Int)(i l t s:Int)(hi:0<=i):∃ Γ',lawB.ex cf [] (none::some (Qu cells i l t s)::List.replicate (LN.length-2) none)=.ok (.ret (.d (.bool true)),Γ'):=by
 let hB:zV (Qu cells i l t s):=⟨_,_,_,_,_,hi,rfl⟩
 generalize Qu cells i l t s=b at hB
 let⟨r1,b1,p1,p2,hb1,e1⟩:=h.take b hB 5 (by decide) (by decide)
 let⟨q,rfl⟩:=xz p1
 let hq:q+1<=12:=by lia
 let⟨ns,b2,l1,l2,hns,hb2,e2⟩:=h.pool b1 hb1
 obtain⟨x,nr,rfl⟩:∃ x nr,ns=x::nr:=by
  cases ns with
  |nil=>simp at l1
  |cons x nr=>exact⟨x,nr,rfl⟩
 let⟨s1,b3,s1a,s1b,hb3,e3⟩:=h.take b2 hb2 5 (by decide) (by decide)
 generalize hP:q+1=p at *
 let w1:=h.house p hq
 let w2:=h.kept p hq
 let hF:stV (List.replicate p (.bool true)) []=stA (List.replicate p true) []:=by
  unfold stA frD clD;rw[ur];rfl
 rw[hF]at w1
 let hpN:∀ n∈(x::nr)++(["zzzzzzzz"]:Ab),Nm n:=λn hn=>by
  rcases xF.mp hn with h | h
  ·erw[hns n h]
  ·rw[uB.mp h];exact nm_z
 let hpz:("zzzzzzzz" :Str)∈(x::nr)++(["zzzzzzzz"]:Ab):=by simp
 let hpx:x∈(x::nr)++(["zzzzzzzz"]:Ab):=by simp
 let hpl:((x::nr)++(["zzzzzzzz"]:Ab):Ab).length<=49:=by simp at l2 |-;lia
 let hpq:∀ n∈x::nr,n∈(x::nr)++(["zzzzzzzz"]:Ab):=λn hn=>xF.mpr (.inl hn)
 rwa[(x::nr)++(["zzzzzzzz"]:Ab)=pool]
 let S0:StOk pool p (List.replicate p true) []:=⟨hq,by simp,by simp,by simp,by simp⟩
 let G:yK pool (List.replicate p true) [] (.hang x (1+s1)):=⟨hpx,rfl,by lia,by lia⟩
 let e4:=h.doG pool p _ [] (.hang x (1+s1)) p (stA (List.replicate p true) []) [] [] (by lia) hpN S0 G (by simp) rfl
 let e5:=h.did pool p _ [] (.hang x (1+s1)) (by lia) S0 G
 let S1:=S0.step G
 let q1:=JH (stA (List.replicate p true) []) [] (Deed.hang x (1+s1)).D (stA ((Deed.hang x (1+s1)).fr (List.replicate p true)) ((Deed.hang x (1+s1)).cl p []))
 let⟨s2,b4,s2a,s2b,hb4,e6⟩:=h.take b3 hb3 9 (by decide) (by decide)
 let⟨m,rfl⟩:=xz s2a
 let⟨b5,fr,c,dn,hb5,S2,q2,l3,e7⟩:=h.worked b4 hb4 pool (x::nr) p _ _ p (stA (List.replicate p true) []) _ m (by lia) hpN l1 (by lia) hpq hpz S1 q1 (by lia) (by simp)
 let ha:atI ((x::nr).map PyData.str) 0=some (.str x):=qW (j:=0) rfl
 let⟨Γ',e8⟩:=zkB h hpl hpN hpz hpx ha (L:=1+m) ⟨hb5,S2,q2,by simpa using l3⟩ (by lia) (o5:=some (.d (.int (1+s1))))
 refine⟨Γ',?_⟩
 let hd:(Deed.hang x (1+s1)).D=.tuple [.str "hang",.str x,.int (1+s1)]:=rfl
 let hs:∀ s,(IB.cons s jae).ex cf []=sSeq (s.ex cf []) (jae.ex cf []):=λs=>rfl
 let vv:=qv (zK p ((Deed.hang x (1+s1)).fr (List.replicate p true)) ((Deed.hang x (1+s1)).cl p []))
 let vk:=qv (zK p (List.replicate p true) [])
 let hK:zN p ((Deed.hang x (1+s1)).fr (List.replicate p true)) ((Deed.hang x (1+s1)).cl p [])=.list (zK p ((Deed.hang x (1+s1)).fr (List.replicate p true)) ((Deed.hang x (1+s1)).cl p [])):=rfl
 let hk0:zN p (List.replicate p true) []=.list (zK p (List.replicate p true) []):=rfl
 let vs:=yE (x::nr)
 let hsl:jQ (x::nr)=.list ((x::nr).map .str):=rfl
 let hm1:(1:Int)+(q:Int)=(p:Int):=by lia
 rw[hK,hsl]at e7
 rw[hk0]at e5
 unfold GG at e8
 rwa[zK p ((Deed.hang x (1+s1)).fr (List.replicate p true)) ((Deed.hang x (1+s1)).cl p [])=K1,zK p (List.replicate p true) []=K0,zN p fr c=K2,([]++ [((Deed.hang x (1+s1)).D,stA ((Deed.hang x (1+s1)).fr (List.replicate p true)) ((Deed.hang x (1+s1)).cl p []))])=dn1]
 rw[hd]at e4 e5
 rwa[stA (List.replicate p true) []=F]
 let⟨X0,g0⟩:=Z6 p F []
 let⟨X1,g1⟩:=Z6 p F dn1
 let⟨X2,g2⟩:=Z6 p F dn
 rw[g0]at w1 e4
 rw[g1]at e4 e7
 rw[g2]at e7 e8
 clear S0 S1 S2 G q1 q2 hpN hpq hns l1 l2 l3 hF hd hK hk0 hsl
 rwa[(x::nr).map PyData.str=NS,((x::nr).map λn=>OV.d (.str n))=NO,(p:Int)=P,(q:Int)=Q,(m:Int)=M]
 simp only[lawB,LN]
 rwa[jae=B5]
 dsimp! [hs,e1,e2,e3,e4,e5,e6,e7,e8,w1,w2,ha,vv,vk,vs,hm1,zE,yD,jq]
section
variable [L2.Cs]{P:Ar}{w:World}{K:Ah}{mg:Aq}{base:Heap}
def zcR(ns:List Int)(lo hi:Option Int):∃ ms:List Int,Ju (ns.map V.int) lo hi=ms.map V.int/\ms.length<=ns.length:=by
 refine⟨(ns.drop (HT.sIx (ns.map V.int).length 0 lo)).take (HT.sIx (ns.map V.int).length (ns.map V.int).length hi-HT.sIx (ns.map V.int).length 0 lo),?_,?_⟩
 ·unfold Ju
  rw[List.map_take,uQ]
 ·rw[xI,uw];lia
def scBox:j9 ["_law_script","_law_seed","_law_cell"] ["_law_script"] (defScope sBox):=⟨rfl,rfl,rfl,by decide +kernel,rfl,by decide +kernel,by decide +kernel⟩
def kn_box (D:Df K mg "_law_box" sBox ["_law_script"]) (B:mg "list" =none):Kn P w K mg base CX0 "_law_box" 1 (ze6 K) :=
 D.kn (k:=0) scBox (λvs H Q E ⟨a,ns,e,_⟩=>by rw[e];rfl) λf cdv A outer s H vs Q E hr ⟨a,ns,e,hS,hlen,kk⟩=>by
  subst e
  refine PSs.wp (Qc (WX (i:=1) scBox.nd rfl (Or.inl rfl) pe_int)
   (Qc (zeG PassesOwn.never rfl (K5 (Ja yv (pv 0) yp (yq pe_int))) (K4 (i:=2) scBox.nd rfl (Or.inl rfl))
    (wH (WX (i:=1) scBox.nd rfl (Or.inl rfl) (WR zei (WR Kc (WR Kc (WR zej (pv 1) pe_int) (pv 2)) pe_int) pe_int))))
   (wH (Kh (zeu (zT (js Q0 rfl B ZJ (zT (Ja yv (pv 0) yp (yq pe_int)) pa_nil)) (zT pe_int (zT pe_int (zT pe_int (zT (pv 1) pa_nil)))))))))) ?_
  let⟨ms,ems,hms⟩:=zcR ns none (some 63)
  refine⟨_,rfl,_,rfl,a,_,rfl,hS,λq nq=>⟨q,rfl,⟨_,SqL.of zH⟩,zdQ (K:=K) (a:=q) (xs:=Ju (ns.map V.int) none (some 63)) (λi σ H2=>H2=upd H q (.lst (Ju (ns.map V.int) none (some 63)))/\∃ sd v,σ= [some (.ref a),some (.int sd),v])
   ⟨rfl,0,none,rfl⟩ (λi σ H2 _ ⟨e,_⟩=>by rw[e];exact SqL.of zH) ?_ ?_⟩⟩
  ·rintro i x σ H2 hx ⟨rfl,sd,v,rfl⟩
   obtain⟨z,rfl⟩:∃ z,x=V.int z:=by
    rw[ems]at hx
    have:=ug hx
    let⟨z,_,rfl⟩:=xv.mp this
    exact⟨z,rfl⟩
   refine⟨_,rfl,_,_,rfl,rfl,.inr (by decide),_,rfl,_,_,rfl,rfl,_,_,rfl,rfl,_,_,rfl,rfl,(by show (0:Int)<2147483647;decide),?_⟩
   exact⟨rfl,_,_,rfl⟩
  ·rintro σ H2 ⟨rfl,sd,v,rfl⟩
   let s1:Same H (upd H q (.lst (Ju (ns.map V.int) none (some 63)))):=qd nq
   refine⟨_,rfl,_,rfl,a,_,rfl,s1.seq hS,λq2 nq2=>⟨q2,_,rfl,.inl (SqL.of zH),λl nl=>⟨_,rfl,(by show 5<=sizeLine;decide),λb nb=>?_⟩⟩⟩
   let s2:=s1.trans (qd (o:=.lst (Ju (ns.map V.int) none (some 63))) nq2)
   let s3:=s2.trans (qd (o:=.lst (Ju (ns.map V.int) none (some 63))) nl)
   let hlb:l≠b:=λe=>by rw[<- e,zH]at nb;cases nb
   refine kk b _ (s3.trans (qd nb)) (s3.free nb) (by rw[zH];exact λz=>nomatch z) ⟨l,ms,0,0,0,sd,rfl,zH,?_,Int.le_refl 0⟩
   refine .list (vs:=ms.map V.int) (by rw[zG hlb,zH,ems]) hlb (RepL.ints ms)
def hw:wOk defs W=true:=by kernel_rfl
def hgd (GD0:GD w K mg "DEEDS" [("hang","behind_hang"),("fold","behind_fold"),("twin","behind_twin"),("wish","behind_wish"),("wax","behind_wax"),("dip","behind_dip"),("boil","behind_boil"),("brew","behind_brew")]):∀ x kf,W.gd.contains (x,kf)=true->GD w K mg x kf:=by
 intro x kf h
 let h2:=ul.mp h
 simp only[W,xw,uP,or_false,Prod.mk.injEq]at h2
 let⟨rfl,rfl⟩:=h2
 ·erw[GD0]
def okS:W4 LN ["_law_script"] (defScope sLaw)=true:=by kernel_rfl
def oks [Cs]:∀ cf k,(defs.all λd=>d.ok W cf k)=true:=λcf k=>by kernel_rfl
end
end Wx
end
namespace Wx
end Wx
open PySem PySem.W PyProof.Rows
theorem PySem.Challenge.cw_waxcloth_k40_twins_apart_holds : PySem.Challenge.rw_waxcloth_k40_twins_apart.Holds := by
 w_on;refine PySem.W.holds_law Wh.saidL λsaid=>?_
 refine PySem.W.holds_open (q:=Wh.Q) (loose:= ["DEEDS"]) (XP:=PySem.W.XL Wh.Q []) (YP:=PySem.W.Hook.says (PySem.W.kHook Wh.kz.heap_1 Wh.kz.asL Wh.asE)) (N:=12440) Wh.left (PySem.W.Hook.of (PySem.W.kHook Wh.kz.heap_1 Wh.kz.asL Wh.asE)) (PySem.W.Hook.keeps (PySem.W.kHook Wh.kz.heap_1 Wh.kz.asL Wh.asE)) (λs e=>PySem.W.xl_of s (xM.mp e).1) PySem.W.XL.keeps (by rfl) (by rfl) (by rfl) (λs e=>PySem.W.recFacts_of (xM.mp e).2) (by rfl) (by first | assumption | decide +kernel) (by decide +kernel) ⟨rfl,rfl,rfl,rfl,rfl,by decide +kernel⟩ ?hw ?hc
 (case hw=>w_witness2)
 k_fill
 haveI:L2.Cs:=⟨λ_=>0⟩
 refine L2.walkL (l:=PySem.Challenge.rw_waxcloth_k40_twins_apart) (k:=43) (st:=Wx.sLaw) rfl rfl ⟨rfl,by decide,by decide⟩ (λw h Y=>PySem.W.kIn_of Y) ?F
 case F=>
  intro w mg fa h KX G hmg
  letI:L2.Cs:=L3.csOf mg
  have HD:L3.AllX (L2.KOf KX) mg Wx.defs:=by
   repeat' first | exact trivial | refine And.intro ?_ ?_ | (refine L3.dx_fn rfl ?_;first | (dsimp only [L2.KOf];refine' L2.Df.of KX G ?a ?l ?c ?k (λ_ _ _ _ _ _=>L3.el0 rfl);(case a=>k_is);(case l=>k_is);(case c=>k_is);(case k=>k_is)) | (dsimp only [L2.KOf];refine' L2.Df.of KX G ?a ?l ?c ?k (λ_ _ _ _ _ _=>L3.el1 λ_=>rfl);(case a=>k_is);(case l=>k_is);(case c=>k_is);(case k=>k_is)) | (dsimp only [L2.KOf];refine' L2.Df.of KX G ?a ?l ?c ?k (λ_ _ _ _ _ _=>L3.el2 λ_ _=>rfl);(case a=>k_is);(case l=>k_is);(case c=>k_is);(case k=>k_is)) | (dsimp only [L2.KOf];refine' L2.Df.of KX G ?a ?l ?c ?k (λ_ _ _ _ _ _=>L3.el3 λ_ _ _=>rfl);(case a=>k_is);(case l=>k_is);(case c=>k_is);(case k=>k_is)) | (dsimp only [L2.KOf];refine' L2.Df.of KX G ?a ?l ?c ?k (λ_ _ _ _ _ _=>L3.el4 λ_ _ _ _=>rfl);(case a=>k_is);(case l=>k_is);(case c=>k_is);(case k=>k_is)) | (dsimp only [L2.KOf];refine' L2.Df.of KX G ?a ?l ?c ?k (λ_ _ _ _ _ _=>L3.el5 λ_ _ _ _ _=>rfl);(case a=>k_is);(case l=>k_is);(case c=>k_is);(case k=>k_is))) | (refine L3.dx_me KX G rfl ?_;first | (dsimp only [L2.KOf];refine' L3.Dm.of (L3.ClsOf.mk ?n (L2.Cls.mk ?c1 ?c2 ?c3 ?c4)) ?a ?f ?l ?c ?k (λ_ _ _ _ _ _=>L3.el1 λ_=>rfl);(case n=>k_is);(case c1=>k_is);(case c2=>k_is);(case c3=>k_is);(case c4=>k_is);(case a=>k_is);(case f=>k_is);(case l=>k_is);(case c=>k_is);(case k=>k_is)) | (dsimp only [L2.KOf];refine' L3.Dm.of (L3.ClsOf.mk ?n (L2.Cls.mk ?c1 ?c2 ?c3 ?c4)) ?a ?f ?l ?c ?k (λ_ _ _ _ _ _=>L3.el2 λ_ _=>rfl);(case n=>k_is);(case c1=>k_is);(case c2=>k_is);(case c3=>k_is);(case c4=>k_is);(case a=>k_is);(case f=>k_is);(case l=>k_is);(case c=>k_is);(case k=>k_is))) | (refine L3.dx_ini KX G rfl ?_;first | (dsimp only [L2.KOf];refine' L3.Di.of (L3.ClsOf.mk ?n (L2.Cls.mk ?c1 ?c2 ?c3 ?c4)) ?m ?a ?f ?kc ?l ?c ?k (λ_ _ _ _ _ _=>L3.el2 λ_ _=>rfl);(case n=>k_is);(case c1=>k_is);(case c2=>k_is);(case c3=>k_is);(case c4=>k_is);(case m=>k_is);(case a=>k_is);(case f=>k_is);(case kc=>k_is);(case l=>k_is);(case c=>k_is);(case k=>k_is)) | (dsimp only [L2.KOf];refine' L3.Di.of (L3.ClsOf.mk ?n (L2.Cls.mk ?c1 ?c2 ?c3 ?c4)) ?m ?a ?f ?kc ?l ?c ?k (λ_ _ _ _ _ _=>L3.el3 λ_ _ _=>rfl);(case n=>k_is);(case c1=>k_is);(case c2=>k_is);(case c3=>k_is);(case c4=>k_is);(case m=>k_is);(case a=>k_is);(case f=>k_is);(case kc=>k_is);(case l=>k_is);(case c=>k_is);(case k=>k_is)))
  have DB:L2.Df (L2.KOf KX) mg "_law_box" Wx.sBox ["_law_script"]:=by
   (dsimp only [L2.KOf];refine' L2.Df.of KX G ?a ?l ?c ?k (λ_ _ _ _ _ _=>L3.el1 λ_=>rfl);(case a=>k_is);(case l=>k_is);(case c=>k_is);(case k=>k_is))
  have GD0:L2.GD w (L2.KOf KX) mg "DEEDS" [("hang","behind_hang"),("fold","behind_fold"),("twin","behind_twin"),("wish","behind_wish"),("wax","behind_wax"),("dip","behind_dip"),("boil","behind_boil"),("brew","behind_brew")]:=by
   dsimp only [L2.KOf]
   refine' L2.GD.of KX G (D:=320) (ep:=8) (l:= [("hang",606,276),("fold",607,281),("twin",608,288),("wish",609,295),("wax",610,302),("dip",611,307),("boil",612,312),("brew",613,319)]) ?hd ?hs ?ho ?hr ?hn
   (case hd=>k_is)
   (case hs=>decide)
   (case ho=>kernel_rfl)
   (case hr=>kernel_rfl)
   (case hn=>decide +kernel)
  have HB:∀ x,Wx.W.bi.contains x=true->mg x=none:=L3.bi_all (K:=L2.KOf KX) KX G (by kernel_rfl)
  have L:L2.Dl (L2.KOf KX) "law" Wx.sLaw fa "_law_script" :=by
   dsimp only [L2.KOf]
   refine' L2.Dl.of KX G hmg ?a ?l ?c ?k ?b
   (case a=>k_is);(case l=>k_is);(case c=>k_is);(case k=>k_is)
   (case b=>exact λs u=>.of_eq rfl)
  refine⟨L,λfd Ff base=>?_⟩
  exact L3.law_ok Ff Wx.okS (Wx.kn_box DB (HB "list" (by kernel_rfl))) (by decide) (L3.wk_all (L3.dx_all HD Wx.oks) Wx.hw HB (L3.gi_of (K:=L2.KOf KX) KX G (by kernel_rfl)) (L3.gs_of (K:=L2.KOf KX) KX G (by kernel_rfl)) (Wx.hgd GD0) (L3.fk_all (K:=L2.KOf KX) KX G (by kernel_rfl)) 20) (by decide) rfl rfl rfl rfl (by first | exact Or.inl rfl | exact Or.inr rfl) rfl Wx.okLaw (λcells i l t s hi=>Wx.law_run _ (Wx.ok40 0) cells i l t s hi)
